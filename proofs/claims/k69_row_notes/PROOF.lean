import PyProof.Rows.All
import Wide.All
import OpenK.AllK
import Wide.FinOn
import HandS.ForMost
import HandS.IsInst
import HandS.Style
import HandS.Defaults
import HandS.MakeKwOnly
import HandS.Conv
import HandS.Sort
import HandS.SortRule
import HandS.Deep
import HandS.Property
import HandS.TupSets
import HandS.Codes
import HandS.ExcCtx
import HandS.Comp
import HandS.Exc
import HandS.ExcInit
import HandS.ExcField
import HandS.ExcIs
import HandS.TryOnly
import HandS.Nested
import HandS.FStr
import KE.KExcSuper
import HandS.SetFor
import HandS.ExcOwn
import KE.KExcIs
import KE.DataFind
import HandS.HotCalls
import HandS.WordsExc
import HandS.Text
import HandS.StrMore
import HandS.TupAny
import PyProof.Rows.StrAscii
import HandS.More
import HandS.WrittenGet
import KE.GoesMore
import PyProof.EnumMake
import HandS.Iter
import HandS.DictComp
import HandS.Walk
import HandS.FStrTup
import PyProof.ReprHeads
import PyProof.ReprHeadsEmpty
import PyProof.ReprNest
import PyProof.ReprDict
import HandS.RaiseMore
import KE.KRevSl
import KE.DataEq
import HandS.SlotsOwn
import KE.KOpsOwn
import HandS.Small
import HandS.MakeKw
import PySem.Challenge.RW_rimcords_k69_row_notes
set_option Elab.async false
set_option linter.all false
set_option maxRecDepth 100000
/-! Rules of my own for the hand layer. -/
namespace Own
open PySem PySem.Spec PyProof.Rows L2
/-- the two ints of a pair that stands in the heap -/
def kOf (H : Hp) (v : V) : Int × Int := match v with
  | .ref a => match H a with
    | some (.tup [.int i, .int j]) => (i, j)
    | _ => (0, 0)
  | _ => (0, 0)
theorem kOf_at {H : Hp} {a : Addr} {i j : Int} (h : H a = some (.tup [.int i, .int j])) : kOf H (.ref a) = (i, j) := by
  show (match H a with | some (.tup [.int i, .int j]) => (i, j) | _ => (0, 0)) = (i, j)
  rw [h]
def rSortedDT : List V → Hp → VK → Prop := fun vs H Q => ∃ (d : Addr) (kvs : List (List Key × V)), vs = [V.ref d] ∧ Rd H d (.dT kvs) ∧ (∀ kv ∈ kvs, ∃ i j : Int, kv.1 = [Sum.inl i, Sum.inl j]) ∧
  ∀ (bs : List Addr) (ys : List V) (p : Addr), IsKeys H kvs bs → SrtO.Srtd (ltP (kOf H)) ys → SrtO.Stb (ltP (kOf H)) ys (bs.map V.ref) → H p = none → Q (.ref p) (upd H p (.lst ys))
section
variable {X : Cx}
theorem paired_right {α β : Type} {R : α → β → Prop} {xs : List α} {ys : List β} (h : Paired R xs ys) : ∀ y ∈ ys, ∃ x ∈ xs, R x y := by
  induction h with
  | nil => intro y hy; cases hy
  | cons h t ih =>
    intro y hy
    rcases List.mem_cons.mp hy with e | e
    · subst e
      exact ⟨_, List.mem_cons_self, h⟩
    · obtain ⟨x, hx, hr⟩ := ih y e
      exact ⟨x, List.mem_cons_of_mem _ hx, hr⟩
theorem cr_sortedDT (hc : X.calm = true) : CallR X (.builtin "sorted") rSortedDT := by
  intro pins s σ H xs us Q I r h
  obtain ⟨d, kvs, rfl, hd, hkv, q⟩ := h
  obtain ⟨u, rfl, rx⟩ := r.one
  cases rx
  obtain ⟨z, hs, ks, pr, o, es, ep, ho, hx, hdt, he, hn⟩ := (show ObjOk X.prog X.w H s.heap d (.dT kvs) from hd.ok I.hok)
  have l1 : es.size = ks.length := size_of_entries he
  have l2 : kvs.length = ks.length := Paired.length pr
  refine Calls.call_function_entry PyProof.Rows.kind_sorted PyProof.Rows.plain_sorted PyProof.Rows.entry_sorted (PyProof.Rows.args_sorted1 _) ?_
  unfold Builtin.«sorted»
  refine wpAny_bind (m := checkCount "sorted" 1 1 _) (wpAny_pure ?_)
  refine wpAny_bind (PySem.W.kdu_collect (A := X.A.in1) (kdl_raw hs hx hdt) (I.ok.hd hc) ho (by omega) fun h' tk acc' kp it => ?_)
  have ea : acc'.toList = ks.map fun x => Value.ref x.2.1 := by
    have hl : acc'.toList.length = ks.length := by rw [Array.length_toList, it.1]; exact l1
    apply List.ext_getElem?
    intro j
    rw [List.getElem?_map]
    cases hj : acc'.toList[j]? with
    | none =>
      have h1 := List.getElem?_eq_none_iff.mp hj
      rw [List.getElem?_eq_none (by omega)]
      all_goals rfl
    | some v =>
      obtain ⟨en, hen, hv⟩ := it.2 j v (by rw [← Array.getElem?_toList]; exact hj)
      have qe := entry_at he j
      rw [hen] at qe
      cases hb : ks[j]? with
      | none =>
        rw [hb] at qe
        exact nomatch (show some en = none from qe)
      | some b =>
        rw [hb] at qe
        have e2 : en = entryOfKey (tupleKind (mixKind X.prog X.w)) b := Option.some.inj qe
        rw [hv, e2]
        all_goals rfl
  have hal : acc'.toList.length ≤ sizeLine := by rw [ea, List.length_map]; omega
  have I1 : Inv X pins σ H { s with heap := h', toks := tk } := I.kept kp
  have keys := isKeys_of pr
  have hpair : ∀ v ∈ acc'.toList, ∃ t i j, v = Value.ref t ∧ H t = some (.tup [.int i, .int j]) := fun v hv => by
    rw [ea] at hv
    obtain ⟨x, hx, rfl⟩ := List.mem_map.mp hv
    obtain ⟨kv, hkm, hb⟩ := paired_right keys x.2.1 (List.mem_map.mpr ⟨x, hx, rfl⟩)
    obtain ⟨i, j, e⟩ := hkv kv hkm
    rw [e] at hb
    exact ⟨_, i, j, rfl, hb⟩
  refine wpAny_bind (wpAny_newList ?_ hal)
  have hoL : (h'.push (seqObj "list" acc'.toList.toArray 0)).get? h'.objs.size = some (seqObj "list" acc'.toList.toArray 0) := Heap.get?_push_size _ rfl
  have hp : ∀ v ∈ acc'.toList, Srt.IsPair (h'.push (seqObj "list" acc'.toList.toArray 0)) v (kOf H (backV v)).1 (kOf H (backV v)).2 := fun v hv => by
    obtain ⟨t, i, j, rfl, ht⟩ := hpair v hv
    obtain ⟨_, its2, r2, o, ho2, hc2, n2, hd2⟩ := I1.hok _ _ ht
    obtain ⟨u1, u2, rfl, ri, rj⟩ := vals2 r2
    obtain ⟨t1, rfl⟩ := ri
    obtain ⟨t2, rfl⟩ := rj
    rw [show backV (Value.ref t) = V.ref t from rfl, kOf_at ht]
    exact ⟨t, o, t1, t2, n2, rfl, Heap.get?_push_of_some _ ho2, hc2, hd2⟩
  show wpAny _ _ _ _ _ { s with heap := h'.push (seqObj "list" acc'.toList.toArray 0), toks := tk }
  refine wpAny_bind (wpAny_holding (wpAny_call_entry PyProof.Rows.slot_list_sort ⟨_, hoL, rfl⟩ PyProof.Rows.entry_list_sort
    (SrtO.list_sort_ord (s := { s with heap := h'.push (seqObj "list" acc'.toList.toArray 0), toks := tk }) (SrtO.swo_lex fun v => kOf H (backV v)) hoL hal (fun h2 => ?_) fun out hs hb => ⟨_, rfl, ?_⟩) (PyProof.Rows.args_list_sort _)))
  · refine SrtO.pairs_sortableO (s := { s with heap := h'.push (seqObj "list" acc'.toList.toArray 0), toks := tk }) (by omega) hp fun o e => ?_
    have e' : some o = some (seqObj "list" acc'.toList.toArray 0) := e.symm.trans hoL
    cases e'
    intro c
    exact absurd (Value.type.inj c) (by decide)
  · obtain ⟨e', he'⟩ := PyProof.Rows.sortedHeap_at (vs := acc'.toList) (out := out.toArray) hoL
    have hrefs : ∀ u ∈ out, ∃ a, u = Value.ref a := fun u hu => by
      obtain ⟨t, i, j, e, _⟩ := hpair u (hb.perm.mem_iff.mp hu)
      exact ⟨t, e⟩
    have hb2 : SrtO.Stb (ltP (kOf H)) (out.map backV) ((ks.map fun x => x.2.1).map V.ref) := by
      have e1 : ((ks.map fun x => x.2.1).map V.ref) = acc'.toList.map backV := by
        rw [ea, List.map_map, List.map_map]
        rfl
      rw [e1]
      exact SrtO.Stb.map (ltP_swo (kOf H)) backV hb
    have hlen : (out.map backV).length ≤ sizeLine := by
      rw [List.length_map, hb.perm.length_eq]
      exact hal
    refine wpAny_pure ⟨_, rfl, .ref h'.objs.size, upd H h'.objs.size (.lst (out.map backV)), I1.laid (t' := tk) (fun b u e => ?_) (Nat.le_refl _)
      (show ObjOk X.prog X.w _ _ _ (.lst (out.map backV)) from ⟨hlen, out, e', vals_back hrefs, by exact he'⟩), rfl, q _ _ _ keys (SrtO.srtd_map hs) hb2 (I1.hok.fresh (Nat.le_refl _))⟩
    have hbn : b < h'.objs.size := Heap.lt_size e
    rw [PyProof.Rows.sortedHeap_old (Nat.ne_of_lt hbn) (by rw [size_push']; exact Nat.lt_succ_of_lt hbn)]
    exact Heap.get?_push_of_some _ e
/-- len(o), o an instance of an own class with a __len__ -/
def rLenOwn (C : Addr) (sp : Sp) (E : XK) : List V → Hp → VK → Prop := fun vs H Q => ∃ (a dx : Addr) (fs : List (Str × V)), vs = [V.ref a] ∧ H a = some (.ins C dx fs) ∧ sp [V.ref a] H (fun v H' => ∃ n : Nat, v = .int (n : Int) ∧ n ≤ sizeLine ∧ Q (.int (n : Int)) H') E
theorem cr_lenOwn {CX : CXT} {k : Nat} {C f : Addr} {fd : FuncData} {ps : List Str} {sp : Sp} {E : XK} (hm : Meth X.K C "__len__" f) (F : FnOk X.prog X.w X.K X.mg X.base CX k f fd ps sp) (hr : Room (k + 1) X.A) (hb : Binds X.K fd ps []) (hx : Passes CX X.nox E) :
    CallR X (.builtin "len") (rLenOwn C sp E) := by
  intro pins s σ H xs us Q I r h
  obtain ⟨a, dx, fs, rfl, ea, q⟩ := h
  obtain ⟨u, rfl, rx⟩ := vals1 r
  cases rx
  obtain ⟨mA, O, _, _, _, _⟩ := ins_get I.hok ea
  obtain ⟨od, J, _⟩ := O.look
  have hl : [Value.ref a].length = ps.length := (F.len _ _ _ _ q : _)
  apply Calls.call_function_entry kind_len plain_len entry_len (args_len1 _)
  show wpAny _ _ (Builtin.«len» _) _ _ _
  unfold Builtin.«len»
  apply wpAny_bind (m := oneArg "len" _)
  apply wpAny_pure
  apply wpAny_bind (m := callSpecial? (.ref a) (Str.ofString "__len__"))
  apply PySem.W.special_fn I.kIn J hm.at_ (beq_iff_eq.mp hm.fn)
  apply wpAny_call
  refine codeAny_mono (F.run X.A.in1 X.stack s H ⟨[.ref a], []⟩ [.ref a] [V.ref a] _ E hr.in1 I.env0.in1 (hb s [.ref a] I.kIn hl) (.cons rfl .nil) q) fun r s' hq => ?_
  rcases r with e | fl
  · exact False.elim (hx pins σ H s e s' (I.wish _) hq)
  · cases fl <;> first | exact False.elim hq | skip
    rename_i u
    obtain ⟨v, H', I3, rv, n, ev, hn, q3⟩ := I.after hq
    subst ev
    obtain ⟨t, et⟩ := rv
    subst et
    have h63 : sizeLine < 2 ^ 63 := by decide
    apply wpAny_bind
    apply wpAny_holding
    apply wpAny_pure
    apply wpAny_bind
    apply wpAny_letGo
    show wpAny _ _ (if (n : Int) < 0 then _ else _) _ _ _
    rw [if_neg (by omega)]
    show wpAny _ _ (if (n : Int) ≥ 2 ^ 63 then _ else _) _ _ _
    rw [if_neg (by omega)]
    apply wpAny_bind
    apply wpAny_mkInt
    exact wpAny_pure ⟨_, rfl, .int (n : Int), H', I3.tok _, ⟨_, rfl⟩, q3⟩
/-- for x in xs, xs a list or a tuple -/
def iSeq (K : PySem.W.Frag) (ta : TE) : TI := fun σ H R => ta σ H fun x H1 => ∃ a, x = .ref a ∧ (((∃ xs, SqL K H1 a xs) ∧ R (Itl K a) H1) ∨ ((∃ xs, SqT K H1 a xs) ∧ R (Itt K a) H1))
theorem pi_seq {tg l : Expr} {tl : TE} (hl : PE X l tl) : PI X tg l (iSeq X.K tl) := by
  refine ⟨fun pins s σ H R I h => thn (hl.run pins s σ H _ I h) ?_⟩
  rintro v s1 ⟨x, H1, I1, r1, a, rfl, q | q⟩
  all_goals
    obtain ⟨⟨xs, hq⟩, q⟩ := q
    obtain rfl : v = Value.ref a := r1
    have fresh := I1.fpOk (Nat.le_refl s1.heap.objs.size) (I1.hok.fresh (Nat.le_refl _))
    have older : ∀ {u : Obj}, Inv X pins σ H1 { s1 with heap := s1.heap.push u, toks := s1.toks } := fun {u} => I1.kept (t' := s1.toks) fun b o e => Heap.get?_push_of_some _ e
  · obtain ⟨its, rv, p, hz⟩ := I1.list hq
    exact wpAny_pyIter_list p.isList ⟨_, [s1.heap.objs.size], _, _, H1, rfl, older, turn_list a _, ⟨_, Heap.get?_push_size _ rfl, rfl, rfl⟩, fun b hb => by rw [List.mem_singleton.mp hb]; exact fresh, q⟩
  · obtain ⟨its, rv, p, hz⟩ := I1.tuple hq
    exact wpAny_pyIter_tuple (show s1.heap.IsTuple a its.toArray from p) ⟨_, [s1.heap.objs.size], _, _, H1, rfl, older, turn_tuple a _, ⟨_, Heap.get?_push_size _ rfl, rfl, rfl⟩, fun b hb => by rw [List.mem_singleton.mp hb]; exact fresh, q⟩
/-- the loop's rule for both -/
def SqB (K : PySem.W.Frag) (H : Hp) (a : Addr) (xs : List V) : Prop := SqL K H a xs ∨ SqT K H a xs
end
end Own

namespace Own
open PySem PySem.Spec PyProof.Rows L2
/-! ### a list comprehension whose element may raise -/
def cEnd (M : Model) (A : Around) (E : Value → Shared → Prop) (use : Option (Value → Sem Unit)) (Q : Value → Shared → Prop) (acc : Value) (C : Addr) (fr : Option Addr) : Result → Shared → Prop
  | .ok f, t => compPost M A E use Q acc C (.ok f) t
  | .error u, t => ∃ m, t.heap.Ns C m ∧ ∀ g, Heap.SameBut C t.heap g → ∀ c1 : Env, c1.locals = C → c1.frame = fr →
      wpAny M A (passOn "comprehension.variables-let-go" u c1 : Sem Value) (fun _ _ => False) E { t with heap := g }
section
variable {M : Model} {A : Around} {E : Value → Shared → Prop} {s : Shared} {env : Env}
theorem wpAny_compE {e : Expr} {scope : Scope} {pos : Pos} {mk first : Sem Value} {g : Comprehension} {gs : List Comprehension} {cl : List (Str × Addr)} {use : Option (Value → Sem Unit)} {Q : Value → Shared → Prop}
    (h1 : clausesOf e = g :: gs) (h2 : ∀ y, foldedSetIterable g.iter env y = pure y) (h3 : closureFor scope env = pure cl) (h4 : scope.kind = .function) (h5 : ∀ y ∈ scope.names, y.2 = .local → scope.names.lookup y.1 = some .local)
    (run : wpAny M A first (fun y t1 => wpAny M A (pyIter y) (fun it t2 => wpAny M A mk (fun acc t3 => wpAny M A (newFunctionEnv scope env.globals cl [] env.qual none .none (some env))
      (fun ce t4 => codeAny M A (.compStart e 0 it acc { ce with scope := relabel scope env }) (cEnd M A E use Q acc ce.locals ce.frame) t4) E t3) E t2) E t1) E s) :
    wpAny M A (comprehension e scope env pos mk false first use) Q E s := by
  unfold comprehension
  rw [h3, h1]
  refine wpAny_bind (wpAny_mono run (fun y t1 r1 => ?_) fun _ _ z => z)
  refine wpAny_bind (wpAny_standAt (wpAny_bind (wpAny_of_eq (h2 y) (wpAny_bind (wpAny_holding (wpAny_mono r1 (fun it t2 r2 => ?_) fun _ _ z => z))))))
  refine wpAny_standIf (wpAny_bind (wpAny_mono r2 (fun acc t3 r3 => ?_) fun _ _ z => z))
  refine wpAny_bind (wpAny_pure (wpAny_bind (wpAny_mono r3 (fun ce t4 r4 => ?_) fun _ _ z => z)))
  dsimp only
  generalize hL : (scope.names.filter fun y => (y.2 == .local || y.2 == .cell) && y.1 != (".0" : Str)).reverse = vl
  have k1 : ∀ y ∈ vl, y.2 = .local → Env.kindOf { ce with scope := relabel scope env } y.1 = some .local := fun y hy hl => by
    rw [← hL] at hy
    exact lookup_relabel_local (h5 y (List.mem_filter.mp (List.mem_reverse.mp hy)).1 hl)
  have k2 : ∀ y ∈ vl.drop 1 ++ vl.take 1, y.2 = .local → Env.kindOf { ce with scope := relabel scope env } y.1 = some .local := fun y hy hl =>
    (List.mem_append.mp hy).elim (fun z => k1 y (List.mem_of_mem_drop z) hl) fun z => k1 y (List.mem_of_mem_take z) hl
  refine wpAny_holding (wpAny_bind (wpAny_attempt (wpAny_holding (wpAny_run (codeAny_mono r4 fun r t hr => ?_)))))
  cases r with
  | ok f =>
    cases use with
    | none =>
      obtain ⟨m, hn, hr⟩ := hr
      exact wpAny_bind (wpAny_holding (wpAny_comp_letGo (cenv := { ce with scope := relabel scope env }) h4 _ t m k1 hn fun g m2 _ sb => wpAny_pure (hr g sb)))
    | some u =>
      refine wpAny_bind (wpAny_rule (wpAny_bind (wpAny_holding (wpAny_mono hr (fun _ t5 hr5 => ?_) fun _ _ z => z))))
      obtain ⟨m, hn, hr5⟩ := hr5
      exact wpAny_bind (wpAny_comp_letGo (cenv := { ce with scope := relabel scope env }) h4 _ t5 m k2 hn fun g m2 _ sb => wpAny_pure (hr5 g sb))
  | error u =>
    obtain ⟨m, hn, hr⟩ := hr
    exact wpAny_bind (wpAny_holding (wpAny_comp_letGo (cenv := { ce with scope := relabel scope env }) h4 _ t m k1 hn fun g m2 _ sb => wpAny_mono (hr g sb _ rfl rfl) (fun _ _ z => z.elim) fun _ _ z => z))
end
theorem frames_same {C : Addr} {B h h' : Heap} (sb : Heap.SameBut C h h') : ∀ {l : List Env}, h.FunFrames B l → C ∉ frs l → h'.FunFrames B l
  | [], _, _ => trivial
  | env :: l, hl, hn => by
    obtain ⟨hk, ⟨L, o, hf, hb, ho, hd⟩, hr⟩ := hl
    have nL : L ≠ C := fun z => hn (by rw [← z]; exact List.mem_filterMap.mpr ⟨env, List.mem_cons_self, hf⟩)
    refine ⟨hk, ⟨L, o, hf, hb, (sb.2 L nL).trans ho, hd⟩, frames_same sb hr fun z => hn ?_⟩
    obtain ⟨e, he, q⟩ := List.mem_filterMap.mp z
    exact List.mem_filterMap.mpr ⟨e, List.mem_cons_of_mem _ he, q⟩
theorem noteFrame_same {u : Value} {e1 e2 : Env} (h : e1.frame = e2.frame) : noteFrame u e1 = noteFrame u e2 := by
  unfold noteFrame PySem.frameOf
  rw [h]
/-- an exception of a call within a block whose locals stand at C -/
def XC (X : Cx) (E : XK) (pins : List (Addr × Obj)) (σ : L2.St) (C : Addr) (u : Value) (t : Shared) : Prop :=
  ∃ (a : Addr) (B : Heap) (sI : Shared) (H : Hp) (cls : Value) (d : Option Addr), u = .ref a ∧ Inv X pins σ H sI ∧ (∀ b o, sI.heap.get? b = some o → b ∉ frs X.stack → B.get? b = some o) ∧ sI.heap.UpToSlots t.heap ∧
    HandSPX.FlyingZ B X.stack a (L2N.Zn cls d) t.heap ∧ H a = none ∧ t.os = sI.os ∧ AllBare t.gens ∧ E cls d H ∧ B.get? C = none ∧ sI.heap.get? C = none ∧ C ∉ frs X.stack ∧ ∃ m, t.heap.Ns C m
section
variable {X : Cx} {pins : List (Addr × Obj)} {σ : L2.St} {H : Hp} {s t : Shared} {C : Addr} {E : XK} {m : Str → Option Value} {u : Value}
theorem xc_call (I : Inv X pins σ H s) (f : FpOk X pins H C) (nS : C ∉ frs X.stack) (hn : s.heap.Ns C m) (c : L2N.CX X.prog X.w X.stack H s E u t) : XC X E pins σ C u t := by
  obtain ⟨a, B, H', cls, d, rfl, fl, hok, ub, na, os, ag, hE⟩ := c
  obtain ⟨G, g1, g2⟩ := restrict t.heap fun b => ((B.get? b).isSome || decide (b ∈ frs X.stack)) && decide (b ≠ C)
  obtain ⟨B1, b1, b2⟩ := restrict B fun b => decide (b ≠ C)
  have st : B.StaysIn t.heap := fl.1
  have hC0 : ∃ o, s.heap.get? C = some o := let ⟨o, _, _, e, _⟩ := hn; ⟨o, e⟩
  obtain ⟨oC, eC⟩ := hC0
  have hC1 : H' C = none := ub.free C oC eC f.1
  have gB : ∀ b o, b ≠ C → B.get? b = some o → G.get? b = some o := fun b o n e => by
    rw [g1 b (by simp [e, n])]
    exact st b o e
  have gF : ∀ b, b ≠ C → b ∈ frs X.stack → G.get? b = t.heap.get? b := fun b n hb => g1 b (by simp [hb, n])
  have og : ∀ b o, G.get? b = some o → t.heap.get? b = some o ∧ b ≠ C ∧ ((B.get? b).isSome = true ∨ b ∈ frs X.stack) := fun b o e => by
    cases q : (((B.get? b).isSome || decide (b ∈ frs X.stack)) && decide (b ≠ C)) with
    | false => rw [g2 b q] at e; cases e
    | true =>
      rw [g1 b q] at e
      simp only [Bool.and_eq_true, Bool.or_eq_true, decide_eq_true_eq] at q
      exact ⟨e, q.2, q.1⟩
  have bn : B1.get? C = none := b2 C (by simp)
  have b1' : ∀ b, b ≠ C → B1.get? b = B.get? b := fun b n => b1 b (by simp [n])
  have bo : ∀ b o, B1.get? b = some o → B.get? b = some o := fun b o e => by
    by_cases n : b = C
    · rw [n, bn] at e; cases e
    · rw [← b1' b n]; exact e
  have gn : G.get? C = none := g2 C (by simp)
  refine ⟨a, B1, { s with heap := G, gens := t.gens, drawn := t.drawn, toks := t.toks }, H', cls, d, rfl, ?_, fun b o e hb => ?_, Heap.UpToSlots.of_keeps fun b o e => (og b o e).1, ?_, na, os, ag, hE, bn, gn, nS, ?_⟩
  · refine I.call (ch := [C]) ⟨fun b o e n hb hc => gB b o (fun z => hc (by simp [z])) (ub.keep b o e n hb), fun b o e n hb hc => ?_, fun b o e n _ => ub.free b o e n, fun b o e hc => ?_, ub.tups, ub.frzs, ub.tbls⟩
      (fun b w e => (hok b w e).stay (fun c v hc q => gB c v (fun z => ?_) q) (fun _ q => q) fun _ _ q => q) ag (fun b hb => ?_)
    · have n : b ≠ C := fun z => hc (by simp [z])
      obtain ⟨sl, q⟩ := ub.slot b o e hb
      exact ⟨sl, by rw [gF b n hb]; exact q⟩
    · have n : b ≠ C := fun z => hc (by simp [z])
      by_cases hb : b ∈ frs X.stack
      · obtain ⟨sl, q⟩ := ub.slot b o e hb
        exact ⟨_, by rw [gF b n hb]; exact q⟩
      · obtain ⟨o', q⟩ := ub.there b o e hb
        exact ⟨o', gB b o' n q⟩
    · rw [z] at hc
      rcases hc with y | y
      · rw [← y, hC1] at e; cases e
      · rw [hC1] at y; cases y
    · have e : b = C := by simpa using hb
      rw [e]
      exact ⟨f.2.2.2.1, f.2.1, f.2.2.2.2.1, f.2.2.2.2.2⟩
  · obtain ⟨e', n, h⟩ := og b o e
    rcases h with h | h
    · obtain ⟨o', q⟩ := Option.isSome_iff_exists.mp h
      have z := st b o' q
      rw [e'] at z; cases z
      rw [b1' b n]
      exact q
    · exact absurd h hb
  · obtain ⟨f1, f2, f3, f4⟩ := fl
    have aC : B1.get? a = none := by
      cases q : B1.get? a with
      | none => rfl
      | some o => have z := bo a o q; rw [f2] at z; cases z
    refine ⟨fun b o e => f1 b o (bo b o e), aC, funFrames_none f3 fun L hL => ?_, ?_⟩
    · cases q : B1.get? L with
      | none => rfl
      | some o =>
        have z := bo L o q
        rw [(f3.mem hL).1] at z; cases z
    · obtain ⟨oe, vs, T, oT, ts, he, hz, hd, h1, hnT, r⟩ := f4
      refine ⟨oe, vs, T, oT, ts, he, hz, hd, h1, ?_, r⟩
      cases q : B1.get? T with
      | none => rfl
      | some o => have z := bo T o q; rw [hnT] at z; cases z
  · -- the block's dict
    obtain ⟨o, es, ep, e, hd, r⟩ := hn
    rw [eC] at e; cases e
    exact ⟨m, oC, es, ep, st C _ (ub.keep C oC eC f.1 nS), hd, r⟩
theorem xc_note {ce : Env} {acc : Value} {use : Option (Value → Sem Unit)} {Qf : Value → Shared → Prop} (hs : X.stack = X.env :: X.outer) (hf : X.env.frame = some X.env.locals) (tk : L2N.Takes X fun cls d _ H => E cls d H)
    (hfr : ce.frame = X.env.frame) (x : XC X E pins σ C u t) : notedBy (model X.prog X.w) X.A ce (fun e t1 => cEnd (model X.prog X.w) X.A X.xe use Qf acc C X.env.frame (.error e) t1) u t := by
  obtain ⟨a, B, sI, H, cls, d, rfl, I, nb, up, fl, na, os, ag, hE, bC, iC, nS, m, hn⟩ := x
  show wpAny _ _ (noteFrame _ ce) _ _ _
  rw [noteFrame_same hfr]
  have fr : X.A.frames = some (X.env :: X.outer) := by rw [I.ok.frames, hs]
  rw [hs] at fl
  refine PXN.looks_onZ L2N.Zn.steady fr hf fl fun h1 hh up1 => ?_
  rw [← hs] at hh
  refine ⟨m, up1.ns hn, fun g sb c1 e1 e2 => ?_⟩
  obtain ⟨k1, k2, k3, k4⟩ := hh
  have sb2 : ∀ b, b ≠ C → g.get? b = h1.get? b := sb.2
  have g1 : B.StaysIn g := fun b o e => (sb2 b fun z => by rw [z, bC] at e; cases e).trans (k1 b o e)
  have g3 : g.FunFrames B X.stack := frames_same sb k3 nS
  obtain ⟨oC, esC, epC, eC, dC, _⟩ := up1.ns hn
  have g4 : HandSPX.TracedZ g B a (L2N.Zn cls d) (rawInt X.env.locals) := by
    obtain ⟨oe, vs, T, oT, ts, he, hz, hd, h1', hnT, hTe, hT, hdT, h3⟩ := k4
    have eC' : h1.get? C = some oC := eC
    refine ⟨oe, vs, T, oT, ts, (sb2 a fun z => ?_).trans he, hz, hd, h1', hnT, hTe, (sb2 T fun z => ?_).trans hT, hdT, h3⟩
    · rw [z, eC'] at he; cases he; rw [dC] at hd; cases hd
    · rw [z, eC'] at hT; cases hT; rw [dC] at hdT; cases hdT
  unfold PySem.passOn
  obtain ⟨oe, vs, T, oT, ts, he, hz, hd, h1', r⟩ := id g4
  refine wpAny_bind (wpAny_field he hd h1' ?_)
  rw [if_neg (by simp)]
  refine wpAny_bind ?_
  refine HandSPX.setFlight_anyZ g1 g3 g4 fun h2 w1 w3 w4 up2 => wpAny_throw (tk _ _ ?_)
  rw [e2, hf] at w4
  refine ⟨a, B, sI, pins, σ, H, cls, d, rfl, I, nb, ?_, .inr (.inr ⟨w1, k2, w3, w4⟩), na, os, ag, hE⟩
  have up3 : sI.heap.UpToSlots g := fun b o e nf => by
    obtain ⟨sl, q⟩ := up.trans up1 b o e nf
    exact ⟨sl, (sb2 b fun z => by rw [z, iC] at e; cases e).trans q⟩
  exact up3.trans up2
end
section
variable {X : Cx} {E : XK}
/-- the block's context, its errors going out of the def -/
abbrev blkX (X : Cx) (s : Shared) (H : Hp) (scope : Scope) (ce : Env) (fp : List Addr) (xe : Value → Shared → Prop) : Cx := (X.blk s H scope ce fp).tr [] xe
theorem inv_blkX {X : Cx} {pins : List (Addr × Obj)} {σ : L2.St} {H G : Hp} {s t : Shared} {scope : Scope} {ce : Env} {fp : List Addr} (xe : Value → Shared → Prop) (I : Inv (X.blk s G scope ce fp) pins σ H t) : Inv (blkX X s G scope ce fp xe) pins σ H t :=
  ⟨I.ok.toTry _ _, I.os, I.bare, I.base, I.loc, I.cell, I.free, I.freeC, I.pin, I.hok, I.len⟩
theorem thnX {α : Type} {x : Sem α} {Q Q' : α → Shared → Prop} {M : Model} {A : Around} {E E' : Value → Shared → Prop} {s : Shared} (h : wpAny M A x Q E s) (hE : ∀ e s, E e s → E' e s) (hQ : ∀ a s, Q a s → Q' a s) : wpAny M A x Q' E' s := wpAny_mono h hQ hE
theorem lcX_core {pins : List (Addr × Obj)} {s : Shared} {σ : L2.St} {H : Hp} {Q : VK} {elt tg iter : Expr} {ifs : List Expr} {scope : Scope} {own : List (Str × Nat)} {pos pos' : Pos} {wi : TI} {g : TG} {tt : TT} {te : TE} {use : Option (Value → Sem Unit)} {Qf : Value → Shared → Prop}
    (hs : X.stack = X.env :: X.outer) (hf : X.env.frame = some X.env.locals) (tk : L2N.Takes X fun cls d _ H => E cls d H) (hc : X.calm = true) (hN : X.N.Nodup) (I : Inv X pins σ H s) (hi : PI X tg iter wi) (ok : BlkOk X.N X.env.scope scope own)
    (hg : ∀ s H C cl fp xe, PG (blkX X s H scope (compEnvC scope cl C X.env) fp xe) tg g) (ht : ∀ s H C cl fp xe, PTs (blkX X s H scope (compEnvC scope cl C X.env) fp xe) ifs tt)
    (he : ∀ s H C cl fp xe, (∀ σ, PassesAt (L2N.CX X.prog X.w) (blkX X s H scope (compEnvC scope cl C X.env) fp xe) σ E) → PE (blkX X s H scope (compEnvC scope cl C X.env) fp xe) elt te) (hsi : ∀ x, foldedSetIterable iter X.env x = pure x)
    (h : tLc wi g tt te (own.map (·.2)) σ H Q)
    (fin0 : ∀ D C s' m H', Inv X pins σ H' s' → Q (.ref D) H' → s'.heap.Ns C m → FpOk X pins H' C → compPost (model X.prog X.w) X.A X.xe use Qf (.ref D) C (.ok .next) s') :
    wpAny (model X.prog X.w) X.A (comprehension (.ListComp elt [⟨tg, iter, ifs, 0⟩] scope pos) scope X.env pos' (newList []) false (eval iter X.env) use) Qf X.xe s := by
  have fre : ∀ y ∈ scope.names, y.2 = .free → ∃ c, X.env.cells.lookup y.1 = some c := fun y hy e => (ok.free y hy e).elim (fun k => I.ok.has _ (.inl k)) fun k => I.ok.has _ (.inr k)
  refine wpAny_compE (use := use) rfl hsi (closure_ok fre) ok.kind (fun y hy e => by rw [ok.uniq y hy, e]) ?_
  refine thn (hi.run pins s σ H _ I h) fun xv s1 hx => thn hx fun itv s2 h2 => ?_
  obtain ⟨it, fp, tn, J, H2, e, I2, T, st2, f2, q⟩ := h2
  subst e
  refine wpAny_newObj_type (newEnv_comp ?_) (by show 0 ≤ sizeLine; decide)
  generalize hD : s2.heap.objs.size = D
  have hDn : H2 D = none := I2.hok.fresh (Nat.le_of_eq hD)
  obtain ⟨W, ⟨m0, w0⟩, turn⟩ := q D hDn
  generalize hs3 : ({ s2 with heap := s2.heap.push { cls := .type "list", data := .seq ([] : List Value).toArray } } : Shared) = s3
  have h3 : s3.heap = s2.heap.push { cls := .type "list", data := .seq ([] : List Value).toArray } := by rw [← hs3]
  have I3 : Inv X pins σ (upd H2 D (.lst [])) s3 := by
    rw [← hs3]
    exact I2.laid (t' := s2.toks) (fun b o e => Heap.get?_push_of_some _ e) (Nat.le_of_eq hD) ⟨Nat.zero_le _, [], 0, .nil, by rw [← hD]; exact Heap.get?_push_size _ rfl⟩
  have f3 : ∀ b ∈ fp, FpOk X pins (upd H2 D (.lst [])) b ∧ b < s3.heap.objs.size := fun b hb => by
    obtain ⟨o, e, _⟩ := T.obj _ _ st2 b hb
    have lt := Heap.lt_size e
    refine ⟨⟨?_, (f2 b hb).2⟩, by rw [h3, Heap.size_push]; exact Nat.lt_succ_of_lt lt⟩
    rw [upd_ne (by rw [← hD]; exact Nat.ne_of_lt lt)]
    exact (f2 b hb).1
  have st3 : tn 0 s3.heap := T.keep _ _ _ st2 fun b _ o e => by rw [h3]; exact Heap.get?_push_of_some _ e
  have I4 := block_start I3 ok hN f3
  generalize hcl : cellsFrom (s3.heap.objs.size + 1) scope.names (cloFrom X.env.cells scope.names []) = cl at I4
  have fC := I3.fpOk (Nat.le_refl _) (I3.hok.fresh (Nat.le_refl _))
  have nS : s3.heap.objs.size ∉ frs X.stack := fun z => by
    rcases List.mem_cons.mp (I3.stkSub _ z) with w | w
    · exact fC.2.1 w
    · exact fC.2.2.1 w
  generalize hxe : XC X E pins σ s3.heap.objs.size = xe
  generalize hH3 : upd H2 D (.lst []) = H3 at I3 I4 w0 f3 fC
  have pg := hg s3 H3 s3.heap.objs.size cl fp xe
  have pt := ht s3 H3 s3.heap.objs.size cl fp xe
  have back : ∀ {pY : List (Addr × Obj)} {σ' : L2.St} {H' : Hp} {s' : Shared}, Inv (blkX X s3 H3 scope (compEnvC scope cl s3.heap.objs.size X.env) fp xe) pY σ' H' s' → Inv X pins σ H' s' := fun {pY σ' H' s'} I' =>
    I3.call' (ch := fp) I'.os I'.base I'.hok I'.bare fun b hb => ⟨(f3 b hb).1.2.2.2.1, (f3 b hb).1.2.1, (f3 b hb).1.2.2.2.2.1, (f3 b hb).1.2.2.2.2.2⟩
  have pe := he s3 H3 s3.heap.objs.size cl fp xe fun σ' pY H' s' u t I' c => by
    rw [← hxe]
    obtain ⟨m, hn, _⟩ := I'.loc
    exact xc_call (back I') (I3.fpOk (Nat.le_refl _) I'.free) nS hn c
  show codeAny _ _ (.compStart (.ListComp elt [⟨tg, iter, ifs, 0⟩] scope pos) 0 (.ref it) (.ref D) (compEnvC scope cl s3.heap.objs.size X.env))
    (cEnd (model X.prog X.w) X.A X.xe use Qf (.ref D) s3.heap.objs.size X.env.frame) { s3 with heap := pushCells (s3.heap.push { cls := .type "dict", data := .dict #[] }) scope.names }
  have nfp : ∀ b ∈ fp, H3 b = none := fun b hb => (f3 b hb).1.1
  generalize hce : compEnvC scope cl s3.heap.objs.size X.env = ce at I4 pg pt pe back ⊢
  have cL : ce.locals = s3.heap.objs.size := by subst hce; rfl
  have cF : ce.frame = X.env.frame := by subst hce; rfl
  generalize hs4 : ({ s3 with heap := pushCells (s3.heap.push { cls := .type "dict", data := .dict #[] }) scope.names } : Shared) = s4 at I4 ⊢
  have st4 : tn 0 s4.heap := T.keep _ _ _ st3 fun b _ o e => by rw [← hs4]; exact pushCells_keeps _ _ _ _ (Heap.get?_push_of_some _ e)
  have out : ∀ u t, xe u t → notedBy (model X.prog X.w) X.A ce (fun e t1 => cEnd (model X.prog X.w) X.A X.xe use Qf (.ref D) s3.heap.objs.size X.env.frame (.error e) t1) u t := fun u t z => by
    rw [← hxe] at z
    exact xc_note hs hf tk cF z
  have I4' := inv_blkX xe I4
  have stat : ∀ {σ' : L2.St} {H' : Hp} {s' : Shared}, Inv (blkX X s3 H3 scope ce fp xe) [] σ' H' s' → (∀ b ∈ fp, H' b = none) → ∀ b ∈ fp, FpOk (blkX X s3 H3 scope ce fp xe) [] H' b := fun {σ' H' s'} I' hn b hb =>
    ⟨hn b hb, (I'.ok.exf b hb).1, I'.ok.exfs b hb, .inl hb, fun x c e => (I'.ok.exf b hb).2 x c e, fun p hp => nomatch hp⟩
  have loop : codeAny (model X.prog X.w) X.A (.compLoop (.ListComp elt [⟨tg, iter, ifs, 0⟩] scope pos) 0 (.ref it) (.ref D) ce) (cEnd (model X.prog X.w) X.A X.xe use Qf (.ref D) s3.heap.objs.size X.env.frame) s4 := by
    refine compLoop_any (fun n s' => ∃ i H', Inv (blkX X s3 H3 scope ce fp xe) [] (wipe σ (own.map (·.2))) H' s' ∧ tn i s'.heap ∧ (∀ b ∈ fp, H' b = none) ∧ W i n H') ?_ m0 ⟨0, H3, I4', st4, nfp, w0⟩
    rintro n s5 ⟨i, H5, I5, st5, n5, w5⟩
    rcases turn i n H5 w5 with ⟨stop, qq⟩ | ⟨go, Nx, hNx, step⟩
    · refine thnF (T.done (blkX X s3 H3 scope ce fp xe) rfl rfl rfl hc i [] s5 _ H5 (fun _ _ => False) I5 (stat I5 n5) st5 stop) fun r s6 ⟨hr, I6⟩ => ?_
      subst hr
      have nC : H5 s3.heap.objs.size = none := by
        have z : H5 ce.locals = none := I6.free
        rw [cL] at z
        exact z
      obtain ⟨m, hn, _⟩ := I6.loc
      have hn : s6.heap.Ns ce.locals m := hn
      rw [cL] at hn
      exact fin0 D s3.heap.objs.size s6 m H5 (back I6) qq hn (I3.fpOk (Nat.le_refl _) nC)
    · refine thnF (T.item (blkX X s3 H3 scope ce fp xe) rfl rfl rfl hc i [] s5 _ H5 (fun _ _ => False) I5 (stat I5 n5) st5 go) fun r s6 ⟨u, hr, h6⟩ => ?_
      subst hr
      refine thnF h6 fun _ s7 ⟨x, H7, I7, r7, y7, st7, n7⟩ => ?_
      have I7' := I7.pinned (stat I7 n7) (T.obj _ _ st7)
      refine thnX (pg.run _ s7 _ H7 x u _ I7' r7 (step x H7 y7)) out fun _ s8 ⟨σ8, H8, I8, hw8, q8⟩ => ?_
      refine thnX (pt.run _ s8 σ8 H8 _ I8 q8) out fun b s9 ⟨H9, I9, q9⟩ => ?_
      have fin : ∀ {s' : Shared} {H' : Hp}, Inv (blkX X s3 H3 scope ce fp xe) ([] ++ pinsAt fp s7.heap) σ8 H' s' → Nx H' → ∃ m, m < n ∧ ∃ i H', Inv (blkX X s3 H3 scope ce fp xe) [] (wipe σ (own.map (·.2))) H' s' ∧ tn i s'.heap ∧ (∀ b ∈ fp, H' b = none) ∧ W i m H' := fun {s' H'} I' nx => by
        obtain ⟨m', hm, w'⟩ := hNx H' nx
        have pin' : ∀ b ∈ fp, ∀ o, s7.heap.get? b = some o → s'.heap.get? b = some o ∧ H' b = none := fun b hb o e =>
          let z := I'.pin (b, o) (List.mem_append_right _ (List.mem_append_right _ (mem_pinsAt hb e)))
          ⟨z.1, z.2.1⟩
        refine ⟨m', hm, i + 1, H', (I'.unpinned (pins := [])).weak (by rw [← hw8, wipe_length]) (fun j v e => by rw [← hw8] at e; exact (wipe_some e).1), T.keep _ _ _ st7 fun b hb o e => (pin' b hb o e).1, fun b hb => ?_, w'⟩
        obtain ⟨o, e, _⟩ := T.obj _ _ st7 b hb
        exact (pin' b hb o e).2
      cases b with
      | false =>
        simp only [Bool.false_eq_true, if_false] at q9 ⊢
        exact fin I9 q9
      | true =>
        simp only [if_true] at q9 ⊢
        refine thnX (pe.run _ s9 σ8 H9 _ I9 q9) out fun z s10 ⟨yv, H10, I10, r10, acc, hD10, hz10, nx⟩ => ?_
        exact app_ok (X := blkX X s3 H3 scope ce fp xe) I10 hD10 hz10 r10 fun s11 I11 => fin I11 nx
  exact codeAny_compStart_list loop (T.self X.A 0 _ _ _ st4 loop)
/-- as a value -/
theorem pe_lcX {elt tg iter : Expr} {ifs : List Expr} {scope : Scope} {own : List (Str × Nat)} {pos : Pos} {wi : TI} {g : TG} {tt : TT} {te : TE}
    (hs : X.stack = X.env :: X.outer) (hf : X.env.frame = some X.env.locals) (tk : L2N.Takes X fun cls d _ H => E cls d H) (hc : X.calm = true) (hN : X.N.Nodup) (hi : PI X tg iter wi) (ok : BlkOk X.N X.env.scope scope own)
    (hg : ∀ s H C cl fp xe, PG (blkX X s H scope (compEnvC scope cl C X.env) fp xe) tg g) (ht : ∀ s H C cl fp xe, PTs (blkX X s H scope (compEnvC scope cl C X.env) fp xe) ifs tt)
    (he : ∀ s H C cl fp xe, (∀ σ, PassesAt (L2N.CX X.prog X.w) (blkX X s H scope (compEnvC scope cl C X.env) fp xe) σ E) → PE (blkX X s H scope (compEnvC scope cl C X.env) fp xe) elt te) (hsi : ∀ x, foldedSetIterable iter X.env x = pure x := by intro _; rfl) :
    PE X (.ListComp elt [⟨tg, iter, ifs, 0⟩] scope pos) (tLc wi g tt te (own.map (·.2))) := by
  constructor
  intro pins s σ H Q I h
  rw [eval_ListComp]
  refine lcX_core hs hf tk hc hN I hi ok hg ht he hsi h fun D C s' m H' I' q hn f => ⟨m, hn, fun g sb => ?_⟩
  exact ⟨.ref D, H', I'.turned (t' := s'.toks) (fun b o n e => (sb.2 b n).trans e) f.1 f.2.1 f.2.2.2.1 f.2.2.2.2.1 f.2.2.2.2.2, rfl, q⟩
end
end Own

/-! An own error class whose __init__ begins with super().__init__(text) and then stores its fields. -/
namespace Own
open PySem PySem.Spec PyProof.Rows L2 NdefX
abbrev supS (p0 p1 p2 p3 p4 : Pos) (e : Expr) (es : List Expr) : Stmt := .Expr (.Call (.Attribute (.Call (.Name "super" p0) [] [] p1) "__init__" p2) (e :: es) [] p3) p4
abbrev supF (name qual : Str) (params : Arguments) (body : List Stmt) (scope : Scope) (cc cda : Addr) : NF := ⟨name, qual, params, body, scope, [("__class__", cc)], cda⟩
section
variable {CX : CXT} {P : Program} {w : World} {K : PySem.W.Frag} {mg : Str → Option Value} {base : Heap} {k : Nat} {f cc cda D : Addr}
/-- what is known of the class, of its cell and of the code -/
structure ErrK (P : Program) (K : PySem.W.Frag) (mg : Str → Option Value) (D cc cda : Addr) : Prop where
  oex : OexC K D
  cell : ∃ cl cld csl, K.lookup cc = some ⟨cl, cld, .cell (some (.ref D)), csl⟩
  code : ∃ ccl cdd vs ccs file tf, K.lookup cda = some ⟨ccl, cdd, .fields vs, ccs⟩ ∧ vs[2]? = some (.str file tf) ∧ ((P.main.file : Str) == file) = true
  sup : PySem.W.ks_superIn K D D "__init__" = some (some (.builtin "ValueError.__init__"))
  ve : PySem.W.subIn K (.ref D) (.type "ValueError") = some true
  self : PySem.W.mroIn K D (.ref D) = some true
  opq : PySem.W.nsIn K cStatics "thirdparty.any" = some none
  mgs : mg "super" = none
  top : (P.main.scope.names.lookup ("super" : Str)).isSome = false
theorem one_look {cc c : Addr} {y : Str} (hy : List.lookup y [(("__class__" : Str), cc)] = some c) : y = "__class__" ∧ c = cc := by
  simp only [List.lookup] at hy
  split at hy
  · rename_i q
    exact ⟨eq_of_beq q, (Option.some.inj hy).symm⟩
  · cases hy
theorem exo_self {H : Hp} {a D : Addr} (e : H a = some (exo a D none)) : upd H a (exo a D none) = H := by
  funext b
  by_cases hb : b = a
  · rw [hb, upd_same, e]
  · rw [upd_ne hb]
theorem fn_err {N ps : List Str} {sp : Sp} {name qual : Str} {params : Arguments} {scope : Scope} {rest : List Stmt} {p0 p1 p2 p3 p4 : Pos} {e : Expr} {es : List Expr} {ar : Arg} {dV kV doc pm ct oc : Value} {an od : Option Addr} {osl : Array (Option Value)} (T : ErrK P K mg D cc cda)
    (lk : K.lookup f = some ⟨oc, od, .func (PySem.W.fnX name qual params (supS p0 p1 p2 p3 p4 e es :: rest) scope [("__class__", cc)] dV kV doc pm an (.ref cda) ct), osl⟩) (hcd : PySem.W.codeIn K (.ref cda) qual = true)
    (S : NScope N ps ["__class__"] scope) (hp : (params.posonlyargs ++ params.args).head? = some ar) (hps : ps[0]? = some ar.arg) (hks : scope.names.lookup ("super" : Str) = some .globalImplicit)
    (len : ∀ vs H Q E, sp vs H Q E → vs.length = ps.length)
    (hbody : ∀ (A : Around) (outer : List Env) (s : Shared) (H : Hp) (vs : List V) (Q : VK) (E : XK), Room k (A.deeper (envF (supF name qual params (supS p0 p1 p2 p3 p4 e es :: rest) scope cc cda) f s.heap.objs.size)) → sp vs H Q E →
      ∃ (a : Addr) (ta : TA) (t : TS), vs[0]? = some (.ref a) ∧ H a = some (exo a D none) ∧
        PA (ncx CX P w K mg base N (supF name qual params (supS p0 p1 p2 p3 p4 e es :: rest) scope cc cda) f A outer s H E) (e :: es) ta ∧
        PSs (ncx CX P w K mg base N (supF name qual params (supS p0 p1 p2 p3 p4 e es :: rest) scope cc cda) f A outer s H E) rest t ∧
        ta (startF N vs [none]) H fun ws H1 => ws.length ≤ 1000 ∧ H1 a = some (exo a D none) ∧ t { nx := fun _ H' => Q .non H', rt := Q } (startF N vs [none]) H1)
    (he : ∀ env : Env, starEach (e :: es) env = (false, eval e env) :: starEach es env := by intro _; rfl) (hpl : ∀ env : Env, (backTo p3 (starEach es env)).any (·.1) = false := by intro _; rfl) {pl : Sem Bool}
    (hev : ∀ env : Env, eval (.Call (.Attribute (.Call (.Name "super" p0) [] [] p1) "__init__" p2) (e :: es) [] p3) env = (do
      let ov ← attributeBase (.Call (.Name "super" p0) [] [] p1) "__init__" env (eval (.Call (.Name "super" p0) [] [] p1) env)
      standAt p2.atName
      let (f, first) ← holding [ov] (getMethod ov "__init__" pl)
      callWith p3 f first (backTo p3 (starEach (e :: es) env)) []) := by intro _; rfl) :
    FnOk P w K mg base CX (k + 1) f (PySem.W.fnX name qual params (supS p0 p1 p2 p3 p4 e es :: rest) scope [("__class__", cc)] dV kV doc pm an (.ref cda) ct) ps sp := by
  refine ⟨len, fun A outer s H args us vs Q E hr e0 hb r hsp => ?_⟩
  have hl := len _ _ _ _ hsp
  have kpb : ∀ b o, base.get? b = some o → s.heap.get? b = some o := fun b o e => (e0.bs b o e).1
  have KX : K.In s.heap := e0.mod.kin.keeps kpb
  have lim : s.heap.NoLimit := e0.mod.nolimit.keeps kpb
  obtain ⟨cl, cld, csl, hcell⟩ := T.cell
  obtain ⟨ccl, cdd, cvs, ccs, file, tf, hcode, hvs, hfile⟩ := T.code
  have hcc : H cc = none := (e0.bs _ _ (e0.mod.kin _ _ hcell)).2
  refine PySem.ks_codeAny_call_defAt (binds := ps.zip us) hr.depth (KX _ _ lk) rfl lim (PySem.W.codeRec_of KX hcd) rfl hb S.nocell (fun ⟨n, _⟩ hy => S.par n (List.of_mem_zip hy).1) (fun h₁ hns kp => ?_) S.co S.gen S.kind
  show PySem.wpAt (model P w) (A.deeper (envF (supF name qual params (supS p0 p1 p2 p3 p4 e es :: rest) scope cc cda) f s.heap.objs.size)) (.func (supS p0 p1 p2 p3 p4 e es :: rest) (envF (supF name qual params (supS p0 p1 p2 p3 p4 e es :: rest) scope cc cda) f s.heap.objs.size)) (execs (supS p0 p1 p2 p3 p4 e es :: rest) (envF (supF name qual params (supS p0 p1 p2 p3 p4 e es :: rest) scope cc cda) f s.heap.objs.size)) _ _ _
  obtain ⟨a, ta, t, ea, eHa, ha, ht, hq⟩ := hbody A outer s H vs Q E (hr.deeper _) hsp
  have C : CellsAt [(("__class__" : Str), cc)] ["__class__"] [none] s.heap H := by
    refine ⟨rfl, fun y c hy => ?_, fun x y c h1 h2 => ?_, fun i y hi => ?_⟩
    · obtain ⟨rfl, rfl⟩ := one_look hy
      exact ⟨hcc, _, ⟨_, KX _ _ hcell, rfl⟩⟩
    · rw [(one_look h1).1, (one_look h2).1]
    · have : y = "__class__" ∧ i = 0 := by
        cases i with
        | zero => exact ⟨(Option.some.inj hi).symm, rfl⟩
        | succ i => simp at hi
      obtain ⟨rfl, rfl⟩ := this
      exact ⟨cc, by simp [List.lookup], fun v hv => by cases hv⟩
  have I := inv_startN (CX := CX) (E := E) (F := supF name qual params (supS p0 p1 p2 p3 p4 e es :: rest) scope cc cda) (f := f) (tk := s.toks + (ps.zip us).length) S hr.hd e0 hl r C hns kp
  have kc : (envF (supF name qual params (supS p0 p1 p2 p3 p4 e es :: rest) scope cc cda) f s.heap.objs.size).kindOf "__class__" = some .free := S.frk _ List.mem_cons_self
  obtain ⟨nm, qq, NN, bs, bm, sn, sub, ab, col, dd, k0, k1, k2, k3, k5, hC, hbm⟩ := T.oex.cls
  have hcl : PySem.W.clsIn K D = some { name := nm, bases := bs, mro := .ref D :: bm, ns := NN, qualname := qq, hasDict := true, slotNames := sn, subclasses := sub, abstract := ab, collection := col, hasDel := false } := by unfold PySem.W.clsIn; rw [hC] <;> rfl
  have K1 : K.In h₁ := KX.keeps kp
  obtain ⟨t1, hoa⟩ := exo_at I.hok eHa
  have hoa : h₁.get? a = some ({ cls := .ref D, dict := none, data := .fields #[.ref t1, .none, .none, .none, .bool false, .none] } : Obj) := hoa
  have IA : PySem.W.InstAt h₁ a { cls := .ref D, dict := none, data := .fields #[.ref t1, .none, .none, .none, .bool false, .none] } D none := ⟨hoa, rfl, rfl, trivial⟩
  have u0 : us[0]? = some (.ref a) := by
    obtain ⟨u, hu, ru⟩ := r.get ea
    rw [hu]
    exact congrArg some ru
  have ndP : ps.Nodup := by
    have q := S.nd.sublist (List.take_sublist (ps.length + (["__class__"] : List Str).length) N)
    rw [S.pre] at q
    exact (List.nodup_append.mp q).1
  have hself : (fun y => (ps.zip us).reverse.lookup y) ar.arg = some (.ref a) := zip_look ndP hps u0
  refine PySem.ks_wpAt_execs_cons (PySem.ks_wpAt_Expr_any (PySem.ks_wpAt_MethodCall (pl := pl) ?_ (hev _)) ?hi)
  case hi =>
    unfold interactive
    simp [S.kind]
  refine PySem.ks_wpAt_super_base hks kc (by decide) rfl (kp _ _ (KX _ _ lk)) rfl hp rfl (kp _ _ (KX _ _ hcode)) rfl hvs hfile T.top ?_
  obtain ⟨mb, b1, b2⟩ := I.mod.blt
  refine PySem.W.ks_loadName_global S.kind hks (Calls.loadGlobal_builtin (show Heap.Ns _ mainGlobals mg from I.mod.glob.keeps I.bk) T.mgs (show Heap.Ns _ builtinsNs mb from b1.keeps I.bk) ((b2 "super" (by decide)).trans PyProof.Rows.Boot.«super») ⟨rfl, ?_⟩)
  refine wpAny_loadName_free S.kind kc rfl ⟨_, kp _ _ (KX _ _ hcell), rfl⟩ ?_
  refine wpAny_loadName_local S.kind (S.par _ (List.mem_of_getElem? hps)) hns hself ?_
  refine PySem.ks_wpAny_isType_cls (K1 _ _ hC) rfl ⟨rfl, ?_⟩
  refine PySem.ks_wpAny_call_super (K1 _ _ hC) rfl hoa rfl (fun c z => nomatch z) (PySem.W.looks_mroIn K1 T.self) (fun h2 e2 kk2 => ?_)
  have K2 : K.In h2 := K1.keeps kk2
  have hm := T.sup
  unfold PySem.W.ks_superIn at hm
  rw [hcl] at hm
  have IA2 : PySem.W.InstAt h2 a { cls := .ref D, dict := none, data := .fields #[.ref t1, .none, .none, .none, .bool false, .none] } D none := ⟨kk2 _ _ hoa, rfl, rfl, trivial⟩
  refine PySem.W.kxs_getMethod PySem.W.kxs_ValueError e2 (PySem.W.looks_opaque K2 T.opq) (l₀ := .ref D :: bm) (fun A Q E s k q => wpAny_bind ((PySem.W.looks_clsIn K2 hcl) A _ E s k (wpAny_pure q))) rfl K2 hm (IA2.type.andThen (PySem.W.looks_subIn K2 T.ve)) (PySem.W.ks_ne K2 IA2 hcl) (by decide) ?_
  have nu : H h2.objs.size = none := (I.kept (h' := h2) (t' := s.toks + (ps.zip us).length) kk2).hok.fresh (Nat.le_refl _)
  have I2 : Inv (ncx CX P w K mg base N (supF name qual params (supS p0 p1 p2 p3 p4 e es :: rest) scope cc cda) f A outer s H E) [] (startF N vs [none]) H { heap := h2, gens := s.gens, drawn := s.drawn, toks := s.toks + (ps.zip us).length, os := s.os } := I.kept kk2
  have hmw : (h2.push (PySem.W.kxs_mw "ValueError.__init__" a)).get? h2.objs.size = some (PySem.W.kxs_mw "ValueError.__init__" a) := Heap.get?_push_at rfl rfl
  have I3 : Inv (ncx CX P w K mg base N (supF name qual params (supS p0 p1 p2 p3 p4 e es :: rest) scope cc cda) f A outer s H E) [] (startF N vs [none]) H { heap := h2.push (PySem.W.kxs_mw "ValueError.__init__" a), gens := s.gens, drawn := s.drawn, toks := s.toks + (ps.zip us).length + 1, os := s.os } := I2.kept fun _ _ z => Heap.get?_push_of_some _ z
  have F2 := I2.fpOk (Nat.le_refl _) nu
  have I4 := I3.pinned (fp := [h2.objs.size]) (fun b hb => by rw [List.mem_singleton.mp hb]; exact F2) (fun b hb => by rw [List.mem_singleton.mp hb]; exact ⟨_, hmw, fun v z => nomatch z⟩)
  show wpAny _ _ (callWith p3 (.ref h2.objs.size) [] (backTo p3 (starEach (e :: es) _)) []) _ _ _
  refine PySem.W.kxs_callWith (i := "ValueError.__init__") (x := a) (by rw [he]; show (false || (backTo p3 (starEach es _)).any (·.1)) = false; rw [hpl]; rfl) ?_
  have run := ha.run p3 _ _ (startF N vs [none]) H _ I4 hq
  rw [he] at run ⊢
  refine Calls.evalArgs_plain (thn run fun ws s5 ⟨zs, H5, I5, r5, lz, e5, q5⟩ => ?_)
  have hu5 : s5.heap.get? h2.objs.size = some (PySem.W.kxs_mw "ValueError.__init__" a) := (I5.pin (h2.objs.size, PySem.W.kxs_mw "ValueError.__init__" a) (List.mem_append_right _ (List.mem_append_right _ (mem_pinsAt List.mem_cons_self hmw)))).1
  refine ⟨hu5, ?_⟩
  obtain ⟨t5, ho5⟩ := exo_at I5.hok e5
  have K5 := I5.kIn
  have lw : ws.length ≤ sizeLine := by
    rw [← Paired.length r5]
    exact Nat.le_of_lt (small1000 lz)
  refine wpAny_call (codeAny_of_tree ?_)
  show wpAny _ _ (callAny (.ref h2.objs.size) ⟨ws, []⟩) _ _ _
  simp only [callAny]
  obtain ⟨hh, g5, d5, tk5, os5⟩ := s5
  refine wpAny_bind (wpAny_load hu5 ?_)
  simp only [PySem.W.kxs_mw, show (Value.type "method-wrapper" == Value.type "method" || Value.type "method-wrapper" == Value.type "builtin_function_or_method" || Value.type "method-wrapper" == Value.type "method-wrapper") = true by decide, if_true]
  refine PySem.W.KFB.if_so (by decide) ?_
  refine wpAny_bind (PySem.W.check_bound_init F.excBase_ValueError.toExcCallFacts (K5 _ _ hC) ho5 rfl ?_)
  refine wpAny_bind (wpAny_pure (wpAny_pure ?_))
  refine ⟨plainId_quiet F.excBase_ValueError.init.plain _, codeAny_builtin F.excBase_ValueError.initEntry ?_⟩
  refine PySem.W.exc_init_tree (cls := .ref D) (t0 := t5) (dv := none) (c2 := .none) (c3 := .none) (b4 := .bool false) ho5 lw (fun h6 k6 e6 _ => ?_)
  have J := I5.write (t' := tk5) (h' := h6) (x := a) (e := a) (o := exo a D none) (by rw [e5]; exact True.intro) (.inl rfl) k6 ⟨_, e6⟩ (exo_ok e6)
  rw [exo_self e5] at J
  have J := J.unpinned
  refine PySem.wpAt_of_wpAny ?_
  refine wpAny_mono (ht.run [] _ (startF N vs [none]) H5 _ J q5) (fun fl s' hs => ?_) fun e s' hs => hs
  have fin : ∀ {σ' : L2.St} {H' : Hp} {v : V} {u : Value}, Inv (ncx CX P w K mg base N (supF name qual params (supS p0 p1 p2 p3 p4 e es :: rest) scope cc cda) f A outer s H E) [] σ' H' s' → L2.RelV v u → Q v H' → CE outer P w H s Q u s' :=
    fun {σ' H' v u} J rv q => ⟨v, H', J.os, J.bare, J.base, J.hok, rv, q⟩
  cases fl with
  | ret u =>
    obtain ⟨v, σ', H', J, rv, q⟩ := hs
    exact fin J rv q
  | next =>
    obtain ⟨σ', H', J, q⟩ := hs
    exact fin (v := V.non) (u := Value.none) J rfl q
  | brk =>
    obtain ⟨_, _, _, q⟩ := hs
    exact False.elim q
  | cont =>
    obtain ⟨_, _, _, q⟩ := hs
    exact False.elim q
end
end Own

/-! The promise of an own error's __init__; raising it. -/
namespace Own
open PySem PySem.Spec PyProof.Rows L2 NdefX
/-- an int that is written in a text -/
def Shw (v : V) : Prop := ∃ i : Int, v = .int i ∧ i.natAbs.log2 < 1000
theorem log_lt {i : Int} {k : Nat} (hk : 0 < k) (h : i.natAbs < 2 ^ k) : i.natAbs.log2 < k := by
  by_cases h0 : i.natAbs = 0
  · rw [h0, Nat.log2_zero]
    exact hk
  · exact (Nat.log2_lt h0).mpr h
theorem Shw.of {i : Int} (h0 : -(2 ^ 64) < i) (h1 : i < 2 ^ 64) : Shw (.int i) := ⟨i, rfl, Nat.lt_of_lt_of_le (log_lt (k := 64) (by decide) (by omega)) (by decide)⟩
theorem txt_len {i : Int} (h : i.natAbs.log2 < 1000) : (Str.ofString (toString i)).length ≤ 1001 := by
  rw [PySem.ofString_length]
  exact int_text_length_le (by decide) h
/-- the error's own dict by its fields -/
def flE (nm : List Str) (ys : List V) : List (Str × V) := (nm.zip ys).reverse
def spErr (D : Addr) (nm : List Str) : Sp := fun vs H Q _ => ∃ (a : Addr) (ys : List V), vs = .ref a :: ys ∧ ys.length = nm.length ∧ (∀ y ∈ ys, Shw y) ∧ H a = some (exo a D none) ∧
  ∀ d H', H d = none → d ≠ a → (∀ b, H' b = if b = d then some (exd d (flE nm ys)) else if b = a then some (exo a D (some d)) else H b) → Q .non H'
/-- what the class must say besides, that its instances can be raised -/
structure ErrT (K : PySem.W.Frag) (mg : Str → Option Value) (x : Str) (D f : Addr) : Prop where
  g : mg x = some (.ref D)
  i : PySem.W.findIn K (.ref D) "__init__" = some (some (.ref f))
  t : PySem.W.typeIn K (.ref f) = some (.type "function")
section
variable {P : Program} {w : World} {K : PySem.W.Frag} {mg : Str → Option Value} {base : Heap} {X : Cx}
/-- the reading of X(..) that is raised -/
theorem rd_err {D : Addr} {nm : List Str} {ys : List V} {H : Hp} {Q : XK} (hl : ys.length = nm.length) (hz : nm.length ≤ 1000) (hs : ∀ y ∈ ys, Shw y) (q : ∀ d, H d = none → Q (.ref D) (some d) (upd H d (.xd (flE nm ys)))) :
    ys.length ≤ 1000 ∧ ∀ a, H a = none → spErr D nm (.ref a :: (ys ++ [])) (upd H a (exo a D none)) (fun v H2 => v = .non ∧ ∃ (d : Addr) (fs : List (Str × V)), H2 a = some (exo a D (some d)) ∧ H2 d = some (exd d fs) ∧ H d = none ∧ Q (.ref D) (some d) (upd (del H2 a) d (.xd fs))) (fun _ _ _ => False) := by
  refine ⟨by omega, fun a na => ⟨a, ys, by rw [List.append_nil], hl, hs, upd_same, fun d H' nd ne h => ⟨rfl, d, flE nm ys, ?_, ?_, ?_, ?_⟩⟩⟩
  · rw [h, if_neg ne.symm, if_pos rfl]
  · rw [h, if_pos rfl]
  · rw [upd_ne ne] at nd
    exact nd
  · have : upd (del H' a) d (.xd (flE nm ys)) = upd H d (.xd (flE nm ys)) := by
      funext b
      by_cases hb : b = d
      · rw [hb, upd_same, upd_same]
      · rw [upd_ne hb, upd_ne hb]
        by_cases ha : b = a
        · rw [ha, del_same, na]
        · rw [del_ne ha, h, if_neg hb, if_neg ha, upd_ne ha]
    rw [this]
    rw [upd_ne ne] at nd
    exact q d nd
/-- raise X(e, ..) -/
theorem ps_err {W : WX} {x : Str} {D f : Addr} {k : Nat} {fd : FuncData} {ps nm : List Str} {e : Expr} {es : List Expr} {ta : TA} {p pos pos' : Pos} (hc : X.calm = true) (tk : Takes X W) (T : OexC X.K D) (R : ErrT X.K X.mg x D f) (F1 : FnOk X.prog X.w X.K X.mg X.base CX0 k f fd ps (spErr D nm)) (hr : Room (k + 1) X.A)
    (hb : Binds X.K fd ps []) (hg : Gl X x) (ha : PA X (e :: es) ta) (hdb : (x == ("__debug__" : Str)) = false := by decide) (he : starEach (e :: es) X.env = (false, eval e X.env) :: starEach es X.env := by rfl) (hpl : (backTo pos (starEach es X.env)).any (·.1) = false := by rfl) :
    PS X (.Raise (some (.Call (.Name x p) (e :: es) [] pos)) none pos') (fun _ σ H => tMkO D (spErr D nm) [] ta σ H fun cls d H' => W cls d σ H') :=
  ps_raise hc tk (pmk_oex T R.i R.t F1 hr hb .nil pass0 hg R.g ha hdb he hpl)
end
/-- the text of an error's __init__ -/
abbrev inErr (st : Stmt) : Stmt := inClass st 0
section
variable {P : Program} {w : World} {K : PySem.W.Frag} {mg : Str → Option Value} {base : Heap} {D cc cda f : Addr}
theorem upd2 {H : Hp} {a d : Addr} {o u : HO} (b : Addr) (ne : d ≠ a) : (upd (upd H d o) a u) b = if b = d then some o else if b = a then some u else H b := by
  by_cases hb : b = d
  · rw [if_pos hb, hb, upd_ne ne, upd_same]
  · rw [if_neg hb]
    by_cases ha : b = a
    · rw [if_pos ha, ha, upd_same]
    · rw [if_neg ha, upd_ne ha, upd_ne hb]
end
end Own

/-! More rules: list.count of data, the operator in by an own class, isinstance of a caught error that has fields. -/
namespace Own
open PySem PySem.Spec PyProof.Rows L2
section
variable {X : Cx}
/-- xs.count(x), items that are plain data: some number -/
def rCntD (K : PySem.W.Frag) : V → List V → Hp → VK → Prop := fun x xs H Q => ∃ (a : Addr) (y : V) (d : PyData) (ds : List PyData), x = V.ref a ∧ xs = [y] ∧ Dp K H (V.ref a) (.list ds) ∧ Dp K H y d ∧ PyData.plainAll ds = true ∧ d.plain = true ∧ d.depth ≤ 60 ∧ ∀ n : Nat, Q (.int (n : Int)) H
theorem mt_lcountD (room : X.A.units + 65 < cLine) : MtR X "list.count" (rCntD X.K) := by
  intro pins s σ H whole args u us Q inv rw_ ra ask
  obtain ⟨a, y, d, ds, rfl, rfl, lis, one, pl, pd, few, q⟩ := ask
  cases rw_
  obtain ⟨w, rfl, rw1⟩ := vals1 ra
  obtain ⟨bs, rd⟩ := Dp.reads inv d y w one rw1
  cases lis with
  | lst seq all =>
    obtain ⟨its, vals, obj, _⟩ := inv.list seq
    obtain ⟨as, rds⟩ := Dp.readsAll inv ds _ its all vals
    refine PySem.SeqAt.count_list_data obj.isList rds rd pl pd (by omega) ?_
    exact ⟨.int (_ : Nat), H, inv.tok _, ⟨_, rfl⟩, q _⟩
/-- x in o, o of an own class with its own rule for it -/
def tOwnIn (C : Addr) (sp : Sp) (E : L2.St → XK) (ta tb : TE) : TE := fun σ H Q => ta σ H fun x H1 => tb σ H1 fun y H2 => ∃ a dx fs, y = .ref a ∧ H2 a = some (.ins C dx fs) ∧ sp [.ref a, x] H2 (fun v H3 => ∃ b, v = .bl b ∧ Q (.bl b) H3) (E σ)
theorem pe_ownIn {CX : CXT} {k : Nat} {C g : Addr} {fd : FuncData} {ps : List Str} {sp : Sp} {E : L2.St → XK} {a b : Expr} {ta tb : TE} {pos : Pos} (hs : PySem.W.findIn X.K (.ref C) "__contains__" = some (some (.ref g))) (hf : PySem.W.isFn X.K (.ref g) = true)
    (F : FnOk X.prog X.w X.K X.mg X.base CX k g fd ps sp) (hr : Room k X.A) (hb : Binds X.K fd ps []) (hx : ∀ σ, PassesAt CX X σ (E σ)) (ha : PE X a ta) (hb' : PE X b tb) (hm : behindInMarks .In b = false := by rfl) : PE X (.Compare a [.In] [b] pos) (tOwnIn C sp E ta tb) := by
  refine ⟨fun pins s σ H Q I h => ?_⟩
  refine wpAny_Compare1 (binT (R := fun x y H2 => ∃ a dx fs, y = .ref a ∧ H2 a = some (.ins C dx fs) ∧ sp [.ref a, x] H2 (fun v H3 => ∃ b, v = .bl b ∧ Q (.bl b) H3) (E σ)) ha hb' I h fun v u s2 x y H2 I2 rx ry q => ?_) hm
  obtain ⟨p, dx, fs, rfl, hp, q⟩ := q
  cases (show u = Value.ref p from ry)
  obtain ⟨mA, O, _, _, _, _⟩ := ins_get I2.hok hp
  obtain ⟨od, J, _⟩ := O.look
  obtain ⟨m, hF⟩ := I2.fr
  refine PySem.W.in_K hF I2.ok.mod.kin J hs hf ?_
  refine wpAny_mono (run_fnS (us := [.ref p, v]) (vs := [.ref p, x]) F hr hb (hx σ) I2 (.cons rfl (.cons rx .nil)) q) (fun w s' z => ?_) fun _ _ x => x
  obtain ⟨z', H', I', rz, b, rfl, qz⟩ := z
  cases rz
  exact wpAny_truthy_bool ⟨.bl b, H', I', rfl, qz⟩
end
end Own
namespace Own
open PySem PySem.Spec PyProof.Rows L2
/-- isinstance(e, c), e the caught error of the class D, its dict at d -/
def rIsD (K : PySem.W.Frag) (D a d : Addr) : List V → Hp → VK → Prop := fun xs H Q => ∃ (c : V) (cv : Value) (b : Bool) (fs : List (Str × V)), xs = [.ref a, c] ∧ H d = some (.xd fs) ∧ (∀ u, RelV c u → u = cv) ∧ PySem.W.kitOne K (.ref D) cv = some b ∧ Q (.bl b) H
theorem call_isD {X : Cx} {a D d : Addr} {oe : Obj} {pn : List (Addr × Obj)} (C : ExcC X.K D) (hz : Zc (.ref D) (some d) oe) (hf : ∃ vs, oe.data = .fields vs) : CallR (X.suite a ((a, oe) :: pn)) (.builtin "isinstance") (rIsD X.K D a d) := by
  intro pins s σ H xs us Q I r h
  obtain ⟨c, cv, b, fs, rfl, hd, hcv, e, q⟩ := h
  cases r with
  | cons rx rr =>
    cases rr with
    | cons rt rr =>
      cases rr
      cases rx
      have ec := hcv _ rt
      subst ec
      obtain ⟨hget, _⟩ := I.pin (a, oe) (List.mem_append.mpr (.inl List.mem_cons_self))
      obtain ⟨vs, hv⟩ := hf
      have hx : ObjOk X.prog X.w H s.heap d (.xd fs) := I.hok d _ hd
      obtain ⟨mA, hns, _⟩ := hx
      obtain ⟨od, ho, _⟩ := lookIn_ns hns
      have J : PySem.W.InstAt s.heap a oe D (some od) := ⟨hget, hz.1, by unfold PySem.W.notCls; rw [hv] <;> rfl, by rw [hz.2]; exact ho⟩
      exact PySem.W.kia_one (PySem.W.kitx_exc (ox := oe) (od := some od) (by obtain ⟨cd, hc, _⟩ := PySem.W.any_some C.hd; rw [hc]; rfl) C.hg C.hk C.hs C.ha C.hn C.ht C.hm) I.kIn J e (fun z => nomatch z) fun tk => ⟨.bl b, H, I.kept (t' := tk) fun _ _ z => z, rfl, q⟩
end Own

/-! Own errors raised where nothing is handled (their context is None), so that defs may be called where they are caught. -/
namespace Own
open PySem PySem.Spec PyProof.Rows L2 NdefX
section
variable {X : Cx} {pins : List (Addr × Obj)} {σ : L2.St} {H : Hp} {s : Shared} {Q : XK} {D f : Addr} {k : Nat} {fd : FuncData} {ps nm : List Str} {ys : List V} {us : List Value} {x : Str}
/-- the call of the class -/
theorem err_made (T : OexC X.K D) (R : ErrT X.K X.mg x D f) (F1 : FnOk X.prog X.w X.K X.mg X.base CX0 k f fd ps (spErr D nm)) (hr : Room (k + 1) X.A) (hb : Binds X.K fd ps []) (I : Inv X pins σ H s) (r : Vals ys us) (hl : ys.length = nm.length) (hz : nm.length ≤ 1000)
    (hs : ∀ y ∈ ys, Shw y) (q : ∀ d, H d = none → Q (.ref D) (some d) (upd H d (.xd (flE nm ys)))) : wpAny (model X.prog X.w) X.A (call (.ref D) us) (L2N.MkP X pins σ Q) X.xe s := by
  obtain ⟨nn, qq, N, bs, bm, sn, sub, ab, col, dd, k0, k1, k2, k3, k5, hC, hbm⟩ := T.cls
  obtain ⟨hp, g, dr, tk, os⟩ := s
  -- where the error comes to stand
  have far : hp.objs.size ≤ hp.objs.size + 1 := Nat.le_succ _
  have free : H (hp.objs.size + 1) = none := I.hok.fresh far
  obtain ⟨_, ask⟩ := rd_err (D := D) hl hz hs q
  have ask := ask _ free
  rw [List.append_nil] at ask
  have old : ∀ b o, hp.get? b = some o → ((hp.push (PySem.W.kdv_tup us)).push (PySem.HandSPX.excO D hp.objs.size)).get? b = some o := fun b o e => Heap.get?_push_of_some _ (Heap.get?_push_of_some _ e)
  have here : ((hp.push (PySem.W.kdv_tup us)).push (PySem.HandSPX.excO D hp.objs.size)).get? (hp.objs.size + 1) = some (PySem.HandSPX.excO D hp.objs.size) := by heap_get
  have J : Inv X pins σ (upd H (hp.objs.size + 1) (exo (hp.objs.size + 1) D none)) ⟨(hp.push (PySem.W.kdv_tup us)).push (PySem.HandSPX.excO D hp.objs.size), g, dr, tk, os⟩ := I.laid (t' := tk) (a := hp.objs.size + 1) (o := exo (hp.objs.size + 1) D none) old far (exo_ok here)
  have vals : Vals (V.ref (hp.objs.size + 1) :: ys) (Value.ref (hp.objs.size + 1) :: us) := .cons rfl r
  have len : (Value.ref (hp.objs.size + 1) :: us).length = ps.length := by
    rw [← vals.length]
    exact F1.len _ _ _ _ ask
  have few : us.length ≤ sizeLine := by
    rw [← Paired.length r, hl]
    exact Nat.le_trans hz (by decide)
  have bind := hb _ (Value.ref (hp.objs.size + 1) :: us) J.kIn (by rw [List.append_nil]; exact len)
  rw [List.append_nil] at bind
  have run := F1.run _ X.stack _ _ ⟨Value.ref (hp.objs.size + 1) :: us, []⟩ _ _ _ (fun _ _ _ => False) (hr.make D us []) (J.env0.make D us []) bind vals ask
  refine wpAny_call (PySem.HandSPX.call_own F.excBase_ValueError (fun Y => PySem.HandSPX.refsVE_contains Y bm hbm) (I.kIn _ _ hC) (PySem.W.looks_findIn I.kIn R.i) (fun self => PySem.W.bind_fn I.kIn self R.t) few (codeAny_mono run fun res s' back => ?_))
  cases res with
  | error er => exact back.elim
  | ok fl =>
    cases fl with
    | ret u =>
      obtain ⟨v, H2, os2, bare2, un2, hok2, rv, ev, d, fs, ea, ed, hd1, q2⟩ := back
      subst ev
      obtain ⟨h2, g2, d2, t2, os'⟩ := s'
      obtain ⟨t0, G, K1, kG, ge, hoe, na⟩ := mk_end0 (d2 := d2) (t2 := t2) I far old un2 hok2 os2 bare2 ea ed hd1
      exact ⟨rv, hp.objs.size + 1, _, _, ⟨G, g2, d2, t2, os'⟩, _, .ref D, some d, rfl, K1, kG, ge, hoe, ⟨rfl, rfl, fun vs e => by cases e; rfl⟩, rfl, rfl, na, rfl, bare2, raises_own T.exC T.tyC, q2⟩
    | next => exact back.elim
    | brk => exact back.elim
    | cont => exact back.elim
end
/-- raise X(e, ..): the fields are shown -/
def tErr (D : Addr) (nm : List Str) (ta : TA) : L2.St → Hp → XK → Prop := fun σ H Q => ta σ H fun ys H1 => ys.length = nm.length ∧ nm.length ≤ 1000 ∧ (∀ y ∈ ys, Shw y) ∧ ∀ d, H1 d = none → Q (.ref D) (some d) (upd H1 d (.xd (flE nm ys)))
section
variable {X : Cx} {W : WX} {x : Str} {D f : Addr} {k : Nat} {fd : FuncData} {ps nm : List Str} {e : Expr} {es : List Expr} {ta : TA} {p pos pos' : Pos}
theorem pmk_err (T : OexC X.K D) (R : ErrT X.K X.mg x D f) (F1 : FnOk X.prog X.w X.K X.mg X.base CX0 k f fd ps (spErr D nm)) (hr : Room (k + 1) X.A) (hb : Binds X.K fd ps []) (hg : Gl X x) (ha : PA X (e :: es) ta)
    (hdb : (x == ("__debug__" : Str)) = false := by decide)
    (he : starEach (e :: es) X.env = (false, eval e X.env) :: starEach es X.env := by rfl)
    (hpl : (backTo pos (starEach es X.env)).any (·.1) = false := by rfl) :
    L2N.PMk X (.Call (.Name x p) (e :: es) [] pos) (tErr D nm ta) := by
  intro pins s σ H Q I h
  refine wpAny_Call_Name_kw (ld_glob I hg R.g ?_ hdb)
  refine PySem.W.callWith_K (h₀ := X.base) I.ok.mod.kin T.kC (thn (ha.run pos pins s σ H _ I h) fun us s1 ⟨ys, H1, I1, r, hl, hz, hs, q⟩ => ⟨I1.kIn, ?_⟩) he hpl
  exact err_made T R F1 hr hb I1 r hl hz hs q
theorem ps_errN (hc : X.calm = true) (tk : L2N.Takes X W) (T : OexC X.K D) (R : ErrT X.K X.mg x D f) (F1 : FnOk X.prog X.w X.K X.mg X.base CX0 k f fd ps (spErr D nm)) (hr : Room (k + 1) X.A) (hb : Binds X.K fd ps []) (hg : Gl X x) (ha : PA X (e :: es) ta)
    (hdb : (x == ("__debug__" : Str)) = false := by decide)
    (he : starEach (e :: es) X.env = (false, eval e X.env) :: starEach es X.env := by rfl)
    (hpl : (backTo pos (starEach es X.env)).any (·.1) = false := by rfl) :
    PS X (.Raise (some (.Call (.Name x p) (e :: es) [] pos)) none pos') (fun _ σ H => tErr D nm ta σ H fun cls d H' => W cls d σ H') :=
  L2N.ps_raise hc tk (pmk_err T R F1 hr hb hg ha hdb he hpl)
/-- nothing is let out -/
theorem passN : Passes (L2N.CX X.prog X.w) X E0 := fun _ _ _ _ _ _ _ ⟨_, _, _, _, _, _, _, _, _, _, _, _, z⟩ => z.elim
theorem takesN : L2N.Takes X (fun _ _ _ _ => False) := fun _ _ ⟨_, _, _, _, _, _, _, _, _, _, _, _, _, _, _, _, z⟩ => z.elim
theorem pass0A {σ : L2.St} : PassesAt CX0 X σ E0 := fun pins H s e s' I h => pass0 pins σ H s e s' I h
end
section
variable {P : Program} {w : World} {K : PySem.W.Frag} {mg : Str → Option Value} {base : Heap}
/-- a def that may raise, by its body -/
theorem okN {x qual : Str} {st : Stmt} {f : Addr} {fd : FuncData} {N ps : List Str} {k : Nat} {sp : Sp} (F : Fun K x qual st f fd) (S : FnScope N ps (defScope st)) (len : ∀ vs H Q E, sp vs H Q E → vs.length = ps.length)
    (hbody : ∀ (cdv : Value) (A : Around) (outer : List Env) (s : Shared) (H : Hp) (vs : List V) (Q : VK) (E : XK), Room k (A.deeper (envOfC qual (defScope st) s.heap.objs.size f cdv)) → sp vs H Q E →
      ∃ t, PSs (cxOf (L2N.CX P w) P w K mg base N qual (defScope st) f cdv A outer s H E) (defBody st) t ∧ t { nx := fun _ H' => Q .non H', rt := Q } (start N vs) H) : FnOk P w K mg base (L2N.CX P w) (k + 1) f fd ps sp := by
  obtain ⟨_, _, _, _, _, _, cdv, _, _, rfl, lk, hcd⟩ := F.ex
  exact fn_of lk hcd S len (hbody cdv)
/-- a def called where an error is handled, by its body; it raises nothing -/
theorem okH {x qual : Str} {st : Stmt} {f : Addr} {fd : FuncData} {N ps : List Str} {k : Nat} {sp : Sp} (F : Fun K x qual st f fd) (S : FnScope N ps (defScope st)) (len : ∀ vs H Q E, sp vs H Q E → vs.length = ps.length)
    (hbody : ∀ (cdv : Value) (A : Around) (outer : List Env) (s : Shared) (H : Hp) (vs : List V) (Q : VK) (E : XK) (p : Addr × Obj), L2H.HotC (L2H.cxH CX0 P w K mg base N qual (defScope st) f cdv A outer s H E p).nox → L2H.RoomH k (A.deeper (envOfC qual (defScope st) s.heap.objs.size f cdv)) → sp vs H Q E →
      ∃ t, PSs (L2H.cxH CX0 P w K mg base N qual (defScope st) f cdv A outer s H E p).nox (defBody st) t ∧ t { nx := fun _ H' => Q .non H', rt := Q } (start N vs) H) : L2H.FnH P w K mg base CX0 (k + 1) f fd ps sp := by
  obtain ⟨_, _, _, _, _, _, cdv, _, _, rfl, lk, hcd⟩ := F.ex
  refine L2H.fn_ofH lk hcd S len fun A outer s H vs Q E p hot hr h => ?_
  obtain ⟨t, ht, q⟩ := hbody cdv A outer s H vs Q E p ⟨p, hot, List.mem_cons_self⟩ hr h
  exact ⟨t, ht.nox, q⟩
end
/-- isinstance(e, c), e the caught error -/
def rIsX (K : PySem.W.Frag) (D a : Addr) (cls : Value) (d : Option Addr) : List V → Hp → VK → Prop := fun xs H Q => cls = .ref D ∧ ∃ (dd : Addr) (c : V) (cv : Value) (b : Bool) (fs : List (Str × V)), d = some dd ∧ xs = [.ref a, c] ∧ H dd = some (.xd fs) ∧ (∀ u, RelV c u → u = cv) ∧ PySem.W.kitOne K (.ref D) cv = some b ∧ Q (.bl b) H
theorem call_isX {X : Cx} {a D : Addr} {oe : Obj} {cls : Value} {d : Option Addr} {pn : List (Addr × Obj)} (C : ExcC X.K D) (hz : Zc cls d oe) (hf : ∃ vs, oe.data = .fields vs) : CallR (X.suite a ((a, oe) :: pn)) (.builtin "isinstance") (rIsX X.K D a cls d) := by
  intro pins s σ H xs us Q I r h
  obtain ⟨ec, dd, c, cv, b, fs, ed, ex, hd, hcv, e, q⟩ := h
  subst ec ed
  exact call_isD C hz hf pins s σ H xs us Q I r ⟨c, cv, b, fs, ex, hd, hcv, e, q⟩
/-- the suite's context bears the handled error -/
theorem hotS {X : Cx} {a : Addr} {oe : Obj} {cls : Value} {d : Option Addr} {pn : List (Addr × Obj)} (hz : L2N.Zn cls d oe) (hf : ∃ vs, oe.data = .fields vs) : L2H.HotC (X.suite a ((a, oe) :: pn)) := by
  obtain ⟨vs, e⟩ := hf
  exact ⟨(a, oe), ⟨rfl, vs, e, hz.2.2 vs e⟩, List.mem_cons_self⟩
end Own

namespace Own
open PySem PySem.Spec PyProof.Rows L2
/-! ### the text by places -/
def top (i : Nat) : Stmt := PySem.Challenge.pw_rimcords_k69_row_notes.main.body.getD i (.Pass ⟨0, 0, 0, 0⟩)
abbrev s__wall : Stmt := top 0
theorem sc__wall : FnScope ["k"] ["k"] (defScope s__wall) := ⟨rfl, rfl, rfl, by decide +kernel, rfl, by decide +kernel, by decide +kernel⟩
abbrev s_written : Stmt := top 9
theorem sc_written : FnScope ["lines", "words", "word"] ["lines"] (defScope s_written) := ⟨rfl, rfl, rfl, by decide +kernel, rfl, by decide +kernel, by decide +kernel⟩
abbrev s_is_number : Stmt := top 10
theorem sc_is_number : FnScope ["word", "digits"] ["word"] (defScope s_is_number) := ⟨rfl, rfl, rfl, by decide +kernel, rfl, by decide +kernel, by decide +kernel⟩
abbrev s_numbers_of : Stmt := top 11
theorem sc_numbers_of : FnScope ["words", "place", "word"] ["words", "place"] (defScope s_numbers_of) := ⟨rfl, rfl, rfl, by decide +kernel, rfl, by decide +kernel, by decide +kernel⟩
abbrev s_words_at : Stmt := top 12
theorem sc_words_at : FnScope ["lines", "place"] ["lines", "place"] (defScope s_words_at) := ⟨rfl, rfl, rfl, by decide +kernel, rfl, by decide +kernel, by decide +kernel⟩
abbrev s_read_line : Stmt := top 13
theorem sc_read_line : FnScope ["lines", "place", "counts", "words", "numbers", "due"] ["lines", "place", "counts"] (defScope s_read_line) := ⟨rfl, rfl, rfl, by decide +kernel, rfl, by decide +kernel, by decide +kernel⟩
abbrev s_is_whole : Stmt := top 15
theorem sc_is_whole : FnScope ["value"] ["value"] (defScope s_is_whole) := ⟨rfl, rfl, rfl, by decide +kernel, rfl, by decide +kernel, by decide +kernel⟩
abbrev s_is_sequence : Stmt := top 16
theorem sc_is_sequence : FnScope ["value"] ["value"] (defScope s_is_sequence) := ⟨rfl, rfl, rfl, by decide +kernel, rfl, by decide +kernel, by decide +kernel⟩
abbrev s_is_below : Stmt := top 17
theorem sc_is_below : FnScope ["value", "bound"] ["value", "bound"] (defScope s_is_below) := ⟨rfl, rfl, rfl, by decide +kernel, rfl, by decide +kernel, by decide +kernel⟩
abbrev s_check_number : Stmt := top 18
theorem sc_check_number : FnScope ["number", "least"] ["number", "least"] (defScope s_check_number) := ⟨rfl, rfl, rfl, by decide +kernel, rfl, by decide +kernel, by decide +kernel⟩
abbrev s_Row_init : Stmt := inClass (top 22) 0
theorem sc_Row_init : FnScope ["self", "top", "letters", "letter"] ["self", "top", "letters"] (defScope s_Row_init) := ⟨rfl, rfl, rfl, by decide +kernel, rfl, by decide +kernel, by decide +kernel⟩
abbrev s_Row_lanes : Stmt := inClass (top 22) 1
theorem sc_Row_lanes : FnScope ["self"] ["self"] (defScope s_Row_lanes) := ⟨rfl, rfl, rfl, by decide +kernel, rfl, by decide +kernel, by decide +kernel⟩
abbrev s_Row_bottom : Stmt := inClass (top 22) 2
theorem sc_Row_bottom : FnScope ["self"] ["self"] (defScope s_Row_bottom) := ⟨rfl, rfl, rfl, by decide +kernel, rfl, by decide +kernel, by decide +kernel⟩
abbrev s_Row_len : Stmt := inClass (top 22) 4
theorem sc_Row_len : FnScope ["self"] ["self"] (defScope s_Row_len) := ⟨rfl, rfl, rfl, by decide +kernel, rfl, by decide +kernel, by decide +kernel⟩
abbrev s_Row_eq : Stmt := inClass (top 22) 5
theorem sc_Row_eq : FnScope ["self", "other"] ["self", "other"] (defScope s_Row_eq) := ⟨rfl, rfl, rfl, by decide +kernel, rfl, by decide +kernel, by decide +kernel⟩
abbrev s_Row_flipped : Stmt := inClass (top 22) 9
theorem sc_Row_flipped : FnScope ["self", "word", "lane"] ["self"] (defScope s_Row_flipped) := ⟨rfl, rfl, rfl, by decide +kernel, rfl, by decide +kernel, by decide +kernel⟩
abbrev s_lanes_along : Stmt := top 23
theorem sc_lanes_along : FnScope ["top", "letters", "lanes", "place", "letter"] ["top", "letters"] (defScope s_lanes_along) := ⟨rfl, rfl, rfl, by decide +kernel, rfl, by decide +kernel, by decide +kernel⟩
abbrev s_is_letter : Stmt := top 24
theorem sc_is_letter : FnScope ["letter", "lanes"] ["letter", "lanes"] (defScope s_is_letter) := ⟨rfl, rfl, rfl, by decide +kernel, rfl, by decide +kernel, by decide +kernel⟩
abbrev s_check_lanes : Stmt := top 25
theorem sc_check_lanes : FnScope ["one", "other"] ["one", "other"] (defScope s_check_lanes) := ⟨rfl, rfl, rfl, by decide +kernel, rfl, by decide +kernel, by decide +kernel⟩
abbrev s_format_row : Stmt := top 27
theorem sc_format_row : FnScope ["row"] ["row"] (defScope s_format_row) := ⟨rfl, rfl, rfl, by decide +kernel, rfl, by decide +kernel, by decide +kernel⟩
abbrev s_parse_row : Stmt := top 28
theorem sc_parse_row : FnScope ["text", "lines", "counts", "_", "top", "word", "place"] ["text"] (defScope s_parse_row) := ⟨rfl, rfl, rfl, by decide +kernel, rfl, by decide +kernel, by decide +kernel⟩
abbrev s__law_whole : Stmt := top 30
theorem sc__law_whole : FnScope ["_law_value"] ["_law_value"] (defScope s__law_whole) := ⟨rfl, rfl, rfl, by decide +kernel, rfl, by decide +kernel, by decide +kernel⟩
abbrev s__law_cell : Stmt := top 31
theorem sc__law_cell : FnScope ["_law_script", "_law_k", "_law_seed", "_law_cell_here"] ["_law_script", "_law_k"] (defScope s__law_cell) := ⟨rfl, rfl, rfl, by decide +kernel, rfl, by decide +kernel, by decide +kernel⟩
abbrev s__law_digits : Stmt := top 32
theorem sc__law_digits : FnScope ["_law_cell_here", "_law_sizes", "_law_listed", "_law_rest", "_law_seed", "_law_k", "_law_size", "_law_twice"] ["_law_cell_here", "_law_sizes"] (defScope s__law_digits) := ⟨rfl, rfl, rfl, by decide +kernel, rfl, by decide +kernel, by decide +kernel⟩
abbrev s__law_letters : Stmt := top 33
theorem sc__law_letters : FnScope ["_law_listed", "_law_top", "_law_upto", "_law_letters_here", "_law_lanes_here", "_law_k", "_law_word"] ["_law_listed", "_law_top", "_law_upto"] (defScope s__law_letters) := ⟨rfl, rfl, rfl, by decide +kernel, rfl, by decide +kernel, by decide +kernel⟩
abbrev s__law_lanes : Stmt := top 34
theorem sc__law_lanes : FnScope ["_law_top", "_law_letters_here", "_law_lanes_here", "_law_letter"] ["_law_top", "_law_letters_here"] (defScope s__law_lanes) := ⟨rfl, rfl, rfl, by decide +kernel, rfl, by decide +kernel, by decide +kernel⟩
abbrev s__law_is_row : Stmt := top 35
theorem sc__law_is_row : FnScope ["_law_told", "_law_top", "_law_letters_here", "_law_k", "_law_letter"] ["_law_told", "_law_top", "_law_letters_here"] (defScope s__law_is_row) := ⟨rfl, rfl, rfl, by decide +kernel, rfl, by decide +kernel, by decide +kernel⟩
abbrev s__law_note : Stmt := top 36
theorem sc__law_note : FnScope ["_law_top", "_law_letters_here", "_law_letter"] ["_law_top", "_law_letters_here"] (defScope s__law_note) := ⟨rfl, rfl, rfl, by decide +kernel, rfl, by decide +kernel, by decide +kernel⟩
abbrev s__law_spoilt_line : Stmt := top 37
theorem sc__law_spoilt_line : FnScope ["_law_line", "_law_kind", "_law_seed", "_law_word", "_law_number_here", "_law_more"] ["_law_line", "_law_kind", "_law_seed"] (defScope s__law_spoilt_line) := ⟨rfl, rfl, rfl, by decide +kernel, rfl, by decide +kernel, by decide +kernel⟩
abbrev s__law_spoilt_note : Stmt := top 38
theorem sc__law_spoilt_note : FnScope ["_law_note_here", "_law_kind", "_law_place", "_law_seed", "_law_lines", "_law_at", "_law_other", "_law_k"] ["_law_note_here", "_law_kind", "_law_place", "_law_seed"] (defScope s__law_spoilt_note) := ⟨rfl, rfl, rfl, by decide +kernel, rfl, by decide +kernel, by decide +kernel⟩
abbrev s__law_number : Stmt := top 39
theorem sc__law_number : FnScope ["_law_word", "_law_digits_here", "_law_sign"] ["_law_word"] (defScope s__law_number) := ⟨rfl, rfl, rfl, by decide +kernel, rfl, by decide +kernel, by decide +kernel⟩
abbrev s__law_outcome : Stmt := top 40
theorem sc__law_outcome : FnScope ["_law_note_here", "_law_lines", "_law_entries", "_law_k", "_law_stand", "_law_words", "_law_allowed", "_law_word"] ["_law_note_here"] (defScope s__law_outcome) := ⟨rfl, rfl, rfl, by decide +kernel, rfl, by decide +kernel, by decide +kernel⟩
abbrev s__law_refusal : Stmt := top 41
theorem sc__law_refusal : FnScope ["_law_note_here", "_law_kinds"] ["_law_note_here"] (defScope s__law_refusal) := ⟨rfl, rfl, rfl, by decide +kernel, rfl, by decide +kernel, by decide +kernel⟩
abbrev s__law_reads : Stmt := top 42
theorem sc__law_reads : FnScope ["_law_note_here", "_law_due"] ["_law_note_here"] (defScope s__law_reads) := ⟨rfl, rfl, rfl, by decide +kernel, rfl, by decide +kernel, by decide +kernel⟩
abbrev s_law : Stmt := top 43
theorem sc_law : FnScope ["_law_script", "_law_size", "_law_top", "_law_many", "_law_upto", "_law_letters_here", "_law_note_here", "_law_sample", "_law_told", "_law_k", "_law_lines", "_law_late", "_law_near", "_law_back", "_law_words", "_law_over", "_law_turned", "_law_wrong", "_law_letter"] ["_law_script"] (defScope s_law) := ⟨rfl, rfl, rfl, by decide +kernel, rfl, by decide +kernel, by decide +kernel⟩
end Own

namespace Own
open PySem PySem.Spec PyProof.Rows L2
theorem same_upd {H : Hp} {p : Addr} {o : HO} (h : H p = none) : Same H (upd H p o) := fun b x e => by
  rw [upd_ne (ne_of_none e h)]
  exact e
theorem SqB.same {K : PySem.W.Frag} {H H' : Hp} {a : Addr} {xs : List V} (s : Same H H') (h : SqB K H a xs) : SqB K H' a xs := by
  rcases h with h | ((h | ⟨o, h⟩) | h)
  · exact .inl (s.seq h)
  · exact .inr (.inl (.inl (s _ _ h)))
  · exact .inr (.inl (.inr ⟨o, s _ _ h⟩))
  · exact .inr (.inr h)
/-- a loop over a list or a tuple: what stood in Hb stands in each turn -/
theorem for_same {K : PySem.W.Frag} {a : Addr} {xs : List V} {g : TG} {tb : TS} {D : Ends} {σ : L2.St} {H Hb : Hp} (hB : SqB K Hb a xs) (Pv : Nat → L2.St → Hp → Prop) (h0 : Pv 0 σ H) (hk : ∀ i σ' H', Pv i σ' H' → Same Hb H')
    (hs : ∀ i x σ H, xs[i]? = some x → Pv i σ H → g x σ H fun σ2 H2 => tb { D with nx := Pv (i + 1), ct := Pv (i + 1), bk := D.nx } σ2 H2) (hd : ∀ σ H, Pv xs.length σ H → D.nx σ H) :
    ((∃ xs, SqL K H a xs) ∧ ∃ W : Nat → Nat → L2.St → Hp → Prop, (∃ m, W 0 m σ H) ∧ ∀ i m σ H, W i m σ H →
      ((Itl K a).stop i H ∧ D.nx σ H) ∨ ((Itl K a).go i H ∧ ∃ N : L2.St → Hp → Prop, (∀ σ' H', N σ' H' → ∃ m', m' < m ∧ W (i + 1) m' σ' H') ∧ ∀ x H', (Itl K a).yld i H x H' → g x σ H' fun σ2 H2 => tb { D with nx := N, ct := N, bk := D.nx } σ2 H2)) ∨
    ((∃ xs, SqT K H a xs) ∧ ∃ W : Nat → Nat → L2.St → Hp → Prop, (∃ m, W 0 m σ H) ∧ ∀ i m σ H, W i m σ H →
      ((Itt K a).stop i H ∧ D.nx σ H) ∨ ((Itt K a).go i H ∧ ∃ N : L2.St → Hp → Prop, (∀ σ' H', N σ' H' → ∃ m', m' < m ∧ W (i + 1) m' σ' H') ∧ ∀ x H', (Itt K a).yld i H x H' → g x σ H' fun σ2 H2 => tb { D with nx := N, ct := N, bk := D.nx } σ2 H2)) := by
  have tup : ∀ {H'}, SqT K Hb a xs → Same Hb H' → SqT K H' a xs := fun h s => by
    rcases h with (h | ⟨o, h⟩) | h
    · exact .inl (.inl (s _ _ h))
    · exact .inl (.inr ⟨o, s _ _ h⟩)
    · exact .inr h
  rcases hB with h | h
  · exact .inl ⟨⟨xs, (hk 0 σ H h0).seq h⟩, for_list Pv h0 (fun i σ' H' _ p => (hk i σ' H' p).seq h) hs hd⟩
  · exact .inr ⟨⟨xs, tup h (hk 0 σ H h0)⟩, for_tup Pv h0 (fun i σ' H' _ p => tup h (hk i σ' H' p)) hs hd⟩
theorem kitTrue {K : PySem.W.Frag} {t : Value} : PySem.W.kitOne K t t = some true := by
  unfold PySem.W.kitOne
  rw [if_pos (beq_self_eq_true t)]
section
variable {P : Program} {w : World} {K : PySem.W.Frag} {mg : Str → Option Value} {base : Heap}
structure Df (K : PySem.W.Frag) (mg : Str → Option Value) (x : Str) (st : Stmt) (ps : List Str) (f : Addr) (fd : FuncData) : Prop where
  F : Fun K x x st f fd
  g : mg x = some (.ref f)
  b : Binds K fd ps []
/-- the built-ins that the text calls -/
structure Bi (mg : Str → Option Value) : Prop where
  b_max : mg "max" = none
  b_min : mg "min" = none
  b_tuple : mg "tuple" = none
  b_range : mg "range" = none
  b_isinstance : mg "isinstance" = none
  b_int : mg "int" = none
  b_bool : mg "bool" = none
  b_len : mg "len" = none
  b_list : mg "list" = none
  b_str : mg "str" = none
  b_sorted : mg "sorted" = none
  b_sum : mg "sum" = none
/-! ### kinds -/
def spWhole : Sp := fun vs H Q _ => ∃ i : Int, vs = [.int i] ∧ Q (.bl true) H
theorem ok_whole {f : Addr} {fd : FuncData} (F : Fun K "is_whole" "is_whole" s_is_whole f fd) (T : Bi mg) : FnOk P w K mg base CX0 1 f fd ["value"] spWhole := by
  refine F.ok sc_is_whole (fun vs H Q E h => ?_) (fun cdv A outer s H vs Q E hr h => ?_)
  · obtain ⟨i, rfl, _⟩ := h
    rfl
  · obtain ⟨i, rfl, q⟩ := h
    refine ⟨_, (pss_one (ps_ret (pe_and (pe_callB call_isi (by rfl) T.b_isinstance (by decide +kernel) (pa_cons (pv 0) (pa_cons (pe_bltn (v := .ty "int") (by rfl) T.b_int (by decide +kernel) rfl) pa_nil))) (pe_one (pe_not (pe_callB call_isi (by rfl) T.b_isinstance (by decide +kernel) (pa_cons (pv 0) (pa_cons (pe_bltn (v := .ty "bool") (by rfl) T.b_bool (by decide +kernel) rfl) pa_nil)))))))), ?_⟩
    refine ⟨_, rfl, _, _, _, _, true, rfl, .ty "int", .base (.int i), kit_ty (by decide +kernel), true, rfl, ?_⟩
    exact ⟨_, rfl, _, _, _, _, false, rfl, .ty "bool", .base (.int i), kit_ty (by decide +kernel), false, rfl, q⟩
end
theorem fmod_in (x : Int) {n : Int} (h : 0 < n) : 0 ≤ x.fmod n ∧ x.fmod n < n := by
  rw [Int.fmod_eq_emod_of_nonneg _ (Int.le_of_lt h)]
  exact ⟨Int.emod_nonneg _ (by omega), Int.emod_lt_of_pos _ h⟩
section
variable {P : Program} {w : World} {K : PySem.W.Frag} {mg : Str → Option Value} {base : Heap} {C : Addr}
/-! ### the law's helpers: kinds, cells, digits -/
theorem ok_lwhole {f : Addr} {fd : FuncData} (F : Fun K "_law_whole" "_law_whole" s__law_whole f fd) (T : Bi mg) : FnOk P w K mg base CX0 1 f fd ["_law_value"] spWhole := by
  refine F.ok sc__law_whole (fun vs H Q E h => ?_) (fun cdv A outer s H vs Q E hr h => ?_)
  · obtain ⟨i, rfl, _⟩ := h
    rfl
  · obtain ⟨i, rfl, q⟩ := h
    refine ⟨_, (pss_one (ps_ret (pe_and (pe_callB call_isi (by rfl) T.b_isinstance (by decide +kernel) (pa_cons (pv 0) (pa_cons (pe_bltn (v := .ty "int") (by rfl) T.b_int (by decide +kernel) rfl) pa_nil))) (pe_one (pe_not (pe_callB call_isi (by rfl) T.b_isinstance (by decide +kernel) (pa_cons (pv 0) (pa_cons (pe_bltn (v := .ty "bool") (by rfl) T.b_bool (by decide +kernel) rfl) pa_nil)))))))), ?_⟩
    refine ⟨_, rfl, _, _, _, _, true, rfl, .ty "int", .base (.int i), kit_ty (by decide +kernel), true, rfl, ?_⟩
    exact ⟨_, rfl, _, _, _, _, false, rfl, .ty "bool", .base (.int i), kit_ty (by decide +kernel), false, rfl, q⟩
def spCell (K : PySem.W.Frag) : Sp := fun vs H Q _ => ∃ (l : Addr) (ns : List Int) (j : Nat), vs = [.ref l, .int (j : Int)] ∧ SqL K H l (ns.map V.int) ∧ j ≤ 100000 ∧ ns.length ≤ 1000 ∧ ∀ c : Int, Q (.int c) H
theorem ok_cell {f : Addr} {fd : FuncData} (F : Fun K "_law_cell" "_law_cell" s__law_cell f fd) (T : Bi mg) : FnOk P w K mg base CX0 1 f fd ["_law_script", "_law_k"] (spCell K) := by
  refine F.ok sc__law_cell (fun vs H Q E h => ?_) (fun cdv A outer s H vs Q E hr h => ?_)
  · obtain ⟨l, ns, j, rfl, _⟩ := h
    rfl
  · obtain ⟨l, ns, j, rfl, hs, hj, hn, q⟩ := h
    refine ⟨_, (pss_cons (ps_if (pt_cmpR op_lt (pv 1) (pe_callB call_len_seq (by rfl) T.b_len PySem.boot_len (pa_cons (pv 0) pa_nil)) (nomark _)) (pss_one (ps_ret (pe_ix (r := rIxL K) ix_list (pv 0) (pv 1) (fun _ _ => rfl)))) pss_nil)
        (pss_cons (ps_set (i := 2) sc__law_cell.nd rfl (.inl rfl) pe_int)
        (pss_cons (ps_for PassesOwn.never rfl (pi_list (pv 0)) (pg_name (i := 3) sc__law_cell.nd rfl (.inl rfl))
        (pss_one (ps_set (i := 2) sc__law_cell.nd rfl (.inl rfl) (pe_op op_mod (pe_callTy call_int1 (by rfl) T.b_int (by decide +kernel) (pa_cons (pe_op op_add (pe_op op_mul (pv 2) pe_int) (pe_op op_mod (pe_callTy call_int1 (by rfl) T.b_int (by decide +kernel) (pa_cons (pv 3) pa_nil)) pe_int)) pa_nil)) pe_int))))
        (pss_one (ps_ret (pe_op op_mod (pe_callTy call_int1 (by rfl) T.b_int (by decide +kernel) (pa_cons (pe_op op_mul (pe_op op_mul (pe_op op_add (pv 2) pe_int) (pe_op op_add (pv 1) pe_int)) pe_int) pa_nil)) pe_int)))))), ?_⟩
    refine ⟨_, rfl, _, rfl, l, _, rfl, .inl hs, _, _, rfl, rfl, _, rfl, ite2 (fun e => ?_) (fun e => ?_)⟩
    · have e1 : (j : Int) < ((ns.map V.int).length : Int) := of_decide_eq_true e
      rw [List.length_map] at e1
      have hj2 : j < ns.length := by omega
      have g : (ns.map V.int)[j]? = some (.int ns[j]) := by
        rw [List.getElem?_map, List.getElem?_eq_getElem hj2]
        rfl
      exact ⟨_, rfl, _, rfl, _, _, _, _, rfl, rfl, hs, atI_nat g, q _⟩
    · refine ⟨_, rfl, l, rfl, ⟨_, hs⟩, for_list (xs := ns.map V.int) (fun i σ H' => (∃ (z : Int) (y : Option V), 0 ≤ z ∧ z < 1000003 ∧ σ = [some (.ref l), some (.int (j : Int)), some (.int z), y]) ∧ H' = H) ⟨⟨17, none, by decide, by decide, rfl⟩, rfl⟩ (fun i σ H' _ p => by rw [p.2]; exact hs) (fun i x σ H' hx p => ?_) (fun σ H' p => ?_)⟩
      · obtain ⟨⟨z, y, z0, z1, rfl⟩, rfl⟩ := p
        obtain ⟨c, rfl⟩ : ∃ c, x = .int c := by
          rw [List.getElem?_map] at hx
          cases e2 : ns[i]? with
          | none => rw [e2] at hx; cases hx
          | some c =>
            rw [e2] at hx
            exact ⟨c, (Option.some.inj hx).symm⟩
        refine ⟨_, rfl, _, _, rfl, rfl, .inl ⟨by omega, by omega⟩, _, rfl, .inl ⟨_, rfl, _, _, rfl, rfl, by show (0 : Int) < 1000003; decide, _, _, rfl, rfl, .inl ⟨_, rfl, _, _, rfl, rfl, by show (0 : Int) < 1000003; decide, ?_⟩⟩⟩
        exact ⟨⟨_, _, Int.emod_nonneg _ (by decide), Int.emod_lt_of_pos _ (by decide), rfl⟩, rfl⟩
      · obtain ⟨⟨z, y, z0, z1, rfl⟩, rfl⟩ := p
        have hp : (z + 7) * ((j : Int) + 3) < 2 ^ 64 ∧ -(2 ^ 64) < (z + 7) * ((j : Int) + 3) := by
          have a1 : 0 ≤ z + 7 := by omega
          have a2 : z + 7 ≤ 1000010 := by omega
          have b1 : 0 ≤ (j : Int) + 3 := by omega
          have b2 : (j : Int) + 3 ≤ 100003 := by omega
          have c1 : (z + 7) * ((j : Int) + 3) ≤ 1000010 * 100003 := Int.mul_le_mul a2 b2 b1 (by decide)
          have c2 : 0 ≤ (z + 7) * ((j : Int) + 3) := Int.mul_nonneg a1 b1
          omega
        exact ⟨_, rfl, _, _, rfl, rfl, _, rfl, _, _, rfl, rfl, _, _, rfl, rfl, .inl ⟨by omega, by omega⟩, _, _, rfl, rfl, .inl ⟨hp.2, hp.1⟩, .inl ⟨_, rfl, _, _, rfl, rfl, by show (0 : Int) < 2147483647; decide, q _⟩⟩
/-- each digit lies below its size -/
def Digs (ds szs : List Int) : Prop := ds.length = szs.length ∧ ∀ (i : Nat) (d s : Int), ds[i]? = some d → szs[i]? = some s → 0 ≤ d ∧ d < s
theorem Digs.snoc {ds szs : List Int} {i : Nat} {d s : Int} (h : Digs ds (szs.take i)) (e : szs[i]? = some s) (h0 : 0 ≤ d) (h1 : d < s) : Digs (ds ++ [d]) (szs.take (i + 1)) := by
  have hi : i < szs.length := (List.getElem?_eq_some_iff.mp e).1
  have hl : ds.length = i := by
    rw [h.1, List.length_take]
    omega
  rw [List.take_add_one, e]
  refine ⟨by rw [List.length_append, List.length_append, h.1]; rfl, fun j x y hx hy => ?_⟩
  by_cases hj : j < i
  · rw [List.getElem?_append_left (by omega)] at hx
    rw [List.getElem?_append_left (by rw [List.length_take]; omega)] at hy
    exact h.2 j x y hx hy
  · rw [List.getElem?_append_right (by omega)] at hx
    rw [List.getElem?_append_right (by rw [List.length_take]; omega), List.length_take] at hy
    have hk : j - ds.length = 0 := by
      cases hk : j - ds.length with
      | zero => rfl
      | succ k =>
        rw [hk] at hx
        simp at hx
    rw [hk] at hx
    rw [show j - min i szs.length = 0 by omega] at hy
    obtain rfl : d = x := Option.some.inj hx
    obtain rfl : s = y := Option.some.inj hy
    exact ⟨h0, h1⟩
def spDigs (K : PySem.W.Frag) : Sp := fun vs H Q _ => ∃ (c : Int) (b : Addr) (szs : List Int), vs = [.int c, .ref b] ∧ SqL K H b (szs.map V.int) ∧ szs.length ≤ 1000 ∧ (∀ s ∈ szs, 0 < s ∧ s < 1073741824) ∧ ∀ H' p ds, Same H H' → H p = none → H' p = some (.lst (ds.map V.int)) → Digs ds szs → Q (.ref p) H'
theorem int_at {ns : List Int} {i : Nat} {x : V} (h : (ns.map V.int)[i]? = some x) : ∃ c, x = .int c ∧ ns[i]? = some c := by
  rw [List.getElem?_map] at h
  cases e : ns[i]? with
  | none => rw [e] at h; cases h
  | some c =>
    rw [e] at h
    exact ⟨c, (Option.some.inj h).symm, rfl⟩
theorem ok_digits {f : Addr} {fd : FuncData} (F : Fun K "_law_digits" "_law_digits" s__law_digits f fd) (T : Bi mg) : FnOk P w K mg base CX0 1 f fd ["_law_cell_here", "_law_sizes"] (spDigs K) := by
  refine F.ok sc__law_digits (fun vs H Q E h => ?_) (fun cdv A outer s H vs Q E hr h => ?_)
  · obtain ⟨c, b, szs, rfl, _⟩ := h
    rfl
  · obtain ⟨c, b, szs, rfl, hb, hl, hsz, q⟩ := h
    refine ⟨_, (pss_cons (ps_set (i := 2) sc__law_digits.nd rfl (.inl rfl) (pe_lst pa_nil))
        (pss_cons (ps_set (i := 3) sc__law_digits.nd rfl (.inl rfl) (pe_callTy call_int1 (by rfl) T.b_int (by decide +kernel) (pa_cons (pv 0) pa_nil)))
        (pss_cons (ps_if (pt_cmpR op_ge (pv 3) (pe_op op_pow pe_int pe_int) (nomark _)) (pss_cons (ps_set (i := 3) sc__law_digits.nd rfl (.inl rfl) (pe_op op_sub (pv 3) (pe_op op_pow pe_int pe_int)))
        (pss_cons (ps_for PassesOwn.never rfl (pi_list (pv 1)) (pg_name (i := 6) sc__law_digits.nd rfl (.inl rfl))
        (pss_cons (ps_expr (pe_bm PySem.F.plainAttrs_list PySem.F.slot_list_append PySem.F.type_list_append mt_append (pv 2) (pa_cons (pe_op op_modN (pe_callTy call_int1 (by rfl) T.b_int (by decide +kernel) (pa_cons (pv 3) pa_nil)) (pv 6)) pa_nil)))
        (pss_one (ps_set (i := 3) sc__law_digits.nd rfl (.inl rfl) (pe_op op_fdivN (pe_callTy call_int1 (by rfl) T.b_int (by decide +kernel) (pa_cons (pv 3) pa_nil)) (pv 6))))))
        (pss_one (ps_ret (pv 2))))) pss_nil)
        (pss_cons (ps_set (i := 4) sc__law_digits.nd rfl (.inl rfl) (pe_op op_mod (pe_callTy call_int1 (by rfl) T.b_int (by decide +kernel) (pa_cons (pv 3) pa_nil)) pe_int))
        (pss_cons (ps_for PassesOwn.never rfl (pi_range1 (by rfl) T.b_range (pa_cons (pe_callB call_len_seq (by rfl) T.b_len PySem.boot_len (pa_cons (pv 1) pa_nil)) pa_nil)) (pg_name (i := 5) sc__law_digits.nd rfl (.inl rfl))
        (pss_cons (ps_set (i := 4) sc__law_digits.nd rfl (.inl rfl) (pe_op op_mod (pe_callTy call_int1 (by rfl) T.b_int (by decide +kernel) (pa_cons (pe_op op_add (pe_op op_add (pe_op op_mul (pv 4) pe_int) (pe_op op_mul pe_int (pv 5))) pe_int) pa_nil)) pe_int))
        (pss_cons (ps_set (i := 7) sc__law_digits.nd rfl (.inl rfl) (pe_op op_mod (pe_callTy call_int1 (by rfl) T.b_int (by decide +kernel) (pa_cons (pe_op op_mul (pv 4) (pe_op op_add (pe_op op_fdiv (pv 4) pe_int) pe_int)) pa_nil)) pe_int))
        (pss_one (ps_expr (pe_bm PySem.F.plainAttrs_list PySem.F.slot_list_append PySem.F.type_list_append mt_append (pv 2) (pa_cons (pe_op op_modN (pe_op op_fdiv (pv 7) pe_int) (pe_ix (r := rIxL K) ix_list (pv 1) (pv 5) (fun _ _ => rfl))) pa_nil)))))))
        (pss_one (ps_ret (pv 2)))))))), ?_⟩
    refine ⟨Nat.zero_le _, fun p np => ?_⟩
    have sp : Same H (upd H p (.lst [])) := same_upd np
    refine ⟨_, rfl, .inl ⟨_, rfl, ?_⟩⟩
    refine ⟨_, rfl, _, _, rfl, rfl, ⟨by decide, by decide, by decide⟩, _, _, rfl, rfl, _, rfl, ite2 (fun e => ?_) (fun e => ?_)⟩
    · refine ⟨_, rfl, _, _, rfl, rfl, ⟨by decide, by decide, by decide⟩, _, _, rfl, rfl, ?_⟩
      refine ⟨_, rfl, b, rfl, ⟨_, sp.seq hb⟩, for_list (xs := szs.map V.int) (fun i σ H' => (∃ (z : Int) (ds : List Int) (y4 y5 y6 y7 : Option V), σ = [some (.int c), some (.ref b), some (.ref p), some (.int z), y4, y5, y6, y7] ∧ H' = upd H p (.lst (ds.map V.int)) ∧ Digs ds (szs.take i))) ⟨_, [], _, _, _, _, rfl, rfl, rfl, fun j d s h => by simp at h⟩ (fun i σ H' _ p => by obtain ⟨_, _, _, _, _, _, _, rfl, _⟩ := p; exact (same_upd np).seq hb) (fun i x σ H' hx pv => ?_) (fun σ H' pv => ?_)⟩
      · obtain ⟨z, ds, y4, y5, y6, y7, rfl, rfl, dg⟩ := pv
        obtain ⟨sz, rfl, hsi⟩ := int_at hx
        have hs := hsz sz (List.mem_of_getElem? hsi)
        have hi : i < szs.length := (List.getElem?_eq_some_iff.mp hsi).1
        refine ⟨_, rfl, .inl ⟨rfl, _, .inl (.inl upd_same)⟩, _, rfl, .inl ⟨_, rfl, _, rfl, _, _, rfl, rfl, by omega, p, _, _, rfl, rfl, upd_same, ?_, ?_⟩⟩
        · rw [List.length_map, dg.1, List.length_take]
          exact Nat.lt_of_le_of_lt (Nat.min_le_right _ _) (small1000 hl)
        refine ⟨_, rfl, .inl ⟨_, rfl, _, rfl, _, _, rfl, rfl, ⟨by omega, by omega⟩, ?_⟩⟩
        have hm := fmod_in z hs.1
        refine ⟨_, ds ++ [z.fmod sz], _, _, _, _, rfl, ?_, dg.snoc hsi hm.1 hm.2⟩
        rw [upd_upd, List.map_append]
        rfl
      · obtain ⟨z, ds, y4, y5, y6, y7, rfl, rfl, dg⟩ := pv
        rw [List.length_map, List.take_length] at dg
        exact ⟨_, rfl, q _ p ds (same_upd np) np upd_same dg⟩
    · refine ⟨_, rfl, .inl ⟨_, rfl, _, _, rfl, rfl, by show (0 : Int) < 2147483629; decide, ?_⟩⟩
      refine ⟨_, rfl, b, _, rfl, .inl (sp.seq hb), _, rfl, by omega, by rw [List.length_map]; omega, ?_⟩
      rw [show ((szs.map V.int).length : Int).toNat = szs.length by rw [List.length_map]; omega]
      refine for_range (lo := 0) (n := szs.length) (fun i σ H' => (∃ (z : Int) (ds : List Int) (y3 y4 y6 y7 : Option V), 0 ≤ z ∧ z < 2147483647 ∧ σ = [some (.int c), some (.ref b), some (.ref p), y3, some (.int z), y4, y6, y7] ∧ H' = upd H p (.lst (ds.map V.int)) ∧ Digs ds (szs.take i))) ⟨_, [], _, _, _, _, Int.emod_nonneg _ (by decide), Int.lt_of_lt_of_le (Int.emod_lt_of_pos _ (by decide)) (by decide), rfl, rfl, rfl, fun j d s h => by simp at h⟩ (fun i σ H' hi pv => ?_) (fun σ H' pv => ?_)
      · obtain ⟨z, ds, y3, y4, y6, y7, z0, z1, rfl, rfl, dg⟩ := pv
        have hsi : szs[i]? = some szs[i] := List.getElem?_eq_getElem hi
        have hs := hsz szs[i] (List.mem_of_getElem? hsi)
        generalize szs[i] = sz at hsi hs
        refine ⟨_, rfl, _, _, rfl, rfl, .inl ⟨by omega, by omega⟩, _, rfl, _, _, rfl, rfl, .inl ⟨by decide, by decide⟩, _, _, rfl, rfl, _, _, rfl, rfl, .inl ⟨_, rfl, _, _, rfl, rfl, by show (0 : Int) < 2147483647; decide, ?_⟩⟩
        generalize hz : (z * 48271 + 974711 * (0 + (i : Int)) + 12345) % 2147483647 = z2
        have z20 : 0 ≤ z2 := by rw [← hz]; exact Int.emod_nonneg _ (by decide)
        have z21 : z2 < 2147483647 := by rw [← hz]; exact Int.emod_lt_of_pos _ (by decide)
        refine ⟨_, rfl, _, rfl, _, _, rfl, rfl, ⟨by decide, by decide⟩, _, _, rfl, rfl, _, _, rfl, rfl, .inl ⟨?_, ?_⟩, .inl ⟨_, rfl, _, _, rfl, rfl, by show (0 : Int) < 2147483629; decide, ?_⟩⟩
        · show -(2 ^ 64) < (z * 48271 + 974711 * (0 + (i : Int)) + 12345) % 2147483647
          rw [hz]
          omega
        · show (z * 48271 + 974711 * (0 + (i : Int)) + 12345) % 2147483647 < 2 ^ 64
          rw [hz]
          omega
        refine ⟨_, rfl, .inl ⟨rfl, _, .inl (.inl upd_same)⟩, _, rfl, _, _, rfl, rfl, ⟨by decide, by decide⟩, _, rfl, _, rfl, b, _, _, _, rfl, rfl, (same_upd np).seq hb, at_of (j := i) (by omega) (by rw [List.getElem?_map, hsi]; rfl), _, _, rfl, rfl, by omega, p, _, _, rfl, rfl, upd_same, ?_, ?_⟩
        · rw [List.length_map, dg.1, List.length_take]
          exact Nat.lt_of_le_of_lt (Nat.min_le_right _ _) (small1000 hl)
        have hm := fun x : Int => fmod_in x hs.1
        refine ⟨_, ds ++ [((((z * 48271 + 974711 * (0 + (i : Int)) + 12345) % 2147483647) * (((z * 48271 + 974711 * (0 + (i : Int)) + 12345) % 2147483647) / 65537 + 3)) % 2147483629 / 19).fmod sz], _, _, _, _, ?_, ?_, rfl, ?_, dg.snoc hsi (hm _).1 (hm _).2⟩
        · exact Int.emod_nonneg _ (by decide)
        · exact Int.emod_lt_of_pos _ (by decide)
        · rw [upd_upd, List.map_append]
          rfl
      · obtain ⟨z, ds, y3, y4, y6, y7, z0, z1, rfl, rfl, dg⟩ := pv
        rw [List.take_length] at dg
        exact ⟨_, rfl, q _ p ds (same_upd np) np upd_same dg⟩
end
end Own

namespace Own
open PySem PySem.Spec PyProof.Rows L2 TL
/-! ### words that are numbers -/
/-- the signs behind a minus -/
def bodyL (w : List Nat) : List Nat := if w.head? = some 45 then w.tail else w
def dgL (d : List Nat) : Bool := decide (d ≠ []) && d.all fun c => decide (48 ≤ c) && decide (c ≤ 57)
def isNum (w : List Nat) : Bool := dgL (bodyL w) && (decide (w = [48]) || !decide ((bodyL w).head? = some 48))
theorem dgL_all {d : List Nat} (h : dgL d = true) : d ≠ [] ∧ NumText.AllDigits d := by
  unfold dgL at h
  rw [Bool.and_eq_true, decide_eq_true_eq] at h
  refine ⟨h.1, fun c hc => ?_⟩
  have := List.all_eq_true.mp h.2 c hc
  rw [Bool.and_eq_true, decide_eq_true_eq, decide_eq_true_eq] at this
  exact this
theorem dgL_of {d : List Nat} (h : d ≠ []) (a : NumText.AllDigits d) : dgL d = true := by
  unfold dgL
  rw [Bool.and_eq_true, decide_eq_true_eq]
  refine ⟨h, List.all_eq_true.mpr fun c hc => ?_⟩
  rw [Bool.and_eq_true, decide_eq_true_eq, decide_eq_true_eq]
  exact a c hc
theorem body_neg {w : List Nat} (h : w.head? = some 45) : w = 45 :: bodyL w := by
  unfold bodyL
  rw [if_pos h]
  cases w with
  | nil => cases h
  | cons c r =>
    obtain rfl : c = 45 := Option.some.inj h
    rfl
theorem body_pos {w : List Nat} (h : ¬ w.head? = some 45) : bodyL w = w := by
  unfold bodyL
  rw [if_neg h]
def numV (w : Str) : Int := (PySem.intText? w).getD 0
theorem num_read {w : Str} (h : isNum (tl w) = true) (hl : w.length ≤ 4300) : PySem.intText? w = some (numV w) := by
  unfold isNum at h
  rw [Bool.and_eq_true] at h
  obtain ⟨h1, h2⟩ := dgL_all h.1
  have : ∃ n, PySem.intText? w = some n := by
    by_cases hn : (tl w).head? = some 45
    · exact ⟨_, intText_neg (body_neg hn) h2 h1 hl⟩
    · rw [body_pos hn] at h1 h2
      exact ⟨_, intText_digits h2 h1 hl⟩
  obtain ⟨n, e⟩ := this
  unfold numV
  rw [e]
  rfl
/-! ### the texts of numbers -/
theorem numL_head (n : Nat) : (numL n).head? = some 48 → n = 0 := by
  induction n using Nat.strongRecOn with
  | _ n ih =>
    intro h
    by_cases hn : n < 10
    · rw [numL_lt hn] at h
      have : 48 + n = 48 := Option.some.inj h
      omega
    · rw [numL_step (by omega)] at h
      have := ih (n / 10) (by omega) (by
        cases e : numL (n / 10) with
        | nil => exact absurd e (numL_ne _)
        | cons c r => rw [e] at h; exact h)
      omega
theorem tl_neg (m : Nat) : tl (Str.ofString (toString (Int.negSucc m))) = 45 :: numL (m + 1) := by
  have e : toString (Int.negSucc m) = "-" ++ toString (((m + 1 : Nat)) : Int) := rfl
  have h := tl_num (m + 1)
  rw [tl_ofString] at h ⊢
  rw [e, String.toList_append, List.map_append, h]
  rfl
/-- the signs of a whole number -/
def intL : Int → List Nat
  | .ofNat n => numL n
  | .negSucc m => 45 :: numL (m + 1)
theorem tl_int (i : Int) : tl (Str.ofString (toString i)) = intL i := by
  cases i with
  | ofNat n => exact tl_num n
  | negSucc m => exact tl_neg m
theorem head_num (n : Nat) : ¬ (numL n).head? = some 45 := fun h => by
  cases e : numL n with
  | nil => exact numL_ne _ e
  | cons c r =>
    rw [e] at h
    obtain rfl : c = 45 := Option.some.inj h
    have := numL_digits n 45 (by rw [e]; exact List.mem_cons_self)
    omega
theorem isNum_int (i : Int) : isNum (intL i) = true := by
  cases i with
  | ofNat n =>
    unfold isNum intL
    simp only [body_pos (head_num n)]
    rw [Bool.and_eq_true]
    refine ⟨dgL_of (numL_ne n) (numL_digits n), ?_⟩
    rw [Bool.or_eq_true]
    by_cases h : (numL n).head? = some 48
    · left
      rw [numL_head n h]
      decide
    · right
      rw [decide_eq_false h]
      rfl
  | negSucc m =>
    have hb : bodyL (45 :: numL (m + 1)) = numL (m + 1) := by
      unfold bodyL
      rw [if_pos (show (45 :: numL (m + 1)).head? = some 45 from rfl)]
      rfl
    unfold isNum intL
    simp only [hb]
    rw [Bool.and_eq_true]
    refine ⟨dgL_of (numL_ne _) (numL_digits _), ?_⟩
    rw [Bool.or_eq_true]
    right
    rw [decide_eq_false (fun h => by have := numL_head _ h; omega)]
    rfl
theorem numV_int {i : Int} (hl : (intL i).length ≤ 4300) : numV (Str.ofString (toString i)) = i := by
  have hz : (Str.ofString (toString i)).length = (intL i).length := by rw [len_tl, tl_int]
  unfold numV
  cases i with
  | ofNat n =>
    have e := int_num (n := n) hl
    show (PySem.intText? (Str.ofString (toString ((n : Nat) : Int)))).getD 0 = _
    rw [e]
    rfl
  | negSucc m =>
    have e := intText_neg (x := Str.ofString (toString (Int.negSucc m))) (cs := numL (m + 1)) (tl_neg m) (numL_digits _) (numL_ne _) (by rw [hz]; exact hl)
    rw [e, numL_val]
    rfl
/-- signs that a number has not -/
theorem intL_free {i : Int} {c : Nat} (h : c < 45 ∨ 57 < c) : c ∉ intL i := fun hm => by
  cases i with
  | ofNat n => exact numL_free (by omega) hm
  | negSucc m =>
    rcases List.mem_cons.mp hm with e | e
    · omega
    · exact numL_free (by omega) e
end Own

namespace Own
open PySem PySem.Spec PyProof.Rows L2 TL
theorem starts_one (x y : Str) (c : Nat) (hy : tl y = [c]) : Txt.startswith x y = decide ((tl x).head? = some c) := by
  have h1 : (Txt.startswith x y = true) ↔ StrLaws.At x y x.length 0 := by
    unfold Txt.startswith StrLaws.At
    rw [Bool.and_eq_true, decide_eq_true_eq]
  have h2 := at_iff (x := x) (y := y) (by rw [hy]; simp) 0
  rw [hy, List.drop_zero] at h2
  have h3 : pre [c] (tl x) = true ↔ (tl x).head? = some c := by
    unfold pre
    cases tl x with
    | nil => simp
    | cons d r => simp
  rw [Bool.eq_iff_iff, decide_eq_true_eq]
  exact h1.trans (h2.trans h3)
theorem tl_cut1 (x : Str) : tl (cutS x (some 1) none) = (tl x).tail := by
  show ((tl x).drop (HT.sIx x.length 0 (some 1))).take (HT.sIx x.length x.length none - HT.sIx x.length 0 (some 1)) = _
  rw [show HT.sIx x.length 0 (some 1) = min 1 x.length from HT.sIx_nat _ _ 1, HT.sIx_none, len_tl]
  cases tl x with
  | nil => rfl
  | cons c r =>
    have e : min 1 (c :: r).length = 1 := by simp
    rw [e]
    simp
theorem digs_ok (z : Str) : (Txt.isascii z && Txt.isdigit z) = dgL (tl z) := by
  unfold Txt.isascii Txt.isdigit dgL
  rw [Bool.eq_iff_iff]
  simp only [Bool.and_eq_true, decide_eq_true_eq, Array.all_eq_true_iff_forall_mem, List.all_eq_true]
  have hm : ∀ c, c ∈ z.cps ↔ c ∈ tl z := fun c => by simp [tl]
  have hin : ∀ c, c < 128 → (Unicode.isDigit c = true ↔ (48 ≤ c ∧ c ≤ 57)) := by
    intro c hc
    have all : ∀ c, c < 128 → (Unicode.isDigit c = (decide (48 ≤ c) && decide (c ≤ 57))) := by decide +kernel
    rw [all c hc, Bool.and_eq_true, decide_eq_true_eq, decide_eq_true_eq]
  constructor
  · rintro ⟨a, b, d⟩
    refine ⟨fun e => ?_, fun c hc => ?_⟩
    · rw [len_tl, e] at b
      exact absurd b (by simp)
    · exact (hin c (a c ((hm c).mpr hc))).mp (d c ((hm c).mpr hc))
  · rintro ⟨a, b⟩
    have lo : ∀ c ∈ z.cps, 48 ≤ c ∧ c ≤ 57 := fun c hc => b c ((hm c).mp hc)
    refine ⟨fun c hc => ?_, ?_, fun c hc => ?_⟩
    · have := lo c hc
      omega
    · rw [len_tl]
      exact List.length_pos_iff.mpr a
    · have := lo c hc
      exact (hin c (by omega)).mpr this
theorem str_eq {x y : Str} : decide (V.str x = V.str y) = decide (tl x = tl y) := by
  rw [Bool.eq_iff_iff, decide_eq_true_eq, decide_eq_true_eq]
  exact ⟨fun e => by rw [V.str.inj e], fun e => by rw [ext_tl e]⟩
section
variable {P : Program} {w : World} {K : PySem.W.Frag} {mg : Str → Option Value} {base : Heap}
def spNum : Sp := fun vs H Q _ => ∃ x : Str, vs = [.str x] ∧ x.length ≤ 100000 ∧ Q (.bl (isNum (tl x))) H
theorem ok_number {f : Addr} {fd : FuncData} (F : Fun K "is_number" "is_number" s_is_number f fd) (T : Bi mg) : FnOk P w K mg base CX0 1 f fd ["word"] spNum := by
  refine F.ok sc_is_number (fun vs H Q E h => ?_) (fun cdv A outer s H vs Q E hr h => ?_)
  · obtain ⟨x, rfl, _⟩ := h
    rfl
  · obtain ⟨x, rfl, hx, q⟩ := h
    refine ⟨_, (pss_cons (ps_set (i := 1) sc_is_number.nd rfl (.inl rfl) (pe_ifExp (pt_val (pe_m1 PySem.F.slot_str_startswith PySem.F.type_str_startswith mt_startswith (pv 0) pe_str)) (pe_slice sl_str (pv 0) (po_some pe_int) po_none) (pv 0)))
        (pss_cons (ps_if (PW.pt (pw_or (pt_not (pt_val (pe_m0 PySem.F.slot_str_isascii PySem.F.type_str_isascii mt_isascii (pv 1)))) (pw_or1 (pt_not (pt_val (pe_m0 PySem.F.slot_str_isdigit PySem.F.type_str_isdigit mt_isdigit (pv 1))))))) (pss_one (ps_ret pe_bl)) pss_nil)
        (pss_one (ps_ret (pe_or (pe_cmpR op_eq (pv 0) pe_str (nomark _)) (pe_one (pe_not (pe_m1 PySem.F.slot_str_startswith PySem.F.type_str_startswith mt_startswith (pv 1) pe_str)))))))), ?_⟩
    have main : ∀ z : Str, tl z = bodyL (tl x) → (tSeq (tIfS (tOr (tNot (tB (tM0 (fun x xs H Q => ∃ a, x = V.str a ∧ xs = [] ∧ True ∧ Q (V.bl (Txt.isascii a)) H) (tVar 1)))) (tNot (tB (tM0 (fun x xs H Q => ∃ a, x = V.str a ∧ xs = [] ∧ True ∧ Q (V.bl (Txt.isdigit a)) H) (tVar 1)))))
        (tRet (tC (V.bl false))) tNext) (tRet (tOrV (tOp rEq (tVar 0) (tC (V.str "0"))) (tNotV (tM1 (fun x xs H Q => ∃ a b, x = V.str a ∧ xs = [V.str b] ∧ Q (V.bl (Txt.startswith a b)) H) (tVar 1) (tC (V.str "0")))))))
        { nx := fun x H' => Q V.non H', rt := Q } [some (.str x), some (.str z)] H := fun z hz => by
      have hd := digs_ok z
      rw [hz] at hd
      unfold isNum at q
      rw [← hd] at q
      refine ⟨_, rfl, ⟨_, rfl⟩, z, rfl, rfl, trivial, _, rfl, ?_⟩
      cases ha : Txt.isascii z with
      | false =>
        rw [ha] at q
        exact q
      | true =>
        rw [ha] at q
        refine ⟨_, rfl, ⟨_, rfl⟩, z, rfl, rfl, trivial, _, rfl, ?_⟩
        cases hb : Txt.isdigit z with
        | false =>
          rw [hb] at q
          exact q
        | true =>
          rw [hb] at q
          refine ⟨_, rfl, rfl, _, rfl, ?_⟩
          rw [str_eq, show tl ("0" : Str) = [48] from rfl]
          rw [Bool.true_and, Bool.true_and] at q
          cases hc : decide (tl x = [48]) with
          | true =>
            rw [hc, Bool.true_or] at q
            exact q
          | false =>
            rw [hc, Bool.false_or] at q
            refine ⟨_, rfl, ⟨_, rfl⟩, z, _, rfl, rfl, _, rfl, ?_⟩
            rw [starts_one z "0" 48 rfl, hz]
            exact q
    refine ⟨_, rfl, ⟨_, rfl⟩, x, _, rfl, rfl, _, rfl, ?_⟩
    rw [starts_one x "-" 45 rfl]
    refine ite2 (fun e => ?_) (fun e => ?_)
    · have e := of_decide_eq_true e
      refine ⟨_, rfl, _, rfl, x, rfl, Nat.le_trans hx (by decide), main _ ?_⟩
      rw [tl_cut1]
      unfold bodyL
      rw [if_pos e]
    · have e : ¬ (tl x).head? = some 45 := fun z => e (decide_eq_true z)
      exact ⟨_, rfl, main _ (body_pos e).symm⟩
end
end Own

namespace Own
open PySem PySem.Spec PyProof.Rows L2 NdefX
section
variable {P : Program} {w : World} {K : PySem.W.Frag} {mg : Str → Option Value} {base : Heap} {D cc cda f : Addr}
abbrev s_NoteError_init : Stmt := inClass (top 7) 0
theorem sn_NoteError : NScope ["self", "line", "__class__"] ["self", "line"] ["__class__"] (defScope s_NoteError_init) := nscope_by (by decide +kernel)
theorem ok_NoteError {oc kV dc pm ct : Value} {an od : Option Addr} {sl : Array (Option Value)} (T : ErrK P K mg D cc cda)
    (lk : K.lookup f = some ⟨oc, od, .func (PySem.W.fnX "__init__" "NoteError.__init__" (defArgs s_NoteError_init) (defBody s_NoteError_init) (defScope s_NoteError_init) [("__class__", cc)] .none kV dc pm an (.ref cda) ct), sl⟩) (hcd : PySem.W.codeIn K (.ref cda) "NoteError.__init__" = true)
    (n1 : PySem.W.findIn K (.ref D) "line" = some none) :
    FnOk P w K mg base CX0 1 f (PySem.W.fnX "__init__" "NoteError.__init__" (defArgs s_NoteError_init) (defBody s_NoteError_init) (defScope s_NoteError_init) [("__class__", cc)] .none kV dc pm an (.ref cda) ct) ["self", "line"] (spErr D ["line"]) := by
  refine fn_err (N := ["self", "line", "__class__"]) (ps := ["self", "line"]) T lk hcd sn_NoteError rfl rfl rfl (fun vs H Q E h => ?_) (fun A outer s H vs Q E hr h => ?_)
  · obtain ⟨a, ys, rfl, hl, _⟩ := h
    show ys.length + 1 = _
    rw [hl]
    rfl
  · obtain ⟨a, ys, rfl, hl, hs, ha, q⟩ := h
    match ys, hl with
    | [y1], _ =>
      obtain ⟨i1, rfl, h1⟩ := hs y1 (by simp)
      have l1 := txt_len h1
      refine ⟨a, _, _, rfl, ha, pa_cons (pe_joined (PJ.cons pe_str (PJ.cons (pe_fmtR (pv 1)) PJ.nil))) pa_nil, (pss_one (ps_ost (pv 0) (pv 1))), ?_⟩
      have e0 : (Str.empty).length = 0 := rfl
      have c1 : (Str.ofString "line ").length ≤ 100 := by decide +kernel
      refine ⟨_, rfl, ?_, _, rfl, .inr ⟨i1, rfl, by omega, _, rfl, ?_, ⟨by show 1 ≤ 1000; decide, ha, ?_⟩⟩⟩
      all_goals first | (simp only [strLen_append, sizeLine_eq, e0] at *; (first | omega | (show _ ≤ _; omega))) | skip
      refine ⟨_, rfl, _, rfl, a, D, rfl, T.oex, n1, .inl ⟨ha, fun dx nd ne => ?_⟩⟩
      refine q dx _ nd ne fun b => ?_
      by_cases hb : b = dx
      · subst hb
        rw [if_pos rfl]
        first | (rw [upd_ne ne, upd_same]; rfl) | (rw [upd_same]; rfl)
      · rw [if_neg hb]
        by_cases hb2 : b = a
        · subst hb2
          rw [if_pos rfl]
          first | (rw [upd_same]) | (rw [upd_ne hb, upd_same]) | (rw [upd_ne hb, upd_ne hb, upd_same])
        · rw [if_neg hb2]
          repeat (first | rw [upd_ne hb] | rw [upd_ne hb2])
end
end Own

namespace Own
open PySem PySem.Spec PyProof.Rows L2 TL
section
variable {P : Program} {w : World} {K : PySem.W.Frag} {mg : Str → Option Value} {base : Heap} {D : Addr}
theorem str_at {ws : List Str} {i : Nat} {v : V} (h : (ws.map V.str)[i]? = some v) : ∃ x, v = .str x ∧ ws[i]? = some x := by
  rw [List.getElem?_map] at h
  cases e : ws[i]? with
  | none => rw [e] at h; cases h
  | some c =>
    rw [e] at h
    exact ⟨c, (Option.some.inj h).symm, rfl⟩
/-- what must be known of NoteError -/
structure NErC (K : PySem.W.Frag) (mg : Str → Option Value) (D f_e : Addr) (d_e : FuncData) : Prop where
  T : OexC K D
  R : ErrT K mg "NoteError" D f_e
  b : Binds K d_e ["self", "line"] []
abbrev GE (P : Program) (w : World) (K : PySem.W.Frag) (mg : Str → Option Value) (base : Heap) (D f_e : Addr) (d_e : FuncData) : Prop := FnOk P w K mg base CX0 1 f_e d_e ["self", "line"] (spErr D ["line"])
/-- the error of line p -/
def NEx (D : Addr) (p : Int) (H : Hp) (E : XK) : Prop := ∀ H' d, Same H H' → H' d = none → E (.ref D) (some d) (upd H' d (.xd (flE ["line"] [.int p])))
theorem NEx.same {p : Int} {H H' : Hp} {E : XK} (h : NEx D p H E) (s : Same H H') : NEx D p H' E := fun H2 d s2 n => h H2 d (s.trans s2) n
theorem nex_err {p : Int} {H : Hp} {E : XK} (h : NEx D p H E) (h0 : -100000 ≤ p) (h1 : p ≤ 100000) : ([V.int p].length = ["line"].length ∧ ["line"].length ≤ 1000 ∧ (∀ y ∈ [V.int p], Shw y) ∧ ∀ d, H d = none → E (.ref D) (some d) (upd H d (.xd (flE ["line"] [V.int p])))) := by
  refine ⟨rfl, by decide, fun y hy => ?_, fun d nd => h H d (Same.refl H) nd⟩
  rw [List.mem_singleton.mp hy]
  exact Shw.of (by omega) (by omega)
def spNums (K : PySem.W.Frag) (D : Addr) : Sp := fun vs H Q E => ∃ (a : Addr) (ws : List Str) (p : Int), vs = [.ref a, .int p] ∧ SqL K H a (ws.map V.str) ∧ ws.length ≤ 1000 ∧ (∀ x ∈ ws, x.length ≤ 600) ∧ 0 ≤ p ∧ p ≤ 1000 ∧
  ((∀ x ∈ ws, isNum (tl x) = true) → ∀ H' b, Same H H' → H' b = some (.tup ((ws.map numV).map V.int)) → Q (.ref b) H') ∧ ((∃ x ∈ ws, isNum (tl x) = false) → NEx D (p + 1) H E)
theorem ok_nums {f f_e : Addr} {fd d_e : FuncData} (F : Fun K "numbers_of" "numbers_of" s_numbers_of f fd) (T : Bi mg) (U : NErC K mg D f_e d_e) (G_e : GE P w K mg base D f_e d_e) {f_n : Addr} {d_n : FuncData} (D_n : Df K mg "is_number" s_is_number ["word"] f_n d_n) (G_n : FnOk P w K mg base CX0 1 f_n d_n ["word"] spNum) :
    FnOk P w K mg base (L2N.CX P w) 3 f fd ["words", "place"] (spNums K D) := by
  refine okN F sc_numbers_of (fun vs H Q E h => ?_) (fun cdv A outer s H vs Q E hr h => ?_)
  · obtain ⟨a, ws, p, rfl, _⟩ := h
    rfl
  · obtain ⟨a, ws, p, rfl, hs, hl, hw, p0, p1, q, e⟩ := h
    refine ⟨_, (pss_cons (ps_for PassesOwn.leaving rfl (pi_list (pv 0)) (pg_name (i := 2) sc_numbers_of.nd rfl (.inl rfl))
        (pss_one (ps_if (pt_not (pt_val (pe_call G_n (hr.mono (by decide)) (by rfl) D_n.g D_n.F.kp D_n.b .nil pass0 (pa_cons (pv 2) pa_nil)))) (pss_one (ps_errN rfl (L2N.takes_of rfl rfl rfl rfl) U.T U.R G_e (hr.mono (by decide)) U.b (by rfl) (pa_cons (pe_op op_add (pv 1) pe_int) pa_nil))) pss_nil)))
        (pss_one (ps_ret (pe_callTy call_tuple_of (by rfl) T.b_tuple (by decide +kernel) (pa_cons (pe_lc (own := [("word", 2)]) (g := gName 2) (tt := tYes) rfl sc_numbers_of.nd (pi_list (pv 0)) (blkOk_by (own := [("word", 2)]) (N := ["words", "place", "word"]) (sc := defScope s_numbers_of) (by decide +kernel)) (fun _ _ _ _ _ => (pg_name (i := 2) sc_numbers_of.nd rfl (.inl rfl))) (fun _ _ _ _ _ => pts_nil) (fun _ _ _ _ _ => (pe_callTy call_int_str (by rfl) T.b_int (by decide +kernel) (pa_cons (pv 2) pa_nil)))) pa_nil))))), ?_⟩
    refine ⟨_, rfl, a, rfl, ⟨_, hs⟩, for_list (xs := ws.map V.str) (fun i σ H' => ((∃ y, σ = [some (.ref a), some (.int p), y]) ∧ H' = H) ∧ ∀ x ∈ ws.take i, isNum (tl x) = true) ⟨⟨⟨none, rfl⟩, rfl⟩, fun x hx => nomatch hx⟩ (fun i σ H' _ p => by rw [p.1.2]; exact hs) (fun i v σ H' hx pv => ?_) fun σ H' pv => ?_⟩
    · obtain ⟨⟨⟨y, rfl⟩, rfl⟩, done⟩ := pv
      obtain ⟨x, rfl, hw1⟩ := str_at hx
      have hm := List.mem_of_getElem? hw1
      refine ⟨_, rfl, x, rfl, Nat.le_trans (hw x hm) (by decide), _, rfl, ?_⟩
      cases hn : isNum (tl x) with
      | true =>
        refine ⟨⟨_, rfl⟩, rfl⟩ |> fun z => ⟨z, fun y hy => ?_⟩
        rw [List.take_add_one, hw1] at hy
        rcases List.mem_append.mp hy with hy | hy
        · exact done y hy
        · rw [List.mem_singleton.mp hy]
          exact hn
      | false =>
        exact ⟨_, rfl, _, _, rfl, rfl, nex_err (e ⟨x, hm, hn⟩) (by omega) (by omega)⟩
    · obtain ⟨⟨⟨y, rfl⟩, rfl⟩, done⟩ := pv
      rw [List.length_map, List.take_length] at done
      refine ⟨_, rfl, a, rfl, ⟨_, hs⟩, fun M nM => lc_list (K := K) (a := a) (xs := ws.map V.str) (fun i Hi => Hi = upd H' M (.lst (((ws.take i).map numV).map V.int))) rfl (fun i Hi _ e => ?_) (fun i v Hi hx pv => ?_) fun Hi pv => ?_⟩
      · rw [e]
        exact (same_upd nM).seq hs
      · subst pv
        obtain ⟨x, rfl, hw1⟩ := str_at hx
        have hm := List.mem_of_getElem? hw1
        have hz := hw x hm
        refine ⟨rfl, ?_⟩
        refine ⟨_, rfl, x, numV x, rfl, num_read (done x hm) (by omega), by omega, _, upd_same, ?_, ?_⟩
        · rw [List.length_map, List.length_map, List.length_take]
          exact Nat.lt_of_le_of_lt (Nat.min_le_right _ _) (small1000 hl)
        · rw [upd_upd, List.take_add_one, hw1]
          simp
      · subst pv
        rw [List.length_map, List.take_length]
        refine ⟨M, _, rfl, .inl ⟨.inl (.inl upd_same), fun l nl => ?_⟩⟩
        exact q done _ l ((same_upd nM).trans (same_upd nl)) upd_same
/-- the words of a line -/
def wdsOf (x : Str) : List Str := Txt.split x " "
def spWords (K : PySem.W.Frag) (D : Addr) : Sp := fun vs H Q E => ∃ (a : Addr) (ls : List Str) (p : Nat), vs = [.ref a, .int (p : Int)] ∧ SqL K H a (ls.map V.str) ∧ p ≤ 1000 ∧ (∀ x, ls[p]? = some x → x.length ≤ 1000 ∧ ∀ H' b, Same H H' → H' b = some (.lst ((wdsOf x).map V.str)) → Q (.ref b) H') ∧ (ls.length ≤ p → NEx D ((p : Int) + 1) H E)
theorem ok_words {f f_e : Addr} {fd d_e : FuncData} (F : Fun K "words_at" "words_at" s_words_at f fd) (T : Bi mg) (U : NErC K mg D f_e d_e) (G_e : GE P w K mg base D f_e d_e) : FnOk P w K mg base (L2N.CX P w) 3 f fd ["lines", "place"] (spWords K D) := by
  refine okN F sc_words_at (fun vs H Q E h => ?_) (fun cdv A outer s H vs Q E hr h => ?_)
  · obtain ⟨a, ls, p, rfl, _⟩ := h
    rfl
  · obtain ⟨a, ls, p, rfl, hs, hp, q, e⟩ := h
    refine ⟨_, (pss_cons (ps_if (pt_cmpR op_ge (pv 1) (pe_callB call_len_seq (by rfl) T.b_len PySem.boot_len (pa_cons (pv 0) pa_nil)) (nomark _)) (pss_one (ps_errN rfl (L2N.takes_of rfl rfl rfl rfl) U.T U.R G_e (hr.mono (by decide)) U.b (by rfl) (pa_cons (pe_op op_add (pv 1) pe_int) pa_nil))) pss_nil)
        (pss_one (ps_ret (pe_split (pe_ix (r := rIxL K) ix_list (pv 0) (pv 1) (fun _ _ => rfl)) pe_str)))), ?_⟩
    refine ⟨_, rfl, _, rfl, a, _, rfl, .inl hs, _, _, rfl, rfl, _, rfl, ite2 (fun c => ?_) (fun c => ?_)⟩
    · have c1 : ((ls.map V.str).length : Int) ≤ (p : Int) := of_decide_eq_true c
      rw [List.length_map] at c1
      exact ⟨_, rfl, _, _, rfl, rfl, nex_err (e (by omega)) (by omega) (by omega)⟩
    · have c1 : ¬ ((ls.map V.str).length : Int) ≤ (p : Int) := fun z => c (decide_eq_true z)
      rw [List.length_map] at c1
      have hx : ls[p]? = some ls[p] := List.getElem?_eq_getElem (by omega)
      obtain ⟨hz, q⟩ := q _ hx
      generalize ls[p] = x at hx hz q
      refine ⟨_, rfl, _, rfl, a, _, _, _, rfl, rfl, hs, at_of (j := p) rfl (by rw [List.getElem?_map, hx]; rfl), ⟨_, rfl⟩, x, _, rfl, rfl, rfl, Nat.le_trans (Nat.add_le_add_right hz 2) (by decide), fun b nb => q _ b (same_upd nb) upd_same⟩
end
end Own

namespace Own
open PySem PySem.Spec PyProof.Rows L2 TL
theorem spl_ne (S : List Nat) : ∀ (l : List Nat) (k : Nat) (acc : List Nat), spl S k acc l ≠ []
  | [], k, acc => by rw [spl_nil]; simp
  | c :: r, 0, acc => by
    unfold spl
    split
    · simp
    · exact spl_ne S r 0 _
  | c :: r, k + 1, acc => by
    unfold spl
    exact spl_ne S r k acc
theorem spl_len (S : List Nat) : ∀ (l : List Nat) (k : Nat) (acc : List Nat), (spl S k acc l).length ≤ l.length + 1
  | [], k, acc => by rw [spl_nil]; simp
  | c :: r, 0, acc => by
    unfold spl
    split
    · have := spl_len S r (S.length - 1) []
      simp only [List.length_cons]
      omega
    · have := spl_len S r 0 (acc ++ [c])
      simp only [List.length_cons]
      omega
  | c :: r, k + 1, acc => by
    unfold spl
    have := spl_len S r k acc
    simp only [List.length_cons]
    omega
theorem spl_part (S : List Nat) : ∀ (l : List Nat) (k : Nat) (acc : List Nat), ∀ p ∈ spl S k acc l, p.length ≤ acc.length + l.length
  | [], k, acc => by
    rw [spl_nil]
    intro p hp
    rw [List.mem_singleton.mp hp]
    simp
  | c :: r, 0, acc => by
    unfold spl
    intro p hp
    split at hp
    · rcases List.mem_cons.mp hp with e | e
      · rw [e]
        omega
      · have := spl_part S r (S.length - 1) [] p e
        simp only [List.length_cons, List.length_nil] at *
        omega
    · have := spl_part S r 0 (acc ++ [c]) p hp
      simp only [List.length_cons, List.length_append, List.length_nil] at *
      omega
  | c :: r, k + 1, acc => by
    unfold spl
    intro p hp
    have := spl_part S r k acc p hp
    simp only [List.length_cons]
    omega
theorem split_tl (x y : Str) (c : Nat) (hy : tl y = [c]) (hc : c < 256) : (Txt.split x y).map tl = spl [c] 0 [] (tl x) := by
  have hk : y.cps.all (· < 256) = true := by
    rw [← Array.all_toList]
    show (tl y).all _ = true
    rw [hy]
    simp [hc]
  rw [split_spl x y (by rw [hy]; simp) (kind_ok hk), hy]
theorem split_facts (x y : Str) (c : Nat) (hy : tl y = [c]) (hc : c < 256) : Txt.split x y ≠ [] ∧ (Txt.split x y).length ≤ x.length + 1 ∧ ∀ p ∈ Txt.split x y, p.length ≤ x.length := by
  have e := split_tl x y c hy hc
  refine ⟨fun z => ?_, ?_, fun p hp => ?_⟩
  · rw [z] at e
    exact spl_ne _ _ _ _ e.symm
  · have := congrArg List.length e
    rw [List.length_map] at this
    rw [this, len_tl]
    exact spl_len _ _ _ _
  · have := spl_part [c] (tl x) 0 [] (tl p) (by rw [← e]; exact List.mem_map.mpr ⟨p, hp, rfl⟩)
    rw [len_tl, len_tl]
    simpa using this
theorem wds_facts (x : Str) : wdsOf x ≠ [] ∧ (wdsOf x).length ≤ x.length + 1 ∧ ∀ p ∈ wdsOf x, p.length ≤ x.length := split_facts x " " 32 rfl (by decide)
theorem cut_tail (ws : List Str) : cutV (ws.map V.str) (some 1) none = ws.tail.map V.str := by
  unfold cutV
  rw [show HT.sIx (ws.map V.str).length 0 (some 1) = min 1 (ws.map V.str).length from HT.sIx_nat _ _ 1, HT.sIx_none]
  cases ws with
  | nil => rfl
  | cons c r =>
    have e : min 1 ((c :: r).map V.str).length = 1 := by simp
    rw [e]
    show List.take ((r.map V.str).length + 1 - 1) (r.map V.str) = r.map V.str
    rw [Nat.add_sub_cancel, List.take_length]
/-- how many numbers stand behind each word -/
def CntAt (H : Hp) (c : Addr) (cnt : Str → Option Nat) : Prop := ∃ kvs : List (Key × V), H c = some (.dK kvs) ∧ ∀ x : Str, valV kvs (Sum.inr x) = (cnt x).map fun k => V.int (k : Nat)
theorem CntAt.same {H H' : Hp} {c : Addr} {cnt : Str → Option Nat} (s : Same H H') (h : CntAt H c cnt) : CntAt H' c cnt := let ⟨k, e, f⟩ := h; ⟨k, s _ _ e, f⟩
theorem CntAt.get {H : Hp} {c : Addr} {cnt : Str → Option Nat} (h : CntAt H c cnt) (x : Str) : DGet H c (.str x) ((cnt x).map fun k => V.int (k : Nat)) := by
  obtain ⟨k, e, f⟩ := h
  rw [← f x]
  exact DGet.k (k := Sum.inr x) e
/-- the word and the numbers of a line -/
def rdL (cnt : Str → Option Nat) (x : Str) : Option (Str × List Int) :=
  match wdsOf x with
  | [] => none
  | y :: r => match cnt y with
    | none => none
    | some k => if (r.all fun z => isNum (tl z)) = true ∧ r.length = k then some (y, r.map numV) else none
section
variable {P : Program} {w : World} {K : PySem.W.Frag} {mg : Str → Option Value} {base : Heap} {D : Addr}
def LineR (D : Addr) (o : Option (Str × List Int)) (p : Nat) (H : Hp) (Q : VK) (E : XK) : Prop := match o with
  | some d => ∀ H' b, Same H H' → H' b = some (.tup (.str d.1 :: d.2.map V.int)) → Q (.ref b) H'
  | none => NEx D ((p : Int) + 1) H E
def spLine (K : PySem.W.Frag) (D : Addr) : Sp := fun vs H Q E => ∃ (a c : Addr) (ls : List Str) (p : Nat) (cnt : Str → Option Nat), vs = [.ref a, .int (p : Int), .ref c] ∧ SqL K H a (ls.map V.str) ∧ CntAt H c cnt ∧ p ≤ 900 ∧ (∀ x, ls[p]? = some x → x.length ≤ 500 ∧ LineR D (rdL cnt x) p H Q E) ∧ (ls.length ≤ p → NEx D ((p : Int) + 1) H E)
theorem ok_line {f f_e : Addr} {fd d_e : FuncData} (F : Fun K "read_line" "read_line" s_read_line f fd) (T : Bi mg) (U : NErC K mg D f_e d_e) (G_e : GE P w K mg base D f_e d_e)
    {f_w : Addr} {d_w : FuncData} (D_w : Df K mg "words_at" s_words_at ["lines", "place"] f_w d_w) (G_w : FnOk P w K mg base (L2N.CX P w) 3 f_w d_w ["lines", "place"] (spWords K D))
    {f_n : Addr} {d_n : FuncData} (D_n : Df K mg "numbers_of" s_numbers_of ["words", "place"] f_n d_n) (G_n : FnOk P w K mg base (L2N.CX P w) 3 f_n d_n ["words", "place"] (spNums K D)) :
    FnOk P w K mg base (L2N.CX P w) 4 f fd ["lines", "place", "counts"] (spLine K D) := by
  refine okN F sc_read_line (fun vs H Q E h => ?_) (fun cdv A outer s H vs Q E hr h => ?_)
  · obtain ⟨a, c, ls, p, cnt, rfl, _⟩ := h
    rfl
  · obtain ⟨a, c, ls, p, cnt, rfl, hs, hc, hp, q, e⟩ := h
    refine ⟨_, (pss_cons (ps_set (i := 3) sc_read_line.nd rfl (.inl rfl) (pe_call G_w (hr.mono (by decide)) (by rfl) D_w.g D_w.F.kp D_w.b .nil (L2N.passes_call (L2N.takes_of rfl rfl rfl rfl) (fun _ _ _ _ h => h)) (pa_cons (pv 0) (pa_cons (pv 1) pa_nil))))
        (pss_cons (ps_if (pt_cmp (pc_dnotin (hu_of hr) (pe_ix (r := rIxL K) ix_list (pv 3) pe_int (fun _ _ => rfl)) (pv 2))) (pss_one (ps_errN rfl (L2N.takes_of rfl rfl rfl rfl) U.T U.R G_e (hr.mono (by decide)) U.b (by rfl) (pa_cons (pe_op op_add (pv 1) pe_int) pa_nil))) pss_nil)
        (pss_cons (ps_set (i := 4) sc_read_line.nd rfl (.inl rfl) (pe_call G_n (hr.mono (by decide)) (by rfl) D_n.g D_n.F.kp D_n.b .nil (L2N.passes_call (L2N.takes_of rfl rfl rfl rfl) (fun _ _ _ _ h => h)) (pa_cons (pe_slice sl_list (pv 3) (po_some pe_int) po_none) (pa_cons (pv 1) pa_nil))))
        (pss_cons (ps_set (i := 5) sc_read_line.nd rfl (.inl rfl) (pe_dget (hu_of hr) (pv 2) (pe_ix (r := rIxL K) ix_list (pv 3) pe_int (fun _ _ => rfl)) (fun _ _ => rfl)))
        (pss_cons (ps_if (PW.pt (pw_and (pt_cmpR op_notN (pv 5) pe_non (nomark _)) (pw_and1 (pt_cmpR op_ne (pe_callB call_len_seq (by rfl) T.b_len PySem.boot_len (pa_cons (pv 4) pa_nil)) (pv 5) (nomark _))))) (pss_one (ps_errN rfl (L2N.takes_of rfl rfl rfl rfl) U.T U.R G_e (hr.mono (by decide)) U.b (by rfl) (pa_cons (pe_op op_add (pv 1) pe_int) pa_nil))) pss_nil)
        (pss_one (ps_ret (pe_op op_catT (pe_tup (pa_cons (pe_ix (r := rIxL K) ix_list (pv 3) pe_int (fun _ _ => rfl)) pa_nil)) (pv 4))))))))), ?_⟩
    refine ⟨_, rfl, _, rfl, a, ls, p, rfl, hs, by omega, fun x hx => ?_, fun z => e z⟩
    obtain ⟨hz, q⟩ := q x hx
    refine ⟨by omega, fun H1 b s1 hb => ?_⟩
    obtain ⟨w0, wl, wp⟩ := wds_facts x
    unfold rdL at q
    cases hwd : wdsOf x with
    | nil => exact absurd hwd w0
    | cons y r =>
      rw [hwd] at hb wl wp q
      dsimp only at q
      have hB : SqL K H1 b ((y :: r).map V.str) := .inl (.inl hb)
      have hc1 := hc.same s1
      refine ⟨_, rfl, _, _, _, _, rfl, rfl, hB, at_of (j := 0) rfl rfl, _, rfl, c, _, rfl, hc1.get y, ?_⟩
      cases hcy : cnt y with
      | none =>
        rw [hcy] at q
        exact ⟨_, rfl, _, rfl, _, _, rfl, rfl, nex_err (NEx.same q s1) (by omega) (by omega)⟩
      | some k =>
        rw [hcy] at q
        dsimp only at q
        refine ⟨_, rfl, ?_⟩
        refine ⟨_, rfl, _, rfl, b, _, rfl, hB, fun t nt => ?_⟩
        rw [cut_tail]
        have s2 : Same H (upd H1 t (.lst (r.map V.str))) := s1.trans (same_upd nt)
        have hlr : r.length ≤ 500 := by simp only [List.length_cons] at wl; omega
        refine ⟨_, rfl, t, r, (p : Int), rfl, .inl (.inl upd_same), by omega, fun z hz2 => ?_, by omega, by omega, fun hall H3 n s3 hn => ?_, fun ⟨z, hzm, hzn⟩ => ?_⟩
        · have := wp z (List.mem_cons_of_mem _ hz2)
          omega
        · have s13 : Same H1 H3 := (same_upd nt).trans s3
          have hall2 : (r.all fun z => isNum (tl z)) = true := List.all_eq_true.mpr hall
          have hB3 : SqL K H3 b ((y :: r).map V.str) := .inl (.inl (s13 _ _ hb))
          have hn2 : SqT K H3 n ((r.map numV).map V.int) := .inl (.inl hn)
          have g3 := (hc.same (s1.trans s13)).get y
          rw [hcy] at g3
          refine ⟨_, rfl, _, rfl, _, _, _, _, rfl, rfl, hB3, at_of (j := 0) rfl rfl, c, _, rfl, g3, ?_⟩
          refine ⟨_, rfl, rfl, _, rfl, ?_⟩
          rw [show (!decide (V.int ((k : Nat) : Int) = V.non)) = true by rw [decide_eq_false (fun z => V.noConfusion z)]; rfl]
          refine ⟨_, rfl, n, _, rfl, .inr hn2, _, rfl, rfl, _, rfl, ?_⟩
          rw [List.length_map, List.length_map]
          by_cases hk : r.length = k
          · rw [if_pos ⟨hall2, hk⟩] at q
            rw [show (!decide (V.int ((r.length : Nat) : Int) = V.int ((k : Nat) : Int))) = false by rw [hk, decide_eq_true rfl]; rfl]
            refine ⟨_, rfl, _, _, _, _, rfl, rfl, hB3, at_of (j := 0) rfl rfl, by show 1 ≤ sizeLine; decide, fun m nm => ?_⟩
            have s4 : Same H3 (upd H3 m (.tup [.str y])) := same_upd nm
            have s5 := (s1.trans s13).trans s4
            refine ⟨_, rfl, m, n, [.str y], (r.map numV).map V.int, rfl, rfl, .inl (.inl upd_same), .inl (.inl (s4 _ _ hn)), by simp, ?_, fun e0 => ?_, fun e0 o no => ?_⟩
            · rw [List.length_map, List.length_map]
              show 1 + r.length ≤ sizeLine
              exact Nat.le_trans (by omega) (by decide : 600 ≤ sizeLine)
            · refine q _ m s5 ?_
              rw [show (y, r.map numV).2.map V.int = [] from e0]
              exact upd_same
            · exact q _ o (s5.trans (same_upd no)) upd_same
          · rw [if_neg (fun z => hk z.2)] at q
            rw [show (!decide (V.int ((r.length : Nat) : Int) = V.int ((k : Nat) : Int))) = true by rw [decide_eq_false (fun z => hk (Int.ofNat_inj.mp (V.int.inj z)))]; rfl]
            exact ⟨_, rfl, _, _, rfl, rfl, nex_err (NEx.same q (s1.trans s13)) (by omega) (by omega)⟩
        · rw [if_neg (fun w => by have := List.all_eq_true.mp w.1 z hzm; rw [hzn] at this; cases this)] at q
          exact NEx.same q s2
end
end Own

namespace Own
open PySem PySem.Spec PyProof.Rows L2
/-! ### a dict of the module's own top: texts to whole numbers -/
def KLit (P : Params) : List DictEntry → List (Str × Int) → Prop
  | [], [] => True
  | e :: r, p :: q => (∃ t u, e.key = .str p.1 t ∧ e.hash = PyData.keyHash P p.1 ∧ e.val = .int p.2 u) ∧ KLit P r q
  | _, _ => False
/-- the dict's entries -/
def kvsOf (ps : List (Str × Int)) : List (Key × V) := ps.map fun p => (Sum.inr p.1, V.int p.2)
/-- a is such a dict -/
structure KTab (K : PySem.W.Frag) (w : World) (a : Addr) (ps : List (Str × Int)) : Prop where
  look : ∃ es n, K.lookup a = some ⟨.type "dict", none, .dict es n, #[]⟩ ∧ KLit w.params es.toList ps
  low : (a == sysModules) = false
  nd : (ps.map (·.1)).Nodup
  few : ps.length ≤ 1000
theorem klit_keys {prog : Program} {w : World} : ∀ {l : List DictEntry} {ps : List (Str × Int)}, KLit w.params l ps → (∀ e ∈ l, ∃ k, (mixKind prog w).is k e.key = true ∧ e.hash = (mixKind prog w).hash k) ∧
    ∃ vs, Pairs (mixKind prog w) l vs ∧ KV (kvsOf ps) vs ∧ vs.map (·.1) = ps.map fun p => Sum.inr p.1
  | [], [], _ => ⟨(fun e h => nomatch h), [], .nil, .nil, rfl⟩
  | e :: r, p :: q, h => by
    obtain ⟨⟨t, u, h1, h2, h3⟩, h4⟩ := h
    obtain ⟨a, vs, b, c, d⟩ := klit_keys (prog := prog) h4
    refine ⟨fun e' he => ?_, (Sum.inr p.1, .int p.2 u) :: vs, .cons ?_ h3 b, .cons ⟨rfl, ⟨u, rfl⟩⟩ c, ?_⟩
    · rcases List.mem_cons.mp he with rfl | he
      · exact ⟨Sum.inr p.1, by rw [h1]; exact keyIs_str p.1 t, h2⟩
      · exact a e' he
    · rw [h1]
      exact keyIs_str p.1 t
    · show Sum.inr p.1 :: vs.map (·.1) = Sum.inr p.1 :: q.map _
      rw [d]
  | [], _ :: _, h => h.elim
  | _ :: _, [], h => h.elim
theorem KTab.dict {prog : Program} {K : PySem.W.Frag} {w : World} {a : Addr} {ps : List (Str × Int)} {h : Heap} (T : KTab K w a ps) (X : K.In h) : ∃ vs, KV (kvsOf ps) vs ∧ h.DictOf (mixKind prog w) a vs := by
  obtain ⟨es, n, hl, hk⟩ := T.look
  obtain ⟨k, vs, p, r, m⟩ := klit_keys (prog := prog) hk
  refine ⟨vs, r, _, es, n, X _ _ hl, ⟨rfl, rfl, rfl⟩, rfl, fun e he => k e (Array.mem_toList_iff.mpr he), p, ?_⟩
  rw [m]
  exact List.pairwise_map.mpr ((List.pairwise_map.mp T.nd).imp fun h e => h (Sum.inr.inj e))
def valN (ps : List (Str × Int)) (x : Str) : Option Int := (ps.find? fun p => decide (p.1 = x)).map (·.2)
theorem valN_eq (ps : List (Str × Int)) (x : Str) : valV (kvsOf ps) (Sum.inr x) = (valN ps x).map V.int := by
  unfold valV valN kvsOf
  induction ps with
  | nil => rfl
  | cons p r ih =>
    rw [List.map_cons, List.find?_cons, List.find?_cons]
    show Option.map _ (match decide ((Sum.inr p.1 : Key) = Sum.inr x) with | true => _ | false => _) = _
    rw [key_rr]
    cases decide (p.1 = x) with
    | true => rfl
    | false => exact ih
section
variable {X : Cx}
/-- x not in D, D a dict of the top -/
def tNotInK (K : PySem.W.Frag) (w : World) (ty td : TE) : TE := fun σ H Q => ty σ H fun y H1 => td σ H1 fun x H2 => ∃ (a : Addr) (ps : List (Str × Int)) (z : Str), x = .ref a ∧ y = .str z ∧ KTab K w a ps ∧ Q (.bl (!(valN ps z).isSome)) H2
theorem pc_knotin {i o : Expr} {ty td : TE} (hi : PE X i ty) (ho : PE X o td) : PC X .NotIn i o (tNotInK X.K X.w ty td) := by
  constructor
  intro pins s σ H Q I h
  refine thn (hi.run pins s σ H _ I h) fun iv s1 ⟨y, H1, I1, ry, q1⟩ => thn (ho.run pins s1 σ H1 _ I1 q1) fun u s2 ⟨x, H2, I2, rx, a, ps, z, ex, ey, T, q2⟩ => ?_
  subst ex
  subst ey
  obtain rfl : u = Value.ref a := rx
  obtain ⟨vs, rel, dd⟩ := T.dict (prog := X.prog) I2.kIn
  refine wpAny_notIn_of (kV_is (k := Sum.inr z) ry) T.low dd.mapOf ?_
  rw [← (rel.val (Sum.inr z)).isSome_eq, valN_eq, Option.isSome_map]
  exact ⟨.bl (!(valN ps z).isSome), H2, I2.tok _, rfl, q2⟩
/-- D[x] -/
theorem ktab_dct {K : PySem.W.Frag} {w : World} {a : Addr} {ps : List (Str × Int)} (T : KTab K w a ps) {z : Str} {i : Int} (h : valN ps z = some i) : KDct K w a z (.int i) := by
  obtain ⟨es, n, hl, hk⟩ := T.look
  have keys : ∀ {l : List DictEntry} {ps : List (Str × Int)}, KLit w.params l ps → PySem.W.KeysLit w.params l ∧ (valN ps z = some i → ∃ t, (l.find? fun d => d.key.isStr z).map (·.val) = some (.int i t)) := by
    intro l
    induction l with
    | nil =>
      intro ps h
      cases ps with
      | nil => exact ⟨trivial, fun z => by cases z⟩
      | cons _ _ => exact h.elim
    | cons e r ih =>
      intro ps h
      cases ps with
      | nil => exact h.elim
      | cons p q =>
        obtain ⟨⟨t, u, h1, h2, h3⟩, h4⟩ := h
        obtain ⟨k1, k2⟩ := ih h4
        refine ⟨⟨⟨p.1, t, h1, h2⟩, k1⟩, fun hv => ?_⟩
        unfold valN at hv k2
        rw [List.find?_cons] at hv ⊢
        have e1 : e.key.isStr z = decide (p.1 = z) := by
          rw [h1]
          show (p.1 == z) = _
          by_cases hz : p.1 = z
          · rw [decide_eq_true hz, hz]
            exact beq_self_eq_true z
          · rw [decide_eq_false hz]
            exact beq_eq_false_iff_ne.mpr hz
        rw [e1]
        by_cases hz : p.1 = z
        · rw [decide_eq_true hz] at hv ⊢
          have : p.2 = i := Option.some.inj hv
          exact ⟨u, by rw [← this, ← h3]; rfl⟩
        · rw [decide_eq_false hz] at hv ⊢
          exact k2 hv
  obtain ⟨k1, k2⟩ := keys hk
  obtain ⟨t, k2⟩ := k2 h
  refine ⟨es, n, .int i t, hl, k1, ?_, ⟨t, rfl⟩⟩
  unfold PySem.W.nsIn
  rw [hl]
  dsimp only
  cases e : es.toList.find? fun d => d.key.isStr z with
  | none => rw [e] at k2; cases k2
  | some d =>
    rw [e] at k2
    simp only [Option.map_some, Option.some.injEq] at k2 ⊢
    first | rw [k2] | (simp [k2])
/-- dict(D) -/
theorem call_dictK : CallR X (.type "dict") (fun xs H Q => ∃ (a : Addr) (ps : List (Str × Int)), xs = [.ref a] ∧ KTab X.K X.w a ps ∧ ∀ p, H p = none → Q (.ref p) (upd H p (.dK (kvsOf ps)))) := by
  intro pins s σ H xs us Q I r h
  obtain ⟨a, ps, rfl, T, q⟩ := h
  obtain ⟨u, rfl, rx⟩ := vals1 r
  cases rx
  obtain ⟨vs, rel, dd⟩ := T.dict (prog := X.prog) I.kIn
  have few : vs.length ≤ sizeLine := by
    rw [← rel.length]
    unfold kvsOf
    rw [List.length_map]
    exact Nat.le_trans T.few (by decide)
  refine kt_call_dict T.low dd few fun h' d' hs => ?_
  have hm : (s.heap.objs.size == sysModules) = false := beq_eq_false_iff_ne.mpr (Nat.ne_of_gt I.big)
  have few2 : (kvsOf ps).length ≤ sizeLine := by rw [rel.length]; exact few
  exact ⟨.ref s.heap.objs.size, upd H s.heap.objs.size (.dK (kvsOf ps)), I.laid (t' := s.toks) (fun b u e => (hs.2 b (Nat.ne_of_lt (Heap.lt_size e))).trans (Heap.get?_push_of_some _ e)) (Nat.le_refl _)
    (show ObjOk X.prog X.w _ _ _ (.dK (kvsOf ps)) from ⟨few2, hm, vs, rel, d'⟩), rfl, q _ (I.hok.fresh (Nat.le_refl _))⟩
end
end Own

namespace PySem
/-! ### enumerate of a tuple -/
theorem meets_enum_tup (l : Addr) (items : Array Value) (n : Nat) (dct : Option Addr) (sl : Array (Option Value)) :
    Meets (Builtin.«enumerate.__new__» ⟨[.type "enumerate", .ref l], []⟩) (fun _ R t => t.heap.get? l = some { cls := .type "tuple", dict := dct, data := .seq items n, slots := sl } ∧
      R (.ok (.ret (.ref (t.heap.push { cls := .type "tuple_iterator", data := .fields #[.ref l, .int 0 0] }).objs.size)))
        { t with heap := (t.heap.push { cls := .type "tuple_iterator", data := .fields #[.ref l, .int 0 0] }).push { cls := .type "enumerate", data := .fields #[.none, .bool false, .ref t.heap.objs.size, rawInt 0, .none, .none] } }) :=
  .of_wp fun prog w A R s hyp => by
    obtain ⟨hp, g, d, tk, os⟩ := s
    obtain ⟨at_, go⟩ := hyp
    have sub := sub_enumerate
    have tup : Heap.IsTuple (Shared.heap ⟨hp, g, d, tk, os⟩) l items := ⟨_, at_, rfl, n, rfl⟩
    wp_walk using AutoSeq1.wpAny_loadPart' at_
    refine wpAny_stack_any fun st => wpAny_pure ?_
    split
    · rename_i c _ _ _ _ _
      cases (c == Value.type "enumerate") <;> (wp_walk using AutoSeq1.wpAny_loadPart' at_, wpAny_pyIter_tuple tup; exact ⟨_, rfl, go⟩)
    · wp_walk using AutoSeq1.wpAny_loadPart' at_, wpAny_pyIter_tuple tup
      exact ⟨_, rfl, go⟩
theorem call_enum_tup {prog : Program} {w : World} {A : Around} {E : Value → Shared → Prop} {s : Shared} {l : Addr} {items : Array Value} {Q : Value → Shared → Prop} (hL : s.heap.IsTuple l items)
    (h : ∀ g, IsEnum g (s.heap.objs.size + 1) s.heap.objs.size 0 .none → g.IsTupleIter s.heap.objs.size l 0 → g.objs.size = s.heap.objs.size + 2 →
      (∀ b o, s.heap.get? b = some o → g.get? b = some o) → Q (.ref (s.heap.objs.size + 1)) { s with heap := g }) :
    wpAny (model prog w) A (call (.type "enumerate") [.ref l]) Q E s := by
  obtain ⟨⟨c, dct, dt, sl⟩, hl, hc, n, hd⟩ := hL
  replace hc : c = .type "tuple" := hc
  replace hd : dt = .seq items n := hd
  subst hc hd
  refine callType_new F.called_enumerate (by decide) (F.typeCall_enumerate_1 _) (F.newCall_enumerate_1 _) (fun obj => F.args_object_init_2 obj _) F.entry_enumerate_new (meets_enum_tup l items n dct sl) ⟨hl, ?_⟩
  generalize hP : s.heap.push { cls := .type "tuple_iterator", data := .fields #[.ref l, .int 0 0] } = P
  have hz : P.objs.size = s.heap.objs.size + 1 := by rw [← hP]; exact Heap.size_push ..
  have hi : P.get? s.heap.objs.size = some { cls := .type "tuple_iterator", data := .fields #[.ref l, .int 0 0] } := by rw [← hP]; exact Heap.get?_push_size _ rfl
  have hk : ∀ b o, s.heap.get? b = some o → P.get? b = some o := fun b o e => by rw [← hP]; exact Heap.get?_push_of_some _ e
  show _ ∧ _
  rw [hz]
  have he : IsEnum (P.push { cls := .type "enumerate", data := .fields #[.none, .bool false, .ref s.heap.objs.size, rawInt 0, .none, .none] }) (s.heap.objs.size + 1) s.heap.objs.size 0 .none := by
    have q := Heap.get?_push_size P (o := { cls := .type "enumerate", data := .fields #[.none, .bool false, .ref s.heap.objs.size, rawInt 0, .none, .none] }) rfl
    rw [hz] at q
    exact q
  exact ⟨⟨_, he, rfl⟩, h _ he ⟨_, Heap.get?_push_of_some _ hi, rfl, rfl⟩ (by rw [Heap.size_push, hz]) fun b o x => Heap.get?_push_of_some _ (hk b o x)⟩
end PySem
namespace Own
open PySem PySem.Spec PyProof.Rows L2
/-- the items of the tuple at a, each in a new pair behind its place -/
def Itet (K : PySem.W.Frag) (a : Addr) : It :=
  ⟨fun i H => ∃ (xs : List V) (x : V), SqT K H a xs ∧ xs[i]? = some x, fun i H v H' => ∃ T x, v = .ref T ∧ H T = none ∧ H' = upd H T (.tup [.int (i : Nat), x]) ∧ ∀ xs, SqT K H a xs → xs[i]? = some x, fun i H => ∃ xs : List V, SqT K H a xs ∧ xs.length ≤ i⟩
theorem turn_enumT {P : Program} {w : World} {K : PySem.W.Frag} {elts : List Expr} {kk : Nat} {tpos : Pos} (a e it : Addr) :
    Turn P w K (.Tuple elts kk tpos) (Itet K a) [e, it] e (fun i g => (∃ old, IsEnum g e it ((i : Nat) : Int) old) ∧ g.IsTupleIter it a i ∧ e ≠ it) where
  mem := by simp
  obj := fun i g st b hb => by
    obtain ⟨⟨old, he⟩, ⟨o, ho, hc, hd⟩, _⟩ := st
    rcases (show b = e ∨ b = it by simpa using hb) with z | z
    · rw [z]; exact ⟨_, he, fun v q => nomatch q⟩
    · rw [z]; exact ⟨o, ho, fun v q => by rw [hd] at q; cases q⟩
  keep := fun i g g' st k => let ⟨⟨old, he⟩, hi, hne⟩ := st; ⟨⟨old, k e (by simp) _ he⟩, hi.at fun o q => k it (by simp) o q, hne⟩
  item := by
    intro X hP hw hK hc i pins s σ H E I hf st hg
    subst hP hw hK
    obtain ⟨⟨old, he⟩, hit, hne⟩ := st
    obtain ⟨xs, x, hq, hx⟩ := hg
    obtain ⟨its, rv, p, hz⟩ := I.tuple hq
    obtain ⟨u, hu, ru⟩ := rv.get hx
    have ht : s.heap.IsTuple a its.toArray := p
    have hel : e < s.heap.objs.size := Heap.lt_size he
    have hil : it < s.heap.objs.size := by obtain ⟨_, q, _⟩ := hit; exact Heap.lt_size q
    have nea : a ≠ it := fun z => by
      obtain ⟨o, e1, c1, _⟩ := hit
      obtain ⟨o2, e2, c2, _⟩ := ht
      rw [z, e1] at e2; cases e2
      rw [c1] at c2
      exact absurd (Value.type.inj c2) (by decide)
    have nee : e ∉ [it, a] := fun z => by
      rcases (show e = it ∨ e = a by simpa using z) with z | z
      · exact hne z
      · obtain ⟨o2, e2, c2, _⟩ := ht
        rw [← z, he] at e2; cases e2
        exact absurd (Value.type.inj c2) (by decide)
    have D := Draws.tuple (prog := X.prog) (w := X.w) (A := X.A.in1) (I.ok.hd hc) it a nea its.toArray
    have hlt : i < its.toArray.size := by
      have := (List.getElem?_eq_some_iff.mp hu).1
      simpa using this
    refine wpAny_pyNext_enum_itemD D he ⟨hit, ht⟩ hlt hne nee fun y h' tk hy ho hst hT hsz hk => ?_
    have ey : y = u := by
      have z : its.toArray[i]? = some u := by simpa using hu
      rw [z] at hy
      exact (Option.some.inj hy).symm
    subst ey
    refine ⟨_, rfl, wpAny_letOwnedTupleGo_enum (s := { s with heap := h', toks := tk + 1 }) ho fun h'' he' sb => ?_⟩
    have hT2 : h''.get? s.heap.objs.size = some { cls := .type "tuple", data := .seq #[.int i tk, y] } := (sb.2 _ (Nat.ne_of_gt hel)).trans hT
    have new : ObjOk X.prog X.w (upd H s.heap.objs.size (.tup [.int (i : Nat), x])) h'' s.heap.objs.size (.tup [.int (i : Nat), x]) :=
      ⟨by show 2 ≤ sizeLine; decide, [.int i tk, y], .cons ⟨_, rfl⟩ (.cons ru .nil), ⟨_, hT2, rfl, _, rfl⟩⟩
    have I1 : Inv X pins σ (upd H s.heap.objs.size (.tup [.int (i : Nat), x])) { s with heap := h'', toks := tk + 1 } :=
      I.turnedNew (ch := [e, it]) (fun b ob hb q => (sb.2 b (fun z => hb (by simp [z]))).trans (hk b ob (fun z => hb (by simp [z])) (fun z => hb (by simp [z])) q)) hf (Nat.le_refl _) new
    refine ⟨.ref s.heap.objs.size, _, I1, rfl, ⟨_, x, rfl, I.hok.fresh (Nat.le_refl _), rfl, fun ys hy2 => by rw [I.tuple_inj hy2 hq]; exact hx⟩, ⟨⟨y, ?_⟩, hst.1.at fun o q => (sb.2 it (Ne.symm hne)).trans q, hne⟩, fun b hb => ?_⟩
    · rw [show ((i + 1 : Nat) : Int) = (i : Int) + 1 by omega]
      exact he'
    · have hb' : b < s.heap.objs.size := by
        rcases (show b = e ∨ b = it by simpa using hb) with z | z
        · rw [z]; exact hel
        · rw [z]; exact hil
      rw [upd_ne (Nat.ne_of_lt hb')]
      exact (hf b hb).1
  done := by
    intro X hP hw hK hc i pins s σ H E I hf st hg
    subst hP hw hK
    obtain ⟨⟨old, he⟩, hit, hne⟩ := st
    obtain ⟨xs, hq, hx⟩ := hg
    obtain ⟨its, rv, p, hz⟩ := I.tuple hq
    obtain ⟨f0, f1, f2, f3, f4, f5⟩ := hf it (by simp)
    have hl := rv.length
    have ht : s.heap.IsTuple a its.toArray := p
    have hT : s.TypeIs (.ref e) "enumerate" := ⟨_, he, rfl⟩
    unfold pyNext
    refine wpAny_bind (wpAny_attempt (wpAny_callSpecial?_slot (name := Str.ofString "__next__") hT F.slot_enumerate_next
      (wpAny_call_entry F.slot_enumerate_next hT F.entry_enumerate_next ?_ (F.args_enumerate_next_1 _))))
    show wpAny _ _ (field (.ref e) 2 >>= _) _ _ _
    refine wpAny_bind (wpAny_field he rfl (x := .ref it) rfl ?_)
    refine wpAny_bind (wpAny_nextOf_tuple_end (I.ok.hd hc) hit ht (by simp; omega) fun h' x he' hx' => ?_)
    obtain ⟨o, ho, hcl⟩ := hx'
    refine wpAny_bind (wpAny_isInstance (T := "StopIteration") (b := true) ⟨o, ho, hcl⟩ isSubtype_stop ?_)
    exact wpAny_pure ⟨rfl, I.turned (t' := s.toks) (fun b o hb q => he' b o hb q) f0 f1 f3 f4 f5⟩
  self := fun A i s Q E st h => let ⟨⟨_, he⟩, _⟩ := st; wpAny_pyIter_enum he h
/-- enumerate of a list or a tuple -/
def iEnumB (K : PySem.W.Frag) (ta : TA) : TI := fun σ H R => ta σ H fun vs H1 => ∃ a xs, vs = [.ref a] ∧ ((SqL K H1 a xs ∧ R (Ite K a) H1) ∨ (SqT K H1 a xs ∧ R (Itet K a) H1))
theorem pi_enumB {X : Cx} {e : Expr} {ta : TA} {p pos tpos : Pos} {elts : List Expr} {kk : Nat} (hg : Gl X "enumerate") (hm : X.mg "enumerate" = none) (ha : PA X [e] ta) (hs : starEach [e] X.env = [(false, eval e X.env)] := by rfl) :
    PI X (.Tuple elts kk tpos) (.Call (.Name "enumerate" p) [e] [] pos) (iEnumB X.K ta) := by
  constructor
  intro pins s σ H R I h
  refine Call_ (ld_blt I hg hm boot_enumerate (PyProof.Rows.callWith_type1 (thn (ha.run pos pins s σ H _ I h) fun us s1 ⟨vs, H1, I1, r1, q1⟩ => ?_) hs rfl))
  obtain ⟨a, xs, ex, q⟩ := q1
  subst ex
  obtain ⟨v, rfl, rv⟩ := vals1 r1
  cases rv
  have fresh : ∀ b ∈ [s1.heap.objs.size + 1, s1.heap.objs.size], FpOk X pins H1 b := fun b hb => by
    have hle : s1.heap.objs.size ≤ b := by
      rcases (show b = s1.heap.objs.size + 1 ∨ b = s1.heap.objs.size by simpa using hb) with z | z
      · rw [z]; exact Nat.le_add_right _ _
      · rw [z]; exact Nat.le_refl _
    exact I1.fpOk hle (I1.hok.fresh hle)
  rcases q with ⟨hq, q⟩ | ⟨hq, q⟩
  · obtain ⟨its, rv, p', hz⟩ := I1.list hq
    refine call_enumerate_list p'.isList fun h' he hit hsz hk => wpAny_pyIter_enum he ?_
    exact ⟨s1.heap.objs.size + 1, [s1.heap.objs.size + 1, s1.heap.objs.size], _, _, H1, rfl, I1.kept (t' := s1.toks) hk, turn_enum a (s1.heap.objs.size + 1) s1.heap.objs.size, ⟨⟨.none, he⟩, hit, Nat.succ_ne_self _⟩, fresh, q⟩
  · obtain ⟨its, rv, p', hz⟩ := I1.tuple hq
    refine call_enum_tup (show s1.heap.IsTuple a its.toArray from p') fun h' he hit hsz hk => wpAny_pyIter_enum he ?_
    exact ⟨s1.heap.objs.size + 1, [s1.heap.objs.size + 1, s1.heap.objs.size], _, _, H1, rfl, I1.kept (t' := s1.toks) hk, turn_enumT a (s1.heap.objs.size + 1) s1.heap.objs.size, ⟨⟨.none, he⟩, hit, Nat.succ_ne_self _⟩, fresh, q⟩
end Own

namespace Own
open PySem PySem.Spec PyProof.Rows L2
/-! ### a dict of the top, walked by its keys -/
def Itw (ps : List (Str × Int)) : It := ⟨fun i _ => i < ps.length, fun i H x H' => H' = H ∧ ∃ p, ps[i]? = some p ∧ x = .str p.1, fun i _ => ps.length ≤ i⟩
theorem KTab.at_ {X : Cx} {pins : List (Addr × Obj)} {σ : L2.St} {H : Hp} {s : Shared} {a : Addr} {ps : List (Str × Int)} (T : KTab X.K X.w a ps) (I : Inv X pins σ H s) {es : Array DictEntry} {ep : Nat} (hl : X.K.lookup a = some ⟨.type "dict", none, .dict es ep, #[]⟩) :
    s.heap.get? a = some ⟨.type "dict", none, .dict es ep, #[]⟩ ∧ es.size = ps.length ∧ ∃ vs, KV (kvsOf ps) vs ∧ s.heap.DictAt (mixKind X.prog X.w) a vs ep := by
  obtain ⟨es', n, hl', hk⟩ := T.look
  rw [hl'] at hl
  have e := Obj.mk.inj (Option.some.inj hl)
  obtain ⟨rfl, rfl⟩ : es' = es ∧ n = ep := by
    have := e.2.2.1
    cases this
    exact ⟨rfl, rfl⟩
  obtain ⟨k, vs, p, r, m⟩ := klit_keys (prog := X.prog) hk
  have hg := I.kIn _ _ hl'
  refine ⟨hg, ?_, vs, r, _, es', hg, ⟨rfl, rfl, rfl⟩, rfl, fun e he => k e (Array.mem_toList_iff.mpr he), p, ?_⟩
  · have h1 := p.length
    have h2 : (vs.map (·.1)).length = (ps.map fun p => (Sum.inr p.1 : Key)).length := congrArg List.length m
    rw [List.length_map, List.length_map] at h2
    rw [← h2, ← h1, Array.length_toList]
  · rw [m]
    exact List.pairwise_map.mpr ((List.pairwise_map.mp T.nd).imp fun h e => h (Sum.inr.inj e))
theorem kvsOf_get {ps : List (Str × Int)} {i : Nat} {p : Str × Int} (h : ps[i]? = some p) : (kvsOf ps)[i]? = some (Sum.inr p.1, V.int p.2) := by
  unfold kvsOf
  rw [List.getElem?_map, h]
  rfl
theorem turn_keysW {P : Program} {w : World} {K : PySem.W.Frag} {tg : Expr} {a it : Addr} {ps : List (Str × Int)} {es : Array DictEntry} {ep : Nat} (T : KTab K w a ps) (hl : K.lookup a = some ⟨.type "dict", none, .dict es ep, #[]⟩) : Turn P w K tg (Itw ps) [it] it (fun i h => h.IsKeyIter it a i ps.length ep) where
  mem := by simp
  obj := fun i h st b hb => by
    have e : b = it := by simpa using hb
    subst e
    obtain ⟨oi, e, c, dd⟩ := st
    exact ⟨oi, e, fun v z => by rw [dd] at z; cases z⟩
  keep := fun i h h' st k => st.at fun oi e => k it (by simp) oi e
  item := by
    intro X hP hw hK hc i pins s σ H E I hf st hg
    subst hP hw hK
    obtain ⟨f0, f1, f2, f3, f4, f5⟩ := hf it (by simp)
    have hi : i < ps.length := hg
    obtain ⟨hgd, hsz, vs, kv, hm⟩ := T.at_ I hl
    obtain ⟨p, hp⟩ : ∃ p, ps[i]? = some p := ⟨ps[i], List.getElem?_eq_getElem hi⟩
    obtain ⟨u, hu, ru⟩ := kv_get kv (kvsOf_get hp)
    have hlv : ps.length = vs.length := by
      have := Paired.length kv
      unfold kvsOf at this
      rw [List.length_map] at this
      exact this
    rw [hlv] at st
    refine wpAny_pyNext_dict_item st hm hu fun key h' hkey st' sb => ?_
    have I1 : Inv X pins σ H { s with heap := h' } := I.turned (t' := s.toks) (fun b ob hb e => (sb.2 b hb).trans e) f0 f1 f3 f4 f5
    obtain ⟨oi, e, c, dd⟩ := id st'
    refine ⟨key, rfl, go_of (s := { s with heap := h' }) e c dd (by decide) ⟨.str p.1, H, I1, relV_key (k := Sum.inr p.1) (show keyIs (Sum.inr p.1) key = true from hkey), ⟨rfl, p, hp, rfl⟩, ?_, fun b hb => (hf b hb).1⟩⟩
    show h'.IsKeyIter it a (i + 1) ps.length _
    rw [hlv]
    exact st'
  done := by
    intro X hP hw hK hc i pins s σ H E I hf st hg
    subst hP hw hK
    obtain ⟨f0, f1, f2, f3, f4, f5⟩ := hf it (by simp)
    have hi : ps.length ≤ i := hg
    obtain ⟨hgd, hsz, vs, kv, hm⟩ := T.at_ I hl
    exact next_key_end (I.ok.hd hc) st hgd rfl hsz hi fun h' eb => ⟨rfl, I.turned (t' := s.toks) (fun b ob hb e => eb b ob hb e) f0 f1 f3 f4 f5⟩
  self := fun A i s Q E st h => wpAny_pyIter_keyiter st h
def iKeysW (K : PySem.W.Frag) (w : World) (td : TE) : TI := fun σ H R => td σ H fun x H1 => ∃ (a : Addr) (ps : List (Str × Int)), x = .ref a ∧ KTab K w a ps ∧ R (Itw ps) H1
theorem pi_keysW {X : Cx} {tg e : Expr} {td : TE} (he : PE X e td) : PI X tg e (iKeysW X.K X.w td) := by
  refine ⟨fun pins s σ H R I h => ?_⟩
  refine thn (he.run pins s σ H _ I h) fun u s1 ⟨x, H1, I1, rx, a, ps, ex, T, q⟩ => ?_
  subst ex
  obtain rfl : u = Value.ref a := rx
  obtain ⟨es, ep, hl, hk⟩ := T.look
  obtain ⟨hgd, hsz, vs, kv, hm⟩ := T.at_ I1 hl
  refine iter_keys T.low hgd ⟨rfl, rfl, rfl⟩ rfl (pi_one (tk := s1.toks) I1 _ (turn_keysW T hl) ⟨_, Heap.get?_push_size _ rfl, rfl, ?_⟩ q)
  rw [hsz] <;> rfl
theorem walk_keysW {ps : List (Str × Int)} : Walk (Itw ps) ps.length (fun _ => True) (fun i H v H' => H' = H ∧ ∃ p, ps[i]? = some p ∧ v = .str p.1) where
  goes := fun i H hi _ => hi
  stops := fun H _ => Nat.le_refl _
  yields := fun i H v H' hi _ y => y
/-- a dict comprehension over such a walk -/
theorem dc_keysW {ps : List (Str × Int)} {g : TG} {tt : TT} {tk tv : TE} {vs : List Nat} {σ : L2.St} {H1 : Hp} {D : Addr} {Qd : Hp → Prop} (Pv : Nat → Hp → Prop) (h0 : Pv 0 (upd H1 D (.dK [])))
    (hs : ∀ i p H, ps[i]? = some p → Pv i H → g (.str p.1) (wipe σ vs) H fun σ2 H2 => wipe σ2 vs = wipe σ vs ∧ tt σ2 H2 fun b H3 =>
      if b = true then tk σ2 H3 fun y H4 => tv σ2 H4 fun z H5 => ∃ kvs k, y = kV k ∧ H5 D = some (.dK kvs) ∧ kvs.length < sizeLine ∧ Pv (i + 1) (upd H5 D (.dK (putK kvs k z))) else Pv (i + 1) H3) (hd : ∀ H, Pv ps.length H → Qd H) :
    ∃ W : Nat → Nat → Hp → Prop, (∃ m, W 0 m (upd H1 D (.dK []))) ∧ ∀ i m H, W i m H →
      ((Itw ps).stop i H ∧ Qd H) ∨ ((Itw ps).go i H ∧ ∃ Nx : Hp → Prop, (∀ H', Nx H' → ∃ m', m' < m ∧ W (i + 1) m' H') ∧ ∀ x H', (Itw ps).yld i H x H' → g x (wipe σ vs) H' fun σ2 H2 => wipe σ2 vs = wipe σ vs ∧ tt σ2 H2 fun b H3 =>
        if b = true then tk σ2 H3 fun y H4 => tv σ2 H4 fun z H5 => ∃ kvs k, y = kV k ∧ H5 D = some (.dK kvs) ∧ kvs.length < sizeLine ∧ Nx (upd H5 D (.dK (putK kvs k z))) else Nx H3) := by
  refine ⟨fun i m H => m = ps.length - i ∧ i ≤ ps.length ∧ Pv i H, ⟨ps.length, by simp, Nat.zero_le _, h0⟩, ?_⟩
  rintro i m H ⟨rfl, hi, p⟩
  by_cases hlt : i < ps.length
  · refine .inr ⟨hlt, Pv (i + 1), fun H' p' => ⟨ps.length - (i + 1), by omega, rfl, hlt, p'⟩, fun x H' y => ?_⟩
    obtain ⟨e, q, hq, rfl⟩ := y
    subst e
    exact hs i q _ hq p
  · have e : i = ps.length := by omega
    subst e
    exact .inl ⟨Nat.le_refl _, hd H p⟩
end Own

/-! What a value looks like in an error's text, whatever is under way: some text of bounded length. -/
namespace Own
open PySem PySem.Spec PyProof.Rows L2
section
variable {prog : Program} {w : World} {A : Around} {E : Value → Shared → Prop} {s : Shared} {a : Addr} {oa : Obj} {x : Value} {l : List Value} {na : Nat} {ts : List Str}
/-- repr of a list of plain things -/
theorem shown_list {Q : Value → Shared → Prop} (hTy : s.TypeIs (.ref a) "list") (ha : s.heap.get? a = some oa) (hda : oa.data = .seq (x :: l).toArray na) (hlen : ts.length = (x :: l).toArray.size)
    (hT : ∀ (i : Nat) (y : Value), (x :: l).toArray[i]? = some y → ∃ t, ts[i]? = some t ∧ ReprIs prog w y t) (hsz : (listText ts).length ≤ sizeLine)
    (hQ : ∀ h' m u tk, (∀ b o, s.heap.get? b = some o → h'.get? b = some o) → m.length ≤ (listText ts).length + 5 → Q (.str m u) { s with heap := h', toks := tk }) : wpAny (model prog w) A (call (.builtin "list.__repr__") [.ref a]) Q E s := by
  refine wpAny_call (codeAny_call_builtin F.slot_list_repr.plain F.entry_list_repr (F.slot_list_repr.check _ _ _ _ _ _ _ _ hTy (F.args_list_repr_1 _) ?_))
  show wpAny _ _ (Builtin.listReprAt 0 ⟨[.ref a], []⟩) _ _ s
  unfold Builtin.listReprAt
  refine wpAny_bind (wpAny_of_eq (a := ((Value.ref a : Value), ([] : List Value))) (by first | rfl | (simp only [slotArgs]; rfl)) ?_)
  refine wpAny_bind (wpAny_listItems ha hda ?_)
  rw [if_neg (by simp)]
  refine wpAny_bind (wpAny_stack_any fun st => ?_)
  generalize (st.tail.any fun x => match x with
    | (.builtin "list.__repr__.loop" ⟨v :: _, _⟩, _) => Builtin.List.listSameRef v (.ref a)
    | _ => false) = running
  show wpAny _ _ (if running = true then _ else _) _ _ _
  cases running with
  | true =>
    refine PySem.W.KFB.if_so rfl ?_
    refine wpAny_bind (wpAny_rule ?_)
    refine wpAny_bind (wpAny_mkStr (wpAny_pure ?_) (by decide +kernel))
    exact hQ s.heap _ _ _ (fun _ _ e => e) (Nat.le_trans (show ("[...]" : Str).length ≤ 5 by decide +kernel) (Nat.le_add_left _ _))
  | false =>
    refine PySem.W.KFB.if_not rfl ?_
    refine wpAny_bind (m := newList []) (wpAny_newObj_type ?_)
    refine wpAny_pure ⟨F.quiet_list_repr_loop _, ?_⟩
    refine codeAny_list_repr_start (P := s.heap.objs.size) (b := 0) (Nat.ne_of_lt (Heap.lt_size ha)) hlen hT (Heap.get?_push_of_some _ ha) hda (Heap.get?_push_size _ rfl) (fun h' u tk hk => ?_) (by omega)
    exact hQ h' _ u tk (fun b o e => hk b o (Nat.ne_of_lt (Heap.lt_size e)) (Heap.get?_push_of_some _ e)) (Nat.le_add_right _ _)
/-- .. as an object's text -/
theorem obj_list {Q : Value → Shared → Prop} (hu : A.units < cLine) (hTy : s.TypeIs (.ref a) "list") (ha : s.heap.get? a = some oa) (hda : oa.data = .seq (x :: l).toArray na) (hlen : ts.length = (x :: l).toArray.size)
    (hT : ∀ (i : Nat) (y : Value), (x :: l).toArray[i]? = some y → ∃ t, ts[i]? = some t ∧ ReprIs prog w y t) (hsz : (listText ts).length ≤ sizeLine)
    (hQ : ∀ h' m u tk, (∀ b o, s.heap.get? b = some o → h'.get? b = some o) → m.length ≤ (listText ts).length + 5 → Q (.str m u) { s with heap := h', toks := tk }) : wpAny (model prog w) A (pyReprObj (.ref a)) Q E s :=
  wpAny_pyReprObj_slot hu hTy F.slot_list_repr.toG (shown_list hTy ha hda hlen hT hsz fun h' m u tk k hm => ⟨m, u, rfl, hQ h' m u tk k hm⟩)
theorem obj_tuple {Q : Value → Shared → Prop} (hu : A.units < cLine) (ha : s.heap.get? a = some oa) (hc : oa.cls = .type "tuple") (hda : oa.data = .seq (x :: l).toArray na) (hT : ReprAll prog w (x :: l) ts) (hsz : (tupleText ts).length ≤ sizeLine)
    (hQ : ∀ m u tk, m.length ≤ (tupleText ts).length + 5 → Q (.str m u) { s with toks := tk }) : wpAny (model prog w) A (pyReprObj (.ref a)) Q E s :=
  wpAny_pyReprObj_slot hu ⟨oa, ha, hc⟩ F.slot_tuple_repr (fmt_tuple_repr ha hc hda hT hsz fun m u tk hm => ⟨m, u, rfl, hQ m u tk hm⟩)
end
/-- what can be written in an error's text -/
def ShoV (K : PySem.W.Frag) (H : Hp) (v : V) : Prop :=
  (∃ i : Int, v = .int i ∧ i.natAbs.log2 < 1000) ∨ (∃ b : Bool, v = .bl b) ∨ v = .non ∨ (∃ y : Str, v = .str y ∧ (reprText y).length ≤ 1000) ∨
  (∃ (p : Addr) (i : Int), v = .ref p ∧ (SqL K H p [.int i] ∨ SqT K H p [.int i]) ∧ i.natAbs.log2 < 1000)
section
variable {X : Cx}
/-- {x!r}: some text -/
def tFmtS (K : PySem.W.Frag) (te : TE) : TE := fun σ H Q => te σ H fun x H1 => ShoV K H1 x ∧ ∀ y : Str, y.length ≤ 2000 → Q (.str y) H1
theorem len_list1 (t : Str) : (listText [t]).length ≤ t.length + 2 := by
  show ((((("[" : Str) ++ (("" : String) : Str)) ++ t) ++ ("]" : Str)) : Str).length ≤ _
  rw [strLen_append, strLen_append, strLen_append]
  have h1 : ("[" : Str).length = 1 := by decide +kernel
  have h2 : ("]" : Str).length = 1 := by decide +kernel
  have h3 : ((("" : String) : Str)).length = 0 := by decide +kernel
  omega
theorem len_tuple1 (t : Str) : (tupleText [t]).length ≤ t.length + 3 := by
  show (((("(" : Str) ++ Str.join ", " [t]) ++ ((",)" : String) : Str)) : Str).length ≤ _
  rw [strLen_append, strLen_append]
  have h1 : ("(" : Str).length = 1 := by decide +kernel
  have h2 : ((",)" : String) : Str).length = 2 := by decide +kernel
  have h3 := join_length_add [t] (by simp)
  have h4 : piled [t] = t.length + 2 := by simp [piled]
  omega
theorem pe_fmtS {k : Nat} {e : Expr} {te : TE} {pos : Pos} (room : Room k X.A) (he : PE X e te) : PE X (.FormattedValue e 114 none pos) (tFmtS X.K te) := by
  refine ⟨fun pins s σ H Q inv ask => ?_⟩
  refine wpAny_FormattedValue_repr (thn (he.run pins s σ H _ inv ask) fun v s1 hv => ?_)
  obtain ⟨x, H1, I1, r1, sho, q⟩ := hv
  have room0 := room.units0
  have put : ∀ (m : Str) (t : Tok) (s2 : Shared), m.length ≤ 2000 → Inv X pins σ H1 s2 → wpAny (model X.prog X.w) X.A (formatField (.str m t) Str.empty) (EP X pins σ Q) X.xe s2 := fun m t s2 hm J =>
    wpAny_formatField_str ⟨.str m, H1, J, ⟨_, rfl⟩, q m hm⟩ ⟨.str m, H1, J.tok _, ⟨_, rfl⟩, q m hm⟩ (Nat.le_trans hm (by decide))
  rcases sho with ⟨i, rfl, hi⟩ | ⟨b, rfl⟩ | rfl | ⟨y, rfl, hy⟩ | ⟨p, i, rfl, hp, hi⟩
  · obtain ⟨t, rfl⟩ := r1
    exact pyReprObj_int (by omega) (put _ _ _ (Nat.le_trans (txt_len hi) (by decide)) (I1.tok _))
  · cases (show v = Value.bool b from r1)
    exact pyReprObj_bool (put _ _ _ (by cases b <;> decide +kernel) (I1.tok _))
  · cases (show v = Value.none from r1)
    exact pyReprObj_none (put _ _ _ (by decide +kernel) (I1.tok _))
  · obtain ⟨t, rfl⟩ := r1
    exact pyReprObj_str (put _ _ _ (by omega) (I1.tok _)) (Nat.le_trans hy (by decide))
  · cases (show v = Value.ref p from r1)
    have hl := txt_len hi
    rcases hp with hp | hp
    · obtain ⟨its, rv, obj, _⟩ := I1.list hp
      obtain ⟨u, rfl, t, rfl⟩ := vals1 rv
      obtain ⟨⟨oc, od, dt, sl⟩, ho, hc, n, hd⟩ := obj.isList
      have h2 := len_list1 (Str.ofString (toString i))
      refine obj_list (ts := [Str.ofString (toString i)]) room0 ⟨_, ho, hc⟩ ho hd rfl (fun j y hj => ?_) (Nat.le_trans (show _ ≤ 1100 by omega) (by decide)) fun h' m u tk kp hm => put m u _ (by omega) (I1.kept (t' := tk) kp)
      match j, hj with
      | 0, hj =>
        cases hj
        exact ⟨_, rfl, ReprIs.int t (by omega)⟩
    · obtain ⟨its, rv, ⟨o, ho, hc, n, hd⟩, _⟩ := I1.tuple hp
      obtain ⟨u, rfl, t, rfl⟩ := vals1 rv
      have h2 := len_tuple1 (Str.ofString (toString i))
      exact obj_tuple (ts := [Str.ofString (toString i)]) room0 ho hc hd (.cons (ReprIs.int t (by omega)) .nil) (Nat.le_trans (show _ ≤ 1100 by omega) (by decide)) fun m u tk hm => put m u _ (by omega) (I1.tok _)
end
end Own

/-! Own errors whose fields are values of many kinds. -/
namespace Own
open PySem PySem.Spec PyProof.Rows L2 NdefX
theorem ShoV.keep {K : PySem.W.Frag} {H H' : Hp} {v : V} (s : ∀ b o, H b = some o → H' b = some o) (h : ShoV K H v) : ShoV K H' v := by
  rcases h with h | h | h | h | ⟨p, i, rfl, h, hi⟩
  · exact .inl h
  · exact .inr (.inl h)
  · exact .inr (.inr (.inl h))
  · exact .inr (.inr (.inr (.inl h)))
  · refine .inr (.inr (.inr (.inr ⟨p, i, rfl, ?_, hi⟩)))
    rcases h with ((h | ⟨o, h⟩) | h) | ((h | ⟨o, h⟩) | h)
    · exact .inl (.inl (.inl (s _ _ h)))
    · exact .inl (.inl (.inr ⟨o, s _ _ h⟩))
    · exact .inl (.inr h)
    · exact .inr (.inl (.inl (s _ _ h)))
    · exact .inr (.inl (.inr ⟨o, s _ _ h⟩))
    · exact .inr (.inr h)
theorem ShoV.int {K : PySem.W.Frag} {H : Hp} {i : Int} (h0 : -(2 ^ 64) < i) (h1 : i < 2 ^ 64) : ShoV K H (.int i) := by
  obtain ⟨j, e, h⟩ := Shw.of h0 h1
  cases e
  exact .inl ⟨i, rfl, h⟩
theorem ShoV.bl {K : PySem.W.Frag} {H : Hp} (b : Bool) : ShoV K H (.bl b) := .inr (.inl ⟨b, rfl⟩)
theorem ShoV.non {K : PySem.W.Frag} {H : Hp} : ShoV K H .non := .inr (.inr (.inl rfl))
/-- the promise of its __init__ -/
def spErrV (K : PySem.W.Frag) (D : Addr) (nm : List Str) : Sp := fun vs H Q _ => ∃ (a : Addr) (ys : List V), vs = .ref a :: ys ∧ ys.length = nm.length ∧ (∀ y ∈ ys, ShoV K H y) ∧ H a = some (exo a D none) ∧
  ∀ d H', H d = none → d ≠ a → (∀ b, H' b = if b = d then some (exd d (flE nm ys)) else if b = a then some (exo a D (some d)) else H b) → Q .non H'
section
variable {X : Cx} {pins : List (Addr × Obj)} {σ : L2.St} {H : Hp} {s : Shared} {Q : XK} {D f : Addr} {k : Nat} {fd : FuncData} {ps nm : List Str} {ys : List V} {us : List Value} {x : Str}
/-- what is asked of the class when it is called -/
theorem ask_err {K : PySem.W.Frag} (hl : ys.length = nm.length) (hs : ∀ y ∈ ys, ShoV K H y) (q : ∀ d, H d = none → Q (.ref D) (some d) (upd H d (.xd (flE nm ys)))) {a : Addr} (na : H a = none) :
    spErrV K D nm (.ref a :: ys) (upd H a (exo a D none)) (fun v H2 => v = .non ∧ ∃ (d : Addr) (fs : List (Str × V)), H2 a = some (exo a D (some d)) ∧ H2 d = some (exd d fs) ∧ H d = none ∧ Q (.ref D) (some d) (upd (del H2 a) d (.xd fs))) (fun _ _ _ => False) := by
  refine ⟨a, ys, rfl, hl, fun y hy => (hs y hy).keep fun b o e => ?_, upd_same, fun d H' nd ne h => ⟨rfl, d, flE nm ys, ?_, ?_, ?_, ?_⟩⟩
  · by_cases hb : b = a
    · rw [hb, na] at e
      cases e
    · rw [upd_ne hb]
      exact e
  · rw [h, if_neg ne.symm, if_pos rfl]
  · rw [h, if_pos rfl]
  · rw [upd_ne ne] at nd
    exact nd
  · have : upd (del H' a) d (.xd (flE nm ys)) = upd H d (.xd (flE nm ys)) := by
      funext b
      by_cases hb : b = d
      · rw [hb, upd_same, upd_same]
      · rw [upd_ne hb, upd_ne hb]
        by_cases ha : b = a
        · rw [ha, del_same, na]
        · rw [del_ne ha, h, if_neg hb, if_neg ha, upd_ne ha]
    rw [this]
    rw [upd_ne ne] at nd
    exact q d nd
/-- the call of the class -/
theorem err_madeV (T : OexC X.K D) (R : ErrT X.K X.mg x D f) (F1 : FnOk X.prog X.w X.K X.mg X.base CX0 k f fd ps (spErrV X.K D nm)) (hr : Room (k + 1) X.A) (hb : Binds X.K fd ps []) (I : Inv X pins σ H s) (r : Vals ys us) (hl : ys.length = nm.length) (hz : nm.length ≤ 1000)
    (hs : ∀ y ∈ ys, ShoV X.K H y) (q : ∀ d, H d = none → Q (.ref D) (some d) (upd H d (.xd (flE nm ys)))) : wpAny (model X.prog X.w) X.A (call (.ref D) us) (L2N.MkP X pins σ Q) X.xe s := by
  obtain ⟨nn, qq, N, bs, bm, sn, sub, ab, col, dd, k0, k1, k2, k3, k5, hC, hbm⟩ := T.cls
  obtain ⟨hp, g, dr, tk, os⟩ := s
  have far : hp.objs.size ≤ hp.objs.size + 1 := Nat.le_succ _
  have free : H (hp.objs.size + 1) = none := I.hok.fresh far
  have ask := ask_err (D := D) hl hs q free
  have old : ∀ b o, hp.get? b = some o → ((hp.push (PySem.W.kdv_tup us)).push (PySem.HandSPX.excO D hp.objs.size)).get? b = some o := fun b o e => Heap.get?_push_of_some _ (Heap.get?_push_of_some _ e)
  have here : ((hp.push (PySem.W.kdv_tup us)).push (PySem.HandSPX.excO D hp.objs.size)).get? (hp.objs.size + 1) = some (PySem.HandSPX.excO D hp.objs.size) := by heap_get
  have J : Inv X pins σ (upd H (hp.objs.size + 1) (exo (hp.objs.size + 1) D none)) ⟨(hp.push (PySem.W.kdv_tup us)).push (PySem.HandSPX.excO D hp.objs.size), g, dr, tk, os⟩ := I.laid (t' := tk) (a := hp.objs.size + 1) (o := exo (hp.objs.size + 1) D none) old far (exo_ok here)
  have vals : Vals (V.ref (hp.objs.size + 1) :: ys) (Value.ref (hp.objs.size + 1) :: us) := .cons rfl r
  have len : (Value.ref (hp.objs.size + 1) :: us).length = ps.length := by
    rw [← vals.length]
    exact F1.len _ _ _ _ ask
  have few : us.length ≤ sizeLine := by
    rw [← Paired.length r, hl]
    exact Nat.le_trans hz (by decide)
  have bind := hb _ (Value.ref (hp.objs.size + 1) :: us) J.kIn (by rw [List.append_nil]; exact len)
  rw [List.append_nil] at bind
  have run := F1.run _ X.stack _ _ ⟨Value.ref (hp.objs.size + 1) :: us, []⟩ _ _ _ (fun _ _ _ => False) (hr.make D us []) (J.env0.make D us []) bind vals ask
  refine wpAny_call (PySem.HandSPX.call_own F.excBase_ValueError (fun Y => PySem.HandSPX.refsVE_contains Y bm hbm) (I.kIn _ _ hC) (PySem.W.looks_findIn I.kIn R.i) (fun self => PySem.W.bind_fn I.kIn self R.t) few (codeAny_mono run fun res s' back => ?_))
  cases res with
  | error er => exact back.elim
  | ok fl =>
    cases fl with
    | ret u =>
      obtain ⟨v, H2, os2, bare2, un2, hok2, rv, ev, d, fs, ea, ed, hd1, q2⟩ := back
      subst ev
      obtain ⟨h2, g2, d2, t2, os'⟩ := s'
      obtain ⟨t0, G, K1, kG, ge, hoe, na⟩ := mk_end0 (d2 := d2) (t2 := t2) I far old un2 hok2 os2 bare2 ea ed hd1
      exact ⟨rv, hp.objs.size + 1, _, _, ⟨G, g2, d2, t2, os'⟩, _, .ref D, some d, rfl, K1, kG, ge, hoe, ⟨rfl, rfl, fun vs e => by cases e; rfl⟩, rfl, rfl, na, rfl, bare2, raises_own T.exC T.tyC, q2⟩
    | next => exact back.elim
    | brk => exact back.elim
    | cont => exact back.elim
end
/-- raise X(e, ..) -/
def tErrV (K : PySem.W.Frag) (D : Addr) (nm : List Str) (ta : TA) : L2.St → Hp → XK → Prop := fun σ H Q => ta σ H fun ys H1 => ys.length = nm.length ∧ nm.length ≤ 1000 ∧ (∀ y ∈ ys, ShoV K H1 y) ∧ ∀ d, H1 d = none → Q (.ref D) (some d) (upd H1 d (.xd (flE nm ys)))
section
variable {X : Cx} {W : WX} {x : Str} {D f : Addr} {k : Nat} {fd : FuncData} {ps nm : List Str} {e : Expr} {es : List Expr} {ta : TA} {p pos pos' : Pos}
theorem ps_errV (hc : X.calm = true) (tk : L2N.Takes X W) (T : OexC X.K D) (R : ErrT X.K X.mg x D f) (F1 : FnOk X.prog X.w X.K X.mg X.base CX0 k f fd ps (spErrV X.K D nm)) (hr : Room (k + 1) X.A) (hb : Binds X.K fd ps []) (hg : Gl X x) (ha : PA X (e :: es) ta)
    (hdb : (x == ("__debug__" : Str)) = false := by decide)
    (he : starEach (e :: es) X.env = (false, eval e X.env) :: starEach es X.env := by rfl)
    (hpl : (backTo pos (starEach es X.env)).any (·.1) = false := by rfl) :
    PS X (.Raise (some (.Call (.Name x p) (e :: es) [] pos)) none pos') (fun _ σ H => tErrV X.K D nm ta σ H fun cls d H' => W cls d σ H') := by
  refine L2N.ps_raise hc tk fun pins s σ H Q I h => ?_
  refine wpAny_Call_Name_kw (ld_glob I hg R.g ?_ hdb)
  refine PySem.W.callWith_K (h₀ := X.base) I.ok.mod.kin T.kC (thn (ha.run pos pins s σ H _ I h) fun us s1 ⟨ys, H1, I1, r, hl, hz, hs, q⟩ => ⟨I1.kIn, ?_⟩) he hpl
  exact err_madeV T R F1 hr hb I1 r hl hz hs q
end
end Own

/-! What any plain value looks like in an error's text: lists, tuples and dicts within one another, whatever is under way. -/
namespace Own
open PySem PySem.Spec PyProof.Rows L2
def pil (Bs : List Nat) : Nat := (Bs.map fun b => b + 2).sum
theorem pil_cons (b : Nat) (Bs : List Nat) : pil (b :: Bs) = (b + 2) + pil Bs := by simp [pil]
theorem pil_drop {Bs : List Nat} {i b : Nat} (h : Bs[i]? = some b) : pil (Bs.drop i) = (b + 2) + pil (Bs.drop (i + 1)) := by
  obtain ⟨hi, e⟩ := List.getElem?_eq_some_iff.mp h
  rw [List.drop_eq_getElem_cons hi, pil_cons, e]
theorem listText_le (ts : List Str) : (listText ts).length ≤ piled ts + 2 := by
  have e : (listText ts).length = (textFrom 0 "[" ts).length + 1 := by
    show (textFrom 0 "[" ts ++ "]").length = _
    rw [strLen_append]
    rfl
  rw [e]
  cases ts with
  | nil => decide +kernel
  | cons t r =>
    show (textFrom 1 _ r).length + 1 ≤ _
    rw [textFrom_length_pos r 1 _ (by decide), strLen_append, strLen_append, piled_cons]
    have h1 : ("[" : Str).length = 1 := by decide +kernel
    have h2 : ((if 0 > 0 then ", " else "" : String) : Str).length = 0 := by decide +kernel
    omega
theorem tupleText_le (ts : List Str) : (tupleText ts).length ≤ piled ts + 3 := by
  unfold tupleText
  rw [strLen_append, strLen_append]
  have e1 : ((("(" : String) : Str)).length = 1 := rfl
  have e3 : (((if ts.length == 1 then ",)" else ")" : String) : Str)).length ≤ 2 := by split <;> decide +kernel
  rw [e1]
  by_cases h : ts = []
  · subst h
    have : (Str.join ", " []).length = 0 := by decide +kernel
    omega
  · have := join_length_add ts h
    omega
/-- some text, at most so long -/
def ReprS (prog : Program) (w : World) (h₀ : Heap) (d B : Nat) (x : Value) : Prop :=
  ∀ (base : Nat), base + B ≤ sizeLine → ∀ (A : Around) (E : Value → Shared → Prop) (s : Shared) (Q : Str → Shared → Prop), A.units + d < cLine → (∀ b o, h₀.get? b = some o → s.heap.get? b = some o) →
    (∀ t h' tk, t.length ≤ B → (∀ b o, s.heap.get? b = some o → h'.get? b = some o) → Q t { s with heap := h', toks := tk }) → wpAny (model prog w) A (pyReprUnder base x) Q E s
theorem ReprS.of_is {prog : Program} {w : World} {h₀ : Heap} {d B : Nat} {x : Value} {t : Str} (h : ReprIs prog w x t) (hB : t.length ≤ B) : ReprS prog w h₀ d B x :=
  fun base hb A E s Q _ _ hQ => h base (by omega) A E s Q fun tk => hQ t s.heap tk hB fun _ _ e => e
theorem ReprS.le {prog : Program} {w : World} {h₀ : Heap} {d d' B B' : Nat} {x : Value} (h : ReprS prog w h₀ d B x) (hd : d ≤ d') (hB : B ≤ B') : ReprS prog w h₀ d' B' x :=
  fun base hb A E s Q hu hk hQ => h base (by omega) A E s Q (by omega) hk fun t h' tk ht => hQ t h' tk (Nat.le_trans ht hB)
section
variable {prog : Program} {w : World} {A : Around} {R : Result → Shared → Prop}
theorem loopS {a P : Addr} (hne : a ≠ P) {items : Array Value} {Bs : List Nat} {h₀ : Heap} {d M : Nat} (hu : A.units + (d + 1) < cLine) (hPf : h₀.get? P = none) (hlen : Bs.length = items.size) (hsz : items.size ≤ sizeLine) (hM : M ≤ sizeLine)
    (hT : ∀ (i : Nat) (x : Value), items[i]? = some x → ∃ B, Bs[i]? = some B ∧ ReprS prog w h₀ d B x) :
    ∀ (k i : Nat) (s : Shared) (oa : Obj) (na : Nat) (acc : Array Value) (c : Nat) (done : List (Str × Tok)) (n : Nat), items.size - i = k → i ≤ items.size → (∀ b o, h₀.get? b = some o → s.heap.get? b = some o) →
    s.heap.get? a = some oa → oa.data = .seq items na →
    s.heap.get? P = some { cls := .type "list", dict := none, data := .seq acc c, slots := #[] } → acc.toList = strValues done → done.length = i → n + pil (Bs.drop i) + 1 ≤ sizeLine → piled (done.map (·.1)) + pil (Bs.drop i) + 2 ≤ M →
    (∀ t h' u tk, t.length ≤ M → (∀ b o, b ≠ P → s.heap.get? b = some o → h'.get? b = some o) → R (.ok (.ret (.str t u))) { s with heap := h', toks := tk }) →
    codeAny (model prog w) A (.builtin "list.__repr__.loop" ⟨[.ref a, rawInt i, .ref P, rawInt (n : Int)], []⟩) R s := by
  intro k
  induction k with
  | zero =>
    intro i s oa na acc c done n hk hi hk0 ha hda hP hacc hdone hn hp hR
    have hin : i = items.size := by omega
    refine codeAny_builtin F.entry_list_repr_loop ?_
    show wpAny _ _ (Builtin.«list.__repr__.loop» ⟨[.ref a, .int i 0, .ref P, .int (n : Int) 0], []⟩) _ _ s
    rw [repr_loop_tree]
    refine wpAny_bind (wpAny_listItems ha hda ?_)
    have hnone : items[(i : Int).toNat]? = none := by simp [hin]
    simp only [hnone]
    unfold reprEnd
    refine wpAny_bind (wpAny_listItems hP rfl ?_)
    rw [hacc, repr_fold]
    refine wpAny_bind (wpAny_pure ?_)
    have hl := listText_le (done.map (·.1))
    refine wpAny_bind (wpAny_mkStr (wpAny_pure ?_) (show (listText (done.map (·.1))).length ≤ sizeLine by omega))
    exact hR (listText (done.map (·.1))) s.heap _ _ (by omega) (fun _ _ _ e => e)
  | succ k ih =>
    intro i s oa na acc c done n hk hi hk0 ha hda hP hacc hdone hn hp hR
    have hlt : i < items.size := by omega
    obtain ⟨B, hB, hrep⟩ := hT i items[i] (by simp [hlt])
    have hp1 := pil_drop hB
    refine codeAny_builtin F.entry_list_repr_loop ?_
    show wpAny _ _ (Builtin.«list.__repr__.loop» ⟨[.ref a, .int i 0, .ref P, .int (n : Int) 0], []⟩) _ _ s
    rw [repr_loop_tree]
    refine wpAny_bind (wpAny_listItems ha hda ?_)
    have hsome : items[(i : Int).toNat]? = some items[i] := by simp [hlt]
    simp only [hsome]
    rw [Int.toNat_natCast]
    refine wpAny_bind (wpAny_holding (hrep (n + 1) (by omega) _ _ _ _ (by rw [units_under_list_loop]; omega) hk0 fun t h' tk ht hkp => ?_))
    refine wpAny_bind (wpAny_mkStr ?_ (show t.length ≤ sizeLine by omega))
    refine wpAny_bind ?_
    show wpAny _ _ (updateSeq P _) _ _ _
    have hasz : acc.size ≤ sizeLine := by
      have e1 : acc.toList.length = acc.size := by simp
      have e2 : (strValues done).length = done.length := by simp [strValues]
      rw [hacc] at e1
      omega
    refine wpAny_updateSeq (hkp _ _ hP) rfl (wpAny_pure ⟨F.quiet_list_repr_loop _, ?_⟩) hasz
    have e1 : ((i : Int) + 1) = ((i + 1 : Nat) : Int) := by omega
    rw [e1]
    have e3 : piled ((done ++ [(t, tk)]).map (·.1)) = piled (done.map (·.1)) + (t.length + 2) := by
      rw [List.map_append, piled_append]
      simp [piled]
    refine ih (i + 1) _ oa na (acc.push (.str t tk)) _ (done ++ [(t, tk)]) (n + (t.length + 2)) (by omega) hlt (fun b o e => (Heap.get?_update_other _ _ (fun h : P = b => by rw [← h, hPf] at e; cases e)).trans (hkp _ _ (hk0 _ _ e))) ((Heap.get?_update_other _ _ (fun h : P = a => hne h.symm)).trans (hkp _ _ ha)) hda (Heap.get?_update_self _ (hkp _ _ hP) rfl) (by simp [hacc, strValues]) (by rw [List.length_append, hdone]; rfl) (by omega) (by rw [e3]; omega) fun u' h'' u tk' hl hh => ?_
    exact hR u' h'' u tk' hl fun b o hb e => hh b o hb ((Heap.get?_update_other _ _ (fun h : P = b => hb h.symm)).trans (hkp _ _ e))
theorem list_atS {h₀ : Heap} {d M : Nat} {a : Addr} {oa : Obj} {x : Value} {l : List Value} {na : Nat} {Bs : List Nat} (ha : h₀.get? a = some oa) (hda : oa.data = .seq (x :: l).toArray na) (hlen : Bs.length = (x :: l).toArray.size) (hsz : (x :: l).toArray.size ≤ sizeLine)
    (hT : ∀ (i : Nat) (y : Value), (x :: l).toArray[i]? = some y → ∃ B, Bs[i]? = some B ∧ ReprS prog w h₀ d B y) {s : Shared} {base : Nat} (hu : A.units + (d + 1) < cLine) (hk0 : ∀ b o, h₀.get? b = some o → s.heap.get? b = some o) (hM : M ≤ sizeLine) (hp : pil Bs + 5 ≤ M) (hb : base + M ≤ sizeLine)
    (hR : ∀ t h' u tk, t.length ≤ M → (∀ b o, s.heap.get? b = some o → h'.get? b = some o) → R (.ok (.ret (.str t u))) { s with heap := h', toks := tk }) :
    wpAny (model prog w) A.in1 (Builtin.listReprAt base ⟨[.ref a], []⟩) (fun fin s' => match fin with | .done f => R (.ok f) s' | .again c' => c'.quiet = true ∧ codeAny (model prog w) A c' R s') (fun e s' => R (.error e) s') s := by
  have ha' := hk0 _ _ ha
  have hPf : h₀.get? s.heap.objs.size = none := by
    cases e : h₀.get? s.heap.objs.size with
    | none => rfl
    | some o => exact absurd (Heap.lt_size (hk0 _ _ e)) (Nat.lt_irrefl _)
  unfold Builtin.listReprAt
  refine wpAny_bind (wpAny_of_eq (a := ((Value.ref a : Value), ([] : List Value))) (by first | rfl | (simp only [slotArgs]; rfl)) ?_)
  refine wpAny_bind (wpAny_listItems ha' hda ?_)
  rw [if_neg (by simp)]
  refine wpAny_bind (wpAny_stack_any fun st => ?_)
  generalize (st.tail.any fun x => match x with
    | (.builtin "list.__repr__.loop" ⟨v :: _, _⟩, _) => Builtin.List.listSameRef v (.ref a)
    | _ => false) = running
  show wpAny _ _ (if running = true then _ else _) _ _ _
  cases running with
  | true =>
    refine PySem.W.KFB.if_so rfl ?_
    refine wpAny_bind (wpAny_rule ?_)
    refine wpAny_bind (wpAny_mkStr (wpAny_pure ?_) (by decide +kernel))
    exact hR _ s.heap _ _ (Nat.le_trans (show ("[...]" : Str).length ≤ 5 by decide +kernel) (by omega)) (fun _ _ e => e)
  | false =>
    refine PySem.W.KFB.if_not rfl ?_
    refine wpAny_bind (m := newList []) (wpAny_newObj_type ?_)
    refine wpAny_pure ⟨F.quiet_list_repr_loop _, ?_⟩
    refine loopS (P := s.heap.objs.size) (M := M) (Nat.ne_of_lt (Heap.lt_size ha')) hu hPf hlen hsz hM hT _ 0 _ oa na #[] _ [] base rfl (Nat.zero_le _) (fun b o e => Heap.get?_push_of_some _ (hk0 _ _ e)) (Heap.get?_push_of_some _ ha') hda (Heap.get?_push_size _ rfl) rfl rfl (by rw [List.drop_zero]; omega) (by rw [List.drop_zero]; show 0 + _ + 2 ≤ M; omega) fun t h' u tk ht hk => ?_
    exact hR t h' u tk ht fun b o e => hk b o (Nat.ne_of_lt (Heap.lt_size e)) (Heap.get?_push_of_some _ e)
end
end Own

namespace Own
open PySem PySem.Spec PyProof.Rows L2
inductive AllS (prog : Program) (w : World) (h₀ : Heap) (d : Nat) : List Value → List Nat → Prop
  | nil : AllS prog w h₀ d [] []
  | cons {x : Value} {B : Nat} {l : List Value} {Bs : List Nat} : ReprS prog w h₀ d B x → AllS prog w h₀ d l Bs → AllS prog w h₀ d (x :: l) (B :: Bs)
theorem AllS.len {prog : Program} {w : World} {h₀ : Heap} {d : Nat} : ∀ {l : List Value} {Bs : List Nat}, AllS prog w h₀ d l Bs → Bs.length = l.length
  | _, _, .nil => rfl
  | _, _, .cons _ h => by simp [h.len]
theorem AllS.at_ {prog : Program} {w : World} {h₀ : Heap} {d : Nat} : ∀ {l : List Value} {Bs : List Nat}, AllS prog w h₀ d l Bs → ∀ (i : Nat) (x : Value), l[i]? = some x → ∃ B, Bs[i]? = some B ∧ ReprS prog w h₀ d B x
  | _, _, .nil, _, _, e => by simp at e
  | _, _, .cons h _, 0, _, e => by
    simp at e
    subst e
    exact ⟨_, rfl, h⟩
  | _, _, .cons _ h, i + 1, x, e => by
    obtain ⟨B, e1, r⟩ := h.at_ i x (by simpa using e)
    exact ⟨B, by simpa using e1, r⟩
section
variable {prog : Program} {w : World} {A : Around} {E : Value → Shared → Prop}
theorem foldS {h₀ : Heap} {d : Nat} (hu : A.units + d < cLine) : ∀ (l : List Value) (Bs : List Nat) (acc : Array Str) (n : Nat) (s : Shared) (Q : (Array Str × Nat) → Shared → Prop), AllS prog w h₀ d l Bs → n + pil Bs + 1 ≤ sizeLine →
    (∀ b o, h₀.get? b = some o → s.heap.get? b = some o) → (∀ ts h' tk m, ts.length = l.length → piled ts ≤ pil Bs → (∀ b o, s.heap.get? b = some o → h'.get? b = some o) → Q ⟨acc ++ ts.toArray, m⟩ { s with heap := h', toks := tk }) →
    wpAny (model prog w) A (forIn l (⟨acc, n⟩ : (Array Str × Nat)) tupBody) Q E s := by
  intro l
  induction l with
  | nil =>
    intro Bs acc n s Q hT _ _ h
    cases hT
    have h0 := h [] s.heap s.toks n rfl (Nat.le_refl _) fun _ _ e => e
    simp only [List.forIn_nil]
    exact wpAny_pure (by simpa using h0)
  | cons x l ih =>
    intro Bs acc n s Q hT hn hk0 h
    cases hT with
    | cons hx hl =>
      rename_i B Bs'
      rw [pil_cons] at hn
      rw [List.forIn_cons]
      refine wpAny_bind (wpAny_bind (hx (n + 1) (by omega) _ _ _ _ hu hk0 fun t h' tk ht hkp => wpAny_pure ?_))
      refine ih Bs' (acc.push t) (n + (t.length + 2)) _ Q hl (by omega) (fun b o e => hkp _ _ (hk0 _ _ e)) fun ts h'' tk' m hlen hp hk2 => ?_
      have h1 := h (t :: ts) h'' tk' m (by simp [hlen]) (by rw [piled_cons, pil_cons]; omega) fun b o e => hk2 _ _ (hkp _ _ e)
      simpa using h1
theorem tup_atS {h₀ : Heap} {d M : Nat} {a : Addr} {o : Obj} {items : Array Value} {n : Nat} {Bs : List Nat} {s : Shared} {Qf : Fin → Shared → Prop} {base : Nat} (ha : h₀.get? a = some o) (hd : o.data = .seq items n) (hT : AllS prog w h₀ d items.toList Bs)
    (hu : A.units + d < cLine) (hk0 : ∀ b o, h₀.get? b = some o → s.heap.get? b = some o) (hM : M ≤ sizeLine) (hp : pil Bs + 5 ≤ M) (hb : base + M ≤ sizeLine)
    (hR : ∀ t h' u tk, t.length ≤ M → (∀ b o, s.heap.get? b = some o → h'.get? b = some o) → Qf (.done (.ret (.str t u))) { s with heap := h', toks := tk }) :
    wpAny (model prog w) A (Builtin.tupleReprAt base ⟨[.ref a], []⟩) Qf E s := by
  rw [tuple_repr_tree]
  refine wpAny_bind (fmt_underWay fun b => ?_)
  cases b with
  | true =>
    refine PySem.W.KFB.if_so rfl ?_
    refine wpAny_bind (wpAny_rule ?_)
    refine wpAny_bind (wpAny_mkStr (wpAny_pure ?_) (by decide +kernel))
    exact hR "(...)" s.heap _ _ (Nat.le_trans fmt_way (by omega)) fun _ _ e => e
  | false =>
    refine PySem.W.KFB.if_not rfl ?_
    unfold tupleReprRest Builtin.Tuple.tupleItemsOf
    refine wpAny_bind (wpAny_bind (wpAny_seqItems (hk0 _ _ ha) hd (wpAny_pure ?_)))
    rw [← Array.forIn_toList]
    refine wpAny_bind (foldS hu _ Bs _ _ _ _ hT (by omega) hk0 fun ts h' tk m hlen hpl hkp => ?_)
    have hl := tupleText_le ts
    have e : ts.length = items.size := by simpa using hlen
    have hl2 : (tupleText ts).length ≤ sizeLine := by omega
    refine wpAny_bind (wpAny_mkStr (wpAny_pure ?_) (by simpa [tupleText, e] using hl2))
    have h1 := hR (tupleText ts) h' tk (tk + 1) (by omega) hkp
    simpa [tupleText, e] using h1
end
section
variable {prog : Program} {w : World}
theorem ReprS.list {h₀ : Heap} {d M : Nat} {a : Addr} {oa : Obj} {l : List Value} {na : Nat} {Bs : List Nat} (ha : h₀.get? a = some oa) (hc : oa.cls = .type "list") (hda : oa.data = .seq l.toArray na) (hsz : l.length ≤ 1000)
    (hT : AllS prog w h₀ d l Bs) (hp : pil Bs + 5 ≤ M) : ReprS prog w h₀ (d + 1) M (.ref a) := by
  intro base hb A E s Q hu hk0 hQ
  cases l with
  | nil => exact wpAny_pyReprUnder_ref (by omega) (wpAny_pyReprObjUnder_list_empty ⟨oa, hk0 _ _ ha, hc⟩ (by omega) (hk0 _ _ ha) hda ⟨_, _, rfl, hQ _ s.heap _ (Nat.le_trans (show ("[]" : Str).length ≤ 5 by decide +kernel) (by omega)) fun _ _ e => e⟩)
  | cons x l =>
    refine wpAny_pyReprUnder_ref (by omega) (wpAny_pyReprObjUnder_twin (twin := "list.__repr__.under") ⟨oa, hk0 _ _ ha, hc⟩ F.slot_list_repr.toG rfl (by omega) ?_)
    refine call_twin_plain F.plain_list_repr_under F.entry_list_repr_under F.check_list_repr_under ⟨oa, hk0 _ _ ha, hc⟩ F.slot_list_repr.toG (F.args_list_repr_1 _) ?_
    refine list_atS (M := M) (R := callEnd _ E) ha hda (by simpa using hT.len) (Nat.le_trans (show (x :: l).toArray.size ≤ 1000 by simpa using hsz) (by decide)) (fun i y e => hT.at_ i y (by simpa using e)) hu hk0 (by omega) hp hb fun t h' u tk ht hk => ⟨⟨_, _, rfl⟩, _, _, rfl, hQ t h' tk ht hk⟩
theorem ReprS.tuple {h₀ : Heap} {d M : Nat} {a : Addr} {oa : Obj} {items : Array Value} {na : Nat} {Bs : List Nat} (ha : h₀.get? a = some oa) (hc : oa.cls = .type "tuple") (hda : oa.data = .seq items na)
    (hT : AllS prog w h₀ d items.toList Bs) (hp : pil Bs + 5 ≤ M) : ReprS prog w h₀ (d + 1) M (.ref a) := by
  intro base hb A E s Q hu hk0 hQ
  refine wpAny_pyReprUnder_ref (by omega) (wpAny_pyReprObjUnder_twin (twin := "tuple.__repr__.under") ⟨oa, hk0 _ _ ha, hc⟩ F.slot_tuple_repr rfl (by omega) ?_)
  refine call_twin_own (F.quiet_tuple_repr_under _) F.entry_tuple_repr_under F.check_tuple_repr_under ⟨oa, hk0 _ _ ha, hc⟩ F.slot_tuple_repr (F.args_tuple_repr_1 _) (wpOwn_of_wpAny ?_)
  refine tup_atS (A := A.under (.builtin "tuple.__repr__.under" ⟨[.ref a, rawInt base], []⟩)) (M := M) ha hda hT (by rw [units_under_tuple_repr_under]; omega) hk0 (by omega) hp hb fun t h' u tk ht hk => ⟨⟨_, _, rfl⟩, _, _, rfl, hQ t h' tk ht hk⟩
end
end Own

namespace Own
open PySem PySem.Spec PyProof.Rows L2
inductive EntS (prog : Program) (w : World) (h₀ : Heap) (d : Nat) : List DictEntry → List Nat → Prop
  | nil : EntS prog w h₀ d [] []
  | cons {e : DictEntry} {B C : Nat} {es : List DictEntry} {Bs : List Nat} : ReprS prog w h₀ d B e.key → ReprS prog w h₀ d C e.val → EntS prog w h₀ d es Bs → EntS prog w h₀ d (e :: es) ((B + C + 2) :: Bs)
theorem EntS.len {prog : Program} {w : World} {h₀ : Heap} {d : Nat} : ∀ {l : List DictEntry} {Bs : List Nat}, EntS prog w h₀ d l Bs → Bs.length = l.length
  | _, _, .nil => rfl
  | _, _, .cons _ _ h => by simp [h.len]
theorem EntS.at_ {prog : Program} {w : World} {h₀ : Heap} {d : Nat} : ∀ {l : List DictEntry} {Bs : List Nat}, EntS prog w h₀ d l Bs → ∀ (i : Nat) (e : DictEntry), l[i]? = some e → ∃ B C, Bs[i]? = some (B + C + 2) ∧ ReprS prog w h₀ d B e.key ∧ ReprS prog w h₀ d C e.val
  | _, _, .nil, _, _, e => by simp at e
  | _, _, .cons h k _, 0, _, e => by
    simp at e
    subst e
    exact ⟨_, _, rfl, h, k⟩
  | _, _, .cons _ _ h, i + 1, x, e => by
    obtain ⟨B, C, e1, r⟩ := h.at_ i x (by simpa using e)
    exact ⟨B, C, by simpa using e1, r⟩
theorem dictText_le (ts : List Str) : (dictText ts).length ≤ piled ts + 3 := by
  have e : (dictText ts).length = 1 + (Str.join ", " ts).length + 1 := by
    unfold dictText
    rw [strLen_append, strLen_append]
    rfl
  by_cases h : ts = []
  · subst h
    have : (Str.join ", " []).length = 0 := by decide +kernel
    omega
  · have := join_length_add ts h
    omega
section
variable {prog : Program} {w : World} {A : Around} {E : Value → Shared → Prop}
theorem dict_atS {h₀ : Heap} {d M : Nat} {a : Addr} {o : Obj} {es : Array DictEntry} {n : Nat} {Bs : List Nat} {s : Shared} {Qf : Fin → Shared → Prop} {base : Nat} (ha : h₀.get? a = some o) (hc : o.cls = .type "dict") (hd : o.data = .dict es n) (hsys : (a == sysModules) = false) (hE : EntS prog w h₀ d es.toList Bs)
    (hu : A.units + d < cLine) (hk0 : ∀ b o, h₀.get? b = some o → s.heap.get? b = some o) (hM : M ≤ sizeLine) (hp : pil Bs + 5 ≤ M) (hb : base + M ≤ sizeLine)
    (hR : ∀ t h' u tk, t.length ≤ M → (∀ b o, s.heap.get? b = some o → h'.get? b = some o) → Qf (.done (.ret (.str t u))) { s with heap := h', toks := tk }) :
    wpAny (model prog w) A (Builtin.dictReprAt base ⟨[.ref a], []⟩) Qf E s := by
  have hTy : s.TypeIs (.ref a) "dict" := ⟨o, hk0 _ _ ha, hc⟩
  have hlen : Bs.length = es.size := by simpa using hE.len
  unfold Builtin.dictReprAt
  refine wpAny_bind ?_
  unfold Builtin.Dict.dictSlotNone
  refine wpAny_bind (wpAny_notOrdered_dict hTy ?_)
  show wpAny _ _ (pure (Value.ref a)) _ _ s
  refine wpAny_pure ?_
  rw [dictReprRunning_eq]
  refine wpAny_bind (wpAny_bind (wpAny_stack_any fun st => wpAny_pure ?_))
  generalize st.tail.any (dictGuardF (.ref a)) = running
  cases running with
  | true =>
    refine PySem.W.KFB.if_so rfl ?_
    refine wpAny_bind (wpAny_rule ?_)
    refine wpAny_bind (wpAny_mkStr (wpAny_pure ?_) (by decide +kernel))
    exact hR _ s.heap _ _ (Nat.le_trans (show ("{...}" : Str).length ≤ 5 by decide +kernel) (by omega)) fun _ _ e => e
  | false =>
    refine PySem.W.KFB.if_not rfl ?_
    show wpAny _ _ (Builtin.Dict.addrOf (.ref a) >>= _) _ _ s
    refine wpAny_bind (wpAny_pure ?_)
    show wpAny _ _ (Builtin.Dict.showsAll a >>= _) _ _ s
    unfold Builtin.Dict.showsAll
    rw [if_neg (by rw [hsys]; exact Bool.false_ne_true)]
    refine wpAny_bind (wpAny_pure ?_)
    refine wpAny_bind (wpAny_dictEpoch (hk0 _ _ ha) hd ?_)
    refine wpAny_bind (wpAny_dictEntries (hk0 _ _ ha) hd ?_)
    refine wpAny_bind ?_
    rw [Std.Legacy.Range.forIn_eq_forIn_range']
    simp only [Std.Legacy.Range.size, Nat.sub_zero, Nat.add_sub_cancel, Nat.div_one]
    refine wpAny_forIn_list _
      (fun rest' r s' => ∃ i h' tk ts m, rest' = List.range' i (es.size - i) ∧ i ≤ es.size ∧ r = (⟨List.toArray ts, m⟩ : (Array Str × Nat)) ∧ m + pil (Bs.drop i) + 1 ≤ sizeLine ∧ piled ts + pil (Bs.drop i) + 3 ≤ M ∧ s' = { s with heap := h', toks := tk } ∧ ∀ b o, s.heap.get? b = some o → h'.get? b = some o)
      _ ?_ ?_ _ _ ⟨0, s.heap, s.toks, [], base, by simp, Nat.zero_le _, rfl, by rw [List.drop_zero]; omega, by rw [List.drop_zero]; show 0 + _ + 3 ≤ M; omega, rfl, fun _ _ e => e⟩
    · rintro x rest' _ s' ⟨i, h', tk, ts, m, hr, hi, rfl, hm, hpl, rfl, hkp⟩
      have hlt : i < es.size := by
        rcases Nat.lt_or_ge i es.size with h | h
        · exact h
        · rw [Nat.sub_eq_zero_of_le h] at hr; simp at hr
      obtain ⟨rfl, hrest⟩ : x = i ∧ rest' = List.range' (i + 1) (es.size - (i + 1)) := by
        have e : es.size - i = (es.size - (i + 1)) + 1 := by omega
        rw [e, List.range'_succ] at hr
        injection hr with h1 h2
        exact ⟨h1, h2⟩
      obtain ⟨Bk, Bv, hB, rk, rv⟩ := hE.at_ x es[x] (by simp [hlt])
      have hp1 := pil_drop hB
      refine wpAny_bind (wpAny_dictEntries (hkp _ _ (hk0 _ _ ha)) hd ?_)
      rw [Array.getElem?_eq_getElem hlt]
      refine wpAny_bind (wpAny_holding (wpAny_bind (rk (m + 1) (by omega) _ _ _ _ hu (fun b o e => hkp _ _ (hk0 _ _ e)) fun k h1 t1 hk1l hk1 =>
        wpAny_bind (rv (m + (k.length + 3)) (by omega) _ _ _ _ hu (fun b o e => hk1 _ _ (hkp _ _ (hk0 _ _ e))) fun v h2 t2 hv2l hk2 => wpAny_pure ?_))))
      refine wpAny_bind (wpAny_dictEpoch (hk2 _ _ (hk1 _ _ (hkp _ _ (hk0 _ _ ha)))) hd ?_)
      rw [if_neg (by simp)]
      have e1 : (List.toArray ts).push (k ++ ": " ++ v) = List.toArray (ts ++ [k ++ ": " ++ v]) := by simp
      have hkl : (k ++ ": " ++ v).length = k.length + 2 + v.length := by
        rw [strLen_append, strLen_append]; rfl
      refine wpAny_pure ⟨x + 1, h2, t2, ts ++ [k ++ ": " ++ v], m + (k.length + v.length + 4), hrest, hlt, ?_, by omega, ?_, rfl, fun b o e => hk2 _ _ (hk1 _ _ (hkp _ _ e))⟩
      · rw [e1]
      · have e2 : piled [k ++ ": " ++ v] = k.length + 2 + v.length + 2 := by simp [piled, hkl]
        rw [piled_append, e2]
        omega
    · rintro _ s' ⟨i, h', tk, ts, m, hr, hi, rfl, hm, hpl, rfl, hkp⟩
      have hl := dictText_le ts
      have hl2 : (dictText ts).length ≤ sizeLine := by omega
      refine wpAny_bind (wpAny_mkStr (wpAny_pure ?_) (by simpa [dictText] using hl2))
      have h1 := hR (dictText ts) h' tk (tk + 1) (by omega) hkp
      simpa [dictText] using h1
end
section
variable {prog : Program} {w : World}
theorem ReprS.dict {h₀ : Heap} {d M : Nat} {a : Addr} {oa : Obj} {es : Array DictEntry} {na : Nat} {Bs : List Nat} (ha : h₀.get? a = some oa) (hc : oa.cls = .type "dict") (hda : oa.data = .dict es na) (hsys : (a == sysModules) = false)
    (hT : EntS prog w h₀ d es.toList Bs) (hp : pil Bs + 5 ≤ M) : ReprS prog w h₀ (d + 1) M (.ref a) := by
  intro base hb A E s Q hu hk0 hQ
  refine wpAny_pyReprUnder_ref (by omega) (wpAny_pyReprObjUnder_twin (twin := "dict.__repr__.under") ⟨oa, hk0 _ _ ha, hc⟩ F.slot_dict_repr rfl (by omega) ?_)
  refine call_twin_own (F.quiet_dict_repr_under _) F.entry_dict_repr_under F.check_dict_repr_under ⟨oa, hk0 _ _ ha, hc⟩ F.slot_dict_repr (F.args_dict_repr_1 _) (wpOwn_of_wpAny ?_)
  refine dict_atS (A := A.under (.builtin "dict.__repr__.under" ⟨[.ref a, rawInt base], []⟩)) (M := M) ha hc hda hsys hT (by rw [units_under_dict_repr_under]; omega) hk0 (by omega) hp hb fun t h' u tk ht hk => ⟨⟨_, _, rfl⟩, _, _, rfl, hQ t h' tk ht hk⟩
variable {A : Around} {E : Value → Shared → Prop} {s : Shared}
/-- as an object's text -/
theorem objS_list {d M : Nat} {a : Addr} {oa : Obj} {l : List Value} {na : Nat} {Bs : List Nat} {Q : Value → Shared → Prop} (ha : s.heap.get? a = some oa) (hc : oa.cls = .type "list") (hda : oa.data = .seq l.toArray na) (hsz : l.length ≤ 1000)
    (hT : AllS prog w s.heap d l Bs) (hp : pil Bs + 5 ≤ M) (hM : M ≤ sizeLine) (hu : A.units + (d + 1) < cLine)
    (hQ : ∀ t h' u tk, t.length ≤ M → (∀ b o, s.heap.get? b = some o → h'.get? b = some o) → Q (.str t u) { s with heap := h', toks := tk }) : wpAny (model prog w) A (pyReprObj (.ref a)) Q E s := by
  cases l with
  | nil => exact wpAny_pyReprObj_list_empty ⟨oa, ha, hc⟩ (by omega) ha hda (hQ _ s.heap _ _ (Nat.le_trans (show ("[]" : Str).length ≤ 5 by decide +kernel) (by omega)) fun _ _ e => e)
  | cons x l =>
    refine wpAny_pyReprObj_slot (by omega) ⟨oa, ha, hc⟩ F.slot_list_repr.toG ?_
    refine wpAny_call (codeAny_call_builtin F.slot_list_repr.plain F.entry_list_repr (F.slot_list_repr.check _ _ _ _ _ _ _ _ ⟨oa, ha, hc⟩ (F.args_list_repr_1 _) ?_))
    exact list_atS (base := 0) (M := M) (R := callEnd _ E) ha hda (by simpa using hT.len) (Nat.le_trans (show (x :: l).toArray.size ≤ 1000 by simpa using hsz) (by decide)) (fun i y e => hT.at_ i y (by simpa using e)) hu (fun _ _ e => e) hM hp (by omega) fun t h' u tk ht hk => ⟨_, _, rfl, hQ t h' u tk ht hk⟩
theorem objS_tuple {d M : Nat} {a : Addr} {oa : Obj} {items : Array Value} {na : Nat} {Bs : List Nat} {Q : Value → Shared → Prop} (ha : s.heap.get? a = some oa) (hc : oa.cls = .type "tuple") (hda : oa.data = .seq items na)
    (hT : AllS prog w s.heap d items.toList Bs) (hp : pil Bs + 5 ≤ M) (hM : M ≤ sizeLine) (hu : A.units + (d + 1) < cLine)
    (hQ : ∀ t h' u tk, t.length ≤ M → (∀ b o, s.heap.get? b = some o → h'.get? b = some o) → Q (.str t u) { s with heap := h', toks := tk }) : wpAny (model prog w) A (pyReprObj (.ref a)) Q E s := by
  refine wpAny_pyReprObj_slot (by omega) ⟨oa, ha, hc⟩ F.slot_tuple_repr ?_
  refine wpAny_call (codeAny_call_builtin_own (Code.quiet_builtin _ (by decide +kernel)) F.entry_tuple_repr (F.slot_tuple_repr.check _ _ _ _ _ _ _ _ ⟨oa, ha, hc⟩ (F.args_tuple_repr_1 _) (wpOwn_of_wpAny ?_)))
  refine tup_atS (A := A.under (.builtin "tuple.__repr__" ⟨[.ref a], []⟩)) (base := 0) (M := M) ha hda hT (by rw [units_under_tuple_repr]; omega) (fun _ _ e => e) hM hp (by omega) fun t h' u tk ht hk => ⟨_, _, rfl, hQ t h' u tk ht hk⟩
theorem objS_dict {d M : Nat} {a : Addr} {oa : Obj} {es : Array DictEntry} {na : Nat} {Bs : List Nat} {Q : Value → Shared → Prop} (ha : s.heap.get? a = some oa) (hc : oa.cls = .type "dict") (hda : oa.data = .dict es na) (hsys : (a == sysModules) = false)
    (hT : EntS prog w s.heap d es.toList Bs) (hp : pil Bs + 5 ≤ M) (hM : M ≤ sizeLine) (hu : A.units + (d + 1) < cLine)
    (hQ : ∀ t h' u tk, t.length ≤ M → (∀ b o, s.heap.get? b = some o → h'.get? b = some o) → Q (.str t u) { s with heap := h', toks := tk }) : wpAny (model prog w) A (pyReprObj (.ref a)) Q E s := by
  refine wpAny_pyReprObj_slot (by omega) ⟨oa, ha, hc⟩ F.slot_dict_repr ?_
  refine wpAny_call (codeAny_call_builtin_own (Code.quiet_builtin _ (by decide +kernel)) F.entry_dict_repr (F.slot_dict_repr.check _ _ _ _ _ _ _ _ ⟨oa, ha, hc⟩ (F.args_dict_repr_1 _) (wpOwn_of_wpAny ?_)))
  refine dict_atS (A := A.under (.builtin "dict.__repr__" ⟨[.ref a], []⟩)) (base := 0) (M := M) ha hc hda hsys hT (by rw [units_under_dict_repr]; omega) (fun _ _ e => e) hM hp (by omega) fun t h' u tk ht hk => ⟨_, _, rfl, hQ t h' u tk ht hk⟩
end
end Own

namespace Own
open PySem PySem.Spec PyProof.Rows L2
/-- a number, a truth value, None, a text -/
def Leaf (v : V) : Prop := (∃ i : Int, v = .int i ∧ i.natAbs.log2 < 1000) ∨ (∃ b : Bool, v = .bl b) ∨ v = .non ∨ ∃ y : Str, v = .str y ∧ (reprText y).length ≤ 1000
/-- .. and lists, tuples and dicts of these -/
def ShoD (K : PySem.W.Frag) (H : Hp) : Nat → V → Prop
  | 0, v => Leaf v
  | n + 1, v => ShoD K H n v ∨ (∃ (p : Addr) (xs : List V), v = .ref p ∧ (SqL K H p xs ∨ SqT K H p xs) ∧ xs.length ≤ 8 ∧ ∀ x ∈ xs, ShoD K H n x) ∨
    ∃ (p : Addr) (kvs : List (Key × V)), v = .ref p ∧ H p = some (.dK kvs) ∧ kvs.length ≤ 8 ∧ ∀ kv ∈ kvs, Leaf (kV kv.1) ∧ Leaf kv.2
def bd : Nat → Nat
  | 0 => 1010
  | n + 1 => 10 * bd n + 20000
theorem bd_ge (n : Nat) : 1010 ≤ bd n := by
  induction n with
  | zero => exact Nat.le_refl _
  | succ n ih => show 1010 ≤ 10 * bd n + 20000; omega
theorem leafS {prog : Program} {w : World} {h₀ : Heap} {d : Nat} {v : V} {u : Value} (h : Leaf v) (r : RelV v u) : ReprS prog w h₀ d 1010 u := by
  rcases h with ⟨i, rfl, hi⟩ | ⟨b, rfl⟩ | rfl | ⟨y, rfl, hy⟩
  · obtain ⟨t, rfl⟩ := r
    exact ReprS.of_is (ReprIs.int t (by omega)) (Nat.le_trans (txt_len hi) (by decide))
  · cases (show u = Value.bool b from r)
    exact ReprS.of_is (ReprIs.bool b) (by cases b <;> decide +kernel)
  · cases (show u = Value.none from r)
    exact ReprS.of_is ReprIs.none (by decide +kernel)
  · obtain ⟨t, rfl⟩ := r
    exact ReprS.of_is (ReprIs.str y t (Nat.le_trans hy (by decide))) (by omega)
theorem allS {prog : Program} {w : World} {h₀ : Heap} {d B : Nat} : ∀ {xs : List V} {us : List Value}, Vals xs us → (∀ x ∈ xs, ∀ u, RelV x u → ReprS prog w h₀ d B u) → AllS prog w h₀ d us (List.replicate xs.length B)
  | _, _, .nil, _ => .nil
  | _, _, .cons r t, h => .cons (h _ List.mem_cons_self _ r) (allS t fun x hx => h x (List.mem_cons_of_mem _ hx))
theorem pil_rep (n B : Nat) : pil (List.replicate n B) = n * (B + 2) := by
  induction n with
  | zero => simp [pil]
  | succ n ih => rw [List.replicate_succ, pil_cons, ih, Nat.succ_mul]; omega
theorem entS {prog : Program} {w : World} {h₀ : Heap} {d : Nat} : ∀ {kvs : List (Key × V)} {vs : List (Key × Value)} {es : List DictEntry}, KV kvs vs → Pairs (mixKind prog w) es vs → (∀ kv ∈ kvs, Leaf (kV kv.1) ∧ Leaf kv.2) → EntS prog w h₀ d es (List.replicate kvs.length 2022)
  | _, _, _, .nil, .nil, _ => .nil
  | kv :: kvs, _, _, .cons r t, .cons k e p, h => by
    have hh := h _ List.mem_cons_self
    refine EntS.cons (B := 1010) (C := 1010) ?_ ?_ (entS t p fun x hx => h x (List.mem_cons_of_mem _ hx))
    · rcases keyIs_shape k with ⟨i, t', e1, e2⟩ | ⟨x, t', e1, e2⟩
      · rw [e2]
        refine leafS hh.1 ?_
        rw [r.1, e1]
        exact ⟨t', rfl⟩
      · rw [e2]
        refine leafS hh.1 ?_
        rw [r.1, e1]
        exact ⟨t', rfl⟩
    · rw [e]
      exact leafS hh.2 r.2
section
variable {X : Cx}
theorem shoS {pins : List (Addr × Obj)} {σ : L2.St} {H : Hp} {s : Shared} (I : Inv X pins σ H s) : ∀ (n : Nat) (v : V) (u : Value), ShoD X.K H n v → RelV v u → ReprS X.prog X.w s.heap n (bd n) u
  | 0, v, u, h, r => leafS h r
  | n + 1, v, u, h, r => by
    have ge := bd_ge n
    rcases h with h | ⟨p, xs, rfl, hp, hl, hx⟩ | ⟨p, kvs, rfl, hp, hl, hx⟩
    · exact (shoS I n v u h r).le (Nat.le_succ n) (by show bd n ≤ 10 * bd n + 20000; omega)
    · cases (show u = Value.ref p from r)
      have le : pil (List.replicate xs.length (bd n)) + 5 ≤ bd (n + 1) := by
        rw [pil_rep]
        show _ ≤ 10 * bd n + 20000
        have : xs.length * (bd n + 2) ≤ 8 * (bd n + 2) := Nat.mul_le_mul_right _ hl
        omega
      rcases hp with hp | hp
      · obtain ⟨its, rv, obj, _⟩ := I.list hp
        obtain ⟨⟨oc, od, dt, sl⟩, ho, hc, m, hd⟩ := obj.isList
        have hlen : its.length = xs.length := (Vals.length rv).symm
        exact ReprS.list ho hc hd (by omega) (allS rv fun x hxm u r => shoS I n x u (hx x hxm) r) le
      · obtain ⟨its, rv, ⟨o, ho, hc, m, hd⟩, _⟩ := I.tuple hp
        exact ReprS.tuple ho hc hd (by simpa using allS rv fun x hxm u r => shoS I n x u (hx x hxm) r) le
    · cases (show u = Value.ref p from r)
      obtain ⟨_, hS, vs, kv, o, es, ep, ho, ex, hd, _, pr, _⟩ := I.hok p _ hp
      refine ReprS.dict ho ex.1 hd hS (entS kv pr hx) ?_
      rw [pil_rep]
      show _ ≤ 10 * bd n + 20000
      have : kvs.length * (2022 + 2) ≤ 8 * (2022 + 2) := Nat.mul_le_mul_right _ hl
      omega
/-- {x!r}: some text -/
def tFmtD (K : PySem.W.Frag) (te : TE) : TE := fun σ H Q => te σ H fun x H1 => ShoD K H1 3 x ∧ ∀ y : Str, y.length ≤ 4000000 → Q (.str y) H1
set_option maxHeartbeats 600000 in
theorem pe_fmtD {k : Nat} {e : Expr} {te : TE} {pos : Pos} (room : Room k X.A) (he : PE X e te) : PE X (.FormattedValue e 114 none pos) (tFmtD X.K te) := by
  refine ⟨fun pins s σ H Q inv ask => ?_⟩
  refine wpAny_FormattedValue_repr (thn (he.run pins s σ H _ inv ask) fun v s1 hv => ?_)
  obtain ⟨x, H1, I1, r1, sho, q⟩ := hv
  have un := room.units
  have room0 := room.units0
  have put : ∀ (m : Str) (t : Tok) (s2 : Shared), m.length ≤ 4000000 → Inv X pins σ H1 s2 → wpAny (model X.prog X.w) X.A (formatField (.str m t) Str.empty) (EP X pins σ Q) X.xe s2 := fun m t s2 hm J =>
    wpAny_formatField_str ⟨.str m, H1, J, ⟨_, rfl⟩, q m hm⟩ ⟨.str m, H1, J.tok _, ⟨_, rfl⟩, q m hm⟩ (Nat.le_trans hm (by decide))
  have leaf : ∀ x, Leaf x → RelV x v → wpAny (model X.prog X.w) X.A (pyReprObj v) (fun m s2 => wpAny (model X.prog X.w) X.A (formatField m Str.empty) (EP X pins σ Q) X.xe s2) X.xe s1 := fun x h r1 => by
    rcases h with ⟨i, rfl, hi⟩ | ⟨b, rfl⟩ | rfl | ⟨y, rfl, hy⟩
    · obtain ⟨t, rfl⟩ := r1
      exact pyReprObj_int (by omega) (put _ _ _ (Nat.le_trans (txt_len hi) (by decide)) (I1.tok _))
    · cases (show v = Value.bool b from r1)
      exact pyReprObj_bool (put _ _ _ (by cases b <;> decide +kernel) (I1.tok _))
    · cases (show v = Value.none from r1)
      exact pyReprObj_none (put _ _ _ (by decide +kernel) (I1.tok _))
    · obtain ⟨t, rfl⟩ := r1
      exact pyReprObj_str (put _ _ _ (by omega) (I1.tok _)) (Nat.le_trans hy (by decide))
  have all : ∀ n, n ≤ 3 → ∀ x, ShoD X.K H1 n x → RelV x v → wpAny (model X.prog X.w) X.A (pyReprObj v) (fun m s2 => wpAny (model X.prog X.w) X.A (formatField m Str.empty) (EP X pins σ Q) X.xe s2) X.xe s1 := by
    intro n
    induction n with
    | zero => exact fun _ x h r => leaf x h r
    | succ n ih =>
      intro hn x h r1
      have ge := bd_ge n
      have up : bd (n + 1) ≤ 4000000 := by
        have b0 : bd 0 = 1010 := rfl
        have b1 : bd (0 + 1) = 10 * bd 0 + 20000 := rfl
        have b2 : bd (1 + 1) = 10 * bd (0 + 1) + 20000 := rfl
        have b3 : bd (2 + 1) = 10 * bd (1 + 1) + 20000 := rfl
        have : n = 0 ∨ n = 1 ∨ n = 2 := by omega
        rcases this with e | e | e <;> rw [e] <;> omega
      rcases h with h | ⟨p, xs, rfl, hp, hl, hx⟩ | ⟨p, kvs, rfl, hp, hl, hx⟩
      · exact ih (by omega) x h r1
      · cases (show v = Value.ref p from r1)
        have le : pil (List.replicate xs.length (bd n)) + 5 ≤ bd (n + 1) := by
          rw [pil_rep]
          show _ ≤ 10 * bd n + 20000
          have : xs.length * (bd n + 2) ≤ 8 * (bd n + 2) := Nat.mul_le_mul_right _ hl
          omega
        rcases hp with hp | hp
        · obtain ⟨its, rv, obj, _⟩ := I1.list hp
          obtain ⟨⟨oc, od, dt, sl⟩, ho, hc, m, hd⟩ := obj.isList
          have hlen : its.length = xs.length := (Vals.length rv).symm
          exact objS_list (M := bd (n + 1)) ho hc hd (by omega) (allS rv fun x hxm u r => shoS I1 n x u (hx x hxm) r) le (Nat.le_trans up (by decide)) (by omega) fun t h' u tk ht hk => put t u _ (by omega) (I1.kept (t' := tk) hk)
        · obtain ⟨its, rv, ⟨o, ho, hc, m, hd⟩, _⟩ := I1.tuple hp
          exact objS_tuple (M := bd (n + 1)) ho hc hd (by simpa using allS rv fun x hxm u r => shoS I1 n x u (hx x hxm) r) le (Nat.le_trans up (by decide)) (by omega) fun t h' u tk ht hk => put t u _ (by omega) (I1.kept (t' := tk) hk)
      · cases (show v = Value.ref p from r1)
        obtain ⟨_, hS, vs, kv, o, es, ep, ho, ex, hd, _, pr, _⟩ := I1.hok p _ hp
        have ent : EntS X.prog X.w s1.heap n es.toList (List.replicate kvs.length 2022) := entS kv pr hx
        have le : pil (List.replicate kvs.length 2022) + 5 ≤ bd (n + 1) := by
          rw [pil_rep]
          show _ ≤ 10 * bd n + 20000
          have : kvs.length * (2022 + 2) ≤ 8 * (2022 + 2) := Nat.mul_le_mul_right _ hl
          omega
        have hz : bd (n + 1) ≤ sizeLine := Nat.le_trans up (by decide)
        have hn4 : X.A.units + (n + 1) < cLine := by omega
        have ho' := ex.1
        clear hx pr kv hp
        generalize bd (n + 1) = M at le up hz
        exact objS_dict (M := M) ho ho' hd hS ent le hz hn4 fun t h' u tk ht hk => put t u _ (Nat.le_trans ht up) (I1.kept (t' := tk) hk)
  exact all 3 (Nat.le_refl _) x sho r1
end
end Own

/-! Own errors whose fields are values of many kinds. -/
namespace Own
open PySem PySem.Spec PyProof.Rows L2 NdefX
theorem sq_keep {K : PySem.W.Frag} {H H' : Hp} {p : Addr} {xs : List V} (s : ∀ b o, H b = some o → H' b = some o) (h : SqL K H p xs ∨ SqT K H p xs) : SqL K H' p xs ∨ SqT K H' p xs := by
  rcases h with ((h | ⟨o, h⟩) | h) | ((h | ⟨o, h⟩) | h)
  · exact .inl (.inl (.inl (s _ _ h)))
  · exact .inl (.inl (.inr ⟨o, s _ _ h⟩))
  · exact .inl (.inr h)
  · exact .inr (.inl (.inl (s _ _ h)))
  · exact .inr (.inl (.inr ⟨o, s _ _ h⟩))
  · exact .inr (.inr h)
theorem ShoD.keep {K : PySem.W.Frag} {H H' : Hp} (s : ∀ b o, H b = some o → H' b = some o) : ∀ {n : Nat} {v : V}, ShoD K H n v → ShoD K H' n v
  | 0, _, h => h
  | n + 1, _, .inl h => .inl (h.keep s)
  | n + 1, _, .inr (.inl ⟨p, xs, e, hp, hl, hx⟩) => .inr (.inl ⟨p, xs, e, sq_keep s hp, hl, fun x m => (hx x m).keep s⟩)
  | n + 1, _, .inr (.inr ⟨p, kvs, e, hp, hl, hx⟩) => .inr (.inr ⟨p, kvs, e, s _ _ hp, hl, hx⟩)
theorem ShoD.up {K : PySem.W.Frag} {H : Hp} {n : Nat} {v : V} (h : ShoD K H n v) : ShoD K H (n + 1) v := .inl h
theorem ShoD.leaf {K : PySem.W.Frag} {H : Hp} {v : V} (h : Leaf v) : ∀ n, ShoD K H n v
  | 0 => h
  | n + 1 => .inl (ShoD.leaf h n)
/-- the promise of its __init__ -/
def spErrD (K : PySem.W.Frag) (D : Addr) (nm : List Str) : Sp := fun vs H Q _ => ∃ (a : Addr) (ys : List V), vs = .ref a :: ys ∧ ys.length = nm.length ∧ (∀ y ∈ ys, ShoD K H 3 y) ∧ H a = some (exo a D none) ∧
  ∀ d H', H d = none → d ≠ a → (∀ b, H' b = if b = d then some (exd d (flE nm ys)) else if b = a then some (exo a D (some d)) else H b) → Q .non H'
section
variable {X : Cx} {pins : List (Addr × Obj)} {σ : L2.St} {H : Hp} {s : Shared} {Q : XK} {D f : Addr} {k : Nat} {fd : FuncData} {ps nm : List Str} {ys : List V} {us : List Value} {x : Str}
/-- what is asked of the class when it is called -/
theorem ask_errD {K : PySem.W.Frag} (hl : ys.length = nm.length) (hs : ∀ y ∈ ys, ShoD K H 3 y) (q : ∀ d, H d = none → Q (.ref D) (some d) (upd H d (.xd (flE nm ys)))) {a : Addr} (na : H a = none) :
    spErrD K D nm (.ref a :: ys) (upd H a (exo a D none)) (fun v H2 => v = .non ∧ ∃ (d : Addr) (fs : List (Str × V)), H2 a = some (exo a D (some d)) ∧ H2 d = some (exd d fs) ∧ H d = none ∧ Q (.ref D) (some d) (upd (del H2 a) d (.xd fs))) (fun _ _ _ => False) := by
  refine ⟨a, ys, rfl, hl, fun y hy => (hs y hy).keep fun b o e => ?_, upd_same, fun d H' nd ne h => ⟨rfl, d, flE nm ys, ?_, ?_, ?_, ?_⟩⟩
  · by_cases hb : b = a
    · rw [hb, na] at e
      cases e
    · rw [upd_ne hb]
      exact e
  · rw [h, if_neg ne.symm, if_pos rfl]
  · rw [h, if_pos rfl]
  · rw [upd_ne ne] at nd
    exact nd
  · have : upd (del H' a) d (.xd (flE nm ys)) = upd H d (.xd (flE nm ys)) := by
      funext b
      by_cases hb : b = d
      · rw [hb, upd_same, upd_same]
      · rw [upd_ne hb, upd_ne hb]
        by_cases ha : b = a
        · rw [ha, del_same, na]
        · rw [del_ne ha, h, if_neg hb, if_neg ha, upd_ne ha]
    rw [this]
    rw [upd_ne ne] at nd
    exact q d nd
/-- the call of the class -/
theorem err_madeD (T : OexC X.K D) (R : ErrT X.K X.mg x D f) (F1 : FnOk X.prog X.w X.K X.mg X.base CX0 k f fd ps (spErrD X.K D nm)) (hr : Room (k + 1) X.A) (hb : Binds X.K fd ps []) (I : Inv X pins σ H s) (r : Vals ys us) (hl : ys.length = nm.length) (hz : nm.length ≤ 1000)
    (hs : ∀ y ∈ ys, ShoD X.K H 3 y) (q : ∀ d, H d = none → Q (.ref D) (some d) (upd H d (.xd (flE nm ys)))) : wpAny (model X.prog X.w) X.A (call (.ref D) us) (L2N.MkP X pins σ Q) X.xe s := by
  obtain ⟨nn, qq, N, bs, bm, sn, sub, ab, col, dd, k0, k1, k2, k3, k5, hC, hbm⟩ := T.cls
  obtain ⟨hp, g, dr, tk, os⟩ := s
  have far : hp.objs.size ≤ hp.objs.size + 1 := Nat.le_succ _
  have free : H (hp.objs.size + 1) = none := I.hok.fresh far
  have ask := ask_errD (D := D) hl hs q free
  have old : ∀ b o, hp.get? b = some o → ((hp.push (PySem.W.kdv_tup us)).push (PySem.HandSPX.excO D hp.objs.size)).get? b = some o := fun b o e => Heap.get?_push_of_some _ (Heap.get?_push_of_some _ e)
  have here : ((hp.push (PySem.W.kdv_tup us)).push (PySem.HandSPX.excO D hp.objs.size)).get? (hp.objs.size + 1) = some (PySem.HandSPX.excO D hp.objs.size) := by heap_get
  have J : Inv X pins σ (upd H (hp.objs.size + 1) (exo (hp.objs.size + 1) D none)) ⟨(hp.push (PySem.W.kdv_tup us)).push (PySem.HandSPX.excO D hp.objs.size), g, dr, tk, os⟩ := I.laid (t' := tk) (a := hp.objs.size + 1) (o := exo (hp.objs.size + 1) D none) old far (exo_ok here)
  have vals : Vals (V.ref (hp.objs.size + 1) :: ys) (Value.ref (hp.objs.size + 1) :: us) := .cons rfl r
  have len : (Value.ref (hp.objs.size + 1) :: us).length = ps.length := by
    rw [← vals.length]
    exact F1.len _ _ _ _ ask
  have few : us.length ≤ sizeLine := by
    rw [← Paired.length r, hl]
    exact Nat.le_trans hz (by decide)
  have bind := hb _ (Value.ref (hp.objs.size + 1) :: us) J.kIn (by rw [List.append_nil]; exact len)
  rw [List.append_nil] at bind
  have run := F1.run _ X.stack _ _ ⟨Value.ref (hp.objs.size + 1) :: us, []⟩ _ _ _ (fun _ _ _ => False) (hr.make D us []) (J.env0.make D us []) bind vals ask
  refine wpAny_call (PySem.HandSPX.call_own F.excBase_ValueError (fun Y => PySem.HandSPX.refsVE_contains Y bm hbm) (I.kIn _ _ hC) (PySem.W.looks_findIn I.kIn R.i) (fun self => PySem.W.bind_fn I.kIn self R.t) few (codeAny_mono run fun res s' back => ?_))
  cases res with
  | error er => exact back.elim
  | ok fl =>
    cases fl with
    | ret u =>
      obtain ⟨v, H2, os2, bare2, un2, hok2, rv, ev, d, fs, ea, ed, hd1, q2⟩ := back
      subst ev
      obtain ⟨h2, g2, d2, t2, os'⟩ := s'
      obtain ⟨t0, G, K1, kG, ge, hoe, na⟩ := mk_end0 (d2 := d2) (t2 := t2) I far old un2 hok2 os2 bare2 ea ed hd1
      exact ⟨rv, hp.objs.size + 1, _, _, ⟨G, g2, d2, t2, os'⟩, _, .ref D, some d, rfl, K1, kG, ge, hoe, ⟨rfl, rfl, fun vs e => by cases e; rfl⟩, rfl, rfl, na, rfl, bare2, raises_own T.exC T.tyC, q2⟩
    | next => exact back.elim
    | brk => exact back.elim
    | cont => exact back.elim
end
/-- raise X(e, ..) -/
def tErrD (K : PySem.W.Frag) (D : Addr) (nm : List Str) (ta : TA) : L2.St → Hp → XK → Prop := fun σ H Q => ta σ H fun ys H1 => ys.length = nm.length ∧ nm.length ≤ 1000 ∧ (∀ y ∈ ys, ShoD K H1 3 y) ∧ ∀ d, H1 d = none → Q (.ref D) (some d) (upd H1 d (.xd (flE nm ys)))
section
variable {X : Cx} {W : WX} {x : Str} {D f : Addr} {k : Nat} {fd : FuncData} {ps nm : List Str} {e : Expr} {es : List Expr} {ta : TA} {p pos pos' : Pos}
theorem ps_errD (hc : X.calm = true) (tk : L2N.Takes X W) (T : OexC X.K D) (R : ErrT X.K X.mg x D f) (F1 : FnOk X.prog X.w X.K X.mg X.base CX0 k f fd ps (spErrD X.K D nm)) (hr : Room (k + 1) X.A) (hb : Binds X.K fd ps []) (hg : Gl X x) (ha : PA X (e :: es) ta)
    (hdb : (x == ("__debug__" : Str)) = false := by decide)
    (he : starEach (e :: es) X.env = (false, eval e X.env) :: starEach es X.env := by rfl)
    (hpl : (backTo pos (starEach es X.env)).any (·.1) = false := by rfl) :
    PS X (.Raise (some (.Call (.Name x p) (e :: es) [] pos)) none pos') (fun _ σ H => tErrD X.K D nm ta σ H fun cls d H' => W cls d σ H') := by
  refine L2N.ps_raise hc tk fun pins s σ H Q I h => ?_
  refine wpAny_Call_Name_kw (ld_glob I hg R.g ?_ hdb)
  refine PySem.W.callWith_K (h₀ := X.base) I.ok.mod.kin T.kC (thn (ha.run pos pins s σ H _ I h) fun us s1 ⟨ys, H1, I1, r, hl, hz, hs, q⟩ => ⟨I1.kIn, ?_⟩) he hpl
  exact err_madeD T R F1 hr hb I1 r hl hz hs q
end
end Own

namespace Own
open PySem PySem.Spec PyProof.Rows L2 TL
/-! ### letters, lines (a word with its numbers) -/
/-- an item of a list or of a tuple -/
def rIxB (K : PySem.W.Frag) : R2 := fun x y H Q => ∃ p xs i v, x = .ref p ∧ y = .int i ∧ SqB K H p xs ∧ atI xs i = some v ∧ Q v H
theorem ix_seqB {X : Cx} : IxR X (rIxB X.K) := by
  intro value slice pins s σ H x y v u Q I rx ry h hs
  obtain ⟨p, xs, i, z, rfl, rfl, hB, ha, q⟩ := h
  rcases hB with hB | hB
  · exact ix_list value slice pins s σ H _ _ v u Q I rx ry ⟨p, xs, i, z, rfl, rfl, hB, ha, q⟩ hs
  · exact ix_tup value slice pins s σ H _ _ v u Q I rx ry ⟨p, xs, i, z, rfl, rfl, hB, ha, q⟩ hs
def SqH (H : Hp) (a : Addr) (xs : List V) : Prop := H a = some (.lst xs) ∨ H a = some (.tup xs)
theorem SqH.same {H H' : Hp} {a : Addr} {xs : List V} (s : Same H H') (h : SqH H a xs) : SqH H' a xs := h.elim (fun e => .inl (s _ _ e)) fun e => .inr (s _ _ e)
theorem SqH.b {K : PySem.W.Frag} {H : Hp} {a : Addr} {xs : List V} (h : SqH H a xs) : SqB K H a xs := h.elim (fun e => .inl (.inl (.inl e))) fun e => .inr (.inl (.inl e))
abbrev Deed := Str × List Int
abbrev dv (d : Deed) : List V := .str d.1 :: d.2.map V.int
theorem cut1 {v : V} {xs : List V} : cutV (v :: xs) (some 1) none = xs := by
  unfold cutV
  rw [show HT.sIx (v :: xs).length 0 (some 1) = min 1 (v :: xs).length from HT.sIx_nat _ _ 1, HT.sIx_none]
  have e : min 1 (v :: xs).length = 1 := by simp
  rw [e]
  show List.take (xs.length + 1 - 1) xs = xs
  rw [Nat.add_sub_cancel, List.take_length]
theorem cut1_part {v : V} {xs : List V} : ¬ (HT.sIx (v :: xs).length 0 (some 1) = 0 ∧ HT.sIx (v :: xs).length (v :: xs).length none = (v :: xs).length) := by
  rw [show HT.sIx (v :: xs).length 0 (some 1) = min 1 (v :: xs).length from HT.sIx_nat _ _ 1]
  have e : min 1 (v :: xs).length = 1 := by simp
  rw [e]
  exact fun z => absurd z.1 (by decide)
section
variable {P : Program} {w : World} {K : PySem.W.Frag} {mg : Str → Option Value} {base : Heap}
def spSeqB : Sp := fun vs H Q _ => ∃ (a : Addr) (xs : List V), vs = [.ref a] ∧ SqH H a xs ∧ ∀ H', Same H H' → Q (.bl true) H'
theorem ok_seqB {f : Addr} {fd : FuncData} (F : Fun K "is_sequence" "is_sequence" s_is_sequence f fd) (T : Bi mg) : FnOk P w K mg base CX0 1 f fd ["value"] spSeqB := by
  refine F.ok sc_is_sequence (fun vs H Q E h => ?_) (fun cdv A outer s H vs Q E hr h => ?_)
  · obtain ⟨a, xs, rfl, _⟩ := h
    rfl
  · obtain ⟨a, xs, rfl, hs, q⟩ := h
    refine ⟨_, (pss_one (ps_ret (pe_callB call_isiT (by rfl) T.b_isinstance (by decide +kernel) (pa_cons (pv 0) (pa_cons (pe_tup (pa_cons (pe_bltn (v := .ty "list") (by rfl) T.b_list (by decide +kernel) rfl) (pa_cons (pe_bltn (v := .ty "tuple") (by rfl) T.b_tuple (by decide +kernel) rfl) pa_nil))) pa_nil))))), ?_⟩
    refine ⟨_, rfl, by show 2 ≤ sizeLine; decide, fun p np => ?_⟩
    have s1 : Same H (upd H p (.tup [.ty "list", .ty "tuple"])) := same_upd np
    rcases hs with hs | hs
    · exact ⟨_, p, _, _, _, true, rfl, upd_same, .cons (.ty "list") (.cons (.ty "tuple") .nil), .base (.lst (s1 _ _ hs)), kitAny_cons (b := true) (kit_ty (by decide +kernel)) (fun z => by cases z) (fun _ => rfl), q _ s1⟩
    · exact ⟨_, p, _, _, _, true, rfl, upd_same, .cons (.ty "list") (.cons (.ty "tuple") .nil), .base (.tup (s1 _ _ hs)), kitAny_cons (b := false) (kit_ty (by decide +kernel)) (fun _ => kitAny_cons (b := true) (kit_ty (by decide +kernel)) (fun z => by cases z) (fun _ => rfl)) (fun z => by cases z), q _ s1⟩
end
/-- tuple(a list or a tuple), by the written part -/
def rTupOf (K : PySem.W.Frag) : List V → Hp → VK → Prop := fun xs H Q => ∃ p ys, xs = [.ref p] ∧ ((SqL K H p ys ∧ ∀ l, H l = none → Q (.ref l) (upd H l (.tup ys))) ∨ (SqT K H p ys ∧ Q (.ref p) H))
theorem call_tupK {X : Cx} {K : PySem.W.Frag} (h : X.K = K) : CallR X (.type "tuple") (rTupOf K) := by
  subst h
  exact call_tuple_of
structure BiE (mg : Str → Option Value) : Prop where
  b_enum : mg "enumerate" = none
/-- deeds that stand in lists or tuples -/
def DsH (H : Hp) (vs : List V) (ds : List Deed) : Prop := vs.length = ds.length ∧ ∀ (i : Nat) (d : Deed), ds[i]? = some d → ∃ b, vs[i]? = some (.ref b) ∧ SqH H b (dv d)
/-- deeds that stand in tuples -/
def DsT (H : Hp) (vs : List V) (ds : List Deed) : Prop := vs.length = ds.length ∧ ∀ (i : Nat) (d : Deed), ds[i]? = some d → ∃ b, vs[i]? = some (.ref b) ∧ H b = some (.tup (dv d))
theorem DsT.h {H : Hp} {vs : List V} {ds : List Deed} (h : DsT H vs ds) : DsH H vs ds := ⟨h.1, fun i d e => let ⟨b, x, y⟩ := h.2 i d e; ⟨b, x, .inr y⟩⟩
theorem DsH.same {H H' : Hp} {vs : List V} {ds : List Deed} (s : Same H H') (h : DsH H vs ds) : DsH H' vs ds := ⟨h.1, fun i d e => let ⟨b, x, y⟩ := h.2 i d e; ⟨b, x, y.same s⟩⟩
theorem DsT.same {H H' : Hp} {vs : List V} {ds : List Deed} (s : Same H H') (h : DsT H vs ds) : DsT H' vs ds := ⟨h.1, fun i d e => let ⟨b, x, y⟩ := h.2 i d e; ⟨b, x, s _ _ y⟩⟩
theorem DsT.nil {H : Hp} : DsT H [] [] := ⟨rfl, fun i d e => by simp at e⟩
theorem DsT.snoc {H : Hp} {vs : List V} {ds : List Deed} {b : Addr} {d : Deed} (h : DsT H vs ds) (e : H b = some (.tup (dv d))) : DsT H (vs ++ [.ref b]) (ds ++ [d]) := by
  refine ⟨by rw [List.length_append, List.length_append, h.1]; rfl, fun i u hu => ?_⟩
  by_cases hi : i < ds.length
  · rw [List.getElem?_append_left hi] at hu
    obtain ⟨c, e1, e2⟩ := h.2 i u hu
    exact ⟨c, by rw [List.getElem?_append_left (by rw [h.1]; exact hi)]; exact e1, e2⟩
  · rw [List.getElem?_append_right (by omega)] at hu
    have hi2 : i - ds.length = 0 := by
      cases hk : i - ds.length with
      | zero => rfl
      | succ k => rw [hk] at hu; simp at hu
    rw [hi2] at hu
    obtain rfl : d = u := Option.some.inj hu
    exact ⟨b, by rw [List.getElem?_append_right (by rw [h.1]; omega), h.1, hi2]; rfl, e⟩
theorem DsH.at_ {H : Hp} {vs : List V} {ds : List Deed} (h : DsH H vs ds) {i : Nat} {x : V} (e : vs[i]? = some x) : ∃ b d, x = .ref b ∧ ds[i]? = some d ∧ SqH H b (dv d) := by
  have hi : i < ds.length := by
    rw [← h.1]
    exact (List.getElem?_eq_some_iff.mp e).1
  obtain ⟨b, e1, e2⟩ := h.2 i ds[i] (List.getElem?_eq_getElem hi)
  rw [e] at e1
  exact ⟨b, ds[i], Option.some.inj e1, List.getElem?_eq_getElem hi, e2⟩
theorem walk_enumT {K : PySem.W.Frag} {a : Addr} {xs : List V} : Walk (Itet K a) xs.length (fun H => SqT K H a xs) (YPair (fun i => some (.int (i : Nat))) (fun i => xs[i]?)) where
  goes := fun i H hi h => ⟨xs, xs[i], h, List.getElem?_eq_getElem hi⟩
  stops := fun H h => ⟨xs, h, Nat.le_refl _⟩
  yields := fun i H v H' hi h y => by
    obtain ⟨T, x, e, nT, eH, hx⟩ := y
    exact ⟨T, _, x, e, nT, eH, rfl, hx xs h⟩
/-- str of a text or of a whole number -/
def rStrX : List V → Hp → VK → Prop := fun xs H Q => (∃ a, xs = [.str a] ∧ Q (.str a) H) ∨ ∃ i : Int, xs = [.int i] ∧ i.natAbs.log2 < 1920 ∧ Q (.str (Str.ofString (toString i))) H
theorem call_strX {X : Cx} : CallR X (.type "str") rStrX := by
  intro pins s σ H xs us Q I r h
  rcases h with ⟨a, rfl, q⟩ | ⟨i, rfl, hi, q⟩
  · exact SkE.call_str_str pins s σ H _ us Q I r ⟨a, rfl, q⟩
  · exact call_str_int pins s σ H _ us Q I r ⟨i, rfl, hi, q⟩
theorem pi_seqK {X : Cx} {K : PySem.W.Frag} {tg l : Expr} {tl : TE} (hK : X.K = K) (hl : PE X l tl) : PI X tg l (iSeq K tl) := by
  subst hK
  exact pi_seq hl
def rJoin (K : PySem.W.Frag) : V → List V → Hp → VK → Prop := fun x xs H Q => ∃ a p, ∃ ys : List Str, x = .str a ∧ xs = [.ref p] ∧ (SqL K H p (ys.map V.str) ∨ SqT K H p (ys.map V.str)) ∧ (ys.map (·.length)).sum + ys.length * a.length ≤ 16777216 ∧ Q (.str (Txt.join a ys)) H
theorem pe_asJ {X : Cx} {K : PySem.W.Frag} {e : Expr} {to te : TE} (hK : X.K = K) (h : PE X e (tM1 (rJoin X.K) to te)) : PE X e (tM1 (rJoin K) to te) := by
  subst hK
  exact h
abbrev scW : Scope := { kind := .function, names := [(".0", .local), ("words", .local)], isGenerator := false, isCoroutine := false }
/-- the text of a number -/
def nt (i : Int) : Str := Str.ofString (toString i)
def wdsD (d : Deed) : List Str := d.1 :: d.2.map nt
/-- the line of a deed, the text of lines -/
def lineT (d : Deed) : Str := Txt.join " " (wdsD d)
def noteT (ds : List Deed) : Str := Txt.join "\n" (ds.map lineT)
/-- a deed that is short enough to be written -/
def Sml (d : Deed) : Prop := d.1.length ≤ 10 ∧ d.2.length ≤ 2 ∧ ∀ i ∈ d.2, i.natAbs < 2 ^ 64
theorem nt_len {i : Int} (h : i.natAbs < 2 ^ 64) : (nt i).length ≤ 65 := by
  unfold nt
  rw [PySem.ofString_length]
  exact int_text_length_le (by decide) (log_lt (by decide) h)
theorem sum_le : ∀ {l : List Nat} {k : Nat}, (∀ x ∈ l, x ≤ k) → l.sum ≤ l.length * k
  | [], k, _ => by simp
  | a :: l, k, h => by
    have h1 := h a List.mem_cons_self
    have h2 := sum_le (l := l) (k := k) fun x hx => h x (List.mem_cons_of_mem _ hx)
    rw [List.sum_cons, List.length_cons, Nat.succ_mul]
    omega
theorem wds_len {d : Deed} (h : Sml d) : ∀ x ∈ wdsD d, x.length ≤ 65 := fun x hx => by
  rcases List.mem_cons.mp hx with e | e
  · rw [e]
    have := h.1
    omega
  · obtain ⟨i, hi, rfl⟩ := List.mem_map.mp e
    exact nt_len (h.2.2 i hi)
theorem join_len (y : Str) : ∀ ps : List Str, (Txt.join y ps).length ≤ (ps.map (·.length)).sum + ps.length * y.length := fun ps => by
  rw [join_eq, len_tl, tl_join]
  have key : ∀ l : List Str, (joinL (tl y) (l.map tl)).length ≤ (l.map (·.length)).sum + l.length * y.length := by
    intro l
    induction l with
    | nil => simp [joinL]
    | cons p r ih =>
      cases r with
      | nil =>
        show (tl p).length ≤ _
        rw [← len_tl]
        simp
      | cons q r =>
        show (tl p ++ (tl y ++ joinL (tl y) (tl q :: r.map tl))).length ≤ _
        have ih : (joinL (tl y) (tl q :: r.map tl)).length ≤ _ := ih
        rw [List.length_append, List.length_append, ← len_tl, ← len_tl, List.map_cons, List.sum_cons, List.length_cons, Nat.succ_mul]
        omega
  exact key ps
theorem line_len {d : Deed} (h : Sml d) : (lineT d).length ≤ 200 := by
  have h1 := join_len " " (wdsD d)
  have h2 : ((wdsD d).map (·.length)).sum ≤ (wdsD d).length * 65 := by
    have := sum_le (l := (wdsD d).map (·.length)) (k := 65) fun x hx => by
      obtain ⟨z, hz, rfl⟩ := List.mem_map.mp hx
      exact wds_len h z hz
    rw [List.length_map] at this
    exact this
  have h3 : (wdsD d).length ≤ 3 := by
    unfold wdsD
    rw [List.length_cons, List.length_map]
    have := h.2.1
    omega
  have h4 : (" " : Str).length = 1 := rfl
  rw [h4] at h1
  unfold lineT
  omega
section
variable {P : Program} {w : World} {K : PySem.W.Frag} {mg : Str → Option Value} {base : Heap} {C : Addr}
def spWrit (K : PySem.W.Frag) : Sp := fun vs H Q _ => ∃ (a : Addr) (xs : List V) (ds : List Deed), vs = [.ref a] ∧ SqL K H a xs ∧ DsH H xs ds ∧ (∀ d ∈ ds, Sml d) ∧ ds.length ≤ 1000 ∧ ∀ H', Same H H' → Q (.str (noteT ds)) H'
set_option maxHeartbeats 1000000 in
theorem ok_written {f : Addr} {fd : FuncData} (F : Fun K "written" "written" s_written f fd) (T : Bi mg) : FnOk P w K mg base CX0 1 f fd ["lines"] (spWrit K) := by
  refine F.ok sc_written (fun vs H Q E h => ?_) (fun cdv A outer s H vs Q E hr h => ?_)
  · obtain ⟨a, xs, ds, rfl, _⟩ := h
    rfl
  · obtain ⟨a, xs, ds, rfl, hs, hd, hm, hl, q⟩ := h
    refine ⟨_, (pss_one (ps_ret (pe_join pe_str (pe_lc (own := [("words", 1)]) (g := gName 1) (tt := tYes) rfl sc_written.nd (pi_list (pv 0)) (blkOk_by (own := [("words", 1)]) (N := ["lines", "words", "word"]) (sc := defScope s_written) (by decide +kernel)) (fun _ _ _ _ _ => pg_name (i := 1) sc_written.nd rfl (Or.inl rfl)) (fun _ _ _ _ _ => pts_nil) (fun _ _ _ _ _ => (pe_asJ rfl (pe_join pe_str (show PE _ _ (tLc (iSeq K (tVar 1)) (gName 2) tYes (tCB rStrX (tCons (tVar 2) tNil)) [2]) from pe_lc (own := [("word", 2)]) (g := gName 2) (tt := tYes) rfl sc_written.nd (pi_seqK rfl (pv 1)) (blkOk_by (own := [("word", 2)]) (N := ["lines", "words", "word"]) (sc := scW) (by decide +kernel)) (fun _ _ _ _ _ => pg_name (i := 2) sc_written.nd rfl (Or.inl rfl)) (fun _ _ _ _ _ => pts_nil) (fun _ _ _ _ _ => pe_callTy call_strX (by rfl) T.b_str (by decide +kernel) (pa_cons (pv 2) pa_nil)))))))))), ?_⟩
    have lx : xs.length ≤ 1000 := by rw [hd.1]; exact hl
    -- the words of a line
    have inner : ∀ (b : Addr) (d : Deed) (Hi : Hp) (σ : L2.St) (R : VK), SqH Hi b (dv d) → Sml d → (∃ y2, σ = [some (.ref a), some (.ref b), y2]) → (∀ D2, Hi D2 = none → R (.str (lineT d)) (upd Hi D2 (.lst ((wdsD d).map V.str)))) →
        (tM1 (rJoin K) (tC (V.str " ")) (tLc (iSeq K (tVar 1)) (gName 2) tYes (tCB rStrX (tCons (tVar 2) tNil)) [2])) σ Hi R := fun b d Hi σ R hb sm hσ r => by
      obtain ⟨y2, rfl⟩ := hσ
      have lw : (wdsD d).length = (dv d).length := by simp [wdsD, dv]
      have lw3 : (wdsD d).length ≤ 3 := by
        unfold wdsD
        rw [List.length_cons, List.length_map]
        have := sm.2.1
        omega
      have step : ∀ (D2 : Addr) (j : Nat) (x : V) (Hj : Hp), (dv d)[j]? = some x → Hj = upd Hi D2 (.lst (((wdsD d).take j).map V.str)) → rStrX [x] Hj fun y H4 => ∃ acc, H4 D2 = some (.lst acc) ∧ acc.length < sizeLine ∧ upd H4 D2 (.lst (acc ++ [y])) = upd Hi D2 (.lst (((wdsD d).take (j + 1)).map V.str)) := fun D2 j x Hj hx e => by
        subst e
        have go : ∀ z : Str, (wdsD d)[j]? = some z → ∃ acc, (upd Hi D2 (.lst (((wdsD d).take j).map V.str))) D2 = some (.lst acc) ∧ acc.length < sizeLine ∧ upd (upd Hi D2 (.lst (((wdsD d).take j).map V.str))) D2 (.lst (acc ++ [.str z])) = upd Hi D2 (.lst (((wdsD d).take (j + 1)).map V.str)) := fun z hz => by
          refine ⟨_, upd_same, ?_, ?_⟩
          · rw [List.length_map, List.length_take]
            exact Nat.lt_of_le_of_lt (Nat.min_le_right _ _) (small1000 (by omega))
          · rw [upd_upd, List.take_add_one, hz]
            simp
        cases j with
        | zero =>
          obtain rfl : V.str d.1 = x := Option.some.inj hx
          exact .inl ⟨_, rfl, go d.1 rfl⟩
        | succ j =>
          have hx2 : (d.2.map V.int)[j]? = some x := hx
          obtain ⟨c, rfl, hc⟩ := int_at hx2
          have sm2 := sm.2.2 c (List.mem_of_getElem? hc)
          refine .inr ⟨c, rfl, Nat.lt_of_lt_of_le (log_lt (k := 64) (by decide) sm2) (by decide), go (nt c) ?_⟩
          show (d.2.map nt)[j]? = _
          rw [List.getElem?_map, hc]
          rfl
      have fin : ∀ (D2 : Addr), Hi D2 = none → ∀ Hj, Hj = upd Hi D2 (.lst (((wdsD d).take (dv d).length).map V.str)) → rJoin K (.str " ") [.ref D2] Hj R := fun D2 n2 Hj e => by
        subst e
        rw [← lw, List.take_length]
        refine ⟨" ", D2, wdsD d, rfl, rfl, .inl (.inl (.inl upd_same)), ?_, r D2 n2⟩
        have h2 : ((wdsD d).map (·.length)).sum ≤ (wdsD d).length * 65 := by
          have := sum_le (l := (wdsD d).map (·.length)) (k := 65) fun x hx => by
            obtain ⟨z, hz, rfl⟩ := List.mem_map.mp hx
            exact wds_len sm z hz
          rw [List.length_map] at this
          exact this
        have h4 : (" " : Str).length = 1 := rfl
        rw [h4]
        omega
      rcases hb with e | e
      · refine ⟨⟨_, rfl⟩, _, rfl, b, rfl, .inl ⟨⟨_, .inl (.inl e)⟩, fun D2 n2 => lc_list (K := K) (a := b) (xs := dv d) (fun j Hj => Hj = upd Hi D2 (.lst (((wdsD d).take j).map V.str))) rfl (fun j Hj _ ej => ?_) (fun j x Hj hx ej => ?_) fun Hj ej => fin D2 n2 Hj ej⟩⟩
        · rw [ej]
          exact .inl (.inl ((same_upd n2) _ _ e))
        · exact ⟨rfl, _, rfl, step D2 j x Hj hx ej⟩
      · refine ⟨⟨_, rfl⟩, _, rfl, b, rfl, .inr ⟨⟨_, .inl (.inl e)⟩, fun D2 n2 => lc_tup (K := K) (a := b) (xs := dv d) (fun j Hj => Hj = upd Hi D2 (.lst (((wdsD d).take j).map V.str))) rfl (fun j Hj _ ej => ?_) (fun j x Hj hx ej => ?_) fun Hj ej => fin D2 n2 Hj ej⟩⟩
        · rw [ej]
          exact .inl (.inl ((same_upd n2) _ _ e))
        · exact ⟨rfl, _, rfl, step D2 j x Hj hx ej⟩
    refine ⟨⟨_, rfl⟩, _, rfl, a, rfl, ⟨_, hs⟩, fun D nD => lc_list (K := K) (a := a) (xs := xs) (fun i Hi => ∃ Hc, Same H Hc ∧ Hc D = none ∧ Hi = upd Hc D (.lst (((ds.take i).map lineT).map V.str))) ⟨H, Same.refl _, nD, rfl⟩ (fun i Hi _ pv => ?_) (fun i x Hi hx pv => ?_) fun Hi pv => ?_⟩
    · obtain ⟨Hc, sc, nDc, rfl⟩ := pv
      exact (sc.trans (same_upd nDc)).seq hs
    · obtain ⟨Hc, sc, nDc, rfl⟩ := pv
      obtain ⟨b, d, rfl, hdi, hb⟩ := hd.at_ hx
      have sD : Same Hc (upd Hc D (.lst (((ds.take i).map lineT).map V.str))) := same_upd nDc
      refine ⟨rfl, ?_⟩
      refine inner b d _ _ _ ((hb.same sc).same sD) (hm d (List.mem_of_getElem? hdi)) ⟨_, rfl⟩ fun D2 n2 => ?_
      have n2D : D2 ≠ D := fun z => by rw [z, upd_same] at n2; cases n2
      have n2c : Hc D2 = none := by rw [upd_ne n2D] at n2; exact n2
      refine ⟨_, by rw [upd_ne n2D.symm]; exact upd_same, ?_, upd Hc D2 (.lst ((wdsD d).map V.str)), sc.trans (same_upd n2c), by rw [upd_ne n2D.symm]; exact nDc, ?_⟩
      · rw [List.length_map, List.length_map, List.length_take]
        exact Nat.lt_of_le_of_lt (Nat.min_le_right _ _) (small1000 hl)
      · rw [List.take_add_one, hdi]
        funext c
        by_cases h1 : c = D
        · rw [h1, upd_same, upd_same]
          simp
        · rw [upd_ne h1, upd_ne h1]
          by_cases h2 : c = D2
          · rw [h2, upd_same, upd_same]
          · rw [upd_ne h2, upd_ne h2, upd_ne h1]
    · obtain ⟨Hc, sc, nDc, rfl⟩ := pv
      rw [hd.1, List.take_length]
      refine ⟨_, D, ds.map lineT, rfl, rfl, .inl (.inl (.inl upd_same)), ?_, q _ (sc.trans (same_upd nDc))⟩
      have h2 : ((ds.map lineT).map (·.length)).sum ≤ (ds.map lineT).length * 200 := by
        have := sum_le (l := (ds.map lineT).map (·.length)) (k := 200) fun x hx => by
          obtain ⟨z, hz, rfl⟩ := List.mem_map.mp hx
          obtain ⟨d, hd2, rfl⟩ := List.mem_map.mp hz
          exact line_len (hm d hd2)
        rw [List.length_map] at this
        exact this
      have h4 : ("\n" : Str).length = 1 := rfl
      rw [h4]
      rw [List.length_map] at h2 ⊢
      omega
end
end Own

namespace Own
open PySem PySem.Spec PyProof.Rows L2 NdefX
section
variable {P : Program} {w : World} {K : PySem.W.Frag} {mg : Str → Option Value} {base : Heap} {D cc cda f : Addr}
abbrev s_BadLanes_init : Stmt := inClass (top 4) 0
theorem sn_BadLanes : NScope ["self", "number", "__class__"] ["self", "number"] ["__class__"] (defScope s_BadLanes_init) := nscope_by (by decide +kernel)
theorem ok_BadLanes {oc kV dc pm ct : Value} {an od : Option Addr} {sl : Array (Option Value)} (T : ErrK P K mg D cc cda)
    (lk : K.lookup f = some ⟨oc, od, .func (PySem.W.fnX "__init__" "BadLanes.__init__" (defArgs s_BadLanes_init) (defBody s_BadLanes_init) (defScope s_BadLanes_init) [("__class__", cc)] .none kV dc pm an (.ref cda) ct), sl⟩) (hcd : PySem.W.codeIn K (.ref cda) "BadLanes.__init__" = true)
    (n1 : PySem.W.findIn K (.ref D) "number" = some none) :
    FnOk P w K mg base CX0 1 f (PySem.W.fnX "__init__" "BadLanes.__init__" (defArgs s_BadLanes_init) (defBody s_BadLanes_init) (defScope s_BadLanes_init) [("__class__", cc)] .none kV dc pm an (.ref cda) ct) ["self", "number"] (spErr D ["number"]) := by
  refine fn_err (N := ["self", "number", "__class__"]) (ps := ["self", "number"]) T lk hcd sn_BadLanes rfl rfl rfl (fun vs H Q E h => ?_) (fun A outer s H vs Q E hr h => ?_)
  · obtain ⟨a, ys, rfl, hl, _⟩ := h
    show ys.length + 1 = _
    rw [hl]
    rfl
  · obtain ⟨a, ys, rfl, hl, hs, ha, q⟩ := h
    match ys, hl with
    | [y1], _ =>
      obtain ⟨i1, rfl, h1⟩ := hs y1 (by simp)
      have l1 := txt_len h1
      refine ⟨a, _, _, rfl, ha, pa_cons (pe_joined (PJ.cons pe_str (PJ.cons (pe_fmtR (pv 1)) PJ.nil))) pa_nil, (pss_one (ps_ost (pv 0) (pv 1))), ?_⟩
      have e0 : (Str.empty).length = 0 := rfl
      have c1 : (Str.ofString "number ").length ≤ 100 := by decide +kernel
      refine ⟨_, rfl, ?_, _, rfl, .inr ⟨i1, rfl, by omega, _, rfl, ?_, ⟨by show 1 ≤ 1000; decide, ha, ?_⟩⟩⟩
      all_goals first | (simp only [strLen_append, sizeLine_eq, e0] at *; (first | omega | (show _ ≤ _; omega))) | skip
      refine ⟨_, rfl, _, rfl, a, D, rfl, T.oex, n1, .inl ⟨ha, fun dx nd ne => ?_⟩⟩
      refine q dx _ nd ne fun b => ?_
      by_cases hb : b = dx
      · subst hb
        rw [if_pos rfl]
        first | (rw [upd_ne ne, upd_same]; rfl) | (rw [upd_same]; rfl)
      · rw [if_neg hb]
        by_cases hb2 : b = a
        · subst hb2
          rw [if_pos rfl]
          first | (rw [upd_same]) | (rw [upd_ne hb, upd_same]) | (rw [upd_ne hb, upd_ne hb, upd_same])
        · rw [if_neg hb2]
          repeat (first | rw [upd_ne hb] | rw [upd_ne hb2])
abbrev s_BadLetter_init : Stmt := inClass (top 5) 0
theorem sn_BadLetter : NScope ["self", "place", "letter", "__class__"] ["self", "place", "letter"] ["__class__"] (defScope s_BadLetter_init) := nscope_by (by decide +kernel)
theorem ok_BadLetter {oc kV dc pm ct : Value} {an od : Option Addr} {sl : Array (Option Value)} (T : ErrK P K mg D cc cda)
    (lk : K.lookup f = some ⟨oc, od, .func (PySem.W.fnX "__init__" "BadLetter.__init__" (defArgs s_BadLetter_init) (defBody s_BadLetter_init) (defScope s_BadLetter_init) [("__class__", cc)] .none kV dc pm an (.ref cda) ct), sl⟩) (hcd : PySem.W.codeIn K (.ref cda) "BadLetter.__init__" = true)
    (n1 : PySem.W.findIn K (.ref D) "place" = some none) (n2 : PySem.W.findIn K (.ref D) "letter" = some none) :
    FnOk P w K mg base CX0 1 f (PySem.W.fnX "__init__" "BadLetter.__init__" (defArgs s_BadLetter_init) (defBody s_BadLetter_init) (defScope s_BadLetter_init) [("__class__", cc)] .none kV dc pm an (.ref cda) ct) ["self", "place", "letter"] (spErrD K D ["place", "letter"]) := by
  refine fn_err (N := ["self", "place", "letter", "__class__"]) (ps := ["self", "place", "letter"]) T lk hcd sn_BadLetter rfl rfl rfl (fun vs H Q E h => ?_) (fun A outer s H vs Q E hr h => ?_)
  · obtain ⟨a, ys, rfl, hl, _⟩ := h
    show ys.length + 1 = _
    rw [hl]
    rfl
  · obtain ⟨a, ys, rfl, hl, hs, ha, q⟩ := h
    match ys, hl with
    | [y1, y2], _ =>
      have h1 := hs y1 (by simp)
      have h2 := hs y2 (by simp)
      refine ⟨a, _, _, rfl, ha, pa_cons (pe_joined (PJ.cons pe_str (PJ.cons (pe_fmtD hr (pv 1)) (PJ.cons pe_str (PJ.cons (pe_fmtD hr (pv 2)) PJ.nil))))) pa_nil, (pss_cons (ps_ost (pv 0) (pv 1)) (pss_one (ps_ost (pv 0) (pv 2)))), ?_⟩
      have e0 : (Str.empty).length = 0 := rfl
      have c1 : (Str.ofString "place ").length ≤ 100 := by decide +kernel
      have c2 : (Str.ofString ", letter ").length ≤ 100 := by decide +kernel
      refine ⟨_, rfl, ?_, _, rfl, h1, fun z1 hz1 => ⟨_, rfl, ?_, _, rfl, ?_, _, rfl, h2, fun z2 hz2 => ⟨_, rfl, ?_, ⟨by show 1 ≤ 1000; decide, ha, ?_⟩⟩⟩⟩
      all_goals first | (simp only [strLen_append, sizeLine_eq, e0] at *; (first | omega | (show _ ≤ _; omega))) | skip
      refine ⟨_, rfl, _, rfl, a, D, rfl, T.oex, n1, .inl ⟨ha, fun dx nd ne => ?_⟩⟩
      refine ⟨_, rfl, _, rfl, a, D, rfl, T.oex, n2, .inr ⟨dx, [("place", y1)], ?_, ?_, ?_, ?_⟩⟩
      · first | exact upd_same | (rw [upd_ne ne.symm]; exact upd_same)
      · first | exact upd_same | (rw [upd_ne ne]; exact upd_same)
      · simp
      refine q dx _ nd ne fun b => ?_
      by_cases hb : b = dx
      · subst hb
        rw [if_pos rfl]
        first | (rw [upd_ne ne, upd_same]; rfl) | (rw [upd_same]; rfl)
      · rw [if_neg hb]
        by_cases hb2 : b = a
        · subst hb2
          rw [if_pos rfl]
          first | (rw [upd_same]) | (rw [upd_ne hb, upd_same]) | (rw [upd_ne hb, upd_ne hb, upd_same])
        · rw [if_neg hb2]
          repeat (first | rw [upd_ne hb] | rw [upd_ne hb2])
end
end Own

namespace Own
open PySem PySem.Spec PyProof.Rows L2 TL
/-- the heap without M -/
def hole (H : Hp) (M : Addr) : Hp := fun c => if c = M then none else H c
theorem hole_at {H : Hp} {M : Addr} : hole H M M = none := if_pos rfl
theorem hole_ne {H : Hp} {M c : Addr} (h : c ≠ M) : hole H M c = H c := if_neg h
theorem upd_hole {H : Hp} {M : Addr} {o : HO} : upd (hole H M) M o = upd H M o := by
  funext c
  by_cases h : c = M
  · rw [h, upd_same, upd_same]
  · rw [upd_ne h, upd_ne h, hole_ne h]
theorem same_hole {H H' : Hp} {M : Addr} (n : H M = none) (s : Same H H') : Same H (hole H' M) := fun b o e => by
  rw [hole_ne fun z => by rw [z, n] at e; cases e]
  exact s b o e
theorem unhole {H H' : Hp} {L : Addr} (s : Same H (hole H' L)) : Same H H' := fun b o e => by
  have h := s b o e
  by_cases n : b = L
  · rw [n, hole_at] at h; cases h
  · rw [hole_ne n] at h; exact h
theorem hole_mono {H H' : Hp} {L : Addr} (s : Same H H') : Same (hole H L) (hole H' L) := fun b o e => by
  by_cases n : b = L
  · rw [n, hole_at] at e; cases e
  · rw [hole_ne n] at e ⊢; exact s b o e
theorem hole_upd {H : Hp} {L : Addr} {o : HO} : hole (upd H L o) L = hole H L := by
  funext c
  by_cases h : c = L
  · rw [h, hole_at, hole_at]
  · rw [hole_ne h, hole_ne h, upd_ne h]
theorem upd_self {H : Hp} {M : Addr} {o : HO} (h : H M = some o) : upd H M o = H := by
  funext c
  by_cases e : c = M
  · rw [e, upd_same, h]
  · rw [upd_ne e]
/-! ### walks over a list or a tuple, both at once -/
abbrev ForR (g : TG) (tb : TS) (D : Ends) (σ : L2.St) (J : It) (H1 : Hp) : Prop := ∃ W : Nat → Nat → L2.St → Hp → Prop, (∃ m, W 0 m σ H1) ∧ ∀ i m σ H, W i m σ H →
  (J.stop i H ∧ D.nx σ H) ∨ (J.go i H ∧ ∃ N : L2.St → Hp → Prop, (∀ σ' H', N σ' H' → ∃ m', m' < m ∧ W (i + 1) m' σ' H') ∧ ∀ x H', J.yld i H x H' → g x σ H' fun σ2 H2 => tb { D with nx := N, ct := N, bk := D.nx } σ2 H2)
theorem for_enumB {K : PySem.W.Frag} {a : Addr} {xs : List V} {g : TG} {tb : TS} {D : Ends} {σ : L2.St} {H : Hp} (hs : SqH H a xs) (Pv : Nat → L2.St → Hp → Prop) (h0 : Pv 0 σ H) (hk : ∀ i σ' H', Pv i σ' H' → ∀ o, H a = some o → H' a = some o)
    (turn : ∀ i x σ H1 H2, i < xs.length → Pv i σ H1 → YPair (fun i => some (.int (i : Nat))) (fun i => xs[i]?) i H1 x H2 → g x σ H2 fun σ2 H3 => tb { D with nx := Pv (i + 1), ct := Pv (i + 1), bk := D.nx } σ2 H3) (hd : ∀ σ H, Pv xs.length σ H → D.nx σ H) :
    ∃ (a' : Addr) (xs' : List V), [V.ref a] = [V.ref a'] ∧ ((SqL K H a' xs' ∧ ForR g tb D σ (Ite K a') H) ∨ (SqT K H a' xs' ∧ ForR g tb D σ (Itet K a') H)) := by
  refine ⟨a, xs, rfl, ?_⟩
  rcases hs with e | e
  · exact .inl ⟨.inl (.inl e), for_it walk_enum Pv h0 (fun i σ H' _ pv => .inl (.inl (hk i σ H' pv _ e))) turn hd⟩
  · exact .inr ⟨.inl (.inl e), for_it walk_enumT Pv h0 (fun i σ H' _ pv => .inl (.inl (hk i σ H' pv _ e))) turn hd⟩
abbrev LcR (g : TG) (tt : TT) (te : TE) (vs : List Nat) (σ : L2.St) (Qd : Addr → Hp → Prop) (J : It) (H1 : Hp) : Prop := ∀ D, H1 D = none → ∃ W : Nat → Nat → Hp → Prop, (∃ m, W 0 m (upd H1 D (.lst []))) ∧ ∀ i m H, W i m H →
  (J.stop i H ∧ Qd D H) ∨ (J.go i H ∧ ∃ N : Hp → Prop, (∀ H', N H' → ∃ m', m' < m ∧ W (i + 1) m' H') ∧ ∀ x H', J.yld i H x H' → g x (wipe σ vs) H' fun σ2 H2 => wipe σ2 vs = wipe σ vs ∧ tt σ2 H2 fun b H3 =>
    if b = true then te σ2 H3 fun y H4 => ∃ acc, H4 D = some (.lst acc) ∧ acc.length < sizeLine ∧ N (upd H4 D (.lst (acc ++ [y]))) else N H3)
theorem lc_seqB {K : PySem.W.Frag} {a : Addr} {xs : List V} {g : TG} {tt : TT} {te : TE} {vs : List Nat} {σ : L2.St} {H : Hp} {Qd : Addr → Hp → Prop} (hs : SqH H a xs) (Pv : Addr → Nat → Hp → Prop) (h0 : ∀ D, H D = none → Pv D 0 (upd H D (.lst []))) (hk : ∀ D i H', H D = none → Pv D i H' → ∀ o, H a = some o → H' a = some o)
    (turn : ∀ D i x H', H D = none → xs[i]? = some x → Pv D i H' → g x (wipe σ vs) H' fun σ2 H2 => wipe σ2 vs = wipe σ vs ∧ tt σ2 H2 fun b H3 =>
      if b = true then te σ2 H3 fun y H4 => ∃ acc, H4 D = some (.lst acc) ∧ acc.length < sizeLine ∧ Pv D (i + 1) (upd H4 D (.lst (acc ++ [y]))) else Pv D (i + 1) H3) (hd : ∀ D H', H D = none → Pv D xs.length H' → Qd D H') :
    ∃ a', V.ref a = V.ref a' ∧ (((∃ xs, SqL K H a' xs) ∧ LcR g tt te vs σ Qd (Itl K a') H) ∨ ((∃ xs, SqT K H a' xs) ∧ LcR g tt te vs σ Qd (Itt K a') H)) := by
  refine ⟨a, rfl, ?_⟩
  rcases hs with e | e
  · exact .inl ⟨⟨_, .inl (.inl e)⟩, fun D nD => lc_list (K := K) (a := a) (xs := xs) (Pv D) (h0 D nD) (fun i H' _ pv => .inl (.inl (hk D i H' nD pv _ e))) (fun i x H' hx pv => turn D i x H' nD hx pv) (fun H' pv => hd D H' nD pv)⟩
  · exact .inr ⟨⟨_, .inl (.inl e)⟩, fun D nD => lc_tup (K := K) (a := a) (xs := xs) (Pv D) (h0 D nD) (fun i H' _ pv => .inl (.inl (hk D i H' nD pv _ e))) (fun i x H' hx pv => turn D i x H' nD hx pv) (fun H' pv => hd D H' nD pv)⟩
end Own

namespace HT
open PySem PySem.Spec PyProof.Rows
section
variable {prog : Program} {w : World} {A : Around} {E : Value → Shared → Prop} {s : Shared}
theorem adjust_rev (n : Nat) : Builtin.Slice.sliceAdjust none none (-1) (n : Int) = ((n : Int) - 1, -1) := by
  unfold Builtin.Slice.sliceAdjust
  simp
theorem places_rev (n : Nat) : Builtin.Slice.slicePlaces ((n : Int) - 1) (-1) (-1) = n := by
  unfold Builtin.Slice.slicePlaces
  have h1 : ¬ (-1 : Int) > 0 := by omega
  simp only [h1, if_false]
  split
  · rw [show -(-1 : Int) = 1 by decide, Int.ediv_one]
    omega
  · omega
theorem fm_congr {α β : Type} {f g : α → Option β} : ∀ {l : List α}, (∀ m ∈ l, f m = g m) → l.filterMap f = l.filterMap g
  | [], _ => rfl
  | a :: r, h => by
    rw [List.filterMap_cons, List.filterMap_cons, h a List.mem_cons_self, fm_congr fun m hm => h m (List.mem_cons_of_mem _ hm)]
theorem pick_rev (xs : Array Value) : ((List.range xs.size).filterMap fun (m : Nat) => xs[(((xs.size : Int) - 1) + (m : Int) * (-1)).toNat]?).toArray = xs.toList.reverse.toArray := by
  congr 1
  have e : ((List.range xs.size).filterMap fun (m : Nat) => xs[(((xs.size : Int) - 1) + (m : Int) * (-1)).toNat]?) = (((List.range xs.size).map fun k => xs.size - 1 - k).filterMap fun k => xs[k]?) := by
    rw [List.filterMap_map]
    refine fm_congr fun m hm => ?_
    have := List.mem_range.mp hm
    show _ = xs[xs.size - 1 - m]?
    rw [show (((xs.size : Int) - 1) + (m : Int) * (-1)).toNat = xs.size - 1 - m by omega]
  rw [e, PySem.W.krv_range, List.filterMap_reverse, PySem.W.krv_all]
theorem sliceApplied_rev {sl : Addr} {vl vu vs : Value} {n : Nat} {Q : Int × Int × Nat → Shared → Prop} (hs : s.heap.IsSliceOf sl vl vu vs) (pl : IsPart vl none) (pu : IsPart vu none) (ps : IsPart vs (some (-1)))
    (h : Q ((n : Int) - 1, -1, n) s) : wpAny (model prog w) A (Builtin.Slice.sliceApplied (.ref sl) (pure (n : Int))) Q E s := by
  obtain ⟨os, hos, hcs, hds⟩ := id hs
  unfold Builtin.Slice.sliceApplied Builtin.Slice.sliceFields
  refine wpAny_bind (wpAny_bind (wpAny_field hos hds (x := vl) rfl (wpAny_bind (wpAny_field hos hds (x := vu) rfl (wpAny_bind (wpAny_field hos hds (x := vs) rfl (wpAny_pure ?_)))))))
  refine wpAny_bind (slicePart_ ps ?_)
  show wpAny _ _ (if ((-1 : Int) == 0) = true then _ else _) _ _ s
  rw [if_neg (by decide)]
  refine wpAny_bind (slicePart_ pl (wpAny_bind (slicePart_ pu (wpAny_bind (wpAny_pure ?_)))))
  show wpAny _ _ (match Builtin.Slice.sliceAdjust none none (-1) (n : Int) with | (lo, hi) => pure (lo, (-1 : Int), Builtin.Slice.slicePlaces lo hi (-1))) _ _ s
  rw [adjust_rev n]
  show wpAny _ _ (pure ((n : Int) - 1, (-1 : Int), Builtin.Slice.slicePlaces ((n : Int) - 1) (-1) (-1))) _ _ s
  rw [places_rev]
  exact wpAny_pure h
theorem getItem_tuple_rev {t sl : Addr} {items : Array Value} {vl vu vs : Value} {Q : Value → Shared → Prop} (ht : IsTup s.heap t items) (hs : s.heap.IsSliceOf sl vl vu vs) (pl : IsPart vl none) (pu : IsPart vu none) (ps : IsPart vs (some (-1)))
    (h : Q (.ref s.heap.objs.size) { s with heap := s.heap.push { cls := .type "tuple", data := .seq items.toList.reverse.toArray } })
    (hsz : items.size ≤ sizeLine) : wpAny (model prog w) A (getItem (.ref t) (.ref sl)) Q E s := by
  have htake : sizeOk (.seq items.toList.reverse.toArray) := by
    show items.toList.reverse.toArray.size ≤ sizeLine
    rw [List.size_toArray, List.length_reverse, Array.length_toList]
    exact hsz
  obtain ⟨os, hos, hcs, hds⟩ := id hs
  have hTs : s.TypeIs (.ref sl) "slice" := ⟨os, hos, hcs⟩
  unfold getItem
  try with_reducible refine wpAny_holding ?_
  first | refine wpAny_bind (wpAny_pure ?_) | skip
  refine wpAny_bind (wpAny_sequenceKey ht.typeIs (by decide) ?_)
  refine wpAny_bind (wpAny_callSpecial?_slot (name := Str.ofString "__getitem__") ht.typeIs PyProof.Rows.slot_tuple_getitem
    (wpAny_call_entry PyProof.Rows.slot_tuple_getitem ht.typeIs entry_tuple_getitem ?_ (args_tuple_getitem _ _)))
  show wpAny _ _ (Builtin.Tuple.tupleItemsOf (.ref t) >>= _) _ _ s
  refine wpAny_bind (tupleItemsOf_ ht ?_)
  refine wpAny_bind (wpAny_typeOf hTs ?_)
  rw [if_pos (by decide)]
  refine wpAny_bind (sliceApplied_rev hs pl pu ps ?_)
  have hno : ¬ (((items.size : Int) - 1 == 0 && (-1 : Int) == 1 && items.size == items.size) = true) := by
    intro q
    rw [Bool.and_eq_true, Bool.and_eq_true] at q
    exact absurd (eq_of_beq q.1.2) (by decide)
  show wpAny _ _ (if ((items.size : Int) - 1 == 0 && (-1 : Int) == 1 && items.size == items.size) = true then _ else _) _ _ s
  rw [if_neg hno, pick_rev]
  first
    | exact wpAny_bind (m := Builtin.Tuple.tupleExact _) (wpAny_newObj_type (wpAny_pure ⟨_, rfl, wpAny_pure h⟩) htake)
    | exact wpAny_bind (m := Builtin.Tuple.tupleExact _) (wpAny_newObj_type (wpAny_bind (wpAny_pure (wpAny_pure ⟨_, rfl, wpAny_pure h⟩))) htake)
    | exact wpAny_bind (wpAny_bind (m := Builtin.Tuple.tupleExact _) (wpAny_newObj_type (wpAny_pure (wpAny_pure ⟨_, rfl, wpAny_pure h⟩)) htake))
    | exact wpAny_bind (wpAny_bind (m := Builtin.Tuple.tupleExact _) (wpAny_newObj_type (wpAny_pure ⟨_, rfl, wpAny_pure h⟩) htake))
end
end HT
namespace Own
open PySem PySem.Spec PyProof.Rows L2
def tRevT (K : PySem.W.Frag) (te : TE) : TE := fun σ H Q => te σ H fun x H1 => ∃ a xs, x = .ref a ∧ SqT K H1 a xs ∧ ∀ p, H1 p = none → Q (.ref p) (upd H1 p (.tup xs.reverse))
/-- t[::-1], t a tuple -/
theorem pe_revT {X : Cx} {e : Expr} {te : TE} {k : Nat} {p1 p2 p3 pos : Pos} (he : PE X e te) : PE X (.Subscript e (.Slice none none (some (.UnaryOp .USub (.Constant (.int 1) k p1) p2)) p3) pos) (tRevT X.K te) := by
  refine ⟨fun pins s σ H Q I h => ?_⟩
  refine Subscript_ (thn (he.run pins s σ H _ I h) fun v s1 ⟨x, H1, I1, r1, q1⟩ => ?_)
  obtain ⟨a, xs, ex, hx, q⟩ := q1
  subst ex
  cases r1
  have hst : PO X (some (.UnaryOp .USub (.Constant (.int 1) k p1) p2)) (tPart (tUn (rU fun i => .int (-i)) (tC (.int 1)))) := po_some (pe_un un_neg pe_int)
  refine wpAny_Slice (thn (po_none.run pins s1 σ H1 (fun o H2 => o = none ∧ H2 = H1) I1 ⟨rfl, rfl⟩) fun vl s2 ⟨l, H2, I2, pl, el, e2⟩ => ?_)
  subst el e2
  refine thn (po_none.run pins s2 σ H2 (fun o H3 => o = none ∧ H3 = H2) I2 ⟨rfl, rfl⟩) fun vu s3 ⟨u, H3, I3, pu, eu, e3⟩ => ?_
  subst eu e3
  refine thn (hst.run pins s3 σ H3 (fun o H4 => o = some (-1) ∧ H4 = H3) I3 ⟨1, rfl, -1, rfl, rfl, rfl⟩) fun vs s4 ⟨o, H4, I4, ps, eo, e4⟩ => ?_
  subst eo e4
  have I5 : Inv X pins σ H4 { s4 with heap := s4.heap.push { cls := .type "slice", data := .fields #[vl, vu, vs] } } := I4.kept (t' := s4.toks) fun b ob q => Heap.get?_push_of_some _ q
  obtain ⟨its, r, ht, hz⟩ := I5.tuple hx
  have hlen := r.length
  show wpAny (model X.prog X.w) X.A (subscriptTail e (.Slice none none (some (.UnaryOp .USub (.Constant (.int 1) k p1) p2)) p3) (.ref a) (.ref s4.heap.objs.size)) (EP X pins σ Q) X.xe { s4 with heap := s4.heap.push { cls := .type "slice", data := .fields #[vl, vu, vs] } }
  refine tail_any (ops := [.ref a, .ref s4.heap.objs.size]) ht.typeIs (PyProof.Rows.slot_tuple_getitem.lookup) ?_ (by with_unfolding_all rfl)
  refine HT.getItem_tuple_rev ht (Heap.IsSliceOf.new _ vl vu vs) pl pu ps ?_ (by rw [List.size_toArray]; omega)
  refine ⟨.ref _, _, I5.laid (t' := s4.toks) (o := .tup xs.reverse) (fun b ob q => Heap.get?_push_of_some _ q) (Nat.le_refl _) ?_, rfl, q _ (I5.hok.fresh (Nat.le_refl _))⟩
  exact ⟨by rw [List.length_reverse]; exact hz, _, r.reverse, IsTup.new _ _⟩
end Own

namespace Own
open PySem PySem.Spec PyProof.Rows L2 TL
/-! ### letters of rows -/
def CHG : List (Str × Int) := [("cross", 0), ("cup", 2), ("cap", -2)]
/-- a letter: a word and one number -/
def GoodR (d : Deed) : Prop := (valN CHG d.1).isSome = true ∧ ∃ n, d.2 = [n]
def numR (d : Deed) : Int := d.2.headD 0
def chgR (w : Str) : Int := (valN CHG w).getD 0
/-- may the letter stand where L lanes are? -/
def okR (L : Int) (d : Deed) : Bool := decide (0 ≤ numR d ∧ numR d < (if d.1 = "cup" then L + 1 else L - 1))
def endR (t : Int) (ds : List Deed) : Int := ds.foldl (fun L d => L + chgR d.1) t
theorem endR_snoc (t : Int) (ds : List Deed) (d : Deed) : endR t (ds ++ [d]) = endR t ds + chgR d.1 := by
  unfold endR
  rw [List.foldl_append]
  rfl
/-- the lanes along the row -/
def lanesR (t : Int) (ds : List Deed) : List Int := (List.range (ds.length + 1)).map fun i => endR t (ds.take i)
theorem lanesR_nil (t : Int) : lanesR t [] = [t] := rfl
theorem lanesR_snoc (t : Int) (ds : List Deed) (d : Deed) : lanesR t (ds ++ [d]) = lanesR t ds ++ [endR t ds + chgR d.1] := by
  unfold lanesR
  rw [List.length_append, show ds.length + [d].length + 1 = (ds.length + 1) + 1 from rfl, List.range_succ, List.map_append]
  congr 1
  · refine List.map_congr_left fun i hi => ?_
    have := List.mem_range.mp hi
    rw [List.take_append_of_le_length (by omega)]
  · show [endR t ((ds ++ [d]).take (ds.length + 1))] = _
    rw [List.take_of_length_le (by rw [List.length_append]; exact Nat.le_refl _), endR_snoc]
theorem lanesR_len (t : Int) (ds : List Deed) : (lanesR t ds).length = ds.length + 1 := by
  unfold lanesR
  rw [List.length_map, List.length_range]
theorem lanesR_last (t : Int) (ds : List Deed) : (lanesR t ds)[ds.length]? = some (endR t ds) := by
  unfold lanesR
  rw [List.getElem?_map, List.getElem?_range (Nat.lt_succ_self _)]
  show some (endR t (ds.take ds.length)) = _
  rw [List.take_length]
theorem lanes_at (t : Int) (ds : List Deed) : atI ((lanesR t ds).map V.int) (-1) = some (.int (endR t ds)) := by
  have li : ((lanesR t ds).map V.int).length = ds.length + 1 := by rw [List.length_map, lanesR_len]
  have ix : ixN ((lanesR t ds).map V.int).length (-1) = some ds.length := by
    rw [li]
    unfold ixN
    rw [if_neg (by decide), if_pos (by omega)]
    congr 1
    omega
  unfold atI
  rw [ix]
  show ((lanesR t ds).map V.int)[ds.length]? = _
  rw [List.getElem?_map, lanesR_last]
  rfl
/-- all letters may stand -/
def AllR (t : Int) (ds : List Deed) : Prop := ∀ i d, ds[i]? = some d → okR (endR t (ds.take i)) d = true
/-- letter k is the first that may not -/
def BadR (t : Int) (ds : List Deed) (k : Nat) : Prop := (∃ d, ds[k]? = some d ∧ okR (endR t (ds.take k)) d = false) ∧ ∀ i d, i < k → ds[i]? = some d → okR (endR t (ds.take i)) d = true
/-- an error of the class at D with these fields -/
def OutE (D : Addr) (nm : List Str) (ys : List V) (H : Hp) (E : XK) : Prop := ∀ H' d, Same H H' → H' d = none → E (.ref D) (some d) (upd H' d (.xd (flE nm ys)))
theorem OutE.same {D : Addr} {nm : List Str} {ys : List V} {H H' : Hp} {E : XK} (s : Same H H') (h : OutE D nm ys H E) : OutE D nm ys H' E := fun H2 d s2 n => h H2 d (s.trans s2) n
/-- numbers that the law's scripts give -/
def SmI (i : Int) : Prop := i.natAbs < 2 ^ 900
theorem SmI.leaf {i : Int} (h : SmI i) : Leaf (.int i) := .inl ⟨i, rfl, Nat.lt_of_lt_of_le (log_lt (k := 900) (by decide) h) (by decide)⟩
def SmD (d : Deed) : Prop := ∀ i ∈ d.2, SmI i
theorem word_rep {w : Str} (h : (valN CHG w).isSome = true) : (reprText w).length ≤ 1000 := by
  cases e : valN CHG w with
  | none => rw [e] at h; cases h
  | some i =>
    unfold valN CHG at e
    rw [List.find?_cons, List.find?_cons, List.find?_cons, List.find?_nil] at e
    by_cases h1 : ("cross" : Str) = w
    · rw [← h1]; decide +kernel
    · by_cases h2 : ("cup" : Str) = w
      · rw [← h2]; decide +kernel
      · by_cases h3 : ("cap" : Str) = w
        · rw [← h3]; decide +kernel
        · rw [decide_eq_false h1, decide_eq_false h2, decide_eq_false h3] at e
          cases e
theorem sho_letter {K : PySem.W.Frag} {H : Hp} {b : Addr} {d : Deed} (h : SqH H b (dv d)) (g : GoodR d) (s : SmD d) : ShoD K H 3 (.ref b) := by
  obtain ⟨g1, n, hn⟩ := g
  refine .inl (.inl (.inr (.inl ⟨b, dv d, rfl, ?_, by rw [show dv d = .str d.1 :: d.2.map V.int from rfl, hn]; show 2 ≤ 8; decide, fun x hx => ?_⟩)))
  · exact h.elim (fun e => .inl (.inl (.inl e))) fun e => .inr (.inl (.inl e))
  · rcases List.mem_cons.mp hx with e | e
    · rw [e]
      exact .inr (.inr (.inr ⟨_, rfl, word_rep g1⟩))
    · obtain ⟨i, hi, rfl⟩ := List.mem_map.mp e
      exact (s i hi).leaf
structure ErrU (K : PySem.W.Frag) (mg : Str → Option Value) (x : Str) (D f : Addr) (fd : FuncData) (ps : List Str) : Prop where
  T : OexC K D
  R : ErrT K mg x D f
  b : Binds K fd ps []
section
variable {P : Program} {w : World} {K : PySem.W.Frag} {mg : Str → Option Value} {base : Heap} {dN D : Addr}
def spBelow : Sp := fun vs H Q _ => ∃ v b : Int, vs = [.int v, .int b] ∧ Q (.bl (decide (0 ≤ v ∧ v < b))) H
theorem ok_below {f : Addr} {fd : FuncData} (F : Fun K "is_below" "is_below" s_is_below f fd) {f_w : Addr} {d_w : FuncData} (D_w : Df K mg "is_whole" s_is_whole ["value"] f_w d_w) (G_w : FnOk P w K mg base CX0 1 f_w d_w ["value"] spWhole) : FnOk P w K mg base CX0 2 f fd ["value", "bound"] spBelow := by
  refine F.ok sc_is_below (fun vs H Q E h => ?_) (fun cdv A outer s H vs Q E hr h => ?_)
  · obtain ⟨v, b, rfl, _⟩ := h
    rfl
  · obtain ⟨v, b, rfl, q⟩ := h
    refine ⟨_, (pss_one (ps_ret (pe_and (pe_call G_w (hr.mono (by decide)) (by rfl) D_w.g D_w.F.kp D_w.b .nil pass0 (pa_cons (pv 0) pa_nil)) (pe_one (pe_chain op_le op_lt pe_int (pv 0) (pv 1)))))), ?_⟩
    refine ⟨_, rfl, v, rfl, true, rfl, ?_⟩
    refine ⟨_, rfl, _, _, rfl, rfl, decide (0 ≤ v), rfl, ?_⟩
    by_cases h0 : 0 ≤ v
    · rw [decide_eq_true h0]
      refine ⟨_, rfl, _, _, rfl, rfl, ?_⟩
      rw [show decide (0 ≤ v ∧ v < b) = decide (v < b) by simp [h0]] at q
      exact q
    · rw [decide_eq_false h0]
      rw [show decide (0 ≤ v ∧ v < b) = false from decide_eq_false fun z => h0 z.1] at q
      exact q

def spLetter : Sp := fun vs H Q _ => ∃ (b : Addr) (d : Deed) (L : Int), vs = [.ref b, .int L] ∧ SqH H b (dv d) ∧ GoodR d ∧ ∀ H', Same H H' → Q (.bl (okR L d)) H'
theorem ok_letter {f : Addr} {fd : FuncData} (F : Fun K "is_letter" "is_letter" s_is_letter f fd) (T : Bi mg) (gN : mg "CHANGES" = some (.ref dN)) (TN : KTab K w dN CHG)
    {f_q : Addr} {d_q : FuncData} (D_q : Df K mg "is_sequence" s_is_sequence ["value"] f_q d_q) (G_q : FnOk P w K mg base CX0 1 f_q d_q ["value"] spSeqB)
    {f_b : Addr} {d_b : FuncData} (D_b : Df K mg "is_below" s_is_below ["value", "bound"] f_b d_b) (G_b : FnOk P w K mg base CX0 2 f_b d_b ["value", "bound"] spBelow) : FnOk P w K mg base CX0 3 f fd ["letter", "lanes"] spLetter := by
  refine F.ok sc_is_letter (fun vs H Q E h => ?_) (fun cdv A outer s H vs Q E hr h => ?_)
  · obtain ⟨b, d, L, rfl, _⟩ := h
    rfl
  · obtain ⟨b, d, L, rfl, hb, hg, q⟩ := h
    refine ⟨_, (pss_cons (ps_if (PW.pt (pw_or (pt_not (pt_val (pe_call G_q (hr.mono (by decide)) (by rfl) D_q.g D_q.F.kp D_q.b .nil pass0 (pa_cons (pv 0) pa_nil)))) (pw_or (pt_cmpR op_ne (pe_callB call_len_seq (by rfl) T.b_len PySem.boot_len (pa_cons (pv 0) pa_nil)) pe_int (nomark _)) (pw_or (pt_not (pt_val (pe_callB call_isi (by rfl) T.b_isinstance (by decide +kernel) (pa_cons (pe_ix (r := rIxB K) ix_seqB (pv 0) pe_int (fun _ _ => rfl)) (pa_cons (pe_bltn (v := .ty "str") (by rfl) T.b_str (by decide +kernel) rfl) pa_nil))))) (pw_or1 (pt_cmp (pc_knotin (pe_ix (r := rIxB K) ix_seqB (pv 0) pe_int (fun _ _ => rfl)) (pe_glob (v := .ref dN) (by rfl) gN rfl)))))))) (pss_one (ps_ret pe_bl)) pss_nil)
        (pss_one (ps_ret (pe_call G_b (hr.mono (by decide)) (by rfl) D_b.g D_b.F.kp D_b.b .nil pass0 (pa_cons (pe_ix (r := rIxB K) ix_seqB (pv 0) pe_int (fun _ _ => rfl)) (pa_cons (pe_ifExp (pt_cmpR op_eq (pe_ix (r := rIxB K) ix_seqB (pv 0) pe_int (fun _ _ => rfl)) pe_str (nomark _)) (pe_op op_add (pv 1) pe_int) (pe_op op_sub (pv 1) pe_int)) pa_nil)))))), ?_⟩
    obtain ⟨g1, n, hn⟩ := hg
    have e2 : dv d = [.str d.1, .int n] := by show V.str d.1 :: d.2.map V.int = _; rw [hn]; rfl
    rw [e2] at hb
    refine ⟨_, rfl, b, _, rfl, hb, fun H1 s1 => ⟨true, rfl, ?_⟩⟩
    have hb1 : SqB K H1 b [.str d.1, .int n] := (hb.same s1).b
    refine ⟨_, rfl, b, _, rfl, hb1, rfl, _, rfl, ?_⟩
    refine ⟨_, rfl, b, _, _, _, rfl, rfl, hb1, at_of (j := 0) rfl rfl, _, _, _, _, true, rfl, .ty "str", .base (.str _), kit_ty (by decide +kernel), true, rfl, ?_⟩
    refine ⟨_, rfl, b, _, _, _, rfl, rfl, hb1, at_of (j := 0) rfl rfl, dN, CHG, d.1, rfl, rfl, TN, _, rfl, ?_⟩
    rw [g1]
    have q := q H1 s1
    unfold okR numR at q
    rw [hn] at q
    refine ⟨_, rfl, b, _, _, _, rfl, rfl, hb1, at_of (j := 1) rfl rfl, _, rfl, b, _, _, _, rfl, rfl, hb1, at_of (j := 0) rfl rfl, rfl, _, rfl, ?_⟩
    by_cases hc : d.1 = "cup"
    · rw [if_pos hc] at q
      rw [show decide (V.str d.1 = V.str (Str.ofString "cup")) = true from decide_eq_true (congrArg V.str hc)]
      exact ⟨_, rfl, _, _, rfl, rfl, n, L + 1, rfl, q⟩
    · rw [if_neg hc] at q
      rw [show decide (V.str d.1 = V.str (Str.ofString "cup")) = false from decide_eq_false fun z => hc (V.str.inj z)]
      exact ⟨_, rfl, _, _, rfl, rfl, n, L - 1, rfl, q⟩

def spLanes (D : Addr) : Sp := fun vs H Q E => ∃ (t : Int) (a : Addr) (xs : List V) (ds : List Deed), vs = [.int t, .ref a] ∧ SqH H a xs ∧ DsH H xs ds ∧ (∀ d ∈ ds, GoodR d ∧ SmD d) ∧ ds.length ≤ 1000 ∧
  (AllR t ds → ∀ H' p, Same H H' → H' p = some (.tup ((lanesR t ds).map V.int)) → Q (.ref p) H') ∧ (∀ k b, BadR t ds k → xs[k]? = some (.ref b) → OutE D ["place", "letter"] [.int (k : Int), .ref b] H E)
set_option maxHeartbeats 1000000 in
theorem ok_lanes {f : Addr} {fd : FuncData} (F : Fun K "lanes_along" "lanes_along" s_lanes_along f fd) (T : Bi mg) (TE : BiE mg) (gN : mg "CHANGES" = some (.ref dN)) (TN : KTab K w dN CHG)
    {f_u : Addr} {d_u : FuncData} (U : ErrU K mg "BadLetter" D f_u d_u ["self", "place", "letter"]) (G_u : FnOk P w K mg base CX0 1 f_u d_u ["self", "place", "letter"] (spErrD K D ["place", "letter"]))
    {f_l : Addr} {d_l : FuncData} (D_l : Df K mg "is_letter" s_is_letter ["letter", "lanes"] f_l d_l) (G_l : FnOk P w K mg base CX0 3 f_l d_l ["letter", "lanes"] spLetter) : FnOk P w K mg base (L2N.CX P w) 4 f fd ["top", "letters"] (spLanes D) := by
  refine okN F sc_lanes_along (fun vs H Q E h => ?_) (fun cdv A outer s H vs Q E hr h => ?_)
  · obtain ⟨t, a, xs, ds, rfl, _⟩ := h
    rfl
  · obtain ⟨t, a, xs, ds, rfl, hs, hd, hg, hl, q, e⟩ := h
    refine ⟨_, (pss_cons (ps_set (i := 2) sc_lanes_along.nd rfl (.inl rfl) (pe_lst (pa_cons (pv 0) pa_nil)))
        (pss_cons (ps_for PassesOwn.leaving rfl (pi_enumB (by rfl) TE.b_enum (pa_cons (pv 1) pa_nil)) (pg_tup (by rfl) (pgs_cons (pg_name (i := 3) sc_lanes_along.nd rfl (.inl rfl)) (pgs_cons (pg_name (i := 4) sc_lanes_along.nd rfl (.inl rfl)) pgs_nil)))
        (pss_cons (ps_if (pt_not (pt_val (pe_call G_l (hr.mono (by decide)) (by rfl) D_l.g D_l.F.kp D_l.b .nil pass0 (pa_cons (pv 4) (pa_cons (pe_ix (r := rIxL K) ix_list (pv 2) (pe_un un_neg pe_int) (fun _ _ => rfl)) pa_nil))))) (pss_one (ps_errD rfl (L2N.takes_of rfl rfl rfl rfl) U.T U.R G_u (hr.mono (by decide)) U.b (by rfl) (pa_cons (pv 3) (pa_cons (pv 4) pa_nil)))) pss_nil)
        (pss_one (ps_expr (pe_bm PySem.F.plainAttrs_list PySem.F.slot_list_append PySem.F.type_list_append mt_append (pv 2) (pa_cons (pe_op op_add (pe_ix (r := rIxL K) ix_list (pv 2) (pe_un un_neg pe_int) (fun _ _ => rfl)) (pe_ix (r := rIxD K w) ix_kdict (pe_glob (v := .ref dN) (by rfl) gN rfl) (pe_ix (r := rIxB K) ix_seqB (pv 4) pe_int (fun _ _ => rfl)) (fun _ _ => rfl))) pa_nil))))))
        (pss_one (ps_ret (pe_callTy call_tuple_of (by rfl) T.b_tuple (by decide +kernel) (pa_cons (pv 2) pa_nil)))))), ?_⟩
    refine ⟨_, rfl, by show 1 ≤ sizeLine; decide, fun p np => ?_⟩
    have s1 := same_upd (o := .lst [.int t]) np
    have hs1 := hs.same s1
    have lx : xs.length ≤ 1000 := by rw [hd.1]; exact hl
    have hap : a ≠ p := fun z => by rcases hs with e | e <;> (rw [z, np] at e; cases e)
    refine ⟨_, rfl, for_enumB hs1 (fun i σ H' => (∃ y3 y4, σ = [some (.int t), some (.ref a), some (.ref p), y3, y4]) ∧ Same H (hole H' p) ∧ H' p = some (.lst ((lanesR t (ds.take i)).map V.int)) ∧ ∀ j d, j < i → ds[j]? = some d → okR (endR t (ds.take j)) d = true) ⟨⟨none, none, rfl⟩, same_hole np s1, upd_same, fun j d hj => absurd hj (Nat.not_lt_zero j)⟩ (fun i σ H' pv => ?_) (fun i x σ H1 H2 hi pv y => ?_) (fun σ H' pv => ?_)⟩
    · intro o ho
      rw [upd_ne hap] at ho
      exact unhole pv.2.1 _ _ ho
    · obtain ⟨⟨y3, y4, rfl⟩, sm, ep, ok⟩ := pv
      obtain ⟨T', x, y, rfl, nT, rfl, ex, ey⟩ := y
      obtain rfl : V.int (i : Nat) = x := Option.some.inj ex
      have s2 : Same H1 (upd H1 T' (.tup [.int (i : Nat), y])) := same_upd nT
      have s02 := (unhole sm).trans s2
      obtain ⟨b, d, rfl, hdi, hb⟩ := (hd.same s02).at_ ey
      obtain ⟨gd, sd⟩ := hg d (List.mem_of_getElem? hdi)
      obtain ⟨g1, n, hn⟩ := id gd
      have ep2 := s2 _ _ ep
      refine ⟨T', _, rfl, .inl (.inl upd_same), rfl, _, _, rfl, _, _, rfl, rfl, ?_⟩
      refine ⟨_, rfl, _, rfl, _, rfl, p, _, _, _, rfl, rfl, .inl (.inl ep2), lanes_at t (ds.take i), b, d, _, rfl, hb, gd, fun H3 s3 => ⟨_, rfl, ?_⟩⟩
      have s03 := s02.trans s3
      have ep3 := s3 _ _ ep2
      have hb3 := hb.same s3
      cases hok : okR (endR t (ds.take i)) d with
      | false =>
        refine ⟨_, rfl, _, rfl, rfl, by decide, fun y hy => ?_, fun d' nd => e i b ⟨⟨d, hdi, hok⟩, ok⟩ ey H3 d' s03 nd⟩
        simp only [List.mem_cons, List.not_mem_nil, or_false] at hy
        rcases hy with rfl | rfl
        · exact ShoD.leaf (.inl ⟨_, rfl, Nat.lt_of_lt_of_le (log_lt (k := 64) (by decide) (by omega)) (by decide)⟩) 3
        · exact sho_letter hb3 gd sd
      | true =>
        have hv : valN CHG d.1 = some (chgR d.1) := by
          unfold chgR
          cases e : valN CHG d.1 with
          | none => rw [e] at g1; cases g1
          | some v => rfl
        have e2 : dv d = [.str d.1, .int n] := by show V.str d.1 :: d.2.map V.int = _; rw [hn]; rfl
        rw [e2] at hb3
        refine ⟨_, rfl, .inl ⟨rfl, _, .inl (.inl ep3)⟩, _, rfl, _, rfl, p, _, _, _, rfl, rfl, .inl (.inl ep3), lanes_at t (ds.take i), _, rfl, b, _, _, _, rfl, rfl, hb3.b, at_of (j := 0) rfl rfl, dN, d.1, .int (chgR d.1), rfl, rfl, ktab_dct TN hv, _, _, rfl, rfl, p, _, _, rfl, rfl, ep3, ?_, ?_⟩
        · rw [List.length_map, lanesR_len, List.length_take]
          exact small1000 (by omega)
        · refine ⟨⟨_, _, rfl⟩, ?_, ?_, fun j d' hj hd' => ?_⟩
          · rw [hole_upd]
            exact same_hole np s03
          · rw [upd_same, List.take_add_one, hdi]
            show some (HO.lst _) = some (HO.lst ((lanesR t (ds.take i ++ [d])).map V.int))
            rw [lanesR_snoc, List.map_append]
            rfl
          · by_cases hj2 : j = i
            · rw [hj2] at hd' ⊢
              rw [hdi] at hd'
              cases hd'
              exact hok
            · exact ok j d' (by omega) hd'
    · obtain ⟨⟨y3, y4, rfl⟩, sm, ep, ok⟩ := pv
      rw [hd.1, List.take_length] at ep
      refine ⟨_, rfl, p, _, rfl, .inl ⟨.inl (.inl ep), fun l nl => ?_⟩⟩
      exact q (fun i d hdi => ok i d (by rw [hd.1]; exact (List.getElem?_eq_some_iff.mp hdi).1) hdi) _ l ((unhole sm).trans (same_upd nl)) upd_same

end
end Own

namespace Own
open PySem PySem.Spec PyProof.Rows L2 TL
/-! ### rows -/
theorem op_eqDK {X : Cx} {K : PySem.W.Frag} (hK : X.K = K) (hu : X.A.units + 64 < cLine) : OpR X (compareOp .Eq) (rEqD K) := by
  subst hK
  exact op_eqD hu
def rowF (t : Int) (a b : Addr) : List (Str × V) := putF "letters" (.ref b) (putF "_lanes" (.ref a) (putF "top" (.int t) []))
theorem look_top (t : Int) (a b : Addr) : (rowF t a b).lookup ("top" : Str) = some (.int t) := by
  unfold rowF
  rw [lookup_putF, if_neg (by decide +kernel), lookup_putF, if_neg (by decide +kernel), lookup_putF, if_pos rfl]
theorem look_lanes (t : Int) (a b : Addr) : (rowF t a b).lookup ("_lanes" : Str) = some (.ref a) := by
  unfold rowF
  rw [lookup_putF, if_neg (by decide +kernel), lookup_putF, if_pos rfl]
theorem look_letters (t : Int) (a b : Addr) : (rowF t a b).lookup ("letters" : Str) = some (.ref b) := by
  unfold rowF
  rw [lookup_putF, if_pos rfl]
def RowAt (C : Addr) (H : Hp) (x : Addr) (t : Int) (ds : List Deed) : Prop := ∃ dx a b vs, H x = some (.ins C dx (rowF t a b)) ∧ H a = some (.tup ((lanesR t ds).map V.int)) ∧ H b = some (.tup vs) ∧ DsT H vs ds
theorem RowAt.same {C : Addr} {H H' : Hp} {x : Addr} {t : Int} {ds : List Deed} (s : Same H H') (h : RowAt C H x t ds) : RowAt C H' x t ds := let ⟨dx, a, b, vs, e, f, g, k⟩ := h; ⟨dx, a, b, vs, s _ _ e, s _ _ f, s _ _ g, k.same s⟩
/-- what must be known of Row -/
structure RowC (K : PySem.W.Frag) (mg : Str → Option Value) (C : Addr) : Prop where
  cl : Cls K C
  nT : NoAttr K C "top"
  nA : NoAttr K C "_lanes"
  nL : NoAttr K C "letters"
  g : mg "Row" = some (.ref C)
abbrev FIR (K : PySem.W.Frag) (z : Addr) (f : Addr) (fd : FuncData) : Prop := FunD K "__init__" "Row.__init__" (defArgs s_Row_init) (defBody s_Row_init) (defScope s_Row_init) [.ref z] [] f fd
theorem same_put {H H1 H' : Hp} {D : Addr} {o : HO} (n : H D = none) (s : Same H H') : Same H (upd H' D o) := fun b u h => by
  rw [upd_ne (ne_of_none h n)]
  exact s _ _ h
theorem SmI.shw {i : Int} (h : SmI i) : Shw (.int i) := ⟨i, rfl, Nat.lt_of_lt_of_le (log_lt (k := 900) (by decide) h) (by decide)⟩
section
variable {P : Program} {w : World} {K : PySem.W.Frag} {mg : Str → Option Value} {base : Heap} {C D1 D2 : Addr}
/-- what becomes of Row(t, the letters at a) -/
structure RowM (H : Hp) (D1 D2 : Addr) (t : Int) (a : Addr) (xs : List V) (ds : List Deed) (good : Prop) (E : XK) : Prop where
  hs : SqH H a xs
  hd : DsH H xs ds
  ok : ∀ d ∈ ds, GoodR d ∧ SmD d
  len : ds.length ≤ 1000
  sm : SmI t
  neg : t < 0 → OutE D1 ["number"] [.int t] H E
  all : 0 ≤ t → AllR t ds → good
  bad : 0 ≤ t → ∀ k b, BadR t ds k → xs[k]? = some (.ref b) → OutE D2 ["place", "letter"] [.int (k : Int), .ref b] H E
def spRInit (C D1 D2 : Addr) : Sp := fun vs H Q E => ∃ (p dx : Addr) (t : Int) (a : Addr) (xs : List V) (ds : List Deed) (H0 : Hp), vs = [.ref p, .int t, .ref a] ∧ H p = some (.ins C dx []) ∧ H0 p = none ∧ Same H0 H ∧ RowM H0 D1 D2 t a xs ds (∀ H', Same H0 H' → RowAt C H' p t ds → Q .non H') E
abbrev GRI (P : Program) (w : World) (K : PySem.W.Frag) (mg : Str → Option Value) (base : Heap) (C D1 D2 f : Addr) (d : FuncData) : Prop := FnOk P w K mg base (L2N.CX P w) 5 f d ["self", "top", "letters"] (spRInit C D1 D2)
set_option maxHeartbeats 1000000 in
theorem ok_rinit {z f : Addr} {fd : FuncData} (F : FIR K z f fd) (T : Bi mg) (L : RowC K mg C) {f_u1 : Addr} {d_u1 : FuncData} (U1 : ErrU K mg "BadLanes" D1 f_u1 d_u1 ["self", "number"]) (G_u1 : FnOk P w K mg base CX0 1 f_u1 d_u1 ["self", "number"] (spErr D1 ["number"]))
    {f_w : Addr} {d_w : FuncData} (D_w : Df K mg "is_whole" s_is_whole ["value"] f_w d_w) (G_w : FnOk P w K mg base CX0 1 f_w d_w ["value"] spWhole)
    {f_la : Addr} {d_la : FuncData} (D_la : Df K mg "lanes_along" s_lanes_along ["top", "letters"] f_la d_la) (G_la : FnOk P w K mg base (L2N.CX P w) 4 f_la d_la ["top", "letters"] (spLanes D2)) : GRI P w K mg base C D1 D2 f fd := by
  refine F.ok sc_Row_init (fun vs H Q E h => ?_) (fun cdv A outer s H vs Q E hr h => ?_)
  · obtain ⟨p, dx, t, a, xs, ds, H0, rfl, _⟩ := h
    rfl
  · obtain ⟨p, dx, t, a, xs, ds, H0, rfl, ep, np, s0, W⟩ := h
    refine ⟨_, (pss_cons (ps_if (PW.pt (pw_or (pt_not (pt_val (pe_call G_w (hr.mono (by decide)) (by rfl) D_w.g D_w.F.kp D_w.b .nil pass0 (pa_cons (pv 1) pa_nil)))) (pw_or1 (pt_cmpR op_lt (pv 1) pe_int (nomark _))))) (pss_one (ps_errN rfl (L2N.takes_of rfl rfl rfl rfl) U1.T U1.R G_u1 (hr.mono (by decide)) U1.b (by rfl) (pa_cons (pv 1) pa_nil))) pss_nil)
        (pss_cons (ps_fld (pv 0) (pv 1) rfl)
        (pss_cons (ps_fld (pv 0) (pe_call G_la (hr.mono (by decide)) (by rfl) D_la.g D_la.F.kp D_la.b .nil (L2N.passes_call (L2N.takes_of rfl rfl rfl rfl) (fun _ _ _ _ h => h)) (pa_cons (pv 1) (pa_cons (pv 2) pa_nil))) rfl)
        (pss_one (ps_fld (pv 0) (pe_callTy call_tuple_of (by rfl) T.b_tuple (by decide +kernel) (pa_cons (pe_lc (own := [("letter", 3)]) (g := gName 3) (tt := tYes) rfl sc_Row_init.nd (pi_seq (pv 2)) (blkOk_by (own := [("letter", 3)]) (N := ["self", "top", "letters", "letter"]) (sc := defScope s_Row_init) (by decide +kernel)) (fun _ _ _ _ _ => (pg_name (i := 3) sc_Row_init.nd rfl (.inl rfl))) (fun _ _ _ _ _ => pts_nil) (fun _ _ _ _ _ => (pe_callTy (call_tupK (K := K) rfl) (by rfl) T.b_tuple (by decide +kernel) (pa_cons (pv 3) pa_nil)))) pa_nil)) rfl))))), ?_⟩
    refine ⟨_, rfl, t, rfl, true, rfl, ?_⟩
    refine ⟨_, rfl, _, _, rfl, rfl, _, rfl, ite2 (fun c => ?_) (fun c => ?_)⟩
    · have tn : t < 0 := of_decide_eq_true c
      exact ⟨_, rfl, rfl, by decide, fun y hy => by rw [List.mem_singleton.mp hy]; exact W.sm.shw, fun d nd => W.neg tn H d s0 nd⟩
    have t0 : 0 ≤ t := by
      have : ¬ t < 0 := fun z => c (decide_eq_true z)
      omega
    refine ⟨_, rfl, _, rfl, p, C, dx, [], rfl, ep, L.cl, L.nT, by show 0 < 1000; decide, ?_⟩
    have k1 : Same H0 (upd H p (.ins C dx (putF "top" (.int t) []))) := same_put (H1 := H) np s0
    have e1 : (upd H p (.ins C dx (putF "top" (.int t) []))) p = some (.ins C dx (putF "top" (.int t) [])) := upd_same
    generalize upd H p (.ins C dx (putF "top" (.int t) [])) = H1 at *
    have hs1 := W.hs.same k1
    have hd1 := W.hd.same k1
    refine ⟨_, rfl, _, rfl, t, a, xs, ds, rfl, hs1, hd1, W.ok, W.len, fun al H2 l s2 el => ?_, fun k b hb hx => (W.bad t0 k b hb hx).same k1⟩
    have k2 := k1.trans s2
    have e2 := s2 _ _ e1
    refine ⟨_, rfl, p, C, dx, _, rfl, e2, L.cl, L.nA, by show 1 < 1000; decide, ?_⟩
    have nlp : l ≠ p := fun z => by rw [z, e2] at el; cases el
    have k3 : Same H0 (upd H2 p (.ins C dx (putF "_lanes" (.ref l) (putF "top" (.int t) [])))) := same_put (H1 := H) np k2
    have e3 : (upd H2 p (.ins C dx (putF "_lanes" (.ref l) (putF "top" (.int t) [])))) p = some (.ins C dx (putF "_lanes" (.ref l) (putF "top" (.int t) []))) := upd_same
    have el3 : (upd H2 p (.ins C dx (putF "_lanes" (.ref l) (putF "top" (.int t) [])))) l = some (.tup ((lanesR t ds).map V.int)) := by
      rw [upd_ne nlp]
      exact el
    generalize upd H2 p (.ins C dx (putF "_lanes" (.ref l) (putF "top" (.int t) []))) = H3 at *
    have hs3 := W.hs.same k3
    have hd3 := W.hd.same k3
    have lx : xs.length ≤ 1000 := by rw [W.hd.1]; exact W.len
    refine ⟨_, rfl, lc_seqB hs3 (fun M i H' => ∃ Hc vs, Same H3 Hc ∧ Hc M = none ∧ H' = upd Hc M (.lst vs) ∧ DsT Hc vs (ds.take i)) (fun M nM => ⟨H3, [], Same.refl _, nM, rfl, .nil⟩) (fun M i H' nM pv o ho => ?_) (fun M i x H' nM hx pv => ?_) (fun M H' nM pv => ?_)⟩
    · obtain ⟨Hc, vs, sc, nc, rfl, _⟩ := pv
      exact (sc.trans (same_upd nc)) _ _ ho
    · obtain ⟨Hc, vs, sc, nc, rfl, tc⟩ := pv
      obtain ⟨b, d, rfl, hdi, hb⟩ := hd3.at_ hx
      have sM : Same Hc (upd Hc M (.lst vs)) := same_upd nc
      have lv : vs.length < sizeLine := by
        rw [tc.1, List.length_take]
        exact Nat.lt_of_le_of_lt (Nat.min_le_right _ _) (small1000 W.len)
      have tk : ds.take (i + 1) = ds.take i ++ [d] := by rw [List.take_add_one, hdi]; rfl
      have fin : ∀ (H4 : Hp) (c : Addr), Same (upd Hc M (.lst vs)) H4 → H4 c = some (.tup (dv d)) → ∃ acc, H4 M = some (.lst acc) ∧ acc.length < sizeLine ∧ ∃ Hc' vs', Same H3 Hc' ∧ Hc' M = none ∧ upd H4 M (.lst (acc ++ [.ref c])) = upd Hc' M (.lst vs') ∧ DsT Hc' vs' (ds.take (i + 1)) := fun H4 c s4 ec => by
        have eM := s4 _ _ (upd_same (H := Hc) (a := M) (o := .lst vs))
        have ncM : c ≠ M := fun z => by rw [z, eM] at ec; cases ec
        refine ⟨vs, eM, lv, hole H4 M, vs ++ [.ref c], same_hole nM ((sc.trans sM).trans s4), hole_at, upd_hole.symm, ?_⟩
        rw [tk]
        exact (tc.same (same_hole nc (sM.trans s4))).snoc (by rw [hole_ne ncM]; exact ec)
      refine ⟨rfl, ?_⟩
      rcases (hb.same sc).same sM with e | e
      · exact ⟨_, rfl, b, _, rfl, .inl ⟨.inl (.inl e), fun l nl => fin _ l (same_upd nl) upd_same⟩⟩
      · exact ⟨_, rfl, b, _, rfl, .inr ⟨.inl (.inl e), fin _ b (Same.refl _) e⟩⟩
    · obtain ⟨Hc, vs, sc, nc, rfl, tc⟩ := pv
      rw [W.hd.1, List.take_length] at tc
      refine ⟨M, vs, rfl, .inl ⟨.inl (.inl upd_same), fun u nu => ?_⟩⟩
      have s4 := (sc.trans (same_upd (o := .lst vs) nc)).trans (same_upd (o := .tup vs) nu)
      have e4 := s4 _ _ e3
      have el4 := s4 _ _ el3
      have tc4 := (tc.same (same_upd (o := .lst vs) nc)).same (same_upd (o := .tup vs) nu)
      have eu : upd (upd Hc M (.lst vs)) u (.tup vs) u = some (.tup vs) := upd_same
      generalize upd (upd Hc M (.lst vs)) u (.tup vs) = H4 at *
      refine ⟨_, rfl, p, C, dx, _, rfl, e4, L.cl, L.nL, by show 2 < 1000; decide, ?_⟩
      have k : ∀ b o, H4 b = some o → b ≠ p → (upd H4 p (.ins C dx (putF "letters" (.ref u) (putF "_lanes" (.ref l) (putF "top" (.int t) []))))) b = some o := fun b o e nb => by
        rw [upd_ne nb]
        exact e
      have nup : u ≠ p := fun z => by rw [z, e4] at eu; cases eu
      refine W.all t0 al _ (same_put (H1 := H) np (k3.trans s4)) ⟨dx, l, u, vs, upd_same, k _ _ el4 nlp, k _ _ eu nup, ⟨tc4.1, fun i d e => ?_⟩⟩
      obtain ⟨b, x, y⟩ := tc4.2 i d e
      refine ⟨b, x, k _ _ y fun z => ?_⟩
      rw [z, e4] at y
      cases y

/-- Row(t, a) -/
theorem rd_mkR {t : Int} {a : Addr} {xs : List V} {ds : List Deed} {H : Hp} {R : VK} {E : XK} (W : RowM H D1 D2 t a xs ds (∀ H' x, Same H H' → RowAt C H' x t ds → R (.ref x) H') E) :
    ∀ x dx, H x = none → H dx = none → dx ≠ x → spRInit C D1 D2 (.ref x :: ([.int t, .ref a] ++ [])) (upd (upd H dx (.own x)) x (.ins C dx [])) (fun v H2 => v = .non ∧ R (.ref x) H2) E := fun x dx nx nd ne => by
  have s1 : Same H (upd H dx (.own x)) := same_upd nd
  have nx1 : (upd H dx (.own x)) x = none := by
    rw [upd_ne ne.symm]
    exact nx
  exact ⟨x, dx, t, a, xs, ds, H, rfl, upd_same, nx, s1.trans (same_upd nx1), W.hs, W.hd, W.ok, W.len, W.sm, W.neg, fun t0 al H' s r => ⟨rfl, W.all t0 al H' x s r⟩, W.bad⟩
def spBottom (C : Addr) : Sp := fun vs H Q _ => ∃ (p : Addr) (t : Int) (ds : List Deed), vs = [.ref p] ∧ RowAt C H p t ds ∧ Q (.int (endR t ds)) H
theorem ok_bottom {f : Addr} {fd : FuncData} (F : Fun K "bottom" "Row.bottom" s_Row_bottom f fd) (L : RowC K mg C) : FnOk P w K mg base CX0 1 f fd ["self"] (spBottom C) := by
  refine F.ok sc_Row_bottom (fun vs H Q E h => ?_) (fun cdv A outer s H vs Q E hr h => ?_)
  · obtain ⟨p, t, ds, rfl, _⟩ := h
    rfl
  · obtain ⟨p, t, ds, rfl, ⟨dx, a, b, vs, e, ea, eb, k⟩, q⟩ := h
    refine ⟨_, (pss_one (ps_ret (pe_ix (r := rIxT K) ix_tup (pe_fld (pv 0) rfl) (pe_un un_neg pe_int) (fun _ _ => rfl)))), ?_⟩
    exact ⟨_, rfl, p, C, dx, _, _, rfl, e, L.cl, L.nA, look_lanes _ _ _, _, rfl, a, _, _, _, rfl, rfl, .inl (.inl ea), lanes_at t ds, q⟩
def spRLen (C : Addr) : Sp := fun vs H Q _ => ∃ (p : Addr) (t : Int) (ds : List Deed), vs = [.ref p] ∧ RowAt C H p t ds ∧ Q (.int ((ds.length : Nat) : Int)) H
theorem ok_rlen {f : Addr} {fd : FuncData} (F : Fun K "__len__" "Row.__len__" s_Row_len f fd) (T : Bi mg) (L : RowC K mg C) : FnOk P w K mg base CX0 1 f fd ["self"] (spRLen C) := by
  refine F.ok sc_Row_len (fun vs H Q E h => ?_) (fun cdv A outer s H vs Q E hr h => ?_)
  · obtain ⟨p, t, ds, rfl, _⟩ := h
    rfl
  · obtain ⟨p, t, ds, rfl, ⟨dx, a, b, vs, e, ea, eb, k⟩, q⟩ := h
    refine ⟨_, (pss_one (ps_ret (pe_callB call_len_seq (by rfl) T.b_len PySem.boot_len (pa_cons (pe_fld (pv 0) rfl) pa_nil)))), ?_⟩
    rw [← k.1] at q
    exact ⟨_, rfl, p, C, dx, _, _, rfl, e, L.cl, L.nL, look_letters _ _ _, b, vs, rfl, .inr (.inl (.inl eb)), q⟩
end
def dD (d : Deed) : PyData := .tuple (.str d.1 :: d.2.map PyData.int)
theorem ints_dp {K : PySem.W.Frag} {H : Hp} : ∀ l : List Int, DpAll K H (l.map V.int) (l.map PyData.int)
  | [] => .nil
  | i :: r => .cons (.int i) (ints_dp r)
theorem dD_dp {K : PySem.W.Frag} {H : Hp} {b : Addr} {d : Deed} (h : H b = some (.tup (dv d))) : Dp K H (.ref b) (dD d) := .tup (.inl (.inl h)) (.cons (.str _) (ints_dp _))
theorem DsT.dp {K : PySem.W.Frag} {H : Hp} : ∀ (ds : List Deed) (vs : List V), DsT H vs ds → DpAll K H vs (ds.map dD)
  | [], [], _ => .nil
  | [], _ :: _, h => absurd h.1 (by simp)
  | _ :: _, [], h => absurd h.1 (by simp)
  | t :: r, v :: vs, h => by
    obtain ⟨b, e1, e2⟩ := h.2 0 t rfl
    cases Option.some.inj e1
    exact .cons (dD_dp e2) (DsT.dp r vs ⟨Nat.succ.inj h.1, fun i u e => h.2 (i + 1) u e⟩)
theorem ints_lay : ∀ l : List Int, PyData.canLayAll0 (l.map PyData.int) = true ∧ PyData.depthAll (l.map PyData.int) ≤ 0
  | [] => ⟨rfl, Nat.le_refl _⟩
  | i :: r => by
    obtain ⟨h1, h2⟩ := ints_lay r
    refine ⟨?_, ?_⟩
    · show (true && PyData.canLayAll0 (r.map PyData.int)) = true
      rw [h1]
      rfl
    · show max (PyData.depth (.int i)) (PyData.depthAll (r.map PyData.int)) ≤ 0
      have : PyData.depth (.int i) = 0 := rfl
      omega
theorem GoodR.ok {d : Deed} (h : GoodR d) : PyData.strOk d.1 = true := by
  have h := h.1
  cases e : valN CHG d.1 with
  | none => rw [e] at h; cases h
  | some i =>
    unfold valN CHG at e
    rw [List.find?_cons, List.find?_cons, List.find?_cons, List.find?_nil] at e
    by_cases h1 : ("cross" : Str) = d.1
    · rw [← h1]; decide +kernel
    · by_cases h2 : ("cup" : Str) = d.1
      · rw [← h2]; decide +kernel
      · by_cases h3 : ("cap" : Str) = d.1
        · rw [← h3]; decide +kernel
        · rw [decide_eq_false h1, decide_eq_false h2, decide_eq_false h3] at e
          cases e
theorem dD_lay (d : Deed) (ok : PyData.strOk d.1 = true) : PyData.canLay0 (dD d) = true ∧ PyData.depth (dD d) ≤ 1 := by
  obtain ⟨h1, h2⟩ := ints_lay d.2
  refine ⟨?_, ?_⟩
  · show (PyData.strOk d.1 && PyData.canLayAll0 (d.2.map PyData.int)) = true
    rw [h1, ok]
    rfl
  · show max (PyData.depth (.str d.1)) (PyData.depthAll (d.2.map PyData.int)) + 1 ≤ 1
    have : PyData.depth (.str d.1) = 0 := rfl
    omega
theorem ds_lay : ∀ ds : List Deed, (∀ d ∈ ds, GoodR d) → PyData.canLayAll0 (ds.map dD) = true ∧ PyData.depthAll (ds.map dD) ≤ 1
  | [], _ => ⟨rfl, Nat.zero_le _⟩
  | p :: r, ok => by
    obtain ⟨h1, h2⟩ := ds_lay r fun d hd => ok d (List.mem_cons_of_mem _ hd)
    obtain ⟨h3, h4⟩ := dD_lay p (ok p List.mem_cons_self).ok
    refine ⟨?_, ?_⟩
    · show (PyData.canLay0 (dD p) && PyData.canLayAll0 (r.map dD)) = true
      rw [h1, h3]
      rfl
    · show max (PyData.depth (dD p)) (PyData.depthAll (r.map dD)) ≤ 1
      omega
theorem shaped_of {d : PyData} (h1 : d.canLay0 = true) (h2 : d.depth ≤ 64) : SeqAt.shaped d = true := by
  unfold SeqAt.shaped
  rw [h1, decide_eq_true h2]
  rfl
theorem eqv_of {d : PyData} (h1 : d.canLay0 = true) : PyData.eqv d d = true := SeqAt.eqv_refl_plain d (PyData.plain_of_canLay0 d h1)
def dDs (ds : List Deed) : PyData := .tuple (ds.map dD)
def dLs (ds : List Deed) : PyData := .list (ds.map dD)
theorem dDs_lay (ds : List Deed) (ok : ∀ d ∈ ds, GoodR d) : (dDs ds).canLay0 = true ∧ (dDs ds).depth ≤ 2 := by
  obtain ⟨h1, h2⟩ := ds_lay ds ok
  exact ⟨h1, by show PyData.depthAll (ds.map dD) + 1 ≤ 2; omega⟩
theorem dLs_lay (ds : List Deed) (ok : ∀ d ∈ ds, GoodR d) : (dLs ds).canLay0 = true ∧ (dLs ds).depth ≤ 2 := by
  obtain ⟨h1, h2⟩ := ds_lay ds ok
  exact ⟨h1, by show PyData.depthAll (ds.map dD) + 1 ≤ 2; omega⟩
section
variable {P : Program} {w : World} {K : PySem.W.Frag} {mg : Str → Option Value} {base : Heap} {C D1 D2 : Addr}

def spREq (C : Addr) : Sp := fun vs H Q _ => ∃ (p o : Addr) (t : Int) (ds : List Deed), vs = [.ref p, .ref o] ∧ RowAt C H p t ds ∧ RowAt C H o t ds ∧ (∀ d ∈ ds, GoodR d) ∧ Q (.bl true) H
theorem ok_req {f : Addr} {fd : FuncData} (F : Fun K "__eq__" "Row.__eq__" s_Row_eq f fd) (T : Bi mg) (L : RowC K mg C) (I : C8.InsC K C) : FnOk P w K mg base CX0 1 f fd ["self", "other"] (spREq C) := by
  refine F.ok sc_Row_eq (fun vs H Q E h => ?_) (fun cdv A outer s H vs Q E hr h => ?_)
  · obtain ⟨p, o, t, ds, rfl, _⟩ := h
    rfl
  · obtain ⟨p, o, t, ds, rfl, ⟨dx, a, b, us, e, ea, eb, k⟩, ⟨dy, a2, b2, ws, f1, fa, fb, k2⟩, gd, q⟩ := h
    have hu64 : (A.deeper (envOfC "Row.__eq__" (defScope s_Row_eq) s.heap.objs.size f cdv)).units + 64 < cLine := hr.units
    refine ⟨_, (pss_one (ps_ret (pe_and (pe_callB call_isi (by rfl) T.b_isinstance (by decide +kernel) (pa_cons (pv 1) (pa_cons (pe_glob (v := .ref C) (by rfl) L.g rfl) pa_nil))) (pe_and (pe_cmpR op_eq (pe_fld (pv 0) rfl) (pe_fld (pv 1) rfl) (nomark _)) (pe_one (pe_cmpR (op_eqDK (K := K) rfl hu64) (pe_fld (pv 0) rfl) (pe_fld (pv 1) rfl) (nomark _))))))), ?_⟩
    have d1 : Dp K H (.ref b) (dDs ds) := .tup (.inl (.inl eb)) (k.dp ds us)
    have d2 : Dp K H (.ref b2) (dDs ds) := .tup (.inl (.inl fb)) (k2.dp ds ws)
    obtain ⟨h1, h2⟩ := dDs_lay ds gd
    refine ⟨_, rfl, _, _, _, _, true, rfl, .own C, .base (.ins f1 I.cl I.ha I.hn I.htk I.hm), I.me, true, rfl, ?_⟩
    refine ⟨_, rfl, p, C, dx, _, _, rfl, e, L.cl, L.nT, look_top _ _ _, _, rfl, o, C, dy, _, _, rfl, f1, L.cl, L.nT, look_top _ _ _, rfl, ?_⟩
    rw [show decide (V.int t = V.int t) = true from decide_eq_true rfl]
    refine ⟨_, rfl, _, rfl, p, C, dx, _, _, rfl, e, L.cl, L.nL, look_letters _ _ _, _, rfl, o, C, dy, _, _, rfl, f1, L.cl, L.nL, look_letters _ _ _, _, _, d1, d2, shaped_of h1 (by omega), shaped_of h1 (by omega), ?_⟩
    rw [eqv_of h1]
    exact q
end
end Own

namespace Own
open PySem PySem.Spec PyProof.Rows L2 TL
/-! ### the value of a number's word -/
theorem digs_lt : ∀ {cs : List Nat}, NumText.AllDigits cs → ∀ acc : Nat, cs.foldl (fun acc c => acc * 10 + (c - 48)) acc < (acc + 1) * 10 ^ cs.length
  | [], _, acc => by simp
  | c :: r, h, acc => by
    have hc := h c List.mem_cons_self
    have ih := digs_lt (cs := r) (fun d hd => h d (List.mem_cons_of_mem _ hd)) (acc * 10 + (c - 48))
    show r.foldl _ (acc * 10 + (c - 48)) < (acc + 1) * 10 ^ (r.length + 1)
    rw [Nat.pow_succ, Nat.mul_comm (10 ^ r.length) 10, ← Nat.mul_assoc]
    refine Nat.lt_of_lt_of_le ih (Nat.mul_le_mul_right _ ?_)
    omega
theorem numV_eq {w : Str} (h : isNum (tl w) = true) (hl : w.length ≤ 4300) : numV w = if (tl w).head? = some 45 then -((NumText.digitsVal (bodyL (tl w)) : Nat) : Int) else ((NumText.digitsVal (bodyL (tl w)) : Nat) : Int) := by
  unfold isNum at h
  rw [Bool.and_eq_true] at h
  obtain ⟨h1, h2⟩ := dgL_all h.1
  unfold numV
  by_cases hn : (tl w).head? = some 45
  · rw [if_pos hn, intText_neg (body_neg hn) h2 h1 hl]
    rfl
  · rw [if_neg hn]
    have e : bodyL (tl w) = tl w := body_pos hn
    rw [e] at h1 h2 ⊢
    have e2 : tl w = w.cps.toList := rfl
    rw [e2] at h1 h2 ⊢
    rw [intText_digits h2 h1 hl]
    rfl
theorem numV_lt {w : Str} (h : isNum (tl w) = true) (hl : w.length ≤ 4300) : (numV w).natAbs < 10 ^ w.length := by
  rw [numV_eq h hl]
  unfold isNum at h
  rw [Bool.and_eq_true] at h
  obtain ⟨h1, h2⟩ := dgL_all h.1
  have b := digs_lt h2 0
  have hb : (bodyL (tl w)).length ≤ w.length := by
    rw [len_tl]
    unfold bodyL
    split
    · rw [List.length_tail]
      omega
    · exact Nat.le_refl _
  have b2 : NumText.digitsVal (bodyL (tl w)) < 10 ^ w.length := by
    refine Nat.lt_of_lt_of_le ?_ (Nat.pow_le_pow_right (by decide) hb)
    show _ < _
    have : (0 + 1) * 10 ^ (bodyL (tl w)).length = 10 ^ (bodyL (tl w)).length := by omega
    rw [this] at b
    exact b
  split <;> omega
theorem numV_sm {w : Str} (h : isNum (tl w) = true) (hl : w.length ≤ 250) : SmI (numV w) := by
  have h1 := numV_lt h (by omega)
  unfold SmI
  refine Nat.lt_of_lt_of_le h1 (Nat.le_trans (Nat.pow_le_pow_right (by decide) hl) (by decide +kernel))
/-! ### the lines of a row's note -/
def linesOf (x : Str) : List Str := Txt.split x "\n"
theorem lines_facts (x : Str) : linesOf x ≠ [] ∧ (linesOf x).length ≤ x.length + 1 ∧ ∀ p ∈ linesOf x, p.length ≤ x.length := split_facts x "\n" 10 rfl (by decide)
def c0 : Str → Option Nat := fun y => if y = "row" then some 1 else none
def cN : Str → Option Nat := fun y => (valN CHG y).map fun _ => 1
/-- the word and number of line p -/
def lineV (ls : List Str) (p : Nat) : Option Deed := (ls[p]?).bind fun l => rdL (if p = 0 then c0 else cN) l
def dsOf (ls : List Str) (n : Nat) : List Deed := (List.range n).map fun i => (lineV ls (i + 1)).getD ("", [])
def topOf (ls : List Str) : Int := numR ((lineV ls 0).getD ("", []))
theorem dsOf_succ (ls : List Str) (n : Nat) : dsOf ls (n + 1) = dsOf ls n ++ [(lineV ls (n + 1)).getD ("", [])] := by
  unfold dsOf
  rw [List.range_succ, List.map_append]
  rfl
/-- all lines have the form -/
def AllL (ls : List Str) : Prop := ∀ p, p < ls.length → (lineV ls p).isSome = true
/-- line p is the first that has not -/
def BadL (ls : List Str) (p : Nat) : Prop := p < ls.length ∧ lineV ls p = none ∧ ∀ q, q < p → (lineV ls q).isSome = true
theorem rdL_form {cnt : Str → Option Nat} {x : Str} {d : Deed} (h : rdL cnt x = some d) (hx : x.length ≤ 250) : cnt d.1 = some d.2.length ∧ SmD d := by
  unfold rdL at h
  split at h
  · cases h
  · rename_i y r e
    split at h
    · cases h
    · rename_i k hk
      split at h
      · rename_i c
        cases h
        refine ⟨by rw [hk, ← c.2, List.length_map], fun i hi => ?_⟩
        obtain ⟨z, hz, rfl⟩ := List.mem_map.mp hi
        have hz2 := (wds_facts x).2.2 z (by rw [e]; exact List.mem_cons_of_mem _ hz)
        exact numV_sm (List.all_eq_true.mp c.1 z hz) (by omega)
      · cases h
theorem one_num {l : List Int} (h : l.length = 1) : ∃ n, l = [n] := by
  match l, h with
  | [n], _ => exact ⟨n, rfl⟩
theorem cN_good {d : Deed} (h : cN d.1 = some d.2.length) : GoodR d := by
  unfold cN at h
  cases e : valN CHG d.1 with
  | none => rw [e] at h; cases h
  | some i =>
    rw [e] at h
    exact ⟨by rw [e]; rfl, one_num (Option.some.inj h).symm⟩
theorem c0_form {d : Deed} (h : c0 d.1 = some d.2.length) : d = (("row" : Str), [numR d]) := by
  unfold c0 at h
  by_cases e : d.1 = "row"
  · rw [if_pos e] at h
    obtain ⟨n, hn⟩ := one_num (Option.some.inj h).symm
    unfold numR
    rw [hn]
    exact Prod.ext e hn
  · rw [if_neg e] at h
    cases h
theorem line_good {ls : List Str} {p : Nat} {d : Deed} (h : lineV ls (p + 1) = some d) (hl : ∀ l ∈ ls, l.length ≤ 250) : GoodR d ∧ SmD d := by
  unfold lineV at h
  rw [if_neg (by omega)] at h
  cases e : ls[p + 1]? with
  | none => rw [e] at h; cases h
  | some l =>
    rw [e] at h
    obtain ⟨a, b⟩ := rdL_form h (hl l (List.mem_of_getElem? e))
    exact ⟨cN_good a, b⟩
theorem cnt_c0 {H : Hp} {c : Addr} (h : H c = some (.dK [(Sum.inr "row", V.int 1)])) : CntAt H c c0 := ⟨_, h, fun x => by
  unfold valV c0
  rw [List.find?_cons]
  show Option.map _ (match decide ((Sum.inr "row" : Key) = Sum.inr x) with | true => _ | false => _) = _
  rw [key_rr]
  by_cases e : x = "row"
  · rw [if_pos e, decide_eq_true e.symm]
    rfl
  · rw [if_neg e, decide_eq_false fun z => e z.symm]
    rfl⟩
/-- the dict that the comprehension makes -/
def ONE : List (Key × V) := [(Sum.inr "cross", .int 1), (Sum.inr "cup", .int 1), (Sum.inr "cap", .int 1)]
theorem cnt_cN {H : Hp} {c : Addr} (h : H c = some (.dK ONE)) : CntAt H c cN := ⟨_, h, fun x => by
  unfold ONE
  rw [show ([(Sum.inr ("cross" : Str), V.int 1), (Sum.inr ("cup" : Str), .int 1), (Sum.inr ("cap" : Str), .int 1)] : List (Key × V)) = kvsOf [("cross", 1), ("cup", 1), ("cap", 1)] from rfl, valN_eq]
  unfold cN valN CHG
  rw [List.find?_cons, List.find?_cons, List.find?_cons, List.find?_nil, List.find?_cons, List.find?_cons, List.find?_cons, List.find?_nil]
  cases decide (("cross" : Str) = x) with
  | true => rfl
  | false =>
    cases decide (("cup" : Str) = x) with
    | true => rfl
    | false =>
      cases decide (("cap" : Str) = x) with
      | true => rfl
      | false => rfl⟩
theorem dsOf_good {ls : List Str} {n : Nat} (h : ∀ q, q < n + 1 → (lineV ls q).isSome = true) (hl : ∀ l ∈ ls, l.length ≤ 250) : ∀ d ∈ dsOf ls n, GoodR d ∧ SmD d := fun d hd => by
  unfold dsOf at hd
  obtain ⟨i, hi, rfl⟩ := List.mem_map.mp hd
  have hi := List.mem_range.mp hi
  have := h (i + 1) (by omega)
  cases e : lineV ls (i + 1) with
  | none => rw [e] at this; cases this
  | some d => exact line_good e hl
theorem dsOf_len (ls : List Str) (n : Nat) : (dsOf ls n).length = n := by
  unfold dsOf
  rw [List.length_map, List.length_range]
section
variable {P : Program} {w : World} {K : PySem.W.Frag} {mg : Str → Option Value} {base : Heap} {C D D1 D2 dN : Addr}
/-- what parse_row makes of a text -/
structure Parsed (C D D1 D2 : Addr) (x : Str) (H : Hp) (Q : VK) (E : XK) : Prop where
  note : ∀ p, BadL (linesOf x) p → NEx D ((p : Int) + 1) H E
  neg : AllL (linesOf x) → topOf (linesOf x) < 0 → OutE D1 ["number"] [.int (topOf (linesOf x))] H E
  all : AllL (linesOf x) → 0 ≤ topOf (linesOf x) → AllR (topOf (linesOf x)) (dsOf (linesOf x) ((linesOf x).length - 1)) → ∀ H' p, Same H H' → RowAt C H' p (topOf (linesOf x)) (dsOf (linesOf x) ((linesOf x).length - 1)) → Q (.ref p) H'
  bad : AllL (linesOf x) → 0 ≤ topOf (linesOf x) → ∀ k d, BadR (topOf (linesOf x)) (dsOf (linesOf x) ((linesOf x).length - 1)) k → (dsOf (linesOf x) ((linesOf x).length - 1))[k]? = some d → ∀ H' b, Same H H' → H' b = some (.tup (dv d)) → OutE D2 ["place", "letter"] [.int (k : Int), .ref b] H' E
def Fit (x : Str) : Prop := x.length ≤ 100000 ∧ (linesOf x).length ≤ 800 ∧ ∀ l ∈ linesOf x, l.length ≤ 250
def spParse (C D D1 D2 : Addr) : Sp := fun vs H Q E => ∃ x : Str, vs = [.str x] ∧ Fit x ∧ Parsed C D D1 D2 x H Q E
set_option maxHeartbeats 1000000 in
theorem ok_parse {f : Addr} {fd : FuncData} (F : Fun K "parse_row" "parse_row" s_parse_row f fd) (T : Bi mg) (L : RowC K mg C) (gN : mg "CHANGES" = some (.ref dN)) (TN : KTab K w dN CHG)
    {f_l : Addr} {d_l : FuncData} (D_l : Df K mg "read_line" s_read_line ["lines", "place", "counts"] f_l d_l) (G_l : FnOk P w K mg base (L2N.CX P w) 4 f_l d_l ["lines", "place", "counts"] (spLine K D))
    {f_i : Addr} {d_i : FuncData} (M : Mk K C f_i) (G_i : GRI P w K mg base C D1 D2 f_i d_i) (b_i : Binds K d_i ["self", "top", "letters"] []) : FnOk P w K mg base (L2N.CX P w) 7 f fd ["text"] (spParse C D D1 D2) := by
  refine okN F sc_parse_row (fun vs H Q E h => ?_) (fun cdv A outer s H vs Q E hr h => ?_)
  · obtain ⟨x, rfl, _⟩ := h
    rfl
  · obtain ⟨x, rfl, ⟨hx, hn, hl⟩, q⟩ := h
    refine ⟨_, (pss_cons (ps_set (i := 1) sc_parse_row.nd rfl (.inr rfl) (pe_split (pv 0) pe_str))
        (pss_cons (ps_asg (pe_call G_l (hr.mono (by decide)) (by rfl) D_l.g D_l.F.kp D_l.b .nil (L2N.passes_call (L2N.takes_of rfl rfl rfl rfl) (fun _ _ _ _ h => h)) (pa_cons (pv 1) (pa_cons pe_int (pa_cons (pe_disp (pps_cons pe_str pe_int pps_nil) (by rfl) (by rfl) (fun z => by cases z) (by decide)) pa_nil)))) (pg_tup (by rfl) (pgs_cons (pg_name (i := 3) sc_parse_row.nd rfl (.inl rfl)) (pgs_cons (pg_name (i := 4) sc_parse_row.nd rfl (.inl rfl)) pgs_nil))))
        (pss_cons (ps_set (i := 2) sc_parse_row.nd rfl (.inr rfl) (pe_dc (own := [("word", 5)]) (g := gName 5) (tt := tYes) rfl sc_parse_row.nd (pi_keysW (pe_glob (v := .ref dN) (by rfl) gN rfl)) (blkOk_by (own := [("word", 5)]) (N := ["text", "lines", "counts", "_", "top", "word", "place"]) (sc := defScope s_parse_row) (by decide +kernel)) (fun _ _ _ _ _ => pg_name (i := 5) sc_parse_row.nd rfl (Or.inl rfl)) (fun _ _ _ _ _ => pts_nil) (fun _ _ _ _ _ => pv 5) (fun _ _ _ _ _ => pe_int)))
        (pss_one (ps_ret (pe_make M G_i (hr.mono (by decide)) (by rfl) L.g b_i .nil (L2N.passes_call (L2N.takes_of rfl rfl rfl rfl) (fun _ _ _ _ h => h)) (pa_cons (pv 4) (pa_cons (pe_lcX (E := E) (own := [("place", 6)]) (g := gName 6) (tt := tYes) rfl rfl (L2N.takes_of rfl rfl rfl rfl) rfl sc_parse_row.nd (pi_range2 (by rfl) T.b_range (pa_cons pe_int (pa_cons (pe_callB call_len_seq (by rfl) T.b_len PySem.boot_len (pa_cons (pv 1) pa_nil)) pa_nil))) (blkOk_by (own := [("place", 6)]) (N := ["text", "lines", "counts", "_", "top", "word", "place"]) (sc := defScope s_parse_row) (by decide +kernel)) (fun _ _ _ _ _ _ => pg_name (i := 6) sc_parse_row.nd rfl (Or.inl rfl)) (fun _ _ _ _ _ _ => pts_nil) (fun _ _ _ _ _ _ px => (pe_callS G_l (hr.mono (by decide)) (by rfl) D_l.g D_l.F.kp D_l.b px (pa_cons (pv 1) (pa_cons (pv 6) (pa_cons (pv 2) pa_nil)))))) pa_nil)))))))), ?_⟩
    obtain ⟨ne, lx, lp⟩ := lines_facts x
    have hls : (Txt.split x "\n") = linesOf x := rfl
    obtain ⟨qn, qneg, qall, qbad⟩ := q
    refine ⟨_, rfl, ⟨_, rfl⟩, x, _, rfl, rfl, rfl, Nat.le_trans (Nat.add_le_add_right hx 2) (by decide), fun a na => ?_⟩
    rw [hls]
    generalize linesOf x = ls at *
    have s1 : Same H (upd H a (.lst (ls.map V.str))) := same_upd na
    have hpos : 0 < ls.length := List.length_pos_iff.mpr ne
    refine ⟨_, rfl, fun c nc => ?_⟩
    refine ⟨upd_same, [(Sum.inr "row", .int 1)], rfl, by show 1 ≤ 15; decide, ?_⟩
    rw [upd_upd]
    have s2 : Same (upd H a (.lst (ls.map V.str))) (upd (upd H a (.lst (ls.map V.str))) c (.dK (mergeK [] [(Sum.inr "row", V.int 1)]))) := same_upd nc
    have hc2 : (upd (upd H a (.lst (ls.map V.str))) c (.dK (mergeK [] [(Sum.inr "row", V.int 1)]))) c = some (.dK [(Sum.inr "row", V.int 1)]) := upd_same
    have ha2 := s2 _ _ (upd_same (H := H) (a := a) (o := .lst (ls.map V.str)))
    have s12 := s1.trans s2
    generalize (upd (upd H a (.lst (ls.map V.str))) c (.dK (mergeK [] [(Sum.inr "row", V.int 1)]))) = H2 at *
    refine ⟨a, c, ls, 0, c0, rfl, .inl (.inl ha2), cnt_c0 hc2, by omega, fun l hl0 => ⟨Nat.le_trans (hl l (List.mem_of_getElem? hl0)) (by decide), ?_⟩, fun z => absurd z (by omega)⟩
    have lv0 : lineV ls 0 = rdL c0 l := by
      unfold lineV
      rw [hl0, if_pos rfl]
      rfl
    cases h0 : rdL c0 l with
    | none => exact NEx.same (qn 0 ⟨hpos, lv0.trans h0, fun q hq => absurd hq (Nat.not_lt_zero q)⟩) s12
    | some d0 =>
      intro H3 b0 s3 hb0
      obtain ⟨f0, sm0⟩ := rdL_form h0 (hl l (List.mem_of_getElem? hl0))
      have e0 := c0_form f0
      have tp : topOf ls = numR d0 := by
        unfold topOf
        rw [lv0, h0]
        rfl
      rw [tp] at qneg qall qbad
      rw [e0] at hb0
      have s03 := s12.trans s3
      have ha3 := s3 _ _ ha2
      have smt : SmI (numR d0) := sm0 _ (by rw [e0]; exact List.mem_singleton.mpr rfl)
      refine ⟨b0, _, rfl, .inl (.inl hb0), rfl, _, _, rfl, _, _, rfl, rfl, ?_⟩
      refine ⟨dN, CHG, rfl, TN, fun n nn => dc_keysW (fun i Hi => Hi = upd H3 n (.dK (ONE.take i))) rfl (fun i p Hi hp pv => ?_) (fun H4' pv => ?_)⟩
      · subst pv
        refine ⟨rfl, ?_⟩
        refine ⟨_, rfl, ONE.take i, Sum.inr p.1, rfl, upd_same, ?_, ?_⟩
        · rw [List.length_take]
          exact Nat.lt_of_le_of_lt (Nat.min_le_right _ _) (small1000 (by decide))
        · rw [upd_upd]
          match i, hp with
          | 0, hp => cases hp; exact congrArg (fun z => upd H3 n (.dK z)) (by decide +kernel)
          | 1, hp => cases hp; exact congrArg (fun z => upd H3 n (.dK z)) (by decide +kernel)
          | 2, hp => cases hp; exact congrArg (fun z => upd H3 n (.dK z)) (by decide +kernel)
          | i + 3, hp => exact absurd hp (by simp [CHG])
      subst pv
      have s4 : Same H3 (upd H3 n (.dK (ONE.take CHG.length))) := same_upd nn
      have hn4 : (upd H3 n (.dK (ONE.take CHG.length))) n = some (.dK ONE) := upd_same
      have ha4 := s4 _ _ ha3
      have s04 := s03.trans s4
      generalize (upd H3 n (.dK (ONE.take CHG.length))) = H4 at *
      have hlen : ((ls.map V.str).length : Int) = (ls.length : Int) := by rw [List.length_map]
      refine ⟨_, rfl, _, rfl, a, _, rfl, .inl (.inl (.inl ha4)), 1, _, rfl, ⟨by omega, by omega, by omega, by rw [hlen]; omega⟩, fun M nM => ?_⟩
      rw [show (((ls.map V.str).length : Int) - 1).toNat = ls.length - 1 by rw [hlen]; omega]
      refine lc_range (lo := 1) (n := ls.length - 1) (fun i Hi => (∃ Hc vs, Same H4 Hc ∧ Hc M = none ∧ Hi = upd Hc M (.lst vs) ∧ DsT Hc vs (dsOf ls i)) ∧ ∀ q, q < i + 1 → (lineV ls q).isSome = true) ⟨⟨H4, [], Same.refl _, nM, rfl, .nil⟩, fun q hq => ?_⟩ (fun i Hi hi pv => ?_) fun Hi pv => ?_
      · obtain rfl : q = 0 := by omega
        rw [lv0, h0]
        rfl
      · obtain ⟨⟨Hc, vs, sc, nMc, rfl, tc⟩, good⟩ := pv
        have sM : Same Hc (upd Hc M (.lst vs)) := same_upd nMc
        have s5 := sc.trans sM
        refine ⟨rfl, ?_⟩
        refine ⟨_, rfl, _, rfl, _, rfl, a, n, ls, i + 1, cN, by rw [show (1 + (i : Int)) = ((i + 1 : Nat) : Int) by omega], .inl (.inl (s5 _ _ ha4)), cnt_cN (s5 _ _ hn4), by omega, fun l' hl' => ⟨Nat.le_trans (hl l' (List.mem_of_getElem? hl')) (by decide), ?_⟩, fun z => absurd z (by omega)⟩
        have lv : lineV ls (i + 1) = rdL cN l' := by
          unfold lineV
          rw [hl', if_neg (by omega)]
          rfl
        cases h1 : rdL cN l' with
        | none => exact NEx.same (qn (i + 1) ⟨by omega, lv.trans h1, fun q hq => good q hq⟩) (s04.trans s5)
        | some d =>
          intro H5 b s6 hb
          have eM : H5 M = some (.lst vs) := s6 _ _ upd_same
          have nbM : b ≠ M := fun z => by rw [z, eM] at hb; cases hb
          have lvs : vs.length < sizeLine := by
            rw [tc.1, dsOf_len]
            exact small1000 (by omega)
          refine ⟨vs, eM, lvs, ⟨hole H5 M, vs ++ [.ref b], (same_hole nM (s5.trans s6)), hole_at, upd_hole.symm, ?_⟩, fun q hq => ?_⟩
          · rw [dsOf_succ, lv, h1]
            exact (tc.same (same_hole nMc (sM.trans s6))).snoc (by rw [hole_ne nbM]; exact hb)
          · by_cases hq2 : q = i + 1
            · rw [hq2, lv, h1]
              rfl
            · exact good q (by omega)
      · obtain ⟨⟨Hc, vs, sc, nMc, rfl, tc⟩, good⟩ := pv
        have s5 := sc.trans (same_upd (o := .lst vs) nMc)
        have al : AllL ls := fun p hp => good p (by omega)
        have tc5 := tc.same (same_upd (o := .lst vs) nMc)
        dsimp only [tNil]
        refine rd_mkR (C := C) (D1 := D1) (D2 := D2) (t := numR d0) (a := M) (R := _) ⟨.inl upd_same, tc5.h, dsOf_good good hl, by rw [dsOf_len]; omega, smt, fun neg => (qneg al neg).same (s04.trans s5), fun t0 ar H' p s c => qall al t0 ar H' p ((s04.trans s5).trans s) c, fun t0 k b hb hx => ?_⟩
        obtain ⟨⟨d, hd, _⟩, _⟩ := id hb
        obtain ⟨b2, hx2, eb⟩ := tc5.2 k d hd
        rw [hx] at hx2
        cases hx2
        exact qbad al t0 k d hb hd _ b (s04.trans s5) eb

def spFmt (C : Addr) : Sp := fun vs H Q _ => ∃ (p : Addr) (t : Int) (ds : List Deed), vs = [.ref p] ∧ RowAt C H p t ds ∧ (∀ d ∈ ds, Sml d) ∧ t.natAbs < 2 ^ 64 ∧ ds.length ≤ 900 ∧ ∀ H', Same H H' → Q (.str (noteT (("row", [t]) :: ds))) H'
theorem ok_fmt {f : Addr} {fd : FuncData} (F : Fun K "format_row" "format_row" s_format_row f fd) (T : Bi mg) (L : RowC K mg C) {f_w : Addr} {d_w : FuncData} (D_w : Df K mg "written" s_written ["lines"] f_w d_w) (G_w : FnOk P w K mg base CX0 1 f_w d_w ["lines"] (spWrit K)) : FnOk P w K mg base CX0 2 f fd ["row"] (spFmt C) := by
  refine F.ok sc_format_row (fun vs H Q E h => ?_) (fun cdv A outer s H vs Q E hr h => ?_)
  · obtain ⟨p, t, ds, rfl, _⟩ := h
    rfl
  · obtain ⟨p, t, ds, rfl, ⟨dx, la, a, us, e, ela, ea, k⟩, hm, ht, hl, q⟩ := h
    refine ⟨_, (pss_one (ps_ret (pe_call G_w (hr.mono (by decide)) (by rfl) D_w.g D_w.F.kp D_w.b .nil pass0 (pa_cons (pe_op op_cat (pe_lst (pa_cons (pe_tup (pa_cons pe_str (pa_cons (pe_fld (pv 0) rfl) pa_nil))) pa_nil)) (pe_callTy call_list_of (by rfl) T.b_list (by decide +kernel) (pa_cons (pe_fld (pv 0) rfl) pa_nil))) pa_nil)))), ?_⟩
    refine ⟨_, rfl, p, C, dx, _, _, rfl, e, L.cl, L.nT, look_top _ _ _, by show 2 ≤ sizeLine; decide, fun l nl => ?_⟩
    refine ⟨by show 1 ≤ sizeLine; decide, fun m nm => ?_⟩
    have s1 : Same H (upd H l (.tup [.str "row", .int t])) := same_upd nl
    have s2 : Same (upd H l (.tup [.str "row", .int t])) (upd (upd H l (.tup [.str "row", .int t])) m (.lst [.ref l])) := same_upd nm
    have s3 := s1.trans s2
    refine ⟨_, rfl, p, C, dx, _, _, rfl, s3 _ _ e, L.cl, L.nL, look_letters _ _ _, a, us, rfl, .inr (.inl (.inl (s3 _ _ ea))), fun n nn => ?_⟩
    have s4 := same_upd (o := .lst us) nn
    have lu : us.length ≤ 900 := by rw [k.1]; exact hl
    refine ⟨m, n, [.ref l], us, rfl, rfl, s4 _ _ upd_same, upd_same, by show 1 + us.length ≤ sizeLine; exact Nat.le_trans (by omega) (by decide : 901 ≤ sizeLine), fun r nr => ?_⟩
    have s5 := same_upd (o := .lst ([.ref l] ++ us)) nr
    have s6 := ((s3.trans s4).trans s5)
    refine ⟨r, [.ref l] ++ us, ("row", [t]) :: ds, rfl, .inl (.inl upd_same), ⟨by rw [List.length_append, k.1]; show 1 + ds.length = ds.length + 1; omega, fun i d hd => ?_⟩, fun d hd => ?_, by rw [List.length_cons]; omega, fun H' s' => q H' (s6.trans s')⟩
    · cases i with
      | zero =>
        obtain rfl : (("row", [t]) : Deed) = d := Option.some.inj hd
        exact ⟨l, rfl, .inr (s5 _ _ (s4 _ _ (s2 _ _ upd_same)))⟩
      | succ i =>
        obtain ⟨b, x, y⟩ := k.2 i d hd
        exact ⟨b, x, .inr (s6 _ _ y)⟩
    · rcases List.mem_cons.mp hd with rfl | hd
      · exact ⟨by show (Str.ofString "row").length ≤ 10; decide, by show 1 ≤ 2; decide, fun i hi => by rw [List.mem_singleton.mp hi]; exact ht⟩
      · exact hm d hd

end
end Own

namespace Own
open PySem PySem.Spec PyProof.Rows L2 TL
/-! ### rows upside down -/
def UPS : List (Str × Str) := [("cross", "cross"), ("cup", "cap"), ("cap", "cup")]
structure UpD (K : PySem.W.Frag) (w : World) (a : Addr) : Prop where
  at_ : ∀ p ∈ UPS, KDct K w a p.1 (.str p.2)
def upW (z : Str) : Str := if z = "cup" then "cap" else if z = "cap" then "cup" else z
def flip1 (d : Deed) : Deed := (upW d.1, d.2)
def flipD (ds : List Deed) : List Deed := ds.reverse.map flip1
theorem valN_mem {ps : List (Str × Int)} {x : Str} {i : Int} (h : valN ps x = some i) : (x, i) ∈ ps := by
  unfold valN at h
  cases e : ps.find? fun p => decide (p.1 = x) with
  | none => rw [e] at h; cases h
  | some p =>
    rw [e] at h
    have h1 := List.mem_of_find?_eq_some e
    have h2 := List.find?_some e
    have h3 : p.2 = i := Option.some.inj h
    rw [← of_decide_eq_true h2, ← h3]
    exact h1
theorem good_word {d : Deed} (h : GoodR d) : d.1 = "cross" ∨ d.1 = "cup" ∨ d.1 = "cap" := by
  have h := h.1
  cases e : valN CHG d.1 with
  | none => rw [e] at h; cases h
  | some i =>
    have := valN_mem e
    unfold CHG at this
    simp only [List.mem_cons, List.not_mem_nil, or_false, Prod.mk.injEq] at this
    rcases this with h | h | h
    · exact .inl h.1
    · exact .inr (.inl h.1)
    · exact .inr (.inr h.1)
theorem up_mem {d : Deed} (h : GoodR d) : (d.1, upW d.1) ∈ UPS := by
  rcases good_word h with e | e | e <;> (rw [e]; decide +kernel)
theorem flip_good {d : Deed} (h : GoodR d) : GoodR (flip1 d) := by
  refine ⟨?_, h.2⟩
  show (valN CHG (upW d.1)).isSome = true
  rcases good_word h with e | e | e <;> (rw [e]; decide +kernel)
theorem chg_up {d : Deed} (h : GoodR d) : chgR (flip1 d).1 = -chgR d.1 := by
  show chgR (upW d.1) = _
  rcases good_word h with e | e | e <;> (rw [e]; decide +kernel)
theorem ok_flip {d : Deed} {L : Int} (h : GoodR d) (o : okR L d = true) : okR (L + chgR d.1) (flip1 d) = true := by
  unfold okR at o ⊢
  have o := of_decide_eq_true o
  refine decide_eq_true ?_
  have hn : numR (flip1 d) = numR d := rfl
  rw [hn]
  show 0 ≤ numR d ∧ numR d < if upW d.1 = "cup" then L + chgR d.1 + 1 else L + chgR d.1 - 1
  rcases good_word h with e | e | e <;> rw [e] at o ⊢
  · rw [if_neg (by decide +kernel)] at o
    rw [if_neg (by decide +kernel), show chgR "cross" = 0 by decide +kernel]
    omega
  · rw [if_pos rfl] at o
    rw [if_neg (by decide +kernel), show chgR "cup" = 2 by decide +kernel]
    omega
  · rw [if_neg (by decide +kernel)] at o
    rw [if_pos (by decide +kernel), show chgR "cap" = -2 by decide +kernel]
    omega
theorem end_next {t : Int} {ds : List Deed} {j : Nat} {d : Deed} (h : ds[j]? = some d) : endR t (ds.take (j + 1)) = endR t (ds.take j) + chgR d.1 := by
  rw [List.take_add_one, h]
  exact endR_snoc _ _ _
theorem flip_at {ds : List Deed} {i : Nat} {d : Deed} (h : (flipD ds)[i]? = some d) : i < ds.length ∧ ∃ e, ds[ds.length - 1 - i]? = some e ∧ d = flip1 e := by
  unfold flipD at h
  rw [List.getElem?_map] at h
  cases e : ds.reverse[i]? with
  | none => rw [e] at h; cases h
  | some u =>
    rw [e] at h
    have hi : i < ds.length := by
      have := (List.getElem?_eq_some_iff.mp e).1
      rw [List.length_reverse] at this
      exact this
    rw [List.getElem?_reverse hi] at e
    exact ⟨hi, u, e, (Option.some.inj h).symm⟩
theorem flip_len (ds : List Deed) : (flipD ds).length = ds.length := by
  unfold flipD
  rw [List.length_map, List.length_reverse]
theorem end_flip {t : Int} {ds : List Deed} (g : ∀ d ∈ ds, GoodR d) : ∀ i, i ≤ ds.length → endR (endR t ds) ((flipD ds).take i) = endR t (ds.take (ds.length - i))
  | 0, _ => by
    rw [List.take_zero, Nat.sub_zero, List.take_length]
    rfl
  | i + 1, h => by
    have ih := end_flip (t := t) g i (by omega)
    have hi : i < (flipD ds).length := by rw [flip_len]; omega
    have e := List.getElem?_eq_getElem hi
    obtain ⟨_, u, hu, eu⟩ := flip_at e
    rw [end_next e, ih, eu, chg_up (g u (List.mem_of_getElem? hu))]
    have e2 := end_next (t := t) hu
    rw [show ds.length - 1 - i + 1 = ds.length - i by omega] at e2
    rw [show ds.length - (i + 1) = ds.length - 1 - i by omega, e2]
    omega
theorem all_flip {t : Int} {ds : List Deed} (g : ∀ d ∈ ds, GoodR d) (al : AllR t ds) : AllR (endR t ds) (flipD ds) := fun i d h => by
  obtain ⟨hi, u, hu, rfl⟩ := flip_at h
  rw [end_flip g i (by omega)]
  have e2 := end_next (t := t) hu
  rw [show ds.length - 1 - i + 1 = ds.length - i by omega] at e2
  rw [e2]
  exact ok_flip (g u (List.mem_of_getElem? hu)) (al _ u hu)
theorem end_pos {t : Int} {ds : List Deed} (g : ∀ d ∈ ds, GoodR d) (t0 : 0 ≤ t) (al : AllR t ds) : ∀ i, i ≤ ds.length → 0 ≤ endR t (ds.take i)
  | 0, _ => t0
  | i + 1, h => by
    have ih := end_pos g t0 al i (by omega)
    have e := List.getElem?_eq_getElem (l := ds) (i := i) (by omega)
    rw [end_next e]
    have o := al i _ e
    have gd := g _ (List.mem_of_getElem? e)
    generalize ds[i] = d at *
    unfold okR at o
    have o := of_decide_eq_true o
    rcases good_word gd with e | e | e <;> rw [e] at o ⊢
    · rw [show chgR "cross" = 0 by decide +kernel]
      omega
    · rw [show chgR "cup" = 2 by decide +kernel]
      omega
    · rw [if_neg (by decide +kernel)] at o
      rw [show chgR "cap" = -2 by decide +kernel]
      omega
theorem end_flip_all {t : Int} {ds : List Deed} (g : ∀ d ∈ ds, GoodR d) (t0 : 0 ≤ t) (al : AllR t ds) : 0 ≤ endR t ds := by
  have := end_pos g t0 al ds.length (Nat.le_refl _)
  rw [List.take_length] at this
  exact this
theorem sc_flip : FnScope ["self", "word", "lane"] ["self"] (defScope s_Row_flipped) := ⟨rfl, rfl, rfl, by decide +kernel, rfl, by decide +kernel, by decide +kernel⟩
section
variable {P : Program} {w : World} {K : PySem.W.Frag} {mg : Str → Option Value} {base : Heap} {C D1 D2 dU : Addr}
def spFlip (C : Addr) : Sp := fun vs H Q _ => ∃ (p : Addr) (t : Int) (ds : List Deed), vs = [.ref p] ∧ RowAt C H p t ds ∧ (∀ d ∈ ds, GoodR d ∧ SmD d) ∧ 0 ≤ t ∧ AllR t ds ∧ ds.length ≤ 900 ∧ SmI (endR t ds) ∧ ∀ H' x, Same H H' → RowAt C H' x (endR t ds) (flipD ds) → Q (.ref x) H'
set_option maxHeartbeats 1000000 in
theorem ok_flipped {f : Addr} {fd : FuncData} (F : Fun K "flipped" "Row.flipped" s_Row_flipped f fd) (L : RowC K mg C) (gU : mg "UPSIDE_DOWN" = some (.ref dU)) (TU : UpD K w dU)
    {p_bo f_bo : Addr} {d_bo : FuncData} (P_bo : PropOf K C "bottom" p_bo f_bo) (G_bo : FnOk P w K mg base CX0 1 f_bo d_bo ["self"] (spBottom C)) (b_bo : Binds K d_bo ["self"] [])
    {f_i : Addr} {d_i : FuncData} (M : Mk K C f_i) (G_i : GRI P w K mg base C D1 D2 f_i d_i) (b_i : Binds K d_i ["self", "top", "letters"] []) : FnOk P w K mg base CX0 7 f fd ["self"] (spFlip C) := by
  refine F.ok sc_flip (fun vs H Q E h => ?_) (fun cdv A outer s H vs Q E hr h => ?_)
  · obtain ⟨p, t, ds, rfl, _⟩ := h
    rfl
  · obtain ⟨p, t, ds, rfl, hp, hg, t0, al, hl, sm, q⟩ := h
    refine ⟨_, (pss_one (ps_ret (pe_make M G_i (hr.mono (by decide)) (by rfl) L.g b_i .nil passN (pa_cons (pe_prop (pv 0) L.cl P_bo G_bo (hr.mono (by decide)) b_bo .nil pass0 (by rfl)) (pa_cons (pe_lc (own := [("word", 1), ("lane", 2)]) (g := gTup K 2 (gCons (gName 1) (gCons (gName 2) gNil))) (tt := tYes) rfl sc_flip.nd (pi_tup (pe_revT (pe_fld (pv 0) rfl))) (blkOk_by (own := [("word", 1), ("lane", 2)]) (N := ["self", "word", "lane"]) (sc := defScope s_Row_flipped) (by decide +kernel)) (fun _ _ _ _ _ => (pg_tup (by rfl) (pgs_cons (pg_name (i := 1) sc_flip.nd rfl (.inl rfl)) (pgs_cons (pg_name (i := 2) sc_flip.nd rfl (.inl rfl)) pgs_nil)))) (fun _ _ _ _ _ => pts_nil) (fun _ _ _ _ _ => (pe_tup (pa_cons (pe_ix (r := rIxD K w) ix_kdict (pe_glob (v := .ref dU) (by rfl) gU rfl) (pv 1) (fun _ _ => rfl)) (pa_cons (pv 2) pa_nil))))) pa_nil))))), ?_⟩
    obtain ⟨dx, la, a, us, e, ela, ea, k⟩ := id hp
    have gd : ∀ d ∈ ds, GoodR d := fun d h => (hg d h).1
    refine ⟨_, rfl, p, dx, _, rfl, e, p, t, ds, rfl, hp, ?_⟩
    refine ⟨_, rfl, p, C, dx, _, _, rfl, e, L.cl, L.nL, look_letters _ _ _, a, us, rfl, .inl (.inl ea), fun r nr => ?_⟩
    have s1 := same_upd (o := .tup us.reverse) nr
    have er : upd H r (.tup us.reverse) r = some (.tup us.reverse) := upd_same
    have k1 := k.same s1
    generalize upd H r (.tup us.reverse) = H1 at *
    have lu : us.length = ds.length := k.1
    refine ⟨r, rfl, ⟨_, .inl (.inl er)⟩, fun M nM => lc_tup (K := K) (a := r) (xs := us.reverse) (fun i Hi => ∃ Hc vs, Same H1 Hc ∧ Hc M = none ∧ Hi = upd Hc M (.lst vs) ∧ DsT Hc vs ((flipD ds).take i)) ⟨H1, [], Same.refl _, nM, rfl, .nil⟩ (fun i Hi _ pv => ?_) (fun i x Hi hx pv => ?_) (fun Hi pv => ?_)⟩
    · obtain ⟨Hc, vs, sc, nc, rfl, _⟩ := pv
      exact .inl (.inl ((sc.trans (same_upd nc)) _ _ er))
    · obtain ⟨Hc, vs, sc, nc, rfl, tc⟩ := pv
      have hi : i < us.length := by
        have := (List.getElem?_eq_some_iff.mp hx).1
        rw [List.length_reverse] at this
        exact this
      have hif : i < (flipD ds).length := by rw [flip_len]; omega
      have ei := List.getElem?_eq_getElem hif
      obtain ⟨_, u, hu, eu⟩ := flip_at ei
      rw [List.getElem?_reverse hi] at hx
      obtain ⟨b, e1, e2⟩ := k1.2 _ u hu
      rw [lu] at hx
      rw [hx] at e1
      cases e1
      obtain ⟨g1, n, hn⟩ := id (gd u (List.mem_of_getElem? hu))
      have sM := same_upd (o := .lst vs) nc
      have eb := (sc.trans sM) _ _ e2
      have edv : dv u = [.str u.1, .int n] := by show V.str u.1 :: u.2.map V.int = _; rw [hn]; rfl
      rw [edv] at eb
      refine ⟨b, _, rfl, .inl (.inl eb), rfl, _, _, rfl, _, _, rfl, rfl, rfl, ?_⟩
      refine ⟨_, rfl, dU, u.1, .str (upW u.1), rfl, rfl, TU.at_ _ (up_mem (gd u (List.mem_of_getElem? hu))), _, rfl, by show 2 ≤ sizeLine; decide, fun l nl => ?_⟩
      have sl := same_upd (o := .tup [.str (upW u.1), .int n]) nl
      have eM := sl _ _ (upd_same (H := Hc) (a := M) (o := .lst vs))
      have nlM : l ≠ M := fun z => by rw [z, upd_same] at nl; cases nl
      refine ⟨vs, eM, by rw [tc.1, List.length_take]; exact Nat.lt_of_le_of_lt (Nat.min_le_left _ _) (small1000 (by omega)), hole (upd (upd Hc M (.lst vs)) l (.tup [.str (upW u.1), .int n])) M, vs ++ [.ref l], same_hole nM ((sc.trans sM).trans sl), hole_at, upd_hole.symm, ?_⟩
      rw [List.take_add_one, ei]
      refine (tc.same (same_hole nc (sM.trans sl))).snoc ?_
      rw [hole_ne nlM, upd_same, eu]
      show some (HO.tup [.str (upW u.1), .int n]) = some (HO.tup (.str (upW u.1) :: u.2.map V.int))
      rw [hn]
      rfl
    · obtain ⟨Hc, vs, sc, nc, rfl, tc⟩ := pv
      rw [List.length_reverse, lu, ← flip_len, List.take_length] at tc
      have s5 := sc.trans (same_upd (o := .lst vs) nc)
      have tc5 := tc.same (same_upd (o := .lst vs) nc)
      have gf : ∀ d ∈ flipD ds, GoodR d ∧ SmD d := fun d hd => by
        unfold flipD at hd
        obtain ⟨u, hu, rfl⟩ := List.mem_map.mp hd
        have hu := List.mem_reverse.mp hu
        exact ⟨flip_good (gd u hu), (hg u hu).2⟩
      dsimp only [tNil]
      refine rd_mkR (C := C) (D1 := D1) (D2 := D2) (t := endR t ds) (a := M) (R := _) ⟨.inl upd_same, tc5.h, gf, by rw [flip_len]; omega, sm, fun neg => ?_, fun _ _ H' x s c => q H' x ((s1.trans s5).trans s) c, fun _ kk b hb => ?_⟩
      · have := end_flip_all gd t0 al
        omega
      · obtain ⟨⟨d, hd, nd⟩, _⟩ := hb
        rw [all_flip gd al kk d hd] at nd
        cases nd

end
end Own

namespace Own
open PySem PySem.Spec PyProof.Rows L2 TL
/-! ### the law's letters, lanes, rows, notes -/
theorem all_snoc {t : Int} {ds : List Deed} {d : Deed} (h : AllR t ds) (o : okR (endR t ds) d = true) : AllR t (ds ++ [d]) := fun i e he => by
  by_cases hi : i < ds.length
  · rw [List.getElem?_append_left hi] at he
    rw [List.take_append_of_le_length (Nat.le_of_lt hi)]
    exact h i e he
  · rw [List.getElem?_append_right (by omega)] at he
    have hi2 : i - ds.length = 0 := by
      cases hk : i - ds.length with
      | zero => rfl
      | succ k => rw [hk] at he; simp at he
    rw [hi2] at he
    obtain rfl : d = e := Option.some.inj he
    have : i = ds.length := by have := (Nat.not_lt.mp hi); omega
    rw [this, List.take_left]
    exact o
theorem DsT.at_ {H : Hp} {vs : List V} {ds : List Deed} (h : DsT H vs ds) {i : Nat} {x : V} (e : vs[i]? = some x) : ∃ b d, x = .ref b ∧ ds[i]? = some d ∧ H b = some (.tup (dv d)) := by
  have hi : i < ds.length := by
    rw [← h.1]
    exact (List.getElem?_eq_some_iff.mp e).1
  obtain ⟨b, e1, e2⟩ := h.2 i ds[i] (List.getElem?_eq_getElem hi)
  rw [e] at e1
  exact ⟨b, ds[i], Option.some.inj e1, List.getElem?_eq_getElem hi, e2⟩
/-- a letter that is short -/
def LR (d : Deed) : Prop := GoodR d ∧ ∀ i ∈ d.2, i.natAbs < 2 ^ 60
theorem LR.smd {d : Deed} (h : LR d) : SmD d := fun i hi => Nat.lt_of_lt_of_le (h.2 i hi) (by decide +kernel)
theorem LR.good {ds : List Deed} (h : ∀ d ∈ ds, LR d) : ∀ d ∈ ds, GoodR d ∧ SmD d := fun d hd => ⟨(h d hd).1, (h d hd).smd⟩
theorem LR.sml {d : Deed} (h : LR d) : Sml d := by
  obtain ⟨⟨g1, n, hn⟩, s⟩ := h
  refine ⟨?_, by rw [hn]; show 1 ≤ 2; decide, fun i hi => Nat.lt_of_lt_of_le (s i hi) (by decide)⟩
  rcases good_word ⟨g1, n, hn⟩ with e | e | e <;> (rw [e]; decide +kernel)
theorem joinL_snoc (S : List Nat) : ∀ (r : List (List Nat)) (p z : List Nat), joinL S (p :: r ++ [z]) = joinL S (p :: r) ++ (S ++ z)
  | [], p, z => rfl
  | x :: r, p, z => by
    show p ++ (S ++ joinL S (x :: r ++ [z])) = p ++ (S ++ joinL S (x :: r)) ++ (S ++ z)
    rw [joinL_snoc S r x z]
    simp
theorem join_snoc (y : Str) (p : Str) (r : List Str) (z : Str) : Txt.join y (p :: r ++ [z]) = Txt.join y (p :: r) ++ y ++ z := by
  refine ext_tl ?_
  rw [join_eq, join_eq, tl_join, tl_append, tl_append, tl_join, List.map_append, List.map_cons]
  show joinL (tl y) (tl p :: r.map tl ++ [tl z]) = _
  rw [joinL_snoc]
  simp
theorem join_one (y p : Str) : Txt.join y [p] = p := by
  refine ext_tl ?_
  rw [join_eq, tl_join]
  rfl
theorem line_one (w : Str) (n : Int) : lineT (w, [n]) = w ++ " " ++ nt n := by
  show Txt.join " " ([w] ++ [nt n]) = _
  rw [join_snoc, join_one]
theorem row_line (t : Int) : Str.ofString "row " ++ nt t = lineT ("row", [t]) := by
  rw [line_one]
  rw [show ("row" : Str) ++ " " = Str.ofString "row " by decide +kernel]
section
variable {P : Program} {w : World} {K : PySem.W.Frag} {mg : Str → Option Value} {base : Heap} {C D1 D2 dU : Addr}
def spLett (K : PySem.W.Frag) : Sp := fun vs H Q _ => ∃ (a : Addr) (ns : List Int) (t m : Int), vs = [.ref a, .int t, .int m] ∧ SqL K H a (ns.map V.int) ∧ ns.length ≤ 200 ∧ (∀ (i : Nat) (x : Int), ns[2 * i]? = some x → 0 ≤ x ∧ x < 12) ∧ (0 ≤ t ∧ t ≤ 100) ∧ 10 ≤ m ∧
  ∀ H' r us ds, Same H H' → H' r = some (.lst us) → DsT H' us ds → (∀ d ∈ ds, LR d) → AllR t ds → ds.length ≤ 100 → Q (.ref r) H'
set_option maxHeartbeats 2000000 in
theorem ok_letters {f : Addr} {fd : FuncData} (F : Fun K "_law_letters" "_law_letters" s__law_letters f fd) (T : Bi mg) : FnOk P w K mg base CX0 1 f fd ["_law_listed", "_law_top", "_law_upto"] (spLett K) := by
  refine F.ok sc__law_letters (fun vs H Q E h => ?_) (fun cdv A outer s H vs Q E hr h => ?_)
  · obtain ⟨a, ns, t, m, rfl, _⟩ := h
    rfl
  · obtain ⟨a, ns, t, m, rfl, hs, hl, hx, ht, hm, q⟩ := h
    refine ⟨_, (pss_cons (ps_set (i := 3) sc__law_letters.nd rfl (.inl rfl) (pe_lst pa_nil))
        (pss_cons (ps_set (i := 4) sc__law_letters.nd rfl (.inl rfl) (pv 1))
        (pss_cons (ps_for PassesOwn.never rfl (pi_range1 (by rfl) T.b_range (pa_cons (pe_op op_fdiv (pe_callB call_len_seq (by rfl) T.b_len PySem.boot_len (pa_cons (pv 0) pa_nil)) pe_int) pa_nil)) (pg_name (i := 5) sc__law_letters.nd rfl (.inl rfl))
        (pss_cons (ps_set (i := 6) sc__law_letters.nd rfl (.inl rfl) (pe_ix (r := rIxL K) ix_list (pe_lst (pa_cons pe_str (pa_cons pe_str (pa_cons pe_str (pa_cons pe_str pa_nil))))) (pe_op op_fdiv (pe_ix (r := rIxL K) ix_list (pv 0) (pe_op op_mul pe_int (pv 5)) (fun _ _ => rfl)) pe_int) (fun _ _ => rfl)))
        (C8.pss_cut (ps_if (pt_cmpR op_lt (pv 4) pe_int (nomark _)) (pss_one (ps_set (i := 6) sc__law_letters.nd rfl (.inl rfl) pe_str)) pss_nil)
        (C8.pss_cut (ps_if (PW.pt (pw_and (pt_cmpR op_eq (pv 6) pe_str (nomark _)) (pw_and1 (pt_cmpR op_gt (pe_op op_add (pv 4) pe_int) (pv 2) (nomark _))))) (pss_one (ps_set (i := 6) sc__law_letters.nd rfl (.inl rfl) pe_str)) pss_nil)
        (pss_one (ps_if (pt_cmpR op_eq (pv 6) pe_str (nomark _)) (pss_cons (ps_expr (pe_bm PySem.F.plainAttrs_list PySem.F.slot_list_append PySem.F.type_list_append mt_append (pv 3) (pa_cons (pe_tup (pa_cons (pv 6) (pa_cons (pe_op op_modN (pe_callTy call_int1 (by rfl) T.b_int (by decide +kernel) (pa_cons (pe_ix (r := rIxL K) ix_list (pv 0) (pe_op op_add (pe_op op_mul pe_int (pv 5)) pe_int) (fun _ _ => rfl)) pa_nil)) (pe_op op_add (pv 4) pe_int)) pa_nil))) pa_nil)))
        (pss_one (ps_set (i := 4) sc__law_letters.nd rfl (.inl rfl) (pe_op op_add (pv 4) pe_int)))) (pss_cons (ps_expr (pe_bm PySem.F.plainAttrs_list PySem.F.slot_list_append PySem.F.type_list_append mt_append (pv 3) (pa_cons (pe_tup (pa_cons (pv 6) (pa_cons (pe_op op_modN (pe_callTy call_int1 (by rfl) T.b_int (by decide +kernel) (pa_cons (pe_ix (r := rIxL K) ix_list (pv 0) (pe_op op_add (pe_op op_mul pe_int (pv 5)) pe_int) (fun _ _ => rfl)) pa_nil)) (pe_op op_sub (pv 4) pe_int)) pa_nil))) pa_nil)))
        (pss_one (ps_set (i := 4) sc__law_letters.nd rfl (.inl rfl) (pe_op op_sub (pv 4) (pe_op op_mul pe_int (pe_callTy call_int1 (by rfl) T.b_int (by decide +kernel) (pa_cons (pe_cmpR op_eq (pv 6) pe_str (nomark _)) pa_nil)))))))))))))
        (pss_one (ps_ret (pv 3)))))), ?_⟩
    refine ⟨by show 0 ≤ sizeLine; decide, fun r nr => ?_⟩
    have s0 := same_upd (o := .lst []) nr
    have lN : (((ns.map V.int).length : Nat) : Int) / 2 = ((ns.length / 2 : Nat) : Int) := by rw [List.length_map]; omega
    have har : ∀ {H' : Hp}, Same H (hole H' r) → SqL K H' a (ns.map V.int) := fun s => (unhole s).seq hs
    refine ⟨_, rfl, _, rfl, a, _, rfl, .inl (s0.seq hs), _, _, rfl, rfl, ⟨by decide, by decide⟩, ((ns.length / 2 : Nat) : Int), congrArg (fun z => [V.int z]) lN, by omega, by omega, for_range (lo := 0) (n := ns.length / 2) (fun i σ H' => ∃ y5 y6 L us ds, σ = [some (.ref a), some (.int t), some (.int m), some (.ref r), some (.int L), y5, y6] ∧ Same H (hole H' r) ∧ H' r = some (.lst us) ∧ DsT H' us ds ∧ (∀ d ∈ ds, LR d) ∧ AllR t ds ∧ L = endR t ds ∧ 0 ≤ L ∧ L ≤ 100 + 2 * (i : Int) ∧ ds.length = i) ⟨none, none, t, [], [], rfl, same_hole nr s0, upd_same, .nil, (fun d h => nomatch h), (fun i d h => by simp at h), rfl, ht.1, by omega, rfl⟩ (fun i σ H' hi pv => ?_) (fun σ H' pv => ?_)⟩
    · obtain ⟨y5, y6, L, us, ds, rfl, sm, er, dt, lr, al, eL, L0, L1, ld⟩ := pv
      have h2i : 2 * i < ns.length := by omega
      have h2j : 2 * i + 1 < ns.length := by omega
      obtain ⟨x, hx1⟩ : ∃ x, ns[2 * i]? = some x := ⟨_, List.getElem?_eq_getElem h2i⟩
      obtain ⟨y, hy1⟩ : ∃ y, ns[2 * i + 1]? = some y := ⟨_, List.getElem?_eq_getElem h2j⟩
      obtain ⟨x0, x1⟩ := hx i x hx1
      have hsq := har sm
      refine ⟨by show 4 ≤ sizeLine; decide, fun p np => ?_⟩
      have s1 := same_upd (o := .lst [.str "cross", .str "cross", .str "cap", .str "cup"]) np
      obtain ⟨w0, ew, hw⟩ : ∃ w0 : Str, atI [V.str "cross", .str "cross", .str "cap", .str "cup"] (x / 3) = some (.str w0) ∧ (w0 = "cross" ∨ w0 = "cup" ∨ w0 = "cap") := by
        have hd : x / 3 = ((0 : Nat) : Int) ∨ x / 3 = ((1 : Nat) : Int) ∨ x / 3 = ((2 : Nat) : Int) ∨ x / 3 = ((3 : Nat) : Int) := by omega
        rcases hd with e | e | e | e <;> rw [e]
        · exact ⟨_, atI_nat rfl, .inl rfl⟩
        · exact ⟨_, atI_nat rfl, .inl rfl⟩
        · exact ⟨_, atI_nat rfl, .inr (.inr rfl)⟩
        · exact ⟨_, atI_nat rfl, .inr (.inl rfl)⟩
      refine ⟨_, rfl, _, rfl, _, _, rfl, rfl, .inl ⟨by decide, by decide⟩, a, _, _, _, rfl, rfl, s1.seq hsq, at_of (j := 2 * i) (by omega) (by rw [List.getElem?_map, hx1]; rfl), _, _, rfl, rfl, ⟨by decide, by decide⟩, p, _, _, _, rfl, rfl, .inl (.inl upd_same), ew, ?_⟩
      have npr : r ≠ p := fun z => by rw [← z, er] at np; cases np
      have er1 := s1 _ _ er
      have dt1 := dt.same s1
      have sm1 : Same H (hole (upd H' p (.lst [.str "cross", .str "cross", .str "cap", .str "cup"])) r) := same_hole nr ((unhole sm).trans s1)
      generalize upd H' p (.lst [.str "cross", .str "cross", .str "cap", .str "cup"]) = H1 at *
      refine ⟨fun σ' H2 => ∃ w1 : Str, σ' = [some (.ref a), some (.int t), some (.int m), some (.ref r), some (.int L), some (.int (0 + (i : Int))), some (.str w1)] ∧ (w1 = "cross" ∨ w1 = "cup" ∨ w1 = "cap") ∧ (L < 2 → w1 = "cup") ∧ H2 = H1, ?_, fun σ' H2 mm => ?_⟩
      · refine ⟨_, rfl, _, _, rfl, rfl, _, rfl, ite2 (fun c => ?_) (fun c => ?_)⟩
        · exact ⟨"cup", rfl, .inr (.inl rfl), fun _ => rfl, rfl⟩
        · exact ⟨w0, rfl, hw, fun z => absurd (decide_eq_true z) c, rfl⟩
      obtain ⟨w1, rfl, hw1, hL, rfl⟩ := mm
      refine ⟨fun σ' H2' => ∃ w2 : Str, σ' = [some (.ref a), some (.int t), some (.int m), some (.ref r), some (.int L), some (.int (0 + (i : Int))), some (.str w2)] ∧ (w2 = "cross" ∨ w2 = "cup" ∨ w2 = "cap") ∧ (w2 ≠ "cup" → 2 ≤ L) ∧ H2' = H2, ?_, fun σ' H2' mm => ?_⟩
      · have keep : ∃ w2 : Str, [some (V.ref a), some (.int t), some (.int m), some (.ref r), some (.int L), some (.int (0 + (i : Int))), some (.str w1)] = [some (.ref a), some (.int t), some (.int m), some (.ref r), some (.int L), some (.int (0 + (i : Int))), some (.str w2)] ∧ (w2 = "cross" ∨ w2 = "cup" ∨ w2 = "cap") ∧ (w2 ≠ "cup" → 2 ≤ L) ∧ H2 = H2 := ⟨w1, rfl, hw1, fun z => by
          by_cases c : L < 2
          · exact absurd (hL c) z
          · omega, rfl⟩
        refine ⟨_, rfl, rfl, _, rfl, ?_⟩
        by_cases e : w1 = "cup"
        · rw [show decide (V.str w1 = V.str (Str.ofString "cup")) = true from decide_eq_true (congrArg V.str e)]
          refine ⟨_, rfl, _, _, rfl, rfl, _, rfl, _, _, rfl, rfl, _, rfl, ite2 (fun c => ?_) (fun c => keep)⟩
          have c := of_decide_eq_true c
          exact ⟨"cross", rfl, .inl rfl, fun _ => by omega, rfl⟩
        · rw [show decide (V.str w1 = V.str (Str.ofString "cup")) = false from decide_eq_false fun z => e (V.str.inj z)]
          exact keep
      obtain ⟨w2, rfl, hw2, hL2, rfl⟩ := mm
      clear hL hw1 ew hw
      have hsq2 := har sm1
      -- the letter that is added
      have fin : ∀ (n : Int) (H3 : Hp) (b : Addr) (σ2 : L2.St), okR L (w2, [n]) = true → n.natAbs < 2 ^ 60 → Same H2' H3 → H3 b = some (.tup [.str w2, .int n]) → ∃ y5 y6 L' us' ds', [some (V.ref a), some (.int t), some (.int m), some (.ref r), some (.int (L + chgR w2)), some (.int (0 + (i : Int))), some (.str w2)] = [some (.ref a), some (.int t), some (.int m), some (.ref r), some (.int L'), y5, y6] ∧ Same H (hole (upd H3 r (.lst (us ++ [.ref b]))) r) ∧ (upd H3 r (.lst (us ++ [.ref b]))) r = some (.lst us') ∧ DsT (upd H3 r (.lst (us ++ [.ref b]))) us' ds' ∧ (∀ d ∈ ds', LR d) ∧ AllR t ds' ∧ L' = endR t ds' ∧ 0 ≤ L' ∧ L' ≤ 100 + 2 * ((i + 1 : Nat) : Int) ∧ ds'.length = i + 1 := fun n H3 b σ2 ok hn s3 eb => by
        have gd : GoodR (w2, [n]) := ⟨by
          show (valN CHG w2).isSome = true
          rcases hw2 with e | e | e <;> (rw [e]; decide +kernel), n, rfl⟩
        have er3 := s3 _ _ er1
        have nbr : b ≠ r := fun z => by rw [z, er3] at eb; cases eb
        have sm3 : Same H (hole H3 r) := same_hole nr ((unhole sm1).trans s3)
        have al' : AllR t (ds ++ [(w2, [n])]) := all_snoc al (by rw [← eL]; exact ok)
        have lr' : ∀ d ∈ ds ++ [((w2, [n]) : Deed)], LR d := fun d hd => by
          rcases List.mem_append.mp hd with h | h
          · exact lr d h
          · rw [List.mem_singleton.mp h]
            exact ⟨gd, fun j hj => by rw [List.mem_singleton.mp hj]; exact hn⟩
        have dt3 : DsT (upd H3 r (.lst (us ++ [.ref b]))) us ds := ⟨dt1.1, fun j d hd => by
          obtain ⟨c, e1, e2⟩ := dt1.2 j d hd
          refine ⟨c, e1, ?_⟩
          rw [upd_ne fun z => by rw [z, er1] at e2; cases e2]
          exact s3 _ _ e2⟩
        refine ⟨_, _, _, us ++ [.ref b], ds ++ [(w2, [n])], rfl, by rw [hole_upd]; exact sm3, upd_same, dt3.snoc (by rw [upd_ne nbr]; exact eb), lr', al', ?_, ?_, ?_, by rw [List.length_append, ld]; rfl⟩
        · rw [endR_snoc, ← eL]
        · have o := of_decide_eq_true ok
          have o : 0 ≤ n ∧ n < (if w2 = "cup" then L + 1 else L - 1) := o
          rcases hw2 with e | e | e
          · rw [e, show chgR "cross" = 0 by decide +kernel]; omega
          · rw [e, show chgR "cup" = 2 by decide +kernel]; omega
          · rw [e, if_neg (by decide +kernel)] at o
            rw [e, show chgR "cap" = -2 by decide +kernel]; omega
        · rcases hw2 with e | e | e
          · rw [e, show chgR "cross" = 0 by decide +kernel]; omega
          · rw [e, show chgR "cup" = 2 by decide +kernel]; omega
          · rw [e, show chgR "cap" = -2 by decide +kernel]; omega
      have lu : us.length < sizeLine := by rw [dt1.1]; exact small1000 (by omega)
      refine ⟨_, rfl, rfl, _, rfl, ?_⟩
      by_cases e : w2 = "cup"
      · rw [show decide (V.str w2 = V.str (Str.ofString "cup")) = true from decide_eq_true (congrArg V.str e)]
        have f := fmod_in y (n := L + 1) (by omega)
        have ok : okR L (w2, [y.fmod (L + 1)]) = true := by
          refine decide_eq_true ?_
          show 0 ≤ y.fmod (L + 1) ∧ y.fmod (L + 1) < if w2 = "cup" then L + 1 else L - 1
          rw [if_pos e]
          exact f
        refine ⟨_, rfl, .inl ⟨rfl, _, .inl (.inl er1)⟩, _, rfl, _, rfl, _, rfl, _, _, rfl, rfl, .inl ⟨by decide, by decide⟩, _, _, rfl, rfl, a, _, _, _, rfl, rfl, hsq2, at_of (j := 2 * i + 1) (by omega) (by rw [List.getElem?_map, hy1]; rfl), .inl ⟨_, rfl, _, rfl, _, _, rfl, rfl, _, _, rfl, rfl, by show L + 1 ≠ 0; omega, by show 2 ≤ sizeLine; decide, fun l nl => ?_⟩⟩
        have sl := same_upd (o := .tup [.str w2, .int (y.fmod (L + 1))]) nl
        refine ⟨r, _, _, rfl, rfl, sl _ _ er1, lu, _, rfl, _, _, rfl, rfl, ?_⟩
        have z := fin (y.fmod (L + 1)) _ l [] ok (by omega) sl upd_same
        rw [show L + chgR w2 = L + 2 by rw [e]; rw [show chgR "cup" = 2 by decide +kernel]] at z
        exact z
      · have L2 := hL2 e
        rw [show decide (V.str w2 = V.str (Str.ofString "cup")) = false from decide_eq_false fun z => e (V.str.inj z)]
        have f := fmod_in y (n := L - 1) (by omega)
        have ok : okR L (w2, [y.fmod (L - 1)]) = true := by
          refine decide_eq_true ?_
          show 0 ≤ y.fmod (L - 1) ∧ y.fmod (L - 1) < if w2 = "cup" then L + 1 else L - 1
          rw [if_neg e]
          exact f
        refine ⟨_, rfl, .inl ⟨rfl, _, .inl (.inl er1)⟩, _, rfl, _, rfl, _, rfl, _, _, rfl, rfl, .inl ⟨by decide, by decide⟩, _, _, rfl, rfl, a, _, _, _, rfl, rfl, hsq2, at_of (j := 2 * i + 1) (by omega) (by rw [List.getElem?_map, hy1]; rfl), .inl ⟨_, rfl, _, rfl, _, _, rfl, rfl, _, _, rfl, rfl, by show L - 1 ≠ 0; omega, by show 2 ≤ sizeLine; decide, fun l nl => ?_⟩⟩
        have sl := same_upd (o := .tup [.str w2, .int (y.fmod (L - 1))]) nl
        refine ⟨r, _, _, rfl, rfl, sl _ _ er1, lu, _, rfl, _, rfl, rfl, .inr ⟨_, rfl, _, _, rfl, rfl, .inl ⟨by decide, by decide⟩, _, _, rfl, rfl, ?_⟩⟩
        have z := fin (y.fmod (L - 1)) _ l [] ok (by omega) sl upd_same
        rw [show L + chgR w2 = L - 2 * (if decide (V.str w2 = V.str (Str.ofString "cap")) = true then (1 : Int) else 0) by
          rcases hw2 with h | h | h
          · rw [h, show chgR "cross" = 0 by decide +kernel, show decide (V.str "cross" = V.str (Str.ofString "cap")) = false by decide +kernel]
            rfl
          · exact absurd h e
          · rw [h, show chgR "cap" = -2 by decide +kernel, show decide (V.str "cap" = V.str (Str.ofString "cap")) = true by decide +kernel]
            rfl] at z
        exact z
    · obtain ⟨y5, y6, L, us, ds, rfl, sm, er, dt, lr, al, eL, L0, L1, ld⟩ := pv
      exact ⟨_, rfl, q H' r us ds (unhole sm) er dt lr al (by omega)⟩

def spLLan (K : PySem.W.Frag) : Sp := fun vs H Q _ => ∃ (a : Addr) (us : List V) (t : Int) (ds : List Deed), vs = [.int t, .ref a] ∧ SqL K H a us ∧ DsT H us ds ∧ (∀ d ∈ ds, GoodR d) ∧ ds.length ≤ 1000 ∧ ∀ H' r, Same H H' → H' r = some (.lst ((lanesR t ds).map V.int)) → Q (.ref r) H'
theorem ok_llanes {f : Addr} {fd : FuncData} (F : Fun K "_law_lanes" "_law_lanes" s__law_lanes f fd) (T : Bi mg) : FnOk P w K mg base CX0 1 f fd ["_law_top", "_law_letters_here"] (spLLan K) := by
  refine F.ok sc__law_lanes (fun vs H Q E h => ?_) (fun cdv A outer s H vs Q E hr h => ?_)
  · obtain ⟨a, us, t, ds, rfl, _⟩ := h
    rfl
  · obtain ⟨a, us, t, ds, rfl, hs, hd, hg, hl, q⟩ := h
    refine ⟨_, (pss_cons (ps_set (i := 2) sc__law_lanes.nd rfl (.inl rfl) (pe_lst (pa_cons (pv 0) pa_nil)))
        (pss_cons (ps_for PassesOwn.never rfl (pi_list (pv 1)) (pg_name (i := 3) sc__law_lanes.nd rfl (.inl rfl))
        (pss_one (ps_expr (pe_bm PySem.F.plainAttrs_list PySem.F.slot_list_append PySem.F.type_list_append mt_append (pv 2) (pa_cons (pe_op op_sub (pe_op op_add (pe_ix (r := rIxL K) ix_list (pv 2) (pe_un un_neg pe_int) (fun _ _ => rfl)) (pe_op op_mul pe_int (pe_callTy call_int1 (by rfl) T.b_int (by decide +kernel) (pa_cons (pe_cmpR op_eq (pe_ix (r := rIxT K) ix_tup (pv 3) pe_int (fun _ _ => rfl)) pe_str (nomark _)) pa_nil)))) (pe_op op_mul pe_int (pe_callTy call_int1 (by rfl) T.b_int (by decide +kernel) (pa_cons (pe_cmpR op_eq (pe_ix (r := rIxT K) ix_tup (pv 3) pe_int (fun _ _ => rfl)) pe_str (nomark _)) pa_nil)))) pa_nil)))))
        (pss_one (ps_ret (pv 2))))), ?_⟩
    refine ⟨_, rfl, by show 1 ≤ sizeLine; decide, fun r nr => ?_⟩
    have s0 := same_upd (o := .lst [.int t]) nr
    have lu : us.length ≤ 1000 := by rw [hd.1]; exact hl
    refine ⟨_, rfl, a, rfl, ⟨_, s0.seq hs⟩, for_list (xs := us) (fun i σ H' => (∃ y3, σ = [some (.int t), some (.ref a), some (.ref r), y3]) ∧ Same H (hole H' r) ∧ H' r = some (.lst ((lanesR t (ds.take i)).map V.int))) ⟨⟨none, rfl⟩, same_hole nr s0, upd_same⟩ (fun i σ H' _ pv => (unhole pv.2.1).seq hs) (fun i v σ H' hv pv => ?_) (fun σ H' pv => ?_)⟩
    · obtain ⟨⟨y3, rfl⟩, sm, er⟩ := pv
      obtain ⟨b, d, rfl, hdi, eb⟩ := (hd.same (unhole sm)).at_ hv
      have gd := hg d (List.mem_of_getElem? hdi)
      have hil := (List.getElem?_eq_some_iff.mp hdi).1
      obtain ⟨g1, n, hn⟩ := id gd
      have edv : dv d = [.str d.1, .int n] := by show V.str d.1 :: d.2.map V.int = _; rw [hn]; rfl
      rw [edv] at eb
      have hB : SqT K H' b [.str d.1, .int n] := .inl (.inl eb)
      refine ⟨_, rfl, .inl ⟨rfl, _, .inl (.inl er)⟩, _, rfl, _, rfl, r, _, _, _, rfl, rfl, .inl (.inl er), lanes_at t (ds.take i), _, rfl, b, _, _, _, rfl, rfl, hB, at_of (j := 0) rfl rfl, rfl, .inr ⟨_, rfl, _, _, rfl, rfl, .inl ⟨by decide, by decide⟩, _, _, rfl, rfl, _, rfl, b, _, _, _, rfl, rfl, hB, at_of (j := 0) rfl rfl, rfl, .inr ⟨_, rfl, _, _, rfl, rfl, .inl ⟨by decide, by decide⟩, _, _, rfl, rfl, r, _, _, rfl, rfl, er, ?_, ?_⟩⟩⟩
      · rw [List.length_map, lanesR_len, List.length_take]
        exact small1000 (by omega)
      · refine ⟨⟨_, rfl⟩, by rw [hole_upd]; exact sm, ?_⟩
        rw [upd_same, List.take_add_one, hdi]
        show some (HO.lst _) = some (HO.lst ((lanesR t (ds.take i ++ [d])).map V.int))
        rw [lanesR_snoc, List.map_append]
        refine congrArg (fun z => some (HO.lst ((lanesR t (ds.take i)).map V.int ++ [V.int z]))) ?_
        rcases good_word gd with e | e | e <;> rw [e]
        · rw [show decide (V.str "cross" = V.str (Str.ofString "cup")) = false by decide +kernel, show decide (V.str "cross" = V.str (Str.ofString "cap")) = false by decide +kernel, show chgR "cross" = 0 by decide +kernel]
          show endR t (ds.take i) + 0 - 0 = endR t (ds.take i) + 0
          omega
        · rw [show decide (V.str "cup" = V.str (Str.ofString "cup")) = true by decide +kernel, show decide (V.str "cup" = V.str (Str.ofString "cap")) = false by decide +kernel, show chgR "cup" = 2 by decide +kernel]
          show endR t (ds.take i) + 2 - 0 = endR t (ds.take i) + 2
          omega
        · rw [show decide (V.str "cap" = V.str (Str.ofString "cup")) = false by decide +kernel, show decide (V.str "cap" = V.str (Str.ofString "cap")) = true by decide +kernel, show chgR "cap" = -2 by decide +kernel]
          show endR t (ds.take i) + 0 - 2 = endR t (ds.take i) + -2
          omega
    · obtain ⟨⟨y3, rfl⟩, sm, er⟩ := pv
      rw [hd.1, List.take_length] at er
      exact ⟨_, rfl, q H' r (unhole sm) er⟩

def spIsRow (K : PySem.W.Frag) (C : Addr) : Sp := fun vs H Q _ => ∃ (p a : Addr) (us : List V) (t : Int) (ds : List Deed), vs = [.ref p, .int t, .ref a] ∧ RowAt C H p t ds ∧ SqL K H a us ∧ DsT H us ds ∧ (∀ d ∈ ds, GoodR d) ∧ ds.length ≤ 1000 ∧ ∀ H', Same H H' → Q (.bl true) H'
set_option maxHeartbeats 2000000 in
theorem ok_isrow {f : Addr} {fd : FuncData} (F : Fun K "_law_is_row" "_law_is_row" s__law_is_row f fd) (T : Bi mg) (L : RowC K mg C) (I : C8.InsC K C)
    {f_w : Addr} {d_w : FuncData} (D_w : Df K mg "_law_whole" s__law_whole ["_law_value"] f_w d_w) (G_w : FnOk P w K mg base CX0 1 f_w d_w ["_law_value"] spWhole)
    {f_ln : Addr} {d_ln : FuncData} (D_ln : Df K mg "_law_lanes" s__law_lanes ["_law_top", "_law_letters_here"] f_ln d_ln) (G_ln : FnOk P w K mg base CX0 1 f_ln d_ln ["_law_top", "_law_letters_here"] (spLLan K))
    {f_l : Addr} {d_l : FuncData} (M_l : Meth K C "__len__" f_l) (G_l : FnOk P w K mg base CX0 1 f_l d_l ["self"] (spRLen C)) (b_l : Binds K d_l ["self"] [])
    {p_bo f_bo : Addr} {d_bo : FuncData} (P_bo : PropOf K C "bottom" p_bo f_bo) (G_bo : FnOk P w K mg base CX0 1 f_bo d_bo ["self"] (spBottom C)) (b_bo : Binds K d_bo ["self"] []) : FnOk P w K mg base CX0 3 f fd ["_law_told", "_law_top", "_law_letters_here"] (spIsRow K C) := by
  refine F.ok sc__law_is_row (fun vs H Q E h => ?_) (fun cdv A outer s H vs Q E hr h => ?_)
  · obtain ⟨p, a, us, t, ds, rfl, _⟩ := h
    rfl
  · obtain ⟨p, a, us, t, ds, rfl, hp, hs, hd, hg, hl, q⟩ := h
    refine ⟨_, (pss_cons (ps_if (PW.pt (pw_or (pt_not (pt_val (pe_callB call_isi (by rfl) T.b_isinstance (by decide +kernel) (pa_cons (pv 0) (pa_cons (pe_glob (v := .ref C) (by rfl) L.g rfl) pa_nil))))) (pw_or (pt_not (pt_val (pe_call G_w (hr.mono (by decide)) (by rfl) D_w.g D_w.F.kp D_w.b .nil pass0 (pa_cons (pe_fld (pv 0) rfl) pa_nil)))) (pw_or1 (pt_cmpR op_ne (pe_fld (pv 0) rfl) (pv 1) (nomark _)))))) (pss_one (ps_ret pe_bl)) pss_nil)
        (pss_cons (ps_if (PW.pt (pw_or (pt_not (pt_val (pe_callB call_isi (by rfl) T.b_isinstance (by decide +kernel) (pa_cons (pe_fld (pv 0) rfl) (pa_cons (pe_bltn (v := .ty "tuple") (by rfl) T.b_tuple (by decide +kernel) rfl) pa_nil))))) (pw_or (pt_cmpR op_ne (pe_callB call_len_seq (by rfl) T.b_len PySem.boot_len (pa_cons (pe_fld (pv 0) rfl) pa_nil)) (pe_callB call_len_seq (by rfl) T.b_len PySem.boot_len (pa_cons (pv 2) pa_nil)) (nomark _)) (pw_or1 (pt_cmpR op_ne (pe_callB (cr_lenOwn M_l G_l (hr.mono (by decide)) b_l pass0) (by rfl) T.b_len PySem.boot_len (pa_cons (pv 0) pa_nil)) (pe_callB call_len_seq (by rfl) T.b_len PySem.boot_len (pa_cons (pv 2) pa_nil)) (nomark _)))))) (pss_one (ps_ret pe_bl)) pss_nil)
        (pss_cons (ps_for PassesOwn.never rfl (pi_range1 (by rfl) T.b_range (pa_cons (pe_callB call_len_seq (by rfl) T.b_len PySem.boot_len (pa_cons (pv 2) pa_nil)) pa_nil)) (pg_name (i := 3) sc__law_is_row.nd rfl (.inl rfl))
        (pss_cons (ps_set (i := 4) sc__law_is_row.nd rfl (.inl rfl) (pe_ix (r := rIxT K) ix_tup (pe_fld (pv 0) rfl) (pv 3) (fun _ _ => rfl)))
        (pss_cons (ps_if (PW.pt (pw_or (pt_not (pt_val (pe_callB call_isi (by rfl) T.b_isinstance (by decide +kernel) (pa_cons (pv 4) (pa_cons (pe_bltn (v := .ty "tuple") (by rfl) T.b_tuple (by decide +kernel) rfl) pa_nil))))) (pw_or1 (pt_cmpR op_ne (pe_callB call_len_seq (by rfl) T.b_len PySem.boot_len (pa_cons (pv 4) pa_nil)) pe_int (nomark _))))) (pss_one (ps_ret pe_bl)) pss_nil)
        (pss_cons (ps_if (PW.pt (pw_or (pt_not (pt_val (pe_callB call_isi (by rfl) T.b_isinstance (by decide +kernel) (pa_cons (pe_ix (r := rIxT K) ix_tup (pv 4) pe_int (fun _ _ => rfl)) (pa_cons (pe_bltn (v := .ty "str") (by rfl) T.b_str (by decide +kernel) rfl) pa_nil))))) (pw_or1 (pt_not (pt_val (pe_call G_w (hr.mono (by decide)) (by rfl) D_w.g D_w.F.kp D_w.b .nil pass0 (pa_cons (pe_ix (r := rIxT K) ix_tup (pv 4) pe_int (fun _ _ => rfl)) pa_nil))))))) (pss_one (ps_ret pe_bl)) pss_nil)
        (pss_one (ps_if (PW.pt (pw_or (pt_cmpR op_ne (pe_ix (r := rIxT K) ix_tup (pv 4) pe_int (fun _ _ => rfl)) (pe_ix (r := rIxT K) ix_tup (pe_ix (r := rIxL K) ix_list (pv 2) (pv 3) (fun _ _ => rfl)) pe_int (fun _ _ => rfl)) (nomark _)) (pw_or1 (pt_cmpR op_ne (pe_ix (r := rIxT K) ix_tup (pv 4) pe_int (fun _ _ => rfl)) (pe_ix (r := rIxT K) ix_tup (pe_ix (r := rIxL K) ix_list (pv 2) (pv 3) (fun _ _ => rfl)) pe_int (fun _ _ => rfl)) (nomark _))))) (pss_one (ps_ret pe_bl)) pss_nil))))))
        (pss_one (ps_ret (pe_and (pe_call G_w (hr.mono (by decide)) (by rfl) D_w.g D_w.F.kp D_w.b .nil pass0 (pa_cons (pe_prop (pv 0) L.cl P_bo G_bo (hr.mono (by decide)) b_bo .nil pass0 (by rfl)) pa_nil)) (pe_one (pe_cmpR op_eq (pe_prop (pv 0) L.cl P_bo G_bo (hr.mono (by decide)) b_bo .nil pass0 (by rfl)) (pe_ix (r := rIxL K) ix_list (pe_call G_ln (hr.mono (by decide)) (by rfl) D_ln.g D_ln.F.kp D_ln.b .nil pass0 (pa_cons (pv 1) (pa_cons (pv 2) pa_nil))) (pe_un un_neg pe_int) (fun _ _ => rfl)) (nomark _))))))))), ?_⟩
    obtain ⟨dx, la, b, vs, e, ela, eb, k⟩ := id hp
    have lv : vs.length = ds.length := k.1
    have lu : us.length = ds.length := hd.1
    refine ⟨_, rfl, _, _, _, _, true, rfl, .own C, .base (.ins e I.cl I.ha I.hn I.htk I.hm), I.me, true, rfl, ?_⟩
    refine ⟨_, rfl, p, C, dx, _, _, rfl, e, L.cl, L.nT, look_top _ _ _, t, rfl, true, rfl, ?_⟩
    refine ⟨_, rfl, p, C, dx, _, _, rfl, e, L.cl, L.nT, look_top _ _ _, _, rfl, rfl, _, rfl, ?_⟩
    rw [show (!decide (V.int t = V.int t)) = false by rw [decide_eq_true rfl]; rfl]
    refine ⟨_, rfl, p, C, dx, _, _, rfl, e, L.cl, L.nL, look_letters _ _ _, _, _, _, _, true, rfl, .ty "tuple", .base (.tup eb), kit_ty (by decide +kernel), true, rfl, ?_⟩
    refine ⟨_, rfl, p, C, dx, _, _, rfl, e, L.cl, L.nL, look_letters _ _ _, b, vs, rfl, .inr (.inl (.inl eb)), _, rfl, a, _, rfl, .inl hs, rfl, _, rfl, ?_⟩
    rw [show (!decide (V.int ((vs.length : Nat) : Int) = V.int ((us.length : Nat) : Int))) = false by rw [lv, lu, decide_eq_true rfl]; rfl]
    refine ⟨_, rfl, p, dx, _, rfl, e, p, t, ds, rfl, hp, ds.length, rfl, Nat.le_trans hl (by decide), ?_⟩
    refine ⟨_, rfl, a, _, rfl, .inl hs, rfl, _, rfl, ?_⟩
    rw [show (!decide (V.int ((ds.length : Nat) : Int) = V.int ((us.length : Nat) : Int))) = false by rw [lu, decide_eq_true rfl]; rfl]
    refine ⟨_, rfl, a, _, rfl, .inl hs, ((us.length : Nat) : Int), rfl, by omega, by omega, for_range (lo := 0) (n := us.length) (fun i σ H' => (∃ y3 y4, σ = [some (.ref p), some (.int t), some (.ref a), y3, y4]) ∧ H' = H) ⟨⟨none, none, rfl⟩, rfl⟩ (fun i σ H' hi pv => ?_) (fun σ H' pv => ?_)⟩
    · obtain ⟨⟨y3, y4, rfl⟩, rfl⟩ := pv
      obtain ⟨d, hdi⟩ : ∃ d, ds[i]? = some d := ⟨ds[i], List.getElem?_eq_getElem (by omega)⟩
      obtain ⟨c, hc, ec⟩ := k.2 i d hdi
      obtain ⟨c2, hc2, ec2⟩ := hd.2 i d hdi
      obtain ⟨g1, n, hn⟩ := hg d (List.mem_of_getElem? hdi)
      have edv : dv d = [.str d.1, .int n] := by show V.str d.1 :: d.2.map V.int = _; rw [hn]; rfl
      rw [edv] at ec ec2
      have hB : SqT K H' c [.str d.1, .int n] := .inl (.inl ec)
      have hB2 : SqT K H' c2 [.str d.1, .int n] := .inl (.inl ec2)
      refine ⟨_, rfl, p, C, dx, _, _, rfl, e, L.cl, L.nL, look_letters _ _ _, _, rfl, b, _, _, _, rfl, rfl, .inl (.inl eb), at_of (j := i) (by omega) hc, ?_⟩
      refine ⟨_, rfl, _, _, _, _, true, rfl, .ty "tuple", .base (.tup ec), kit_ty (by decide +kernel), true, rfl, ?_⟩
      refine ⟨_, rfl, c, _, rfl, .inr hB, rfl, _, rfl, ?_⟩
      refine ⟨_, rfl, c, _, _, _, rfl, rfl, hB, at_of (j := 0) rfl rfl, _, _, _, _, true, rfl, .ty "str", .base (.str _), kit_ty (by decide +kernel), true, rfl, ?_⟩
      refine ⟨_, rfl, c, _, _, _, rfl, rfl, hB, at_of (j := 1) rfl rfl, n, rfl, true, rfl, ?_⟩
      refine ⟨_, rfl, c, _, _, _, rfl, rfl, hB, at_of (j := 0) rfl rfl, _, rfl, _, rfl, a, _, _, _, rfl, rfl, hs, at_of (j := i) (by omega) hc2, c2, _, _, _, rfl, rfl, hB2, at_of (j := 0) rfl rfl, rfl, _, rfl, ?_⟩
      rw [show (!decide (V.str d.1 = V.str d.1)) = false by rw [decide_eq_true rfl]; rfl]
      refine ⟨_, rfl, c, _, _, _, rfl, rfl, hB, at_of (j := 1) rfl rfl, _, rfl, _, rfl, a, _, _, _, rfl, rfl, hs, at_of (j := i) (by omega) hc2, c2, _, _, _, rfl, rfl, hB2, at_of (j := 1) rfl rfl, rfl, _, rfl, ?_⟩
      rw [show (!decide (V.int n = V.int n)) = false by rw [decide_eq_true rfl]; rfl]
      exact ⟨⟨_, _, rfl⟩, rfl⟩
    · obtain ⟨⟨y3, y4, rfl⟩, rfl⟩ := pv
      refine ⟨_, rfl, p, dx, _, rfl, e, p, t, ds, rfl, hp, endR t ds, rfl, true, rfl, ?_⟩
      refine ⟨_, rfl, p, dx, _, rfl, e, p, t, ds, rfl, hp, ?_⟩
      refine ⟨_, rfl, _, rfl, a, us, t, ds, rfl, hs, hd, hg, hl, fun H1 r s1 er => ?_⟩
      refine ⟨_, rfl, r, _, _, _, rfl, rfl, .inl (.inl er), lanes_at t ds, rfl, ?_⟩
      rw [show decide (V.int (endR t ds) = V.int (endR t ds)) = true from decide_eq_true rfl]
      exact q H1 s1

def spLNote (K : PySem.W.Frag) : Sp := fun vs H Q _ => ∃ (a : Addr) (us : List V) (t : Int) (ds : List Deed), vs = [.int t, .ref a] ∧ SqL K H a us ∧ DsT H us ds ∧ (∀ d ∈ ds, LR d) ∧ t.natAbs < 2 ^ 60 ∧ ds.length ≤ 200 ∧ ∀ H', Same H H' → Q (.str (noteT (("row", [t]) :: ds))) H'
set_option maxHeartbeats 1000000 in
theorem ok_lnote {f : Addr} {fd : FuncData} (F : Fun K "_law_note" "_law_note" s__law_note f fd) (T : Bi mg) : FnOk P w K mg base CX0 1 f fd ["_law_top", "_law_letters_here"] (spLNote K) := by
  refine F.ok sc__law_note (fun vs H Q E h => ?_) (fun cdv A outer s H vs Q E hr h => ?_)
  · obtain ⟨a, us, t, ds, rfl, _⟩ := h
    rfl
  · obtain ⟨a, us, t, ds, rfl, hs, hd, hg, ht, hl, q⟩ := h
    refine ⟨_, (pss_one (ps_ret (pe_join pe_str (pe_op op_cat (pe_lst (pa_cons (pe_op op_add_str pe_str (pe_callTy call_str_int (by rfl) T.b_str (by decide +kernel) (pa_cons (pv 0) pa_nil))) pa_nil)) (pe_lc (own := [("_law_letter", 2)]) (g := gName 2) (tt := tYes) rfl sc__law_note.nd (pi_list (pv 1)) (blkOk_by (own := [("_law_letter", 2)]) (N := ["_law_top", "_law_letters_here", "_law_letter"]) (sc := defScope s__law_note) (by decide +kernel)) (fun _ _ _ _ _ => (pg_name (i := 2) sc__law_note.nd rfl (.inl rfl))) (fun _ _ _ _ _ => pts_nil) (fun _ _ _ _ _ => (pe_op op_add_str (pe_op op_add_str (pe_ix (r := rIxT K) ix_tup (pv 2) pe_int (fun _ _ => rfl)) pe_str) (pe_callTy call_str_int (by rfl) T.b_str (by decide +kernel) (pa_cons (pe_ix (r := rIxT K) ix_tup (pv 2) pe_int (fun _ _ => rfl)) pa_nil))))))))), ?_⟩
    have lt : ∀ n : Int, n.natAbs < 2 ^ 60 → (nt n).length ≤ 65 := fun n h => nt_len (Nat.lt_of_lt_of_le h (by decide))
    have lg : ∀ n : Int, n.natAbs < 2 ^ 60 → n.natAbs.log2 < 1920 := fun n h => Nat.lt_of_lt_of_le (log_lt (k := 60) (by decide) h) (by decide)
    have lim : ∀ k, k ≤ 1000 → k ≤ sizeLine := fun k h => Nat.le_trans h (by decide)
    refine ⟨⟨_, rfl⟩, _, rfl, t, rfl, lg t ht, _, _, rfl, rfl, ?_, by show 1 ≤ sizeLine; decide, fun l nl => ?_⟩
    · have := lt t ht
      unfold nt at this
      have l4 : (Str.ofString "row ").length = 4 := rfl
      rw [l4]
      exact lim _ (by omega)
    have s1 := same_upd (o := .lst [.str (Str.ofString "row " ++ Str.ofString (toString t))]) nl
    have el : upd H l (.lst [.str (Str.ofString "row " ++ Str.ofString (toString t))]) l = some (.lst [.str (lineT ("row", [t]))]) := by
      rw [upd_same]
      exact congrArg (fun z => some (HO.lst [V.str z])) (row_line t)
    generalize upd H l (.lst [.str (Str.ofString "row " ++ Str.ofString (toString t))]) = H1 at *
    have hd1 := hd.same s1
    refine ⟨_, rfl, a, rfl, ⟨_, s1.seq hs⟩, fun M nM => lc_list (K := K) (a := a) (xs := us) (fun i Hi => Hi = upd H1 M (.lst (((ds.take i).map lineT).map V.str))) rfl (fun i Hi _ e => by rw [e]; exact (same_upd nM).seq (s1.seq hs)) (fun i v Hi hv pv => ?_) (fun Hi pv => ?_)⟩
    · subst pv
      obtain ⟨b, d, rfl, hdi, eb⟩ := hd1.at_ hv
      obtain ⟨⟨g1, n, hn⟩, sm⟩ := hg d (List.mem_of_getElem? hdi)
      have hn60 := sm n (by rw [hn]; exact List.mem_singleton.mpr rfl)
      have edv : dv d = [.str d.1, .int n] := by show V.str d.1 :: d.2.map V.int = _; rw [hn]; rfl
      rw [edv] at eb
      have hB : SqT K (upd H1 M (.lst (((ds.take i).map lineT).map V.str))) b [.str d.1, .int n] := .inl (.inl (same_upd nM _ _ eb))
      have hil := (List.getElem?_eq_some_iff.mp hdi).1
      have lw : d.1.length ≤ 10 := by
        rcases good_word ⟨g1, n, hn⟩ with e | e | e <;> (rw [e]; decide +kernel)
      have ln := lt n hn60
      unfold nt at ln
      have l1 : (Str.ofString " ").length = 1 := rfl
      refine ⟨rfl, ?_⟩
      refine ⟨_, rfl, b, _, _, _, rfl, rfl, hB, at_of (j := 0) rfl rfl, _, _, rfl, rfl, by rw [l1]; exact lim _ (by omega), _, rfl, b, _, _, _, rfl, rfl, hB, at_of (j := 1) rfl rfl, n, rfl, lg n hn60, _, _, rfl, rfl, by rw [strLen_append, l1]; exact lim _ (by omega), _, upd_same, ?_, ?_⟩
      · rw [List.length_map, List.length_map, List.length_take]
        exact small1000 (by omega)
      · rw [upd_upd, List.take_add_one, hdi]
        refine congrArg (fun z => upd H1 M (.lst z)) ?_
        rw [List.map_append, List.map_append]
        refine congrArg (fun z => ((ds.take i).map lineT).map V.str ++ [V.str z]) ?_
        have : d = (d.1, [n]) := by rw [← hn]
        rw [this]
        exact (line_one d.1 n).symm
    · subst pv
      rw [hd1.1, List.take_length]
      have sM := same_upd (o := .lst ((ds.map lineT).map V.str)) nM
      refine ⟨l, M, _, _, rfl, rfl, sM _ _ el, upd_same, by rw [List.length_map, List.length_map]; exact lim _ (by show 1 + _ ≤ 1000; omega), fun c nc => ?_⟩
      have sc := same_upd (o := .lst ([V.str (lineT ("row", [t]))] ++ (ds.map lineT).map V.str)) nc
      refine ⟨_, c, (((("row" : Str), [t]) : Deed) :: ds).map lineT, rfl, rfl, .inl (.inl (.inl upd_same)), ?_, q _ ((s1.trans sM).trans sc)⟩
      have hsum : ((((((("row" : Str), [t]) : Deed) :: ds).map lineT).map (·.length))).sum ≤ ((((((("row" : Str), [t]) : Deed) :: ds).map lineT).map (·.length))).length * 200 := sum_le fun k hk => by
        obtain ⟨z, hz, rfl⟩ := List.mem_map.mp hk
        obtain ⟨d, hd, rfl⟩ := List.mem_map.mp hz
        refine line_len ?_
        rcases List.mem_cons.mp hd with rfl | hd
        · exact ⟨by show (Str.ofString "row").length ≤ 10; decide, by show 1 ≤ 2; decide, fun i hi => by rw [List.mem_singleton.mp hi]; exact Nat.lt_of_lt_of_le ht (by decide)⟩
        · exact (hg d hd).sml
      have l1 : (Str.ofString "\n").length = 1 := rfl
      rw [l1]
      simp only [List.length_map, List.length_cons] at hsum ⊢
      omega

end
end Own

namespace Own
open PySem PySem.Spec PyProof.Rows L2 TL
/-! ### plain texts, notes -/
theorem join_spl (c : Nat) : ∀ (l acc : List Nat), joinL [c] (spl [c] 0 acc l) = acc ++ l
  | [], acc => by
    rw [spl_nil]
    simp [joinL]
  | d :: r, acc => by
    unfold spl
    have hp : pre [c] (d :: r) = true ↔ d = c := by
      unfold pre
      simp
    by_cases h : d = c
    · rw [if_pos (hp.mpr h)]
      have ih := join_spl c r []
      cases e : spl [c] ([c].length - 1) [] r with
      | nil => exact absurd e (spl_ne _ _ _ _)
      | cons p q =>
        have e2 : spl [c] 0 [] r = p :: q := e
        rw [e2] at ih
        show acc ++ ([c] ++ joinL [c] (p :: q)) = acc ++ d :: r
        rw [ih, h]
        rfl
    · rw [if_neg fun z => h (hp.mp z), join_spl c r (acc ++ [d])]
      simp
/-- a text of at most n signs, none of them beyond ASCII, none a line feed -/
def Pl (n : Nat) (x : Str) : Prop := x.length ≤ n ∧ ∀ c ∈ tl x, c < 128 ∧ c ≠ 10
theorem Pl.le {n m : Nat} {x : Str} (h : Pl n x) (l : n ≤ m) : Pl m x := ⟨Nat.le_trans h.1 l, h.2⟩
theorem Pl.app {n m : Nat} {x y : Str} (h : Pl n x) (k : Pl m y) : Pl (n + m) (x ++ y) := by
  refine ⟨by rw [strLen_append]; have := h.1; have := k.1; omega, fun c hc => ?_⟩
  rw [tl_append] at hc
  exact (List.mem_append.mp hc).elim (h.2 c) (k.2 c)
theorem Pl.cut {n : Nat} {x : Str} (h : Pl n x) (lo hi : Option Int) : Pl n (cutS x lo hi) := by
  refine ⟨Nat.le_trans (cutS_length _ _ _) h.1, fun c hc => h.2 c ?_⟩
  have : c ∈ ((tl x).drop (HT.sIx x.length 0 lo)).take (HT.sIx x.length x.length hi - HT.sIx x.length 0 lo) := hc
  exact List.mem_of_mem_drop (List.mem_of_mem_take this)
def plB (n : Nat) (x : Str) : Bool := decide (x.length ≤ n) && (tl x).all fun c => decide (c < 128) && !decide (c = 10)
theorem pl_of {n : Nat} {x : Str} (h : plB n x = true) : Pl n x := by
  unfold plB at h
  rw [Bool.and_eq_true, decide_eq_true_eq] at h
  refine ⟨h.1, fun c hc => ?_⟩
  have := List.all_eq_true.mp h.2 c hc
  rw [Bool.and_eq_true, decide_eq_true_eq] at this
  exact ⟨this.1, by simpa using this.2⟩
theorem spl_mem (S : List Nat) : ∀ (l : List Nat) (k : Nat) (acc : List Nat), ∀ p ∈ spl S k acc l, ∀ c ∈ p, c ∈ acc ∨ c ∈ l
  | [], k, acc => by
    rw [spl_nil]
    intro p hp c hc
    rw [List.mem_singleton.mp hp] at hc
    exact .inl hc
  | d :: r, 0, acc => by
    unfold spl
    intro p hp c hc
    split at hp
    · rcases List.mem_cons.mp hp with e | e
      · rw [e] at hc
        exact .inl hc
      · rcases spl_mem S r _ [] p e c hc with h | h
        · cases h
        · exact .inr (List.mem_cons_of_mem _ h)
    · rcases spl_mem S r 0 _ p hp c hc with h | h
      · rcases List.mem_append.mp h with h | h
        · exact .inl h
        · rw [List.mem_singleton.mp h]
          exact .inr List.mem_cons_self
      · exact .inr (List.mem_cons_of_mem _ h)
  | d :: r, k + 1, acc => by
    unfold spl
    intro p hp c hc
    rcases spl_mem S r k acc p hp c hc with h | h
    · exact .inl h
    · exact .inr (List.mem_cons_of_mem _ h)
theorem wds_tl (x : Str) : (wdsOf x).map tl = spl [32] 0 [] (tl x) := split_tl x " " 32 rfl (by decide)
theorem wds_pl {n : Nat} {x : Str} (h : Pl n x) : ∀ y ∈ wdsOf x, Pl n y := fun y hy => by
  refine ⟨Nat.le_trans ((wds_facts x).2.2 y hy) h.1, fun c hc => h.2 c ?_⟩
  rcases spl_mem [32] (tl x) 0 [] (tl y) (by rw [← wds_tl]; exact List.mem_map.mpr ⟨y, hy, rfl⟩) c hc with e | e
  · cases e
  · exact e
/-- the words of a line, the last one by itself -/
theorem wds_last (x : Str) : ∃ (is : List Str) (z : Str), wdsOf x = is ++ [z] := by
  obtain ⟨ne, _⟩ := wds_facts x
  exact ⟨(wdsOf x).dropLast, (wdsOf x).getLast ne, (List.dropLast_concat_getLast ne).symm⟩
theorem tl_joins (is : List Str) (z : Str) : tl (Txt.join " " (is ++ [z])) = (match is with | [] => tl z | p :: r => joinL [32] ((p :: r).map tl) ++ ([32] ++ tl z)) := by
  rw [join_eq, tl_join]
  cases is with
  | nil => rfl
  | cons p r =>
    rw [List.map_append]
    exact joinL_snoc [32] (r.map tl) (tl p) (tl z)
theorem join_wds (x : Str) : Txt.join " " (wdsOf x) = x := by
  refine ext_tl ?_
  rw [join_eq, tl_join, wds_tl]
  exact join_spl 32 (tl x) []
theorem Pl.up {n : Nat} {x : Str} (h : Pl n x) : Pl n (Txt.upper x) := by
  have e : Txt.upper x = ⟨x.cps.map up1⟩ := upper_ascii fun c hc => (h.2 c hc).1
  have e2 : tl (Txt.upper x) = (tl x).map up1 := by
    rw [e]
    show (x.cps.map up1).toList = _
    rw [Array.toList_map]
  refine ⟨?_, fun c hc => ?_⟩
  · rw [len_tl, e2, List.length_map, ← len_tl]
    exact h.1
  · rw [e2] at hc
    obtain ⟨d, hd, rfl⟩ := List.mem_map.mp hc
    have := h.2 d hd
    unfold up1
    split <;> omega
def cutG (ls : List Str) (lo hi : Option Int) : List Str := (ls.drop (HT.sIx ls.length 0 lo)).take (HT.sIx ls.length ls.length hi - HT.sIx ls.length 0 lo)
theorem cut_map (ls : List Str) (lo hi : Option Int) : cutV (ls.map V.str) lo hi = (cutG ls lo hi).map V.str := by
  unfold cutV cutG
  rw [List.length_map, List.map_take, List.map_drop]
theorem cutG_mem {ls : List Str} {lo hi : Option Int} : ∀ z ∈ cutG ls lo hi, z ∈ ls := fun z hz => List.mem_of_mem_drop (List.mem_of_mem_take hz)
theorem cutG_len (ls : List Str) (lo hi : Option Int) : (cutG ls lo hi).length ≤ ls.length := by
  unfold cutG
  rw [List.length_take, List.length_drop]
  omega
theorem pick {ys : List Str} {m : Int} (h0 : 0 ≤ m) (h1 : m < ys.length) : ∃ y ∈ ys, atI (ys.map V.str) m = some (.str y) := by
  obtain ⟨j, rfl⟩ : ∃ j : Nat, m = (j : Int) := ⟨m.toNat, by omega⟩
  have hj : j < ys.length := by omega
  exact ⟨ys[j], List.getElem_mem hj, atI_nat (by rw [List.getElem?_map, List.getElem?_eq_getElem hj]; rfl)⟩
theorem joinL_len (s : List Nat) (n : Nat) : ∀ {ls : List (List Nat)}, (∀ z ∈ ls, z.length ≤ n) → (joinL s ls).length ≤ ls.length * (n + s.length)
  | [], _ => by simp [joinL]
  | [a], h => by
    have := h a List.mem_cons_self
    simp only [joinL, List.length_cons, List.length_nil, Nat.zero_add, Nat.one_mul]
    omega
  | a :: b :: r, h => by
    have h1 := h a List.mem_cons_self
    have h2 := joinL_len s n (ls := b :: r) fun z hz => h z (List.mem_cons_of_mem _ hz)
    rw [show joinL s (a :: b :: r) = a ++ (s ++ joinL s (b :: r)) by simp [joinL]]
    rw [List.length_append, List.length_append, List.length_cons (a := a), Nat.succ_mul]
    omega
theorem joinT_len {n : Nat} {ls : List Str} (h : ∀ z ∈ ls, Pl n z) : (Txt.join "\n" ls).length ≤ ls.length * (n + 1) := by
  rw [len_tl, join_eq, tl_join]
  have := joinL_len (tl (Str.ofString "\n")) n (ls := ls.map tl) fun z hz => by
    obtain ⟨y, hy, rfl⟩ := List.mem_map.mp hz
    rw [← len_tl]
    exact (h y hy).1
  rw [List.length_map] at this
  exact this
theorem lines_join {n : Nat} {ls : List Str} (ne : ls ≠ []) (h : ∀ z ∈ ls, Pl n z) : linesOf (Txt.join "\n" ls) = ls :=
  split_join (y := "\n") (s := 10) (S := []) rfl (by decide +kernel) ne fun p hp hc => ((h p hp).2 10 hc).2 rfl
theorem lines_empty : linesOf (Str.ofString "") = [Str.ofString ""] := by
  have h := lines_join (n := 0) (ls := [Str.ofString ""]) (fun e => nomatch e) fun z hz => by
    rw [List.mem_singleton.mp hz]
    exact pl_of (by decide +kernel)
  rw [join_one] at h
  exact h
/-- the signs of a number's text -/
theorem pl_nt {i : Int} (h : i.natAbs < 10 ^ 18) : Pl 19 (nt i) := by
  have hn : ∀ n : Nat, ∀ c ∈ numL n, c < 128 ∧ c ≠ 10 := fun n c hc => by
    have := numL_digits n c hc
    omega
  unfold nt
  refine ⟨?_, ?_⟩
  · rw [len_tl, tl_int]
    cases i with
    | ofNat n => exact Nat.le_trans (numL_len (k := 18) (by decide) h) (by decide)
    | negSucc m => exact Nat.succ_le_succ (numL_len (k := 18) (by decide) h)
  · rw [tl_int]
    cases i with
    | ofNat n => exact hn n
    | negSucc m =>
      intro c hc
      rcases List.mem_cons.mp hc with e | e
      · omega
      · exact hn _ c e
/-- a note: lines, plain and short -/
def Nt (n m : Nat) (x : Str) : Prop := ∃ ls : List Str, ls ≠ [] ∧ x = Txt.join "\n" ls ∧ ls.length ≤ m ∧ ∀ z ∈ ls, Pl n z
theorem Nt.fit {n m : Nat} {x : Str} (h : Nt n m x) (hn : n ≤ 250) (hm : m ≤ 300) : Fit x := by
  obtain ⟨ls, ne, rfl, hl, hp⟩ := h
  refine ⟨Nat.le_trans (joinT_len hp) (Nat.le_trans (Nat.mul_le_mul (Nat.le_trans hl hm) (Nat.add_le_add_right hn 1)) (by decide)), ?_⟩
  rw [lines_join ne hp]
  exact ⟨by omega, fun l h => Nat.le_trans (hp l h).1 hn⟩
theorem Nt.le {n m n' m' : Nat} {x : Str} (h : Nt n m x) (hn : n ≤ n') (hm : m ≤ m') : Nt n' m' x := by
  obtain ⟨ls, ne, e, hl, hp⟩ := h
  exact ⟨ls, ne, e, Nat.le_trans hl hm, fun z hz => (hp z hz).le hn⟩
theorem join_lines (x : Str) : Txt.join "\n" (linesOf x) = x := by
  refine ext_tl ?_
  have e : (linesOf x).map tl = spl [10] 0 [] (tl x) := split_tl x "\n" 10 rfl (by decide)
  rw [join_eq, tl_join, e]
  exact join_spl 10 (tl x) []
theorem empty_join : Txt.join "\n" [] = Str.ofString "" := ext_tl (by rw [join_eq, tl_join]; rfl)
theorem nt_empty {n m : Nat} (hm : 1 ≤ m) : Nt n m (Str.ofString "") := ⟨[Str.ofString ""], (fun e => nomatch e), (join_one _ _).symm, hm, fun z hz => by
  rw [List.mem_singleton.mp hz]
  exact (pl_of (n := 0) (by decide +kernel)).le (Nat.zero_le _)⟩
theorem nt_of {n m : Nat} {ls : List Str} (hm : 1 ≤ m) (hl : ls.length ≤ m) (h : ∀ z ∈ ls, Pl n z) : Nt n m (Txt.join "\n" ls) := by
  by_cases e : ls = []
  · rw [e, empty_join]
    exact nt_empty hm
  · exact ⟨ls, e, rfl, hl, h⟩
/-- the joined lines may be made -/
theorem join_few {n : Nat} {ls : List Str} (h : ∀ z ∈ ls, Pl n z) (hn : n ≤ 500) (hl : ls.length ≤ 300) : (ls.map (·.length)).sum + ls.length * (Str.ofString "\n").length ≤ 16777216 := by
  have hs : (ls.map (·.length)).sum ≤ (ls.map (·.length)).length * 500 := sum_le fun k hk => by
    obtain ⟨z, hz, rfl⟩ := List.mem_map.mp hk
    have := (h z hz).1
    omega
  have l1 : (Str.ofString "\n").length = 1 := rfl
  rw [List.length_map] at hs
  rw [l1]
  omega
theorem sl_listK {X : Cx} {K : PySem.W.Frag} (h : X.K = K) : SlR X (rSlL K) := by
  subst h
  exact sl_list
end Own

namespace Own
open PySem PySem.Spec PyProof.Rows L2 TL
theorem pl_cut1 {n : Nat} {w : Str} (h : Pl n w) : Pl 1 (cutS w none (some 1)) := by
  refine ⟨?_, (h.cut none (some 1)).2⟩
  rw [len_tl]
  show (((tl w).drop (HT.sIx w.length 0 none)).take (HT.sIx w.length w.length (some 1) - HT.sIx w.length 0 none)).length ≤ 1
  rw [show HT.sIx w.length w.length (some 1) = min 1 w.length from HT.sIx_nat _ _ 1, List.length_take]
  omega
section
variable {P : Program} {w : World} {K : PySem.W.Frag} {mg : Str → Option Value} {base : Heap}
def spSpL : Sp := fun vs H Q _ => ∃ (x : Str) (k s : Int) (n : Nat), vs = [.str x, .int k, .int s] ∧ Pl n x ∧ n ≤ 1000 ∧ (0 ≤ k ∧ k < 17) ∧ (0 ≤ s ∧ s < 60) ∧ ∀ H' y, Same H H' → Pl (2 * n + 30) y → Q (.str y) H'
set_option maxHeartbeats 4000000 in
theorem ok_spline {f : Addr} {fd : FuncData} (F : Fun K "_law_spoilt_line" "_law_spoilt_line" s__law_spoilt_line f fd) (T : Bi mg) : FnOk P w K mg base CX0 1 f fd ["_law_line", "_law_kind", "_law_seed"] spSpL := by
  refine F.ok sc__law_spoilt_line (fun vs H Q E h => ?_) (fun cdv A outer s H vs Q E hr h => ?_)
  · obtain ⟨x, k, s, n, rfl, _⟩ := h
    rfl
  · obtain ⟨x, k, sd, n, rfl, px, hn, hk, hs, q⟩ := h
    refine ⟨_, (pss_cons (ps_set (i := 3) sc__law_spoilt_line.nd rfl (.inl rfl) (pe_ix (r := rIxL K) ix_list (pe_split (pv 0) pe_str) pe_int (fun _ _ => rfl)))
        (pss_cons (ps_set (i := 4) sc__law_spoilt_line.nd rfl (.inl rfl) (pe_slice sl_str (pv 0) (po_some (pe_op op_add (pe_callB call_len_str (by rfl) T.b_len PySem.boot_len (pa_cons (pv 3) pa_nil)) pe_int)) po_none))
        (pss_cons (ps_set (i := 5) sc__law_spoilt_line.nd rfl (.inl rfl) (pe_op op_mod (pe_callTy call_int1 (by rfl) T.b_int (by decide +kernel) (pa_cons (pv 2) pa_nil)) pe_int))
        (pss_cons (ps_if (pt_cmpR op_lt (pv 1) pe_int (nomark _)) (pss_one (ps_ret (pe_ix (r := rIxL K) ix_list (pe_lst (pa_cons pe_str (pa_cons (pe_op op_add_str (pe_op op_add_str (pv 3) pe_str) (pv 4)) (pa_cons (pe_op op_add_str (pv 0) pe_str) (pa_cons (pe_op op_add_str pe_str (pv 0)) pa_nil))))) (pv 1) (fun _ _ => rfl)))) pss_nil)
        (pss_cons (ps_if (pt_cmpR op_lt (pv 1) pe_int (nomark _)) (pss_one (ps_ret (pe_ix (r := rIxL K) ix_list (pe_lst (pa_cons (pv 3) (pa_cons (pe_op op_add_str (pe_op op_add_str (pv 0) pe_str) (pv 4)) (pa_cons (pe_op op_add_str (pv 3) (pv 4)) (pa_cons (pe_op op_add_str (pe_op op_add_str (pv 3) pe_str) (pv 4)) pa_nil))))) (pe_op op_sub (pv 1) pe_int) (fun _ _ => rfl)))) pss_nil)
        (pss_cons (ps_if (pt_cmpR op_lt (pv 1) pe_int (nomark _)) (pss_one (ps_ret (pe_ix (r := rIxL K) ix_list (pe_lst (pa_cons (pe_op op_add_str (pv 3) pe_str) (pa_cons (pe_op op_add_str (pe_op op_add_str (pv 3) pe_str) (pv 4)) (pa_cons (pe_op op_add_str (pe_op op_add_str (pv 4) pe_str) (pv 3)) (pa_cons (pe_op op_add_str (pv 0) pe_str) pa_nil))))) (pe_op op_sub (pv 1) pe_int) (fun _ _ => rfl)))) pss_nil)
        (pss_cons (ps_if (pt_cmpR op_eq (pv 1) pe_int (nomark _)) (pss_one (ps_ret (pe_op op_add_str (pe_op op_add_str (pe_ix (r := rIxL K) ix_list (pe_lst (pa_cons (pe_upper (pv 3)) (pa_cons (pe_op op_add_str (pe_upper (pe_slice sl_str (pv 3) po_none (po_some pe_int))) (pe_slice sl_str (pv 3) (po_some pe_int) po_none)) (pa_cons (pe_op op_add_str (pv 3) pe_str) (pa_cons (pe_slice sl_str (pv 3) po_none (po_some (pe_un un_neg pe_int))) (pa_cons pe_str pa_nil)))))) (pv 5) (fun _ _ => rfl)) pe_str) (pv 4)))) pss_nil)
        (pss_cons (ps_if (pt_cmpR op_eq (pv 1) pe_int (nomark _)) (pss_one (ps_ret (pe_op op_add_str (pe_ix (r := rIxL K) ix_list (pe_lst (pa_cons pe_str (pa_cons pe_str pa_nil))) (pe_callTy call_int1 (by rfl) T.b_int (by decide +kernel) (pa_cons (pe_cmpR op_ne (pv 3) pe_str (nomark _)) pa_nil)) (fun _ _ => rfl)) (pv 4)))) pss_nil)
        (pss_cons (ps_if (pt_cmpR op_eq (pv 1) pe_int (nomark _)) (pss_one (ps_ret (pe_op op_add_str (pv 3) (pe_ix (r := rIxL K) ix_list (pe_lst (pa_cons pe_str (pa_cons pe_str (pa_cons pe_str (pa_cons pe_str (pa_cons pe_str (pa_cons pe_str (pa_cons pe_str (pa_cons pe_str pa_nil))))))))) (pe_op op_mod (pe_callTy call_int1 (by rfl) T.b_int (by decide +kernel) (pa_cons (pv 2) pa_nil)) pe_int) (fun _ _ => rfl))))) pss_nil)
        (pss_cons (ps_if (pt_cmpR op_eq (pv 1) pe_int (nomark _)) (pss_one (ps_ret (pe_op op_add_str (pe_op op_add_str (pv 3) pe_str) (pe_callTy call_str_int (by rfl) T.b_str (by decide +kernel) (pa_cons (pe_op op_mul (pe_op op_add pe_int (pe_callTy call_int1 (by rfl) T.b_int (by decide +kernel) (pa_cons (pv 2) pa_nil))) (pe_ix (r := rIxL K) ix_list (pe_lst (pa_cons pe_int (pa_cons (pe_op op_pow pe_int pe_int) pa_nil))) (pe_op op_mod (pe_callTy call_int1 (by rfl) T.b_int (by decide +kernel) (pa_cons (pv 2) pa_nil)) pe_int) (fun _ _ => rfl))) pa_nil))))) pss_nil)
        (pss_cons (ps_if (pt_cmpR op_eq (pv 3) pe_str (nomark _)) (pss_one (ps_ret (pe_op op_add_str (pe_op op_add_str (pv 3) pe_str) (pe_callTy call_str_int (by rfl) T.b_str (by decide +kernel) (pa_cons (pe_op op_mod (pe_callTy call_int1 (by rfl) T.b_int (by decide +kernel) (pa_cons (pv 2) pa_nil)) pe_int) pa_nil))))) pss_nil)
        (pss_one (ps_ret (pe_op op_add_str (pe_op op_add_str (pv 3) pe_str) (pe_callTy call_str_int (by rfl) T.b_str (by decide +kernel) (pa_cons (pe_op op_mul (pe_callTy call_int1 (by rfl) T.b_int (by decide +kernel) (pa_cons (pv 2) pa_nil)) (pe_ix (r := rIxL K) ix_list (pe_lst (pa_cons pe_int (pa_cons pe_int (pa_cons pe_int (pa_cons pe_int (pa_cons (pe_op op_add (pe_op op_pow pe_int pe_int) pe_int) pa_nil)))))) (pv 5) (fun _ _ => rfl))) pa_nil)))))))))))))))), ?_⟩
    obtain ⟨w0, wl, wp⟩ := wds_facts x
    obtain ⟨w, r, hw⟩ : ∃ w r, wdsOf x = w :: r := by
      cases e : wdsOf x with
      | nil => exact absurd e w0
      | cons w r => exact ⟨w, r, rfl⟩
    have pw : Pl n w := wds_pl px w (by rw [hw]; exact List.mem_cons_self)
    have lx := px.1
    have lw := pw.1
    have lim : ∀ k, k ≤ 20000 → k ≤ sizeLine := fun k h => Nat.le_trans h (by decide)
    have hzx : x.length ≤ sizeLine := lim _ (by omega)
    have hzw : w.length ≤ sizeLine := lim _ (by omega)
    refine ⟨_, rfl, ⟨_, rfl⟩, x, _, rfl, rfl, rfl, lim _ (by omega), fun a na => ?_⟩
    rw [show Txt.split x (Str.ofString " ") = wdsOf x from rfl, hw]
    have s1 : Same H (upd H a (.lst ((w :: r).map V.str))) := same_upd na
    refine ⟨a, _, _, _, rfl, rfl, .inl (.inl upd_same), at_of (j := 0) rfl rfl, ?_⟩
    refine ⟨_, rfl, _, rfl, w, rfl, hzw, _, _, rfl, rfl, _, rfl, x, rfl, hzx, ?_⟩
    generalize upd H a (.lst ((w :: r).map V.str)) = H1 at s1 ⊢
    have pu : Pl n (cutS x (some (((w.length : Nat) : Int) + 1)) none) := px.cut _ _
    generalize cutS x (some (((w.length : Nat) : Int) + 1)) none = u at pu ⊢
    have lu := pu.1
    have hzu : u.length ≤ sizeLine := lim _ (by omega)
    have m5 : 0 ≤ sd % 5 ∧ sd % 5 < 5 := ⟨Int.emod_nonneg _ (by decide), Int.emod_lt_of_pos _ (by decide)⟩
    have m8 : 0 ≤ sd % 8 ∧ sd % 8 < 8 := ⟨Int.emod_nonneg _ (by decide), Int.emod_lt_of_pos _ (by decide)⟩
    have m2 : 0 ≤ sd % 2 ∧ sd % 2 < 2 := ⟨Int.emod_nonneg _ (by decide), Int.emod_lt_of_pos _ (by decide)⟩
    have c0 : (Str.ofString "").length = 0 := rfl
    have c1 : (Str.ofString "  ").length = 2 := rfl
    have c2 : (Str.ofString " ").length = 1 := rfl
    have c3 : (Str.ofString " 0").length = 2 := rfl
    have c4 : (Str.ofString " -0").length = 3 := rfl
    have c5 : (Str.ofString " +").length = 2 := rfl
    have c6 : (Str.ofString "\t").length = 1 := rfl
    have c7 : (Str.ofString "s").length = 1 := rfl
    have c8 : (Str.ofString "twist").length = 5 := rfl
    have c9 : (Str.ofString " -").length = 2 := rfl
    refine ⟨_, rfl, .inl ⟨_, rfl, _, _, rfl, rfl, by show (0 : Int) < 5; decide, ?_⟩⟩
    refine ⟨_, rfl, _, _, rfl, rfl, _, rfl, ite2 (fun c => ?_) (fun nc4 => ?_)⟩
    · have c := of_decide_eq_true c
      refine ⟨_, rfl, _, _, rfl, rfl, (by first | (simp only [strLen_append]; exact lim _ (by omega)) | exact lim _ (by omega)), _, rfl, _, _, rfl, rfl, (by first | (simp only [strLen_append]; exact lim _ (by omega)) | exact lim _ (by omega)), _, rfl, _, _, rfl, rfl, (by first | (simp only [strLen_append]; exact lim _ (by omega)) | exact lim _ (by omega)), _, rfl, _, _, rfl, rfl, (by first | (simp only [strLen_append]; exact lim _ (by omega)) | exact lim _ (by omega)), by show 4 ≤ sizeLine; decide, fun p np => ?_⟩
      obtain ⟨y, hy, ey⟩ := pick (ys := [Str.ofString "", ((w ++ Str.ofString "  ") ++ u), (x ++ Str.ofString " "), (Str.ofString " " ++ x)]) (m := k) (by omega) (by show k < 4; omega)
      have py : Pl (2 * n + 30) y := by
        simp only [List.mem_cons, List.not_mem_nil, or_false] at hy
        rcases hy with e | e | e | e <;> rw [e]
        · exact ((pl_of (n := 10) (by decide +kernel))).le (by omega)
        · exact (((((pw).app ((pl_of (n := 10) (by decide +kernel))))).app (pu))).le (by omega)
        · exact (((px).app ((pl_of (n := 10) (by decide +kernel))))).le (by omega)
        · exact ((((pl_of (n := 10) (by decide +kernel))).app (px))).le (by omega)
      exact ⟨_, rfl, p, _, _, _, rfl, rfl, .inl (.inl upd_same), ey, q _ y (s1.trans (same_upd np)) py⟩
    have k4 : 4 ≤ k := by
      have : ¬ k < 4 := fun z => nc4 (decide_eq_true z)
      omega
    refine ⟨_, rfl, _, _, rfl, rfl, _, rfl, ite2 (fun c => ?_) (fun nc8 => ?_)⟩
    · have c := of_decide_eq_true c
      refine ⟨_, rfl, _, rfl, _, _, rfl, rfl, (by first | (simp only [strLen_append]; exact lim _ (by omega)) | exact lim _ (by omega)), _, rfl, _, _, rfl, rfl, (by first | (simp only [strLen_append]; exact lim _ (by omega)) | exact lim _ (by omega)), _, rfl, _, rfl, _, _, rfl, rfl, (by first | (simp only [strLen_append]; exact lim _ (by omega)) | exact lim _ (by omega)), _, rfl, _, _, rfl, rfl, (by first | (simp only [strLen_append]; exact lim _ (by omega)) | exact lim _ (by omega)), _, rfl, _, _, rfl, rfl, (by first | (simp only [strLen_append]; exact lim _ (by omega)) | exact lim _ (by omega)), by show 4 ≤ sizeLine; decide, fun p np => ?_⟩
      obtain ⟨y, hy, ey⟩ := pick (ys := [w, ((x ++ Str.ofString " ") ++ u), (w ++ u), ((w ++ Str.ofString " 0") ++ u)]) (m := k - 4) (by omega) (by show k - 4 < 4; omega)
      have py : Pl (2 * n + 30) y := by
        simp only [List.mem_cons, List.not_mem_nil, or_false] at hy
        rcases hy with e | e | e | e <;> rw [e]
        · exact (pw).le (by omega)
        · exact (((((px).app ((pl_of (n := 10) (by decide +kernel))))).app (pu))).le (by omega)
        · exact (((pw).app (pu))).le (by omega)
        · exact (((((pw).app ((pl_of (n := 10) (by decide +kernel))))).app (pu))).le (by omega)
      exact ⟨_, rfl, _, _, rfl, rfl, p, _, _, _, rfl, rfl, .inl (.inl upd_same), ey, q _ y (s1.trans (same_upd np)) py⟩
    have k8 : 8 ≤ k := by
      have : ¬ k < 8 := fun z => nc8 (decide_eq_true z)
      omega
    refine ⟨_, rfl, _, _, rfl, rfl, _, rfl, ite2 (fun c => ?_) (fun nc12 => ?_)⟩
    · have c := of_decide_eq_true c
      refine ⟨_, rfl, _, _, rfl, rfl, (by first | (simp only [strLen_append]; exact lim _ (by omega)) | exact lim _ (by omega)), _, rfl, _, _, rfl, rfl, (by first | (simp only [strLen_append]; exact lim _ (by omega)) | exact lim _ (by omega)), _, rfl, _, _, rfl, rfl, (by first | (simp only [strLen_append]; exact lim _ (by omega)) | exact lim _ (by omega)), _, rfl, _, _, rfl, rfl, (by first | (simp only [strLen_append]; exact lim _ (by omega)) | exact lim _ (by omega)), _, rfl, _, _, rfl, rfl, (by first | (simp only [strLen_append]; exact lim _ (by omega)) | exact lim _ (by omega)), _, rfl, _, _, rfl, rfl, (by first | (simp only [strLen_append]; exact lim _ (by omega)) | exact lim _ (by omega)), by show 4 ≤ sizeLine; decide, fun p np => ?_⟩
      obtain ⟨y, hy, ey⟩ := pick (ys := [(w ++ Str.ofString " -0"), ((w ++ Str.ofString " +") ++ u), ((u ++ Str.ofString " ") ++ w), (x ++ Str.ofString "\t")]) (m := k - 8) (by omega) (by show k - 8 < 4; omega)
      have py : Pl (2 * n + 30) y := by
        simp only [List.mem_cons, List.not_mem_nil, or_false] at hy
        rcases hy with e | e | e | e <;> rw [e]
        · exact (((pw).app ((pl_of (n := 10) (by decide +kernel))))).le (by omega)
        · exact (((((pw).app ((pl_of (n := 10) (by decide +kernel))))).app (pu))).le (by omega)
        · exact (((((pu).app ((pl_of (n := 10) (by decide +kernel))))).app (pw))).le (by omega)
        · exact (((px).app ((pl_of (n := 10) (by decide +kernel))))).le (by omega)
      exact ⟨_, rfl, _, _, rfl, rfl, p, _, _, _, rfl, rfl, .inl (.inl upd_same), ey, q _ y (s1.trans (same_upd np)) py⟩
    have k12 : 12 ≤ k := by
      have : ¬ k < 12 := fun z => nc12 (decide_eq_true z)
      omega
    refine ⟨_, rfl, rfl, _, rfl, ite2 (fun c => ?_) (fun nc => ?_)⟩
    · have l1 : (cutS w none (some 1)).length ≤ n := (pw.cut none (some 1)).1
      have l2 : (cutS w (some 1) none).length ≤ n := (pw.cut (some 1) none).1
      have pu1 := (pl_cut1 pw).up
      have l3 := pu1.1
      refine ⟨_, rfl, ⟨_, rfl⟩, w, rfl, rfl, by omega, _, rfl, _, rfl, w, rfl, hzw, ⟨_, rfl⟩, _, rfl, rfl, by omega, _, rfl, _, rfl, w, rfl, hzw, _, _, rfl, rfl, lim _ (by omega), _, rfl, _, _, rfl, rfl, lim _ (by omega), _, rfl, _, rfl, _, rfl, w, rfl, hzw, by show 5 ≤ sizeLine; decide, fun p np => ?_⟩
      obtain ⟨y, hy, ey⟩ := pick (ys := [Txt.upper w, Txt.upper (cutS w none (some 1)) ++ cutS w (some 1) none, w ++ Str.ofString "s", cutS w none (some (-1)), Str.ofString "twist"]) m5.1 m5.2
      have py : Pl (n + 10) y := by
        simp only [List.mem_cons, List.not_mem_nil, or_false] at hy
        rcases hy with e | e | e | e | e <;> rw [e]
        · exact pw.up.le (by omega)
        · exact (pu1.app (pw.cut _ _)).le (by omega)
        · exact (pw.app (pl_of (n := 10) (by decide +kernel))).le (by omega)
        · exact (pw.cut _ _).le (by omega)
        · exact (pl_of (n := 5) (by decide +kernel)).le (by omega)
      have ly := py.1
      refine ⟨_, rfl, p, _, _, _, rfl, rfl, .inl (.inl upd_same), ey, _, _, rfl, rfl, lim _ (by omega), _, rfl, _, _, rfl, rfl, (by first | (simp only [strLen_append]; exact lim _ (by omega)) | exact lim _ (by omega)), ?_⟩
      exact q _ _ (s1.trans (same_upd np)) (((py.app (pl_of (n := 1) (by decide +kernel))).app pu).le (by omega))
    have k13 : k ≠ 12 := fun z => nc (decide_eq_true (congrArg V.int z))
    refine ⟨_, rfl, rfl, _, rfl, ite2 (fun c => ?_) (fun nc2 => ?_)⟩
    · refine ⟨by show 2 ≤ sizeLine; decide, fun p np => ?_⟩
      obtain ⟨y, hy, ey⟩ := pick (ys := [Str.ofString "cross ", Str.ofString "row "]) (m := if (!decide (V.str w = V.str (Str.ofString "row"))) = true then 1 else 0) (by split <;> omega) (by show _ < (2 : Int); split <;> omega)
      have py : Pl 10 y := by
        simp only [List.mem_cons, List.not_mem_nil, or_false] at hy
        rcases hy with e | e <;> (rw [e]; exact pl_of (by decide +kernel))
      have ly := py.1
      refine ⟨_, rfl, rfl, .inr ⟨_, rfl, p, _, _, _, rfl, rfl, .inl (.inl upd_same), ey, _, rfl, _, _, rfl, rfl, lim _ (by omega), ?_⟩⟩
      exact q _ _ (s1.trans (same_upd np)) ((py.app pu).le (by omega))
    refine ⟨_, rfl, rfl, _, rfl, ite2 (fun c => ?_) (fun nc3 => ?_)⟩
    · refine ⟨_, rfl, by show 8 ≤ sizeLine; decide, fun p np => ?_⟩
      obtain ⟨y, hy, ey⟩ := pick (ys := [Str.ofString " -", Str.ofString " --1", Str.ofString " 1_0", Str.ofString " x", Str.ofString " 1.", Str.ofString " -07", Str.ofString " -00", Str.ofString " 1e2"]) m8.1 m8.2
      have py : Pl 10 y := by
        simp only [List.mem_cons, List.not_mem_nil, or_false] at hy
        rcases hy with e | e | e | e | e | e | e | e <;> (rw [e]; exact pl_of (by decide +kernel))
      have ly := py.1
      refine ⟨_, rfl, .inl ⟨_, rfl, _, _, rfl, rfl, by show (0 : Int) < 8; decide, p, _, _, _, rfl, rfl, .inl (.inl upd_same), ey, _, _, rfl, rfl, lim _ (by omega), ?_⟩⟩
      exact q _ _ (s1.trans (same_upd np)) ((pw.app py).le (by omega))
    refine ⟨_, rfl, rfl, _, rfl, ite2 (fun c => ?_) (fun nc4 => ?_)⟩
    · obtain ⟨v, ev, hv⟩ : ∃ v : Int, atI [V.int 1, .int (10 ^ (15 : Int).toNat)] (sd % 2) = some (.int v) ∧ (v = 1 ∨ v = 10 ^ 15) := by
        have hd : sd % 2 = ((0 : Nat) : Int) ∨ sd % 2 = ((1 : Nat) : Int) := by omega
        rcases hd with e | e <;> rw [e]
        · exact ⟨1, atI_nat rfl, .inl rfl⟩
        · exact ⟨10 ^ 15, atI_nat rfl, .inr rfl⟩
      have bd : ((1 + sd) * v).natAbs < 10 ^ 18 := by rcases hv with e | e <;> rw [e] <;> omega
      have pn := pl_nt bd
      unfold nt at pn
      have ln := pn.1
      refine ⟨_, rfl, _, _, rfl, rfl, (by first | (simp only [strLen_append]; exact lim _ (by omega)) | exact lim _ (by omega)), _, rfl, .inl ⟨_, rfl, _, _, rfl, rfl, _, _, rfl, rfl, ⟨by decide, by decide, by decide⟩, by show 2 ≤ sizeLine; decide, fun p np => ?_⟩⟩
      refine ⟨_, rfl, .inl ⟨_, rfl, _, _, rfl, rfl, by show (0 : Int) < 2; decide, p, _, _, _, rfl, rfl, .inl (.inl upd_same), ev, _, _, rfl, rfl, .inl ⟨by omega, by omega⟩, _, rfl, Nat.lt_of_lt_of_le (log_lt (k := 60) (by decide) (Nat.lt_of_lt_of_le bd (by decide))) (by decide), _, _, rfl, rfl, (by first | (simp only [strLen_append]; exact lim _ (by omega)) | exact lim _ (by omega)), ?_⟩⟩
      exact q _ _ (s1.trans (same_upd np)) (((pw.app (pl_of (n := 2) (by decide +kernel))).app pn).le (by omega))
    refine ⟨_, rfl, rfl, _, rfl, ite2 (fun c => ?_) (fun nc5 => ?_)⟩
    · have pn := pl_nt (i := sd % 8) (by omega)
      unfold nt at pn
      have ln := pn.1
      refine ⟨_, rfl, _, _, rfl, rfl, (by first | (simp only [strLen_append]; exact lim _ (by omega)) | exact lim _ (by omega)), _, rfl, .inl ⟨_, rfl, _, _, rfl, rfl, by show (0 : Int) < 8; decide, _, rfl, Nat.lt_of_lt_of_le (log_lt (k := 60) (by decide) (by omega)) (by decide), _, _, rfl, rfl, (by first | (simp only [strLen_append]; exact lim _ (by omega)) | exact lim _ (by omega)), ?_⟩⟩
      exact q _ _ s1 (((pw.app (pl_of (n := 1) (by decide +kernel))).app pn).le (by omega))
    · obtain ⟨v, ev, hv⟩ : ∃ v : Int, atI [V.int 1, .int 1, .int 1, .int 1, .int (10 ^ (16 : Int).toNat + 3)] (sd % 5) = some (.int v) ∧ (v = 1 ∨ v = 10 ^ 16 + 3) := by
        have hd : sd % 5 = ((0 : Nat) : Int) ∨ sd % 5 = ((1 : Nat) : Int) ∨ sd % 5 = ((2 : Nat) : Int) ∨ sd % 5 = ((3 : Nat) : Int) ∨ sd % 5 = ((4 : Nat) : Int) := by omega
        rcases hd with e | e | e | e | e <;> rw [e]
        · exact ⟨1, atI_nat rfl, .inl rfl⟩
        · exact ⟨1, atI_nat rfl, .inl rfl⟩
        · exact ⟨1, atI_nat rfl, .inl rfl⟩
        · exact ⟨1, atI_nat rfl, .inl rfl⟩
        · exact ⟨10 ^ 16 + 3, atI_nat rfl, .inr rfl⟩
      have bd : (sd * v).natAbs < 10 ^ 18 := by rcases hv with e | e <;> rw [e] <;> omega
      have pn := pl_nt bd
      unfold nt at pn
      have ln := pn.1
      refine ⟨_, rfl, _, _, rfl, rfl, (by first | (simp only [strLen_append]; exact lim _ (by omega)) | exact lim _ (by omega)), _, rfl, .inl ⟨_, rfl, _, _, rfl, rfl, ⟨by decide, by decide, by decide⟩, _, _, rfl, rfl, by show 5 ≤ sizeLine; decide, fun p np => ?_⟩⟩
      refine ⟨_, rfl, p, _, _, _, rfl, rfl, .inl (.inl upd_same), ev, _, _, rfl, rfl, .inl ⟨by omega, by omega⟩, _, rfl, Nat.lt_of_lt_of_le (log_lt (k := 60) (by decide) (Nat.lt_of_lt_of_le bd (by decide))) (by decide), _, _, rfl, rfl, (by first | (simp only [strLen_append]; exact lim _ (by omega)) | exact lim _ (by omega)), ?_⟩
      exact q _ _ (s1.trans (same_upd np)) (((pw.app (pl_of (n := 1) (by decide +kernel))).app pn).le (by omega))

def spSpN : Sp := fun vs H Q _ => ∃ (x : Str) (k p s : Int) (n m : Nat), vs = [.str x, .int k, .int p, .int s] ∧ Nt n m x ∧ n ≤ 110 ∧ m ≤ 200 ∧ (0 ≤ k ∧ k < 23) ∧ (0 ≤ p ∧ p < 61) ∧ (0 ≤ s ∧ s < 60) ∧ ∀ H' y, Same H H' → Nt (2 * n + 30) (m + 1) y → Q (.str y) H'
set_option maxHeartbeats 4000000 in
theorem ok_spnote {f : Addr} {fd : FuncData} (F : Fun K "_law_spoilt_note" "_law_spoilt_note" s__law_spoilt_note f fd) (T : Bi mg)
    {f_l : Addr} {d_l : FuncData} (D_l : Df K mg "_law_spoilt_line" s__law_spoilt_line ["_law_line", "_law_kind", "_law_seed"] f_l d_l) (G_l : FnOk P w K mg base CX0 1 f_l d_l ["_law_line", "_law_kind", "_law_seed"] spSpL) : FnOk P w K mg base CX0 2 f fd ["_law_note_here", "_law_kind", "_law_place", "_law_seed"] spSpN := by
  refine F.ok sc__law_spoilt_note (fun vs H Q E h => ?_) (fun cdv A outer s H vs Q E hr h => ?_)
  · obtain ⟨x, k, p, s, n, m, rfl, _⟩ := h
    rfl
  · obtain ⟨x, k, pl, sd, n, m, rfl, nx, hn, hm, hk, hp, hs, q⟩ := h
    refine ⟨_, (pss_cons (ps_set (i := 4) sc__law_spoilt_note.nd rfl (.inr rfl) (pe_split (pv 0) pe_str))
        (pss_cons (ps_set (i := 5) sc__law_spoilt_note.nd rfl (.inr rfl) (pe_op op_modN (pe_callTy call_int1 (by rfl) T.b_int (by decide +kernel) (pa_cons (pv 2) pa_nil)) (pe_callB call_len_seq (by rfl) T.b_len PySem.boot_len (pa_cons (pv 4) pa_nil))))
        (C8.pss_cut (ps_if (pt_cmpR op_lt (pv 2) pe_int (nomark _)) (pss_one (ps_set (i := 5) sc__law_spoilt_note.nd rfl (.inr rfl) pe_int)) pss_nil)
        (pss_cons (ps_set (i := 6) sc__law_spoilt_note.nd rfl (.inr rfl) (pe_op op_modN (pe_callTy call_int1 (by rfl) T.b_int (by decide +kernel) (pa_cons (pv 3) pa_nil)) (pe_callB call_len_seq (by rfl) T.b_len PySem.boot_len (pa_cons (pv 4) pa_nil))))
        (C8.pss_cut (ps_if (PW.pt (pw_and (pt_cmpR op_lt (pv 1) pe_int (nomark _)) (pw_and1 (pt_cmpR op_in_sign pe_str (pe_ix (r := rIxL K) ix_list (pv 4) (pv 5) (fun _ _ => rfl)) rfl)))) (pss_one (ps_ret (pe_join pe_str (pe_op op_cat (pe_op op_cat (pe_slice sl_list (pv 4) po_none (po_some (pv 5))) (pe_lst (pa_cons (pe_call G_l hr (by rfl) D_l.g D_l.F.kp D_l.b .nil pass0 (pa_cons (pe_ix (r := rIxL K) ix_list (pv 4) (pv 5) (fun _ _ => rfl)) (pa_cons (pv 1) (pa_cons (pv 3) pa_nil)))) pa_nil))) (pe_slice sl_list (pv 4) (po_some (pe_op op_add (pv 5) pe_int)) po_none))))) pss_nil)
        (pss_cons (ps_if (pt_cmpR op_eq (pv 1) pe_int (nomark _)) (pss_one (ps_ret (pe_op op_add_str (pv 0) pe_str))) pss_nil)
        (pss_cons (ps_if (pt_cmpR op_eq (pv 1) pe_int (nomark _)) (pss_one (ps_ret (pe_op op_add_str pe_str (pv 0)))) pss_nil)
        (pss_cons (ps_if (pt_cmpR op_eq (pv 1) pe_int (nomark _)) (pss_one (ps_ret (pe_join pe_str (pe_op op_cat (pe_slice sl_list (pv 4) po_none (po_some (pv 5))) (pe_slice sl_list (pv 4) (po_some (pe_op op_add (pv 5) pe_int)) po_none))))) pss_nil)
        (pss_cons (ps_if (pt_cmpR op_eq (pv 1) pe_int (nomark _)) (pss_one (ps_ret (pe_join pe_str (pe_op op_cat (pe_op op_cat (pe_slice sl_list (pv 4) po_none (po_some (pv 5))) (pe_lst (pa_cons (pe_ix (r := rIxL K) ix_list (pv 4) (pv 5) (fun _ _ => rfl)) pa_nil))) (pe_slice sl_list (pv 4) (po_some (pv 5)) po_none))))) pss_nil)
        (pss_cons (ps_if (pt_cmpR op_eq (pv 1) pe_int (nomark _)) (pss_one (ps_ret (pe_join pe_str (pe_lc (own := [("_law_k", 7)]) (g := gName 7) (tt := tYes) rfl sc__law_spoilt_note.nd (pi_range1 (by rfl) T.b_range (pa_cons (pe_callB call_len_seq (by rfl) T.b_len PySem.boot_len (pa_cons (pv 4) pa_nil)) pa_nil)) (blkOk_by (own := [("_law_k", 7)]) (N := ["_law_note_here", "_law_kind", "_law_place", "_law_seed", "_law_lines", "_law_at", "_law_other", "_law_k"]) (sc := defScope s__law_spoilt_note) (by decide +kernel)) (fun _ _ _ _ _ => (pg_name (i := 7) sc__law_spoilt_note.nd rfl (.inl rfl))) (fun _ _ _ _ _ => pts_nil) (fun _ _ _ _ _ => (pe_ix (r := rIxL K) ix_list (pe_lst (pa_cons (pe_ix (r := rIxL K) ix_list (pv 4) (pv 7) (fun _ _ => rfl)) (pa_cons (pe_ix (r := rIxL K) ix_list (pv 4) (pv 6) (fun _ _ => rfl)) (pa_cons (pe_ix (r := rIxL K) ix_list (pv 4) (pv 5) (fun _ _ => rfl)) pa_nil)))) (pe_op op_add (pe_callTy call_int1 (by rfl) T.b_int (by decide +kernel) (pa_cons (pe_cmpR op_eq (pv 7) (pv 5) (nomark _)) pa_nil)) (pe_op op_mul pe_int (pe_callTy call_int1 (by rfl) T.b_int (by decide +kernel) (pa_cons (pe_and (pe_cmpR op_eq (pv 7) (pv 6) (nomark _)) (pe_one (pe_cmpR op_ne (pv 7) (pv 5) (nomark _)))) pa_nil)))) (fun _ _ => rfl))))))) pss_nil)
        (pss_one (ps_ret pe_str)))))))))))), ?_⟩
    obtain ⟨ls, ne, rfl, lm, hp⟩ := nx
    have lj := lines_join ne hp
    have hpos : 0 < ls.length := List.length_pos_iff.mpr ne
    have lim : ∀ k, k ≤ 100000 → k ≤ sizeLine := fun k h => Nat.le_trans h (by decide)
    have lxx := joinT_len hp
    have lx : (Txt.join "\n" ls).length ≤ 50000 := Nat.le_trans lxx (Nat.le_trans (Nat.mul_le_mul (Nat.le_trans lm hm) (Nat.add_le_add_right hn 1)) (by decide))
    refine ⟨_, rfl, ⟨_, rfl⟩, _, _, rfl, rfl, rfl, lim _ (by omega), fun a na => ?_⟩
    rw [show Txt.split (Txt.join "\n" ls) (Str.ofString "\n") = ls from lj]
    have s1 : Same H (upd H a (.lst (ls.map V.str))) := same_upd na
    have ea : upd H a (.lst (ls.map V.str)) a = some (.lst (ls.map V.str)) := upd_same
    generalize upd H a (.lst (ls.map V.str)) = H1 at *
    have hlen : ((ls.map V.str).length : Int) = (ls.length : Int) := by rw [List.length_map]
    have fm : ∀ i : Int, ∃ k : Nat, i.fmod ((ls.map V.str).length : Int) = (k : Int) ∧ k < ls.length := fun i => by
      have f := fmod_in i (n := (ls.length : Int)) (by omega)
      exact ⟨(i.fmod (ls.length : Int)).toNat, by rw [hlen]; omega, by omega⟩
    have n0 : ((ls.map V.str).length : Int) ≠ 0 := by rw [hlen]; omega
    obtain ⟨ka, hka, ka2⟩ := fm pl
    obtain ⟨ko, hko, ko2⟩ := fm sd
    refine ⟨_, rfl, .inl ⟨_, rfl, _, rfl, a, _, rfl, .inl (.inl (.inl ea)), _, _, rfl, rfl, n0, ?_⟩⟩
    rw [show (fun i j : Int => V.int (i.fmod j)) pl ((ls.map V.str).length : Int) = V.int (ka : Int) from congrArg V.int hka]
    refine ⟨fun σ' H' => ∃ kk : Nat, σ' = [some (.str (Txt.join "\n" ls)), some (.int k), some (.int pl), some (.int sd), some (.ref a), some (.int (kk : Int)), none, none] ∧ kk < ls.length ∧ H1 = H', ?_, fun σ' H' mm => ?_⟩
    · refine ⟨_, rfl, _, _, rfl, rfl, _, rfl, ite2 (fun c => ?_) (fun c => ?_)⟩
      · exact ⟨0, rfl, hpos, rfl⟩
      · exact ⟨ka, rfl, ka2, rfl⟩
    obtain ⟨kk, rfl, kk2, rfl⟩ := mm
    refine ⟨_, rfl, .inl ⟨_, rfl, _, rfl, a, _, rfl, .inl (.inl (.inl ea)), _, _, rfl, rfl, n0, ?_⟩⟩
    rw [show (fun i j : Int => V.int (i.fmod j)) sd ((ls.map V.str).length : Int) = V.int (ko : Int) from congrArg V.int hko]
    obtain ⟨l, hl⟩ : ∃ l, ls[kk]? = some l := ⟨_, List.getElem?_eq_getElem kk2⟩
    have atl : atI (ls.map V.str) (kk : Int) = some (.str l) := atI_nat (by rw [List.getElem?_map, hl]; rfl)
    have pl_ := hp l (List.mem_of_getElem? hl)
    have cl := cutG_len ls
    have Hs : ∀ {H' : Hp}, Same H1 H' → SqL K H' a (ls.map V.str) := fun s => .inl (.inl (s _ _ ea))
    have fin : ∀ (H' : Hp) (ws : List Str), Same H1 H' → ws.length ≤ ls.length + 1 → (∀ z ∈ ws, z ∈ ls ∨ Pl (2 * n + 30) z) → Q (.str (Txt.join (Str.ofString "\n") ws)) H' := fun H' ws s lw pw => q H' _ (s1.trans s) (nt_of (by omega) (by omega) fun z hz => (pw z hz).elim (fun h => (hp z h).le (by omega)) id)
    have jf : ∀ ws : List Str, ws.length ≤ ls.length + 1 → (∀ z ∈ ws, z ∈ ls ∨ Pl (2 * n + 30) z) → (ws.map (·.length)).sum + ws.length * (Str.ofString "\n").length ≤ 16777216 := fun ws lw pw => join_few (n := 2 * n + 30) (fun z hz => (pw z hz).elim (fun h => (hp z h).le (by omega)) id) (by omega) (by omega)
    have cl1 := fun lo hi => cutG_len ls lo hi
    have ck : ∀ k : Nat, (cutG ls none (some (k : Int))).length ≤ k := fun k => by
      unfold cutG
      rw [show HT.sIx ls.length ls.length (some ((k : Nat) : Int)) = min k ls.length from HT.sIx_nat _ _ k, List.length_take]
      omega
    have ck2 : ∀ k : Nat, (cutG ls (some (k : Int)) none).length + k ≤ ls.length ∨ ls.length ≤ k := fun k => by
      unfold cutG
      rw [show HT.sIx ls.length 0 (some ((k : Nat) : Int)) = min k ls.length from HT.sIx_nat _ _ k, HT.sIx_none, List.length_take, List.length_drop]
      omega
    have ck3 : ∀ k : Nat, (cutG ls (some (k : Int)) none).length ≤ ls.length - k := fun k => by
      unfold cutG
      rw [show HT.sIx ls.length 0 (some ((k : Nat) : Int)) = min k ls.length from HT.sIx_nat _ _ k, HT.sIx_none, List.length_take, List.length_drop]
      omega
    have ekk : (kk : Int) + 1 = ((kk + 1 : Nat) : Int) := by omega
    refine ⟨fun σ' H' => σ' = [some (.str (Txt.join "\n" ls)), some (.int k), some (.int pl), some (.int sd), some (.ref a), some (.int (kk : Int)), some (.int (ko : Int)), none] ∧ H1 = H', ?_, fun σ' H' mm => ?_⟩
    · refine ⟨_, rfl, _, _, rfl, rfl, _, rfl, ite2 (fun c => ?_) (fun c => ⟨rfl, rfl⟩)⟩
      have c17 := of_decide_eq_true c
      refine ⟨_, rfl, _, rfl, a, _, _, _, rfl, rfl, .inl (.inl ea), atl, 32, l, rfl, rfl, _, rfl, ite2 (fun c => ?_) (fun c => ⟨rfl, rfl⟩)⟩
      refine ⟨⟨_, rfl⟩, _, rfl, _, rfl, _, rfl, a, _, rfl, .inl (.inl ea), fun p np => ?_⟩
      have t1 := same_upd (o := .lst (cutV (ls.map V.str) none (some (kk : Int)))) np
      refine ⟨_, rfl, _, rfl, a, _, _, _, rfl, rfl, Hs t1, atl, _, rfl, _, rfl, l, k, sd, n, rfl, pl_, by omega, by omega, by omega, fun H4 y s4 py => ⟨by show 1 ≤ sizeLine; decide, fun b nb => ?_⟩⟩
      have t2 := same_upd (o := .lst [.str y]) nb
      refine ⟨p, b, _, _, rfl, rfl, t2 _ _ (s4 _ _ upd_same), upd_same, by rw [cut_map, List.length_map]; exact lim _ (by show _ + 1 ≤ 100000; have := cl1 none (some (kk : Int)); omega), fun c nc => ?_⟩
      have t3 := same_upd (o := .lst (cutV (ls.map V.str) none (some (kk : Int)) ++ [.str y])) nc
      have t03 := (t1.trans s4).trans (t2.trans t3)
      refine ⟨_, rfl, _, rfl, _, _, rfl, rfl, _, rfl, a, _, rfl, Hs t03, fun p2 np2 => ?_⟩
      have t4 := same_upd (o := .lst (cutV (ls.map V.str) (some ((kk : Int) + 1)) none)) np2
      refine ⟨c, p2, _, _, rfl, rfl, t4 _ _ upd_same, upd_same, by rw [cut_map, cut_map, List.length_append, List.length_map, List.length_map]; exact lim _ (by show _ + 1 + _ ≤ 100000; have := cl1 none (some (kk : Int)); have := cl1 (some ((kk : Int) + 1)) none; omega), fun c2 nc2 => ?_⟩
      have t5 := same_upd (o := .lst ((cutV (ls.map V.str) none (some (kk : Int)) ++ [.str y]) ++ cutV (ls.map V.str) (some ((kk : Int) + 1)) none)) nc2
      have ws : ∀ z ∈ cutG ls none (some (kk : Int)) ++ [y] ++ cutG ls (some ((kk : Int) + 1)) none, z ∈ ls ∨ Pl (2 * n + 30) z := fun z hz => by
        rcases List.mem_append.mp hz with h1 | h1
        · rcases List.mem_append.mp h1 with h2 | h2
          · exact .inl (cutG_mem z h2)
          · rw [List.mem_singleton.mp h2]
            exact .inr py
        · exact .inl (cutG_mem z h1)
      have lw : (cutG ls none (some (kk : Int)) ++ [y] ++ cutG ls (some ((kk : Int) + 1)) none).length ≤ ls.length + 1 := by
        rw [ekk]
        have h1 := ck kk
        have h2 := ck3 (kk + 1)
        simp only [List.length_append, List.length_cons, List.length_nil]
        omega
      refine ⟨_, c2, cutG ls none (some (kk : Int)) ++ [y] ++ cutG ls (some ((kk : Int) + 1)) none, rfl, rfl, .inl (.inl (.inl ?_)), jf _ lw ws, fin _ _ (t03.trans (t4.trans t5)) lw ws⟩
      rw [upd_same, cut_map, cut_map, List.map_append, List.map_append]
      rfl
    obtain ⟨rfl, rfl⟩ := mm
    -- a line feed behind, ahead
    refine ⟨_, rfl, rfl, _, rfl, ite2 (fun c => ?_) (fun c => ?_)⟩
    · have e : Txt.join "\n" ls ++ Str.ofString "\n" = Txt.join (Str.ofString "\n") (ls ++ [Str.ofString ""]) := by
        cases ls with
        | nil => exact absurd rfl ne
        | cons z r =>
          show _ = Txt.join (Str.ofString "\n") (z :: r ++ [Str.ofString ""])
          rw [join_snoc]
          refine ext_tl ?_
          rw [tl_append, tl_append, tl_append]
          simp [tl]
          rfl
      refine ⟨_, rfl, _, _, rfl, rfl, lim _ (by have : (Str.ofString "\n").length = 1 := rfl; rw [this]; omega), ?_⟩
      rw [e]
      refine fin _ _ (Same.refl _) (by rw [List.length_append]; exact Nat.le_refl _) fun z hz => ?_
      rcases List.mem_append.mp hz with h | h
      · exact .inl h
      · rw [List.mem_singleton.mp h]
        exact .inr ((pl_of (n := 0) (by decide +kernel)).le (by omega))
    refine ⟨_, rfl, rfl, _, rfl, ite2 (fun c => ?_) (fun c => ?_)⟩
    · have e : Str.ofString "\n" ++ Txt.join "\n" ls = Txt.join (Str.ofString "\n") (Str.ofString "" :: ls) := by
        cases ls with
        | nil => exact absurd rfl ne
        | cons z r =>
          refine ext_tl ?_
          rw [tl_append, join_eq, join_eq, tl_join, tl_join]
          rfl
      refine ⟨_, rfl, _, _, rfl, rfl, lim _ (by have : (Str.ofString "\n").length = 1 := rfl; rw [this]; omega), ?_⟩
      rw [e]
      refine fin _ _ (Same.refl _) (by rw [List.length_cons]; exact Nat.le_refl _) fun z hz => ?_
      rcases List.mem_cons.mp hz with h | h
      · rw [h]
        exact .inr ((pl_of (n := 0) (by decide +kernel)).le (by omega))
      · exact .inl h
    -- a line left out
    refine ⟨_, rfl, rfl, _, rfl, ite2 (fun c => ?_) (fun c => ?_)⟩
    · refine ⟨⟨_, rfl⟩, _, rfl, _, rfl, _, rfl, a, _, rfl, .inl (.inl ea), fun p np => ?_⟩
      have t1 := same_upd (o := .lst (cutV (ls.map V.str) none (some (kk : Int)))) np
      refine ⟨_, rfl, _, rfl, _, _, rfl, rfl, _, rfl, a, _, rfl, Hs t1, fun p2 np2 => ?_⟩
      have t4 := same_upd (o := .lst (cutV (ls.map V.str) (some ((kk : Int) + 1)) none)) np2
      refine ⟨p, p2, _, _, rfl, rfl, t4 _ _ upd_same, upd_same, by rw [cut_map, cut_map, List.length_map, List.length_map]; exact lim _ (by have := cl1 none (some (kk : Int)); have := cl1 (some ((kk : Int) + 1)) none; omega), fun c2 nc2 => ?_⟩
      have t5 := same_upd (o := .lst (cutV (ls.map V.str) none (some (kk : Int)) ++ cutV (ls.map V.str) (some ((kk : Int) + 1)) none)) nc2
      have ws : ∀ z ∈ cutG ls none (some (kk : Int)) ++ cutG ls (some ((kk : Int) + 1)) none, z ∈ ls ∨ Pl (2 * n + 30) z := fun z hz => .inl ((List.mem_append.mp hz).elim (cutG_mem z) (cutG_mem z))
      have lw : (cutG ls none (some (kk : Int)) ++ cutG ls (some ((kk : Int) + 1)) none).length ≤ ls.length + 1 := by
        rw [ekk, List.length_append]
        have h1 := ck kk
        have h2 := ck3 (kk + 1)
        omega
      refine ⟨_, c2, cutG ls none (some (kk : Int)) ++ cutG ls (some ((kk : Int) + 1)) none, rfl, rfl, .inl (.inl (.inl ?_)), jf _ lw ws, fin _ _ (t1.trans (t4.trans t5)) lw ws⟩
      rw [upd_same, cut_map, cut_map, List.map_append]
    -- a line twice
    refine ⟨_, rfl, rfl, _, rfl, ite2 (fun c => ?_) (fun c => ?_)⟩
    · refine ⟨⟨_, rfl⟩, _, rfl, _, rfl, _, rfl, a, _, rfl, .inl (.inl ea), fun p np => ?_⟩
      have t1 := same_upd (o := .lst (cutV (ls.map V.str) none (some (kk : Int)))) np
      refine ⟨_, rfl, _, rfl, a, _, _, _, rfl, rfl, Hs t1, atl, by show 1 ≤ sizeLine; decide, fun b nb => ?_⟩
      have t2 := same_upd (o := .lst [.str l]) nb
      refine ⟨p, b, _, _, rfl, rfl, t2 _ _ upd_same, upd_same, by rw [cut_map, List.length_map]; exact lim _ (by show _ + 1 ≤ 100000; have := cl1 none (some (kk : Int)); omega), fun c nc => ?_⟩
      have t3 := same_upd (o := .lst (cutV (ls.map V.str) none (some (kk : Int)) ++ [.str l])) nc
      have t03 := t1.trans (t2.trans t3)
      refine ⟨_, rfl, _, rfl, _, rfl, a, _, rfl, Hs t03, fun p2 np2 => ?_⟩
      have t4 := same_upd (o := .lst (cutV (ls.map V.str) (some (kk : Int)) none)) np2
      refine ⟨c, p2, _, _, rfl, rfl, t4 _ _ upd_same, upd_same, by rw [cut_map, cut_map, List.length_append, List.length_map, List.length_map]; exact lim _ (by show _ + 1 + _ ≤ 100000; have := cl1 none (some (kk : Int)); have := cl1 (some (kk : Int)) none; omega), fun c2 nc2 => ?_⟩
      have t5 := same_upd (o := .lst ((cutV (ls.map V.str) none (some (kk : Int)) ++ [.str l]) ++ cutV (ls.map V.str) (some (kk : Int)) none)) nc2
      have ws : ∀ z ∈ cutG ls none (some (kk : Int)) ++ [l] ++ cutG ls (some (kk : Int)) none, z ∈ ls ∨ Pl (2 * n + 30) z := fun z hz => by
        rcases List.mem_append.mp hz with h1 | h1
        · rcases List.mem_append.mp h1 with h2 | h2
          · exact .inl (cutG_mem z h2)
          · rw [List.mem_singleton.mp h2]
            exact .inl (List.mem_of_getElem? hl)
        · exact .inl (cutG_mem z h1)
      have lw : (cutG ls none (some (kk : Int)) ++ [l] ++ cutG ls (some (kk : Int)) none).length ≤ ls.length + 1 := by
        have h1 := ck kk
        have h2 := ck3 kk
        simp only [List.length_append, List.length_cons, List.length_nil]
        omega
      refine ⟨_, c2, cutG ls none (some (kk : Int)) ++ [l] ++ cutG ls (some (kk : Int)) none, rfl, rfl, .inl (.inl (.inl ?_)), jf _ lw ws, fin _ _ (t03.trans (t4.trans t5)) lw ws⟩
      rw [upd_same, cut_map, cut_map, List.map_append, List.map_append]
      rfl
    -- two lines exchanged
    refine ⟨_, rfl, rfl, _, rfl, ite2 (fun c => ?_) (fun c => ?_)⟩
    · obtain ⟨lo, hlo⟩ : ∃ lo, ls[ko]? = some lo := ⟨_, List.getElem?_eq_getElem ko2⟩
      have ato : atI (ls.map V.str) (ko : Int) = some (.str lo) := atI_nat (by rw [List.getElem?_map, hlo]; rfl)
      refine ⟨⟨_, rfl⟩, _, rfl, a, _, rfl, .inl (.inl (.inl ea)), ((ls.length : Nat) : Int), congrArg (fun z => [V.int z]) hlen, by omega, by omega, fun M nM => lc_range (lo := 0) (n := ls.length) (fun i Hi => ∃ (ps : List Str) (Hc : Hp), Same H1 Hc ∧ Hc M = none ∧ Hi = upd Hc M (.lst (ps.map V.str)) ∧ ps.length = i ∧ ∀ z ∈ ps, z ∈ ls) ⟨[], H1, Same.refl _, nM, rfl, rfl, fun z h => nomatch h⟩ (fun i Hi hi pv => ?_) (fun Hi pv => ?_)⟩
      · obtain ⟨ps, Hc, sc, nc, rfl, lps, pps⟩ := pv
        obtain ⟨li, hli⟩ : ∃ li, ls[i]? = some li := ⟨_, List.getElem?_eq_getElem hi⟩
        have ati : atI (ls.map V.str) (0 + (i : Int)) = some (.str li) := by
          rw [Int.zero_add]
          exact atI_nat (by rw [List.getElem?_map, hli]; rfl)
        have sM := same_upd (o := .lst (ps.map V.str)) nc
        have sH := sc.trans sM
        refine ⟨rfl, ?_⟩
        refine ⟨_, rfl, _, rfl, a, _, _, _, rfl, rfl, Hs sH, ati, _, rfl, _, rfl, a, _, _, _, rfl, rfl, Hs sH, ato, _, rfl, _, rfl, a, _, _, _, rfl, rfl, Hs sH, atl, by show 3 ≤ sizeLine; decide, fun b nb => ?_⟩
        have sb := same_upd (o := .lst [.str li, .str lo, .str l]) nb
        have eM := sb _ _ (upd_same (H := Hc) (a := M) (o := .lst (ps.map V.str)))
        have done : ∀ j : Int, 0 ≤ j → j < 3 → rIxL K (.ref b) (.int j) (upd (upd Hc M (.lst (ps.map V.str))) b (.lst [.str li, .str lo, .str l])) fun y H4 => ∃ acc, H4 M = some (.lst acc) ∧ acc.length < sizeLine ∧ ∃ (ps' : List Str) (Hc' : Hp), Same H1 Hc' ∧ Hc' M = none ∧ upd H4 M (.lst (acc ++ [y])) = upd Hc' M (.lst (ps'.map V.str)) ∧ ps'.length = i + 1 ∧ ∀ z ∈ ps', z ∈ ls := fun j j0 j3 => by
          obtain ⟨y, hy, ey⟩ := pick (ys := [li, lo, l]) j0 (by show j < (3 : Int); omega)
          refine ⟨b, _, _, _, rfl, rfl, .inl (.inl upd_same), ey, _, eM, by rw [List.length_map]; exact small1000 (by omega), ps ++ [y], hole (upd (upd Hc M (.lst (ps.map V.str))) b (.lst [.str li, .str lo, .str l])) M, same_hole nM (sH.trans sb), hole_at, ?_, by rw [List.length_append, lps]; rfl, fun z hz => ?_⟩
          · rw [upd_hole, List.map_append]
            rfl
          · rcases List.mem_append.mp hz with h | h
            · exact pps z h
            · rw [List.mem_singleton.mp h]
              simp only [List.mem_cons, List.not_mem_nil, or_false] at hy
              rcases hy with e | e | e <;> rw [e]
              · exact List.mem_of_getElem? hli
              · exact List.mem_of_getElem? hlo
              · exact List.mem_of_getElem? hl
        refine ⟨_, rfl, _, rfl, rfl, .inr ⟨_, rfl, _, rfl, _, rfl, rfl, _, rfl, ?_⟩⟩
        refine ite2 (fun c2 => ?_) (fun c2 => ?_)
        · refine ⟨_, rfl, _, rfl, rfl, .inr ⟨_, rfl, _, _, rfl, rfl, .inl ⟨by decide, by decide⟩, _, _, rfl, rfl, ?_⟩⟩
          cases decide (V.int (0 + (i : Int)) = V.int (kk : Int)) with
          | true => exact done _ (by decide) (by decide)
          | false => exact done _ (by decide) (by decide)
        · refine .inr ⟨_, rfl, _, _, rfl, rfl, .inl ⟨by decide, by decide⟩, _, _, rfl, rfl, ?_⟩
          cases decide (V.int (0 + (i : Int)) = V.int (kk : Int)) with
          | true => exact done _ (by decide) (by decide)
          | false => exact done _ (by decide) (by decide)
      · obtain ⟨ps, Hc, sc, nc, rfl, lps, pps⟩ := pv
        have ws : ∀ z ∈ ps, z ∈ ls ∨ Pl (2 * n + 30) z := fun z hz => .inl (pps z hz)
        exact ⟨_, M, ps, rfl, rfl, .inl (.inl (.inl upd_same)), jf _ (by omega) ws, fin _ _ (sc.trans (same_upd nc)) (by omega) ws⟩
    · exact q H1 _ s1 (nt_empty (by omega))

end
end Own

namespace Own
open PySem PySem.Spec PyProof.Rows L2 TL
theorem at_zero {x : Str} {c : Nat} {r : List Nat} (e : tl x = c :: r) : atI x.cps.toList 0 = some c := by
  have e2 : x.cps.toList = c :: r := e
  rw [e2]
  exact atI_nat (j := 0) (xs := c :: r) rfl
theorem tl_cut01 (x : Str) : tl (cutS x none (some 1)) = (tl x).take 1 := by
  show ((tl x).drop (HT.sIx x.length 0 none)).take (HT.sIx x.length x.length (some 1) - HT.sIx x.length 0 none) = _
  rw [show HT.sIx x.length x.length (some 1) = min 1 x.length from HT.sIx_nat _ _ 1, show HT.sIx x.length 0 none = 0 from rfl, List.drop_zero, Nat.sub_zero, len_tl]
  cases tl x with
  | nil => rfl
  | cons c r =>
    have e : min 1 (c :: r).length = 1 := by simp
    rw [e]
theorem take_one (l : List Nat) (c : Nat) : decide (l.take 1 = [c]) = decide (l.head? = some c) := by
  cases l with
  | nil => rfl
  | cons d r =>
    show decide ([d] = [c]) = decide (some d = some c)
    simp
section
variable {P : Program} {w : World} {K : PySem.W.Frag} {mg : Str → Option Value} {base : Heap}
def spNumX : Sp := fun vs H Q _ => ∃ x : Str, vs = [.str x] ∧ x.length ≤ 600 ∧ Q (if isNum (tl x) = true then .int (numV x) else .non) H
theorem ok_lnum {f : Addr} {fd : FuncData} (F : Fun K "_law_number" "_law_number" s__law_number f fd) (T : Bi mg) : FnOk P w K mg base CX0 1 f fd ["_law_word"] spNumX := by
  refine F.ok sc__law_number (fun vs H Q E h => ?_) (fun cdv A outer s H vs Q E hr h => ?_)
  · obtain ⟨x, rfl, _⟩ := h
    rfl
  · obtain ⟨x, rfl, hx, q⟩ := h
    refine ⟨_, (pss_cons (ps_set (i := 1) sc__law_number.nd rfl (.inl rfl) (pv 0))
        (C8.pss_cut (ps_if (pt_cmpR op_eq (pe_slice sl_str (pv 0) po_none (po_some pe_int)) pe_str (nomark _)) (pss_one (ps_set (i := 1) sc__law_number.nd rfl (.inl rfl) (pe_slice sl_str (pv 0) (po_some pe_int) po_none))) pss_nil)
        (C8.pss_cut (ps_if (PW.pt (pw_or (pt_cmpR op_eq (pv 1) pe_str (nomark _)) (pw_or1 (PW.pt (pw_and (pt_cmpR op_eq (pe_ix (r := rIxS) ix_str (pv 1) pe_int (fun _ _ => rfl)) pe_str (nomark _)) (pw_and1 (pt_cmpR op_ne (pv 0) pe_str (nomark _)))))))) (pss_one (ps_ret pe_non)) pss_nil)
        (pss_cons (ps_for PassesOwn.never rfl (pi_str (pv 1)) (pg_name (i := 2) sc__law_number.nd rfl (.inl rfl))
        (pss_one (ps_if (pt_cmpR op_notIn_sign (pv 2) pe_str rfl) (pss_one (ps_ret pe_non)) pss_nil)))
        (pss_one (ps_ret (pe_op op_mul (pe_callTy call_int_str (by rfl) T.b_int (by decide +kernel) (pa_cons (pv 1) pa_nil)) (pe_op op_sub pe_int (pe_op op_mul pe_int (pe_callTy call_int1 (by rfl) T.b_int (by decide +kernel) (pa_cons (pe_cmpR op_eq (pe_ix (r := rIxS) ix_str (pv 0) pe_int (fun _ _ => rfl)) pe_str (nomark _)) pa_nil))))))))))), ?_⟩
    have hz : x.length ≤ sizeLine := Nat.le_trans hx (by decide)
    have dig : ∀ c : Nat, decide (c ∈ (Str.ofString "0123456789").cps.toList) = decide (48 ≤ c ∧ c ≤ 57) := fun c => by
      have e : (Str.ofString "0123456789").cps.toList = [48, 49, 50, 51, 52, 53, 54, 55, 56, 57] := rfl
      rw [e, Bool.eq_iff_iff, decide_eq_true_eq, decide_eq_true_eq]
      simp only [List.mem_cons, List.not_mem_nil, or_false]
      omega
    refine ⟨_, rfl, ?_⟩
    refine ⟨fun σ' H' => ∃ z : Str, σ' = [some (.str x), some (.str z), none] ∧ tl z = bodyL (tl x) ∧ z.length ≤ 600 ∧ H = H', ?_, fun σ' H' mm => ?_⟩
    · refine ⟨_, rfl, _, rfl, x, rfl, hz, rfl, _, rfl, ?_⟩
      rw [str_eq, tl_cut01, show tl (Str.ofString "-") = [45] from rfl, take_one]
      refine ite2 (fun c => ?_) (fun c => ?_)
      · have c := of_decide_eq_true c
        refine ⟨_, rfl, _, rfl, x, rfl, hz, _, rfl, ?_, Nat.le_trans (cutS_length _ _ _) hx, rfl⟩
        rw [tl_cut1]
        unfold bodyL
        rw [if_pos c]
      · exact ⟨x, rfl, (body_pos fun z => c (decide_eq_true z)).symm, hx, rfl⟩
    obtain ⟨z, rfl, tz, lz, rfl⟩ := mm
    have hzz : z.length ≤ sizeLine := Nat.le_trans lz (by decide)
    have hsz : z.cps.size = (tl z).length := by simp [tl]
    refine ⟨fun σ' H' => σ' = [some (.str x), some (.str z), none] ∧ H = H' ∧ tl z ≠ [] ∧ (¬ (tl z).head? = some 48 ∨ tl x = [48]), ?_, fun σ' H' mm => ?_⟩
    · refine ⟨_, rfl, rfl, _, rfl, ?_⟩
      rw [str_eq, show tl (Str.ofString "") = [] from rfl]
      by_cases ze : tl z = []
      · rw [decide_eq_true ze]
        have : isNum (tl x) = false := by
          unfold isNum dgL
          rw [← tz, ze]
          rfl
        rw [this] at q
        exact q
      rw [decide_eq_false ze]
      cases ec : tl z with
      | nil => exact absurd ec ze
      | cons c r =>
        refine ⟨_, rfl, z, 0, c, rfl, rfl, hzz, at_zero ec, rfl, _, rfl, ?_⟩
        rw [str_eq, show tl (Str.ofString "0") = [48] from rfl, show tl (⟨#[c]⟩ : Str) = [c] from rfl]
        by_cases hc : c = 48
        · subst hc
          rw [decide_eq_true rfl]
          refine ⟨_, rfl, rfl, _, rfl, ?_⟩
          rw [str_eq, show tl (Str.ofString "0") = [48] from rfl]
          by_cases hx0 : tl x = [48]
          · rw [decide_eq_true hx0]
            exact ⟨rfl, rfl, (fun e => nomatch e), .inr hx0⟩
          · rw [decide_eq_false hx0]
            have : isNum (tl x) = false := by
              unfold isNum
              rw [← tz, ec, decide_eq_false hx0]
              show (_ && (false || !decide (some 48 = some 48))) = false
              simp
            rw [this] at q
            exact q
        · rw [decide_eq_false fun e => hc (List.cons.inj e).1]
          exact ⟨rfl, rfl, (fun e => nomatch e), .inl fun e => hc (Option.some.inj e)⟩
    obtain ⟨rfl, rfl, ze, hfirst⟩ := mm
    refine ⟨_, rfl, z, rfl, for_it walk_str (fun i σ H' => (∃ y, σ = [some (.str x), some (.str z), y]) ∧ H' = H ∧ ∀ c ∈ (tl z).take i, 48 ≤ c ∧ c ≤ 57) ⟨⟨none, rfl⟩, rfl, fun c hc => nomatch hc⟩ (fun i σ H' _ _ => trivial) (fun i v σ H1 H2 hi pv y => ?_) fun σ H' pv => ?_⟩
    · obtain ⟨⟨y0, rfl⟩, rfl, ok⟩ := pv
      obtain ⟨rfl, c, hc, rfl⟩ := y
      have hc2 : (tl z)[i]? = some c := by
        show z.cps.toList[i]? = some c
        rw [Array.getElem?_toList]
        exact hc
      refine ⟨_, rfl, c, _, rfl, rfl, _, rfl, ?_⟩
      rw [dig c]
      by_cases d : 48 ≤ c ∧ c ≤ 57
      · rw [decide_eq_true d]
        refine ⟨⟨_, rfl⟩, rfl, fun e he => ?_⟩
        rw [List.take_add_one, hc2] at he
        rcases List.mem_append.mp he with he | he
        · exact ok e he
        · rw [List.mem_singleton.mp he]
          exact d
      · rw [decide_eq_false d]
        have : isNum (tl x) = false := by
          unfold isNum
          have e : dgL (bodyL (tl x)) = false := by
            cases e2 : dgL (bodyL (tl x)) with
            | false => rfl
            | true => exact absurd ((dgL_all e2).2 c (by rw [← tz]; exact List.mem_of_getElem? hc2)) d
          rw [e]
          rfl
        rw [this] at q
        exact q
    · obtain ⟨⟨y0, rfl⟩, rfl, ok⟩ := pv
      rw [hsz, List.take_length] at ok
      have isn : isNum (tl x) = true := by
        unfold isNum
        rw [← tz, dgL_of ze ok, Bool.true_and]
        rcases hfirst with h | h
        · rw [decide_eq_false h]
          simp
        · rw [decide_eq_true h]
          rfl
      rw [isn, if_pos rfl] at q
      have e1 : PySem.intText? z = some ((NumText.digitsVal (tl z) : Nat) : Int) := intText_digits ok ze (by omega)
      have xne : tl x ≠ [] := fun e => ze (by rw [tz, e]; rfl)
      cases ex : tl x with
      | nil => exact absurd ex xne
      | cons c r =>
        refine ⟨_, rfl, z, _, rfl, e1, by omega, _, rfl, x, 0, c, rfl, rfl, hz, at_zero ex, rfl, .inr ⟨_, rfl, _, _, rfl, rfl, .inl ⟨by decide, by decide⟩, _, _, rfl, rfl, _, _, rfl, rfl, .inr ?_, ?_⟩⟩
        · split <;> (constructor <;> decide)
        · rw [str_eq, show tl (Str.ofString "-") = [45] from rfl, show tl (⟨#[c]⟩ : Str) = [c] from rfl]
          rw [numV_eq isn (by omega), ← tz] at q
          by_cases hc : c = 45
          · rw [if_pos (by rw [ex, hc]; rfl)] at q
            rw [decide_eq_true (by rw [hc])]
            show Q (V.int (((NumText.digitsVal (tl z) : Nat) : Int) * (1 - 2 * (if true = true then (1 : Int) else 0)))) _
            rw [show ((NumText.digitsVal (tl z) : Nat) : Int) * (1 - 2 * (if true = true then (1 : Int) else 0)) = -((NumText.digitsVal (tl z) : Nat) : Int) by rw [if_pos rfl]; omega]
            exact q
          · rw [if_neg (by rw [ex]; exact fun e => hc (Option.some.inj e))] at q
            rw [decide_eq_false (fun e => hc (List.cons.inj e).1)]
            show Q (V.int (((NumText.digitsVal (tl z) : Nat) : Int) * (1 - 2 * (if false = true then (1 : Int) else 0)))) _
            rw [show ((NumText.digitsVal (tl z) : Nat) : Int) * (1 - 2 * (if false = true then (1 : Int) else 0)) = ((NumText.digitsVal (tl z) : Nat) : Int) by rw [if_neg Bool.false_ne_true]; omega]
            exact q

/-- what _law_outcome finds in a text -/
structure Outc (K : PySem.W.Frag) (x : Str) (H : Hp) (Q : VK) : Prop where
  note : ∀ p, BadL (linesOf x) p → ∀ H' r, Same H H' → H' r = some (.lst [.str "note", .int ((p : Int) + 1)]) → Q (.ref r) H'
  neg : AllL (linesOf x) → topOf (linesOf x) < 0 → ∀ H' r, Same H H' → H' r = some (.lst [.str "lanes", .int (topOf (linesOf x))]) → Q (.ref r) H'
  all : AllL (linesOf x) → 0 ≤ topOf (linesOf x) → AllR (topOf (linesOf x)) (dsOf (linesOf x) ((linesOf x).length - 1)) → ∀ H' r c us, Same H H' → H' r = some (.lst [.str "row", .int (topOf (linesOf x)), .ref c]) → H' c = some (.lst us) → DsT H' us (dsOf (linesOf x) ((linesOf x).length - 1)) → Q (.ref r) H'
  bad : AllL (linesOf x) → 0 ≤ topOf (linesOf x) → ∀ k d, BadR (topOf (linesOf x)) (dsOf (linesOf x) ((linesOf x).length - 1)) k → (dsOf (linesOf x) ((linesOf x).length - 1))[k]? = some d → ∀ H' r b, Same H H' → H' r = some (.lst [.str "letter", .int (k : Int), .ref b]) → H' b = some (.tup (dv d)) → Q (.ref r) H'
end
/-- a line of two words -/
theorem rd_two {cnt : Str → Option Nat} (h1 : ∀ y k, cnt y = some k → k = 1) {l y z : Str} (h : wdsOf l = [y, z]) : rdL cnt l = if (cnt y).isSome = true ∧ isNum (tl z) = true then some (y, [numV z]) else none := by
  unfold rdL
  rw [h]
  show (match cnt y with
    | none => none
    | some k => if ([z].all fun z => isNum (tl z)) = true ∧ [z].length = k then some (y, [z].map numV) else none) = _
  cases e : cnt y with
  | none => rw [if_neg fun q => Bool.noConfusion q.1]
  | some k =>
    have hk := h1 y k e
    subst hk
    have ea : ([z].all fun z => isNum (tl z)) = isNum (tl z) := by rw [List.all_cons, List.all_nil, Bool.and_true]
    show (if ([z].all fun z => isNum (tl z)) = true ∧ 1 = 1 then some (y, [numV z]) else none) = _
    rw [ea]
    by_cases hn : isNum (tl z) = true
    · rw [if_pos ⟨hn, rfl⟩, if_pos ⟨rfl, hn⟩]
    · rw [if_neg fun q => hn q.1, if_neg fun q => hn q.2]
theorem rd_other {cnt : Str → Option Nat} (h1 : ∀ y k, cnt y = some k → k = 1) {l : Str} (h : (wdsOf l).length ≠ 2) : rdL cnt l = none := by
  unfold rdL
  cases e : wdsOf l with
  | nil => rfl
  | cons y r =>
    rw [e] at h
    show (match cnt y with
      | none => none
      | some k => if (r.all fun z => isNum (tl z)) = true ∧ r.length = k then some (y, r.map numV) else none) = none
    cases e2 : cnt y with
    | none => rfl
    | some k =>
      have hk := h1 y k e2
      subst hk
      show (if _ ∧ r.length = 1 then some (y, r.map numV) else none) = none
      rw [if_neg fun q => h (by rw [List.length_cons, q.2])]
theorem c0_one (y : Str) (k : Nat) (h : c0 y = some k) : k = 1 := by
  unfold c0 at h
  split at h
  · exact (Option.some.inj h).symm
  · cases h
theorem cN_one (y : Str) (k : Nat) (h : cN y = some k) : k = 1 := by
  unfold cN at h
  cases e : valN CHG y with
  | none => rw [e] at h; cases h
  | some i =>
    rw [e] at h
    exact (Option.some.inj h).symm
theorem eqV_str (x y : Str) : eqV (.str x) (.str y) = decide (x = y) := rfl
theorem in_c0 (y : Str) : inV (.str y) [.str "row"] = (c0 y).isSome := by
  unfold inV c0
  rw [List.any_cons, List.any_nil, Bool.or_false, eqV_str]
  by_cases e : y = "row"
  · rw [if_pos e, decide_eq_true e.symm]
    rfl
  · rw [if_neg e, decide_eq_false fun z => e z.symm]
    rfl
theorem in_cN (y : Str) : inV (.str y) [.str "cross", .str "cup", .str "cap"] = (cN y).isSome := by
  unfold inV cN valN CHG
  rw [List.any_cons, List.any_cons, List.any_cons, List.any_nil, eqV_str, eqV_str, eqV_str, List.find?_cons, List.find?_cons, List.find?_cons, List.find?_nil]
  cases decide (("cross" : Str) = y) with
  | true => rfl
  | false =>
    cases decide (("cup" : Str) = y) with
    | true => rfl
    | false =>
      cases decide (("cap" : Str) = y) with
      | true => rfl
      | false => rfl
/-- the entries of the first n lines -/
def esOf (ls : List Str) (n : Nat) : List Deed := (List.range n).map fun j => (lineV ls j).getD ("", [])
theorem esOf_succ (ls : List Str) (n : Nat) : esOf ls (n + 1) = esOf ls n ++ [(lineV ls n).getD ("", [])] := by
  unfold esOf
  rw [List.range_succ, List.map_append]
  rfl
theorem esOf_len (ls : List Str) (n : Nat) : (esOf ls n).length = n := by
  unfold esOf
  rw [List.length_map, List.length_range]
theorem esOf_at {ls : List Str} {n j : Nat} (h : j < n) : (esOf ls n)[j]? = some ((lineV ls j).getD ("", [])) := by
  unfold esOf
  rw [List.getElem?_map, List.getElem?_range h]
  rfl
theorem dsOf_at {ls : List Str} {n j : Nat} (h : j < n) : (dsOf ls n)[j]? = some ((lineV ls (j + 1)).getD ("", [])) := by
  unfold dsOf
  rw [List.getElem?_map, List.getElem?_range h]
  rfl
theorem DsT.tail {H : Hp} {v : V} {us : List V} {ls : List Str} {n : Nat} (h : DsT H (v :: us) (esOf ls (n + 1))) : DsT H us (dsOf ls n) := by
  have l1 := h.1
  rw [esOf_len, List.length_cons] at l1
  refine ⟨by rw [dsOf_len]; omega, fun i d hd => ?_⟩
  have hi : i < n := by
    have := (List.getElem?_eq_some_iff.mp hd).1
    rw [dsOf_len] at this
    exact this
  rw [dsOf_at hi] at hd
  obtain ⟨b, e1, e2⟩ := h.2 (i + 1) d (by rw [esOf_at (by omega)]; exact hd)
  exact ⟨b, by rw [List.getElem?_cons_succ] at e1; exact e1, e2⟩
section
variable {P : Program} {w : World} {K : PySem.W.Frag} {mg : Str → Option Value} {base : Heap}
def spOutc (K : PySem.W.Frag) : Sp := fun vs H Q _ => ∃ x : Str, vs = [.str x] ∧ Fit x ∧ Outc K x H Q
set_option maxHeartbeats 4000000 in
theorem ok_outc {f : Addr} {fd : FuncData} (F : Fun K "_law_outcome" "_law_outcome" s__law_outcome f fd) (T : Bi mg)
    {f_n : Addr} {d_n : FuncData} (D_n : Df K mg "_law_number" s__law_number ["_law_word"] f_n d_n) (G_n : FnOk P w K mg base CX0 1 f_n d_n ["_law_word"] spNumX) : FnOk P w K mg base CX0 2 f fd ["_law_note_here"] (spOutc K) := by
  refine F.ok sc__law_outcome (fun vs H Q E h => ?_) (fun cdv A outer s H vs Q E hr h => ?_)
  · obtain ⟨x, rfl, _⟩ := h
    rfl
  · obtain ⟨x, rfl, ⟨hx, hn, hl⟩, qn, qneg, qall, qbad⟩ := h
    refine ⟨_, (pss_cons (ps_set (i := 1) sc__law_outcome.nd rfl (.inl rfl) (pe_split (pv 0) pe_str))
        (pss_cons (ps_set (i := 2) sc__law_outcome.nd rfl (.inl rfl) (pe_lst pa_nil))
        (pss_cons (ps_for PassesOwn.never rfl (pi_range1 (by rfl) T.b_range (pa_cons (pe_callB call_len_seq (by rfl) T.b_len PySem.boot_len (pa_cons (pv 1) pa_nil)) pa_nil)) (pg_name (i := 3) sc__law_outcome.nd rfl (.inl rfl))
        (pss_cons (ps_set (i := 5) sc__law_outcome.nd rfl (.inl rfl) (pe_split (pe_ix (r := rIxL K) ix_list (pv 1) (pv 3) (fun _ _ => rfl)) pe_str))
        (pss_cons (ps_set (i := 6) sc__law_outcome.nd rfl (.inl rfl) (pe_ix (r := rIxL K) ix_list (pe_lst (pa_cons (pe_lst (pa_cons pe_str pa_nil)) (pa_cons (pe_lst (pa_cons pe_str (pa_cons pe_str (pa_cons pe_str pa_nil)))) pa_nil))) (pe_callTy call_int1 (by rfl) T.b_int (by decide +kernel) (pa_cons (pe_cmpR op_gt (pv 3) pe_int (nomark _)) pa_nil)) (fun _ _ => rfl)))
        (pss_cons (ps_if (PW.pt (pw_or (pt_cmpR op_ne (pe_callB call_len_seq (by rfl) T.b_len PySem.boot_len (pa_cons (pv 5) pa_nil)) pe_int (nomark _)) (pw_or (pt_cmpR op_notIn_seq (pe_ix (r := rIxL K) ix_list (pv 5) pe_int (fun _ _ => rfl)) (pv 6) (by rfl)) (pw_or1 (pt_cmpR op_isN (pe_call G_n hr (by rfl) D_n.g D_n.F.kp D_n.b .nil pass0 (pa_cons (pe_ix (r := rIxL K) ix_list (pv 5) pe_int (fun _ _ => rfl)) pa_nil)) pe_non (nomark _)))))) (pss_one (ps_ret (pe_lst (pa_cons pe_str (pa_cons (pe_op op_add (pv 3) pe_int) pa_nil))))) pss_nil)
        (pss_one (ps_expr (pe_bm PySem.F.plainAttrs_list PySem.F.slot_list_append PySem.F.type_list_append mt_append (pv 2) (pa_cons (pe_tup (pa_cons (pe_ix (r := rIxL K) ix_list (pv 5) pe_int (fun _ _ => rfl)) (pa_cons (pe_call G_n hr (by rfl) D_n.g D_n.F.kp D_n.b .nil pass0 (pa_cons (pe_ix (r := rIxL K) ix_list (pv 5) pe_int (fun _ _ => rfl)) pa_nil)) pa_nil))) pa_nil))))))))
        (pss_cons (ps_set (i := 4) sc__law_outcome.nd rfl (.inl rfl) (pe_ix (r := rIxT K) ix_tup (pe_ix (r := rIxL K) ix_list (pv 2) pe_int (fun _ _ => rfl)) pe_int (fun _ _ => rfl)))
        (pss_cons (ps_if (pt_cmpR op_lt (pv 4) pe_int (nomark _)) (pss_one (ps_ret (pe_lst (pa_cons pe_str (pa_cons (pv 4) pa_nil))))) pss_nil)
        (pss_cons (ps_for PassesOwn.never rfl (pi_range2 (by rfl) T.b_range (pa_cons pe_int (pa_cons (pe_callB call_len_seq (by rfl) T.b_len PySem.boot_len (pa_cons (pv 2) pa_nil)) pa_nil))) (pg_name (i := 3) sc__law_outcome.nd rfl (.inl rfl))
        (pss_cons (ps_set (i := 7) sc__law_outcome.nd rfl (.inl rfl) (pe_ix (r := rIxT K) ix_tup (pe_ix (r := rIxL K) ix_list (pv 2) (pv 3) (fun _ _ => rfl)) pe_int (fun _ _ => rfl)))
        (pss_cons (ps_if (PW.pt (pw_or (pt_cmpR op_lt (pe_ix (r := rIxT K) ix_tup (pe_ix (r := rIxL K) ix_list (pv 2) (pv 3) (fun _ _ => rfl)) pe_int (fun _ _ => rfl)) pe_int (nomark _)) (pw_or1 (pt_cmpR op_gt (pe_op op_add (pe_ix (r := rIxT K) ix_tup (pe_ix (r := rIxL K) ix_list (pv 2) (pv 3) (fun _ _ => rfl)) pe_int (fun _ _ => rfl)) (pe_op op_mul pe_int (pe_callTy call_int1 (by rfl) T.b_int (by decide +kernel) (pa_cons (pe_cmpR op_ne (pv 7) pe_str (nomark _)) pa_nil)))) (pv 4) (nomark _))))) (pss_one (ps_ret (pe_lst (pa_cons pe_str (pa_cons (pe_op op_sub (pv 3) pe_int) (pa_cons (pe_ix (r := rIxL K) ix_list (pv 2) (pv 3) (fun _ _ => rfl)) pa_nil)))))) pss_nil)
        (pss_one (ps_set (i := 4) sc__law_outcome.nd rfl (.inl rfl) (pe_op op_sub (pe_op op_add (pv 4) (pe_op op_mul pe_int (pe_callTy call_int1 (by rfl) T.b_int (by decide +kernel) (pa_cons (pe_cmpR op_eq (pv 7) pe_str (nomark _)) pa_nil)))) (pe_op op_mul pe_int (pe_callTy call_int1 (by rfl) T.b_int (by decide +kernel) (pa_cons (pe_cmpR op_eq (pv 7) pe_str (nomark _)) pa_nil)))))))))
        (pss_one (ps_ret (pe_lst (pa_cons pe_str (pa_cons (pe_ix (r := rIxT K) ix_tup (pe_ix (r := rIxL K) ix_list (pv 2) pe_int (fun _ _ => rfl)) pe_int (fun _ _ => rfl)) (pa_cons (pe_slice sl_list (pv 2) (po_some pe_int) po_none) pa_nil)))))))))))), ?_⟩
    obtain ⟨ne, lx, lp⟩ := lines_facts x
    have hls : (Txt.split x "\n") = linesOf x := rfl
    refine ⟨_, rfl, ⟨_, rfl⟩, x, _, rfl, rfl, rfl, Nat.le_trans (Nat.add_le_add_right hx 2) (by decide), fun a na => ?_⟩
    rw [hls]
    generalize linesOf x = ls at *
    have hpos : 0 < ls.length := List.length_pos_iff.mpr ne
    have s1 : Same H (upd H a (.lst (ls.map V.str))) := same_upd na
    have ea : (upd H a (.lst (ls.map V.str))) a = some (.lst (ls.map V.str)) := upd_same
    generalize upd H a (.lst (ls.map V.str)) = H1 at *
    refine ⟨by show 0 ≤ sizeLine; decide, fun r nr => ?_⟩
    have s2 := same_upd (o := .lst []) nr
    have hlen : ((ls.map V.str).length : Int) = (ls.length : Int) := by rw [List.length_map]
    refine ⟨_, rfl, a, _, rfl, .inl (.inl (.inl (s2 _ _ ea))), ((ls.length : Nat) : Int), congrArg (fun z => [V.int z]) hlen, by omega, by omega, for_range (lo := 0) (n := ls.length) (fun i σ H' => (∃ us y3 y4 y5 y6 y7, σ = [some (.str x), some (.ref a), some (.ref r), y3, y4, y5, y6, y7] ∧ H' r = some (.lst us) ∧ DsT H' us (esOf ls i)) ∧ Same H1 (hole H' r) ∧ ∀ q, q < i → (lineV ls q).isSome = true) ⟨⟨[], _, _, _, _, _, rfl, upd_same, .nil⟩, same_hole nr s2, fun q hq => absurd hq (Nat.not_lt_zero q)⟩ (fun i σ H' hi pv => ?_) (fun σ H' pv => ?_)⟩
    · obtain ⟨⟨us, y3, y4, y5, y6, y7, rfl, er, dt⟩, sm, good⟩ := pv
      rw [Int.zero_add]
      have s3 := unhole sm
      obtain ⟨l, hli⟩ : ∃ l, ls[i]? = some l := ⟨_, List.getElem?_eq_getElem hi⟩
      have hlm := hl l (List.mem_of_getElem? hli)
      obtain ⟨w0, wl, wp⟩ := wds_facts l
      have lv : lineV ls i = rdL (if i = 0 then c0 else cN) l := by
        unfold lineV
        rw [hli]
        rfl
      have ati : atI (ls.map V.str) (i : Int) = some (.str l) := atI_nat (by rw [List.getElem?_map, hli]; rfl)
      refine ⟨_, rfl, _, rfl, a, _, _, _, rfl, rfl, .inl (.inl (s3 _ _ ea)), ati, ⟨_, rfl⟩, l, _, rfl, rfl, rfl, Nat.le_trans (Nat.add_le_add_right hlm 2) (by decide), fun b nb => ?_⟩
      rw [show Txt.split l (Str.ofString " ") = wdsOf l from rfl]
      have t1 := same_upd (o := .lst ((wdsOf l).map V.str)) nb
      have eb : upd H' b (.lst ((wdsOf l).map V.str)) b = some (.lst ((wdsOf l).map V.str)) := upd_same
      have er1 := t1 _ _ er
      have dt1 := dt.same t1
      have sm1 : Same H1 (hole (upd H' b (.lst ((wdsOf l).map V.str))) r) := same_hole nr (s3.trans t1)
      generalize upd H' b (.lst ((wdsOf l).map V.str)) = H2 at *
      refine ⟨by show 1 ≤ sizeLine; decide, fun c1 nc1 => ⟨by show 3 ≤ sizeLine; decide, fun c2 nc2 => ⟨by show 2 ≤ sizeLine; decide, fun c3 nc3 => ?_⟩⟩⟩
      have u1 := same_upd (o := .lst [.str "row"]) nc1
      have u2 := same_upd (o := .lst [.str "cross", .str "cup", .str "cap"]) nc2
      have u3 := same_upd (o := .lst [.ref c1, .ref c2]) nc3
      have u13 := (u1.trans u2).trans u3
      obtain ⟨ca, al, ev, eca, fal, hin⟩ : ∃ (ca : Addr) (al : List V), atI [V.ref c1, .ref c2] (if decide (0 < (i : Int)) = true then 1 else 0) = some (.ref ca) ∧ (upd (upd (upd H2 c1 (.lst [.str "row"])) c2 (.lst [.str "cross", .str "cup", .str "cap"])) c3 (.lst [.ref c1, .ref c2])) ca = some (.lst al) ∧ al.all flatV = true ∧ ∀ y, inV (.str y) al = ((if i = 0 then c0 else cN) y).isSome := by
        by_cases h0 : i = 0
        · subst h0
          exact ⟨c1, _, atI_nat (j := 0) rfl, (u2.trans u3) _ _ upd_same, rfl, fun y => by rw [if_pos rfl]; exact in_c0 y⟩
        · rw [decide_eq_true (by omega : 0 < (i : Int)), if_pos rfl]
          exact ⟨c2, _, atI_nat (j := 1) rfl, u3 _ _ upd_same, rfl, fun y => by rw [if_neg h0]; exact in_cN y⟩
      have h1 : ∀ y k, (if i = 0 then c0 else cN) y = some k → k = 1 := by
        split
        · exact c0_one
        · exact cN_one
      generalize (if i = 0 then c0 else cN) = cnt at lv hin h1
      refine ⟨_, rfl, _, _, rfl, rfl, .inr ⟨_, rfl, c3, _, _, _, rfl, rfl, .inl (.inl upd_same), ev, ?_⟩⟩
      have eb3 := u13 _ _ eb
      have er3 := u13 _ _ er1
      have dt3 := dt1.same u13
      have sm3 : Same H1 (hole (upd (upd (upd H2 c1 (.lst [.str "row"])) c2 (.lst [.str "cross", .str "cup", .str "cap"])) c3 (.lst [.ref c1, .ref c2])) r) := same_hole nr ((unhole sm1).trans u13)
      generalize upd (upd (upd H2 c1 (.lst [.str "row"])) c2 (.lst [.str "cross", .str "cup", .str "cap"])) c3 (.lst [.ref c1, .ref c2]) = H3 at *
      clear u1 u2 u3 nc1 nc2 nc3 ev
      have S3 := s1.trans (unhole sm3)
      refine ⟨_, rfl, b, _, rfl, .inl (.inl (.inl eb3)), rfl, _, rfl, ?_⟩
      have bad : lineV ls i = none → ∀ H' r', Same H3 H' → H' r' = some (.lst [.str "note", .int ((i : Int) + 1)]) → Q (.ref r') H' := fun z H' r' s e => qn i ⟨hi, z, good⟩ H' r' (S3.trans s) e
      by_cases h2 : (wdsOf l).length = 2
      rotate_left
      · rw [show (!decide (V.int (((wdsOf l).map V.str).length : Nat) = V.int 2)) = true by rw [decide_eq_false fun z => h2 (by have := V.int.inj z; rw [List.length_map] at this; omega)]; rfl]
        exact ⟨_, rfl, _, _, rfl, rfl, by show 2 ≤ sizeLine; decide, fun r2 nr2 => bad (lv.trans (rd_other h1 h2)) _ r2 (same_upd nr2) upd_same⟩
      rw [show (!decide (V.int (((wdsOf l).map V.str).length : Nat) = V.int 2)) = false by rw [List.length_map, h2]; rfl]
      obtain ⟨y, z, hw⟩ : ∃ y z, wdsOf l = [y, z] := by
        match wdsOf l, h2 with
        | [y, z], _ => exact ⟨y, z, rfl⟩
      rw [hw] at eb3 wp
      have lz := wp z (by simp)
      have lvv := lv.trans (rd_two h1 hw)
      have hB : SqL K H3 b ([y, z].map V.str) := .inl (.inl eb3)
      refine ⟨_, rfl, b, _, _, _, rfl, rfl, hB, at_of (j := 0) rfl rfl, _, rfl, ca, _, rfl, .inl (.inl (.inl eca)), rfl, fal, _, rfl, ?_⟩
      rw [if_pos rfl, hin y]
      by_cases hy : (cnt y).isSome = true
      rotate_left
      · rw [Bool.not_eq_true] at hy
        rw [hy]
        exact ⟨_, rfl, _, _, rfl, rfl, by show 2 ≤ sizeLine; decide, fun r2 nr2 => bad (by rw [lvv, if_neg fun q => by rw [hy] at q; exact Bool.noConfusion q.1]) _ r2 (same_upd nr2) upd_same⟩
      rw [hy]
      refine ⟨_, rfl, b, _, _, _, rfl, rfl, hB, at_of (j := 1) rfl rfl, z, rfl, by omega, rfl, _, rfl, ?_⟩
      by_cases hz : isNum (tl z) = true
      rotate_left
      · rw [if_neg hz, decide_eq_true rfl]
        exact ⟨_, rfl, _, _, rfl, rfl, by show 2 ≤ sizeLine; decide, fun r2 nr2 => bad (by rw [lvv, if_neg fun q => hz q.2]) _ r2 (same_upd nr2) upd_same⟩
      rw [if_pos hz, decide_eq_false fun e => V.noConfusion e]
      refine ⟨_, rfl, .inl ⟨rfl, _, .inl (.inl er3)⟩, _, rfl, b, _, _, _, rfl, rfl, hB, at_of (j := 0) rfl rfl, _, rfl, b, _, _, _, rfl, rfl, hB, at_of (j := 1) rfl rfl, z, rfl, by omega, ?_⟩
      rw [if_pos hz]
      refine ⟨by show 2 ≤ sizeLine; decide, fun e ne_ => ?_⟩
      have ue := same_upd (o := .tup [.str y, .int (numV z)]) ne_
      have ner : e ≠ r := fun q => by rw [q, er3] at ne_; cases ne_
      have sm4 : Same H1 (hole (upd H3 e (.tup [.str y, .int (numV z)])) r) := same_hole nr ((unhole sm3).trans ue)
      have lvs : lineV ls i = some (y, [numV z]) := by rw [lvv, if_pos ⟨hy, hz⟩]
      refine ⟨r, _, _, rfl, rfl, ue _ _ er3, by rw [dt3.1, esOf_len]; exact small1000 (by omega), ⟨us ++ [.ref e], _, _, _, _, _, rfl, upd_same, ?_⟩, by rw [hole_upd]; exact sm4, fun q hq => ?_⟩
      · rw [esOf_succ, lvs]
        have dt4 : DsT (upd (upd H3 e (.tup [.str y, .int (numV z)])) r (.lst (us ++ [.ref e]))) us (esOf ls i) := ⟨dt3.1, fun j d hd => by
          obtain ⟨c, e1, e2⟩ := dt3.2 j d hd
          refine ⟨c, e1, ?_⟩
          rw [upd_ne fun q => by rw [q, er3] at e2; cases e2]
          exact ue _ _ e2⟩
        exact dt4.snoc (by rw [upd_ne ner]; exact upd_same)
      · by_cases hq2 : q = i
        · rw [hq2, lvs]
          rfl
        · exact good q (by omega)
    · obtain ⟨⟨us, y3, y4, y5, y6, y7, rfl, er, dt⟩, sm, good⟩ := pv
      have S0 := s1.trans (unhole sm)
      have al : AllL ls := good
      obtain ⟨n1, hn1⟩ : ∃ n1, ls.length = n1 + 1 := ⟨ls.length - 1, by omega⟩
      rw [show ls.length - 1 = n1 by omega] at qall qbad
      rw [hn1] at dt
      obtain ⟨d0, hd0⟩ : ∃ d0, lineV ls 0 = some d0 := by
        have := good 0 hpos
        cases e : lineV ls 0 with
        | none => rw [e] at this; cases this
        | some d => exact ⟨d, rfl⟩
      have e0 : d0 = (("row" : Str), [numR d0]) := by
        have h := hd0
        unfold lineV at h
        rw [if_pos rfl] at h
        cases e : ls[0]? with
        | none => rw [e] at h; cases h
        | some l =>
          rw [e] at h
          exact c0_form (rdL_form h (hl l (List.mem_of_getElem? e))).1
      have tp : topOf ls = numR d0 := by
        unfold topOf
        rw [hd0]
        rfl
      rw [tp] at qneg qall qbad
      generalize numR d0 = t at *
      subst e0
      obtain ⟨b0, hb0, eb0⟩ := dt.2 0 (("row" : Str), [t]) (by rw [esOf_at (by omega), hd0]; rfl)
      have hB0 : SqT K H' b0 [.str "row", .int t] := .inl (.inl eb0)
      have gds : ∀ d ∈ dsOf ls n1, GoodR d ∧ SmD d := dsOf_good (fun q hq => good q (by omega)) hl
      obtain ⟨us', rfl⟩ : ∃ us', us = .ref b0 :: us' := by
        cases us with
        | nil => cases hb0
        | cons v r =>
          obtain rfl : v = .ref b0 := Option.some.inj hb0
          exact ⟨r, rfl⟩
      have dtl := dt.tail
      have hR : SqL K H' r (.ref b0 :: us') := .inl (.inl er)
      have lus : us'.length = n1 := by rw [dtl.1, dsOf_len]
      refine ⟨_, rfl, r, _, _, _, rfl, rfl, hR, at_of (j := 0) rfl rfl, b0, _, _, _, rfl, rfl, hB0, at_of (j := 1) rfl rfl, ?_⟩
      refine ⟨_, rfl, _, _, rfl, rfl, _, rfl, ite2 (fun c => ?_) (fun c => ?_)⟩
      · have neg : t < 0 := of_decide_eq_true c
        exact ⟨_, rfl, by show 2 ≤ sizeLine; decide, fun r2 nr2 => qneg al neg _ r2 (S0.trans (same_upd nr2)) upd_same⟩
      have t0 : 0 ≤ t := by
        have : ¬ t < 0 := fun z => c (decide_eq_true z)
        omega
      have hl2 : (((V.ref b0 :: us').length : Nat) : Int) = (n1 : Int) + 1 := by rw [List.length_cons, lus]; omega
      refine ⟨_, rfl, r, _, rfl, .inl hR, 1, _, rfl, ⟨by omega, by omega, by omega, by omega⟩, ?_⟩
      rw [show ((((V.ref b0 :: us').length : Nat) : Int) - 1).toNat = n1 by omega]
      refine for_range (lo := 1) (n := n1) (fun i σ H2 => (∃ y3 y5 y6 y7, σ = [some (.str x), some (.ref a), some (.ref r), y3, some (.int (endR t ((dsOf ls n1).take i))), y5, y6, y7]) ∧ H2 = H' ∧ ∀ j d, j < i → (dsOf ls n1)[j]? = some d → okR (endR t ((dsOf ls n1).take j)) d = true) ⟨⟨_, _, _, _, rfl⟩, rfl, fun j d hj => absurd hj (Nat.not_lt_zero j)⟩ (fun i σ H2 hi pv => ?_) (fun σ H2 pv => ?_)
      · obtain ⟨⟨y3, y5, y6, y7, rfl⟩, rfl, ok⟩ := pv
        have hdi : ∃ d, (dsOf ls n1)[i]? = some d := ⟨_, dsOf_at hi⟩
        obtain ⟨d, hdi⟩ := hdi
        obtain ⟨gd, sd⟩ := gds d (List.mem_of_getElem? hdi)
        obtain ⟨g1, n, hn⟩ := id gd
        obtain ⟨b, hb, eb⟩ := dtl.2 i d hdi
        have edv : dv d = [.str d.1, .int n] := by show V.str d.1 :: d.2.map V.int = _; rw [hn]; rfl
        have eb' := eb
        rw [edv] at eb
        have hB : SqT K H2 b [.str d.1, .int n] := .inl (.inl eb)
        have atk : atI (V.ref b0 :: us') (1 + (i : Int)) = some (.ref b) := by
          rw [show (1 + (i : Int)) = ((i + 1 : Nat) : Int) by omega]
          exact atI_nat (by rw [List.getElem?_cons_succ]; exact hb)
        generalize hL : endR t ((dsOf ls n1).take i) = L at *
        have okd : okR L d = decide (0 ≤ n ∧ n < if d.1 = "cup" then L + 1 else L - 1) := by
          unfold okR numR
          rw [hn]
          rfl
        refine ⟨_, rfl, _, rfl, r, _, _, _, rfl, rfl, hR, atk, b, _, _, _, rfl, rfl, hB, at_of (j := 0) rfl rfl, ?_⟩
        refine ⟨_, rfl, _, rfl, r, _, _, _, rfl, rfl, hR, atk, b, _, _, _, rfl, rfl, hB, at_of (j := 1) rfl rfl, _, _, rfl, rfl, _, rfl, ?_⟩
        have refuse : okR L d = false → (tRet (tLst (tCons (tC (.str (Str.ofString "letter"))) (tCons (tOp (rI0 fun i j => .int (i - j)) (tVar 3) (tC (.int 1))) (tCons (tOp (rIxL K) (tVar 2) (tVar 3)) tNil))))) { nx := fun _ H' => Q .non H', rt := Q } [some (.str x), some (.ref a), some (.ref r), some (.int (1 + (i : Int))), some (.int L), y5, y6, some (.str d.1)] H2 := fun nok => by
          refine ⟨_, rfl, _, _, rfl, rfl, _, rfl, _, rfl, r, _, _, _, rfl, rfl, hR, atk, by show 3 ≤ sizeLine; decide, fun r2 nr2 => ?_⟩
          refine qbad al t0 i d ⟨⟨d, hdi, by rw [hL]; exact nok⟩, ok⟩ hdi _ r2 b (S0.trans (same_upd nr2)) ?_ (same_upd nr2 _ _ eb')
          rw [upd_same]
          exact congrArg (fun z => some (HO.lst [.str "letter", .int z, .ref b])) (by omega)
        by_cases hneg : n < 0
        · rw [decide_eq_true hneg]
          exact refuse (by rw [okd]; exact decide_eq_false fun q => by omega)
        rw [decide_eq_false hneg]
        refine ⟨_, rfl, _, rfl, r, _, _, _, rfl, rfl, hR, atk, b, _, _, _, rfl, rfl, hB, at_of (j := 1) rfl rfl, _, rfl, rfl, .inr ⟨_, rfl, _, _, rfl, rfl, .inl ⟨by decide, by decide⟩, _, _, rfl, rfl, _, rfl, _, _, rfl, rfl, _, rfl, ?_⟩⟩
        have e2 : (if (!decide (V.str d.1 = V.str (Str.ofString "cup"))) = true then (1 : Int) else 0) = if d.1 = "cup" then 0 else 1 := by
          by_cases h : d.1 = "cup"
          · rw [if_pos h, h, decide_eq_true rfl]
            rfl
          · rw [if_neg h, decide_eq_false fun q => h (V.str.inj q)]
            rfl
        rw [e2]
        by_cases hok : okR L d = true
        rotate_left
        · rw [Bool.not_eq_true] at hok
          have : ¬ (0 ≤ n ∧ n < if d.1 = "cup" then L + 1 else L - 1) := by
            rw [okd] at hok
            exact of_decide_eq_false hok
          rw [decide_eq_true (by
            by_cases h : d.1 = "cup"
            · rw [if_pos h] at this ⊢
              omega
            · rw [if_neg h] at this ⊢
              omega)]
          exact refuse hok
        have hok2 : 0 ≤ n ∧ n < if d.1 = "cup" then L + 1 else L - 1 := by
          rw [okd] at hok
          exact of_decide_eq_true hok
        rw [decide_eq_false (by
          by_cases h : d.1 = "cup"
          · rw [if_pos h] at hok2 ⊢
            omega
          · rw [if_neg h] at hok2 ⊢
            omega)]
        refine ⟨_, rfl, _, rfl, rfl, .inr ⟨_, rfl, _, _, rfl, rfl, .inl ⟨by decide, by decide⟩, _, _, rfl, rfl, _, rfl, rfl, .inr ⟨_, rfl, _, _, rfl, rfl, .inl ⟨by decide, by decide⟩, _, _, rfl, rfl, ?_⟩⟩⟩
        refine ⟨⟨some (.int (1 + (i : Int))), y5, y6, some (.str d.1), ?_⟩, rfl, fun j d' hj hd' => ?_⟩
        · have e3 := end_next (t := t) hdi
          rw [hL] at e3
          rw [e3]
          refine congrArg (fun z => [some (V.str x), some (.ref a), some (.ref r), some (.int (1 + (i : Int))), some (.int z), y5, y6, some (.str d.1)]) ?_
          rcases good_word gd with e | e | e <;> rw [e]
          · rw [show decide (V.str "cross" = V.str (Str.ofString "cup")) = false by decide +kernel, show decide (V.str "cross" = V.str (Str.ofString "cap")) = false by decide +kernel, show chgR "cross" = 0 by decide +kernel]
            show L + 0 - 0 = L + 0
            omega
          · rw [show decide (V.str "cup" = V.str (Str.ofString "cup")) = true by decide +kernel, show decide (V.str "cup" = V.str (Str.ofString "cap")) = false by decide +kernel, show chgR "cup" = 2 by decide +kernel]
            show L + 2 - 0 = L + 2
            omega
          · rw [show decide (V.str "cap" = V.str (Str.ofString "cup")) = false by decide +kernel, show decide (V.str "cap" = V.str (Str.ofString "cap")) = true by decide +kernel, show chgR "cap" = -2 by decide +kernel]
            show L + 0 - 2 = L + -2
            omega
        · by_cases hj2 : j = i
          · rw [hj2] at hd' ⊢
            rw [hdi] at hd'
            cases hd'
            rw [hL]
            exact hok
          · exact ok j d' (by omega) hd'
      · obtain ⟨⟨y3, y5, y6, y7, rfl⟩, rfl, ok⟩ := pv
        refine ⟨_, rfl, r, _, _, _, rfl, rfl, hR, at_of (j := 0) rfl rfl, b0, _, _, _, rfl, rfl, hB0, at_of (j := 1) rfl rfl, _, rfl, _, rfl, r, _, rfl, hR, fun c2 nc2 => ?_⟩
        rw [cut1]
        have v1 := same_upd (o := .lst us') nc2
        refine ⟨by show 3 ≤ sizeLine; decide, fun r2 nr2 => ?_⟩
        have v2 := same_upd (o := .lst [.str "row", .int t, .ref c2]) nr2
        exact qall al t0 (fun j d hd => ok j d (by have := (List.getElem?_eq_some_iff.mp hd).1; rw [dsOf_len] at this; exact this) hd) _ r2 c2 us' ((S0.trans v1).trans v2) upd_same (v2 _ _ upd_same) (dtl.same (v1.trans v2))

end
end Own

namespace Own
open PySem PySem.Spec PyProof.Rows L2
/-! ### isinstance(e, c), e caught and of one of several classes; xs.count(v) of flat values -/
def rIsXs (K : PySem.W.Frag) (Ds : List Addr) (a : Addr) (cls : Value) (d : Option Addr) : List V → Hp → VK → Prop := fun xs H Q => ∃ D, D ∈ Ds ∧ rIsX K D a cls d xs H Q
theorem call_isXs {X : Cx} {a : Addr} {Ds : List Addr} {oe : Obj} {cls : Value} {d : Option Addr} {pn : List (Addr × Obj)} (C : ∀ D, D ∈ Ds → ExcC X.K D) (hz : Zc cls d oe) (hf : ∃ vs, oe.data = .fields vs) : CallR (X.suite a ((a, oe) :: pn)) (.builtin "isinstance") (rIsXs X.K Ds a cls d) := by
  intro pins s σ H xs us Q I r h
  obtain ⟨D, m, h⟩ := h
  exact call_isX (C D m) hz hf pins s σ H xs us Q I r h
theorem count_rel {ys : List V} {us : List Value} {y : V} (r : Vals ys us) (f : ys.all flatV = true) : us.countP (eqU y) = ys.countP fun z => eqV z y := by
  induction r with
  | nil => rfl
  | cons r1 r2 ih =>
    rw [List.all_cons, Bool.and_eq_true] at f
    rw [List.countP_cons, List.countP_cons, ih f.2, eqU_of r1 f.1]
def rCntV (K : PySem.W.Frag) : V → List V → Hp → VK → Prop := fun x xs H Q => ∃ (a : Addr) (ys : List V) (y : V), x = V.ref a ∧ xs = [y] ∧ SqL K H a ys ∧ flatV y = true ∧ ys.all flatV = true ∧ Q (.int ((ys.countP fun z => eqV z y : Nat) : Int)) H
theorem mt_countV {X : Cx} : MtR X "list.count" (rCntV X.K) := by
  intro pins s σ H x xs v us Q I rx rxs h
  obtain ⟨a, ys, y, rfl, rfl, hs, fy, fys, q⟩ := h
  cases rx
  obtain ⟨u, rfl, ru⟩ := rxs.one
  obtain ⟨its, rv, ⟨⟨cls, dd, data, sl⟩, n, ho, hc, hdn, hd⟩, hlen⟩ := I.list hs
  simp only at hc hd
  subst hc hd
  refine call_meets PySem.F.slot_list_count ⟨_, ho, rfl⟩ PySem.F.entry_list_count (PySem.F.args_list_count_2 _ _)
    (SeqAt.list_countAt a its.toArray n dd sl u (eqU y)) ⟨ho, fun z hz => mem_eqAt ru fy rv fys z (by simpa using hz), ?_⟩
  have ec : its.toArray.toList.countP (eqU y) = ys.countP fun z => eqV z y := count_rel rv fys
  refine ⟨.int ((ys.countP fun z => eqV z y : Nat) : Int), H, I.tok _, ⟨s.toks, ?_⟩, q⟩
  show Value.int ((its.toArray.toList.countP (eqU y) : Nat) : Int) s.toks = Value.int ((ys.countP fun z => eqV z y : Nat) : Int) s.toks
  rw [ec]
theorem mt_countVK {X : Cx} {K : PySem.W.Frag} (h : X.K = K) : MtR X "list.count" (rCntV K) := by
  subst h
  exact mt_countV
theorem mt_indexK {X : Cx} {K : PySem.W.Frag} (h : X.K = K) : MtR X "list.index" (rIndex K) := by
  subst h
  exact mt_index
end Own

namespace Own
open PySem PySem.Spec PyProof.Rows L2 TL
/-- what the law knows of the three classes of errors -/
structure XcR (K : PySem.W.Frag) (D D1 D2 RE : Addr) : Prop where
  c : ∀ Z, Z ∈ [D, D1, D2] → ExcC K Z
  x : ∀ Z, Z ∈ [D, D1, D2] → XfC K Z
  n0 : PySem.W.findIn K (.ref D) "line" = some none
  n1 : PySem.W.findIn K (.ref D1) "number" = some none
  n2 : PySem.W.findIn K (.ref D2) "place" = some none
  n3 : PySem.W.findIn K (.ref D2) "letter" = some none
  k0 : PySem.W.kitOne K (.ref D) (.ref D) = some true
  k01 : PySem.W.kitOne K (.ref D) (.ref D1) = some false
  k02 : PySem.W.kitOne K (.ref D) (.ref D2) = some false
  k1 : PySem.W.kitOne K (.ref D1) (.ref D1) = some true
  k10 : PySem.W.kitOne K (.ref D1) (.ref D) = some false
  k12 : PySem.W.kitOne K (.ref D1) (.ref D2) = some false
  k2 : PySem.W.kitOne K (.ref D2) (.ref D2) = some true
  k20 : PySem.W.kitOne K (.ref D2) (.ref D) = some false
  k21 : PySem.W.kitOne K (.ref D2) (.ref D1) = some false
  v0 : PySem.W.kitOne K (.ref D) (.type "ValueError") = some true
  v1 : PySem.W.kitOne K (.ref D1) (.type "ValueError") = some true
  v2 : PySem.W.kitOne K (.ref D2) (.type "ValueError") = some true
  e0 : PySem.W.exmOne K (.ref D) (.ref RE) = some true
  e1 : PySem.W.exmOne K (.ref D1) (.ref RE) = some true
  e2 : PySem.W.exmOne K (.ref D2) (.ref RE) = some true
theorem XcR.m0 {D D1 D2 : Addr} : D ∈ [D, D1, D2] := List.mem_cons_self
theorem XcR.m1 {D D1 D2 : Addr} : D1 ∈ [D, D1, D2] := List.mem_cons_of_mem _ List.mem_cons_self
theorem XcR.m2 {D D1 D2 : Addr} : D2 ∈ [D, D1, D2] := List.mem_cons_of_mem _ (List.mem_cons_of_mem _ List.mem_cons_self)
def rLenS (K : PySem.W.Frag) : List V → Hp → VK → Prop := fun xs H Q => ∃ p ys, xs = [.ref p] ∧ (SqL K H p ys ∨ SqT K H p ys) ∧ Q (.int ys.length) H
theorem sc_rf : FnScope ["_law_note_here", "_law_kinds", "e"] ["_law_note_here"] (defScope s__law_refusal) := ⟨rfl, rfl, rfl, by decide +kernel, rfl, by decide +kernel, by decide +kernel⟩
def rf_s (K : PySem.W.Frag) (D D1 D2 : Addr) (a : Addr) (cls : Value) (d : Option Addr) : TS := (tSeq (tAsg (tLst (tCons (tCB (rIsXs K [D, D1, D2] a cls d) (tCons (tVar 2) (tCons (tC (.ref D)) tNil))) (tCons (tCB (rIsXs K [D, D1, D2] a cls d) (tCons (tVar 2) (tCons (tC (.ref D1)) tNil))) (tCons (tCB (rIsXs K [D, D1, D2] a cls d) (tCons (tVar 2) (tCons (tC (.ref D2)) tNil))) tNil)))) (gName 1))
  (tSeq (tIfS (tOr (tNot (tB (tCB (rIsXs K [D, D1, D2] a cls d) (tCons (tVar 2) (tCons (tC (.ty "ValueError")) tNil))))) (tTest (tOp rNe (tBM K "list" (rCntV K) (tVar 1) (tCons (tC (.bl true)) tNil)) (tC (.int 1))))) (tRet (tC .non)) tNext)
  (tSeq (tIfS (tAnd (tB (tOp (rIxL K) (tVar 1) (tC (.int 0)))) (tB (tCallS spWhole (fun _ => E0) (tCons (tXf a cls d D "line" (tVar 2)) tNil)))) (tRet (tLst (tCons (tC (.str "note")) (tCons (tXf a cls d D "line" (tVar 2)) tNil)))) tNext)
  (tSeq (tIfS (tAnd (tB (tOp (rIxL K) (tVar 1) (tC (.int 1)))) (tB (tCallS spWhole (fun _ => E0) (tCons (tXf a cls d D1 "number" (tVar 2)) tNil)))) (tRet (tLst (tCons (tC (.str "lanes")) (tCons (tXf a cls d D1 "number" (tVar 2)) tNil)))) tNext)
  (tIfS (tAnd (tB (tOp (rIxL K) (tVar 1) (tC (.int 2)))) (tAnd (tB (tCallS spWhole (fun _ => E0) (tCons (tXf a cls d D2 "place" (tVar 2)) tNil))) (tAnd (tB (tCB (rIsi K) (tCons (tXf a cls d D2 "letter" (tVar 2)) (tCons (tC (.ty "tuple")) tNil)))) (tTest (tOp rEq (tCB (rLenS K) (tCons (tXf a cls d D2 "letter" (tVar 2)) tNil)) (tC (.int 2))))))) (tIfS (tB (tCallS spWhole (fun _ => E0) (tCons (tOp (rIxT K) (tXf a cls d D2 "letter" (tVar 2)) (tC (.int 1))) tNil))) (tRet (tLst (tCons (tC (.str "letter")) (tCons (tXf a cls d D2 "place" (tVar 2)) (tCons (tXf a cls d D2 "letter" (tVar 2)) tNil))))) tNext) tNext)))))
/-- what _law_refusal tells of a text -/
structure Refu (x : Str) (H : Hp) (Q : VK) : Prop where
  note : ∀ p, BadL (linesOf x) p → ∀ H' r, Same H H' → H' r = some (.lst [.str "note", .int ((p : Int) + 1)]) → Q (.ref r) H'
  neg : AllL (linesOf x) → topOf (linesOf x) < 0 → ∀ H' r, Same H H' → H' r = some (.lst [.str "lanes", .int (topOf (linesOf x))]) → Q (.ref r) H'
  all : AllL (linesOf x) → 0 ≤ topOf (linesOf x) → AllR (topOf (linesOf x)) (dsOf (linesOf x) ((linesOf x).length - 1)) → ∀ H', Same H H' → Q .non H'
  bad : AllL (linesOf x) → 0 ≤ topOf (linesOf x) → ∀ k d, BadR (topOf (linesOf x)) (dsOf (linesOf x) ((linesOf x).length - 1)) k → (dsOf (linesOf x) ((linesOf x).length - 1))[k]? = some d → GoodR d → ∀ H' r b, Same H H' → H' r = some (.lst [.str "letter", .int (k : Int), .ref b]) → H' b = some (.tup (dv d)) → Q (.ref r) H'
def spRefu : Sp := fun vs H Q _ => ∃ x : Str, vs = [.str x] ∧ Fit x ∧ Refu x H Q
section
variable {P : Program} {w : World} {K : PySem.W.Frag} {mg : Str → Option Value} {base : Heap} {C D D1 D2 RE : Addr}
theorem okH_whole {f : Addr} {fd : FuncData} (F : Fun K "_law_whole" "_law_whole" s__law_whole f fd) (T : Bi mg) : L2H.FnH P w K mg base CX0 1 f fd ["_law_value"] spWhole := by
  refine okH F sc__law_whole (fun vs H Q E h => ?_) (fun cdv A outer s H vs Q E p hot hr h => ?_)
  · obtain ⟨i, rfl, _⟩ := h
    rfl
  · obtain ⟨i, rfl, q⟩ := h
    refine ⟨_, (pss_one (ps_ret (pe_and (pe_callB call_isi (by rfl) T.b_isinstance (by decide +kernel) (pa_cons (pv 0) (pa_cons (pe_bltn (v := .ty "int") (by rfl) T.b_int (by decide +kernel) rfl) pa_nil))) (pe_one (pe_not (pe_callB call_isi (by rfl) T.b_isinstance (by decide +kernel) (pa_cons (pv 0) (pa_cons (pe_bltn (v := .ty "bool") (by rfl) T.b_bool (by decide +kernel) rfl) pa_nil)))))))), ?_⟩
    refine ⟨_, rfl, _, _, _, _, true, rfl, .ty "int", .base (.int i), kit_ty (by decide +kernel), true, rfl, ?_⟩
    exact ⟨_, rfl, _, _, _, _, false, rfl, .ty "bool", .base (.int i), kit_ty (by decide +kernel), false, rfl, q⟩
set_option maxHeartbeats 2000000 in
theorem ok_refu {f : Addr} {fd : FuncData} (F : Fun K "_law_refusal" "_law_refusal" s__law_refusal f fd) (T : Bi mg) (T_ve : mg "ValueError" = none) (U : mg "NoteError" = some (.ref D)) (U1 : mg "BadLanes" = some (.ref D1)) (U2 : mg "BadLetter" = some (.ref D2)) (UR : mg "RimError" = some (.ref RE)) (X_c : XcR K D D1 D2 RE)
    {f_p : Addr} {d_p : FuncData} (D_p : Df K mg "parse_row" s_parse_row ["text"] f_p d_p) (G_p : FnOk P w K mg base (L2N.CX P w) 7 f_p d_p ["text"] (spParse C D D1 D2))
    {f_w : Addr} {d_w : FuncData} (D_w : Df K mg "_law_whole" s__law_whole ["_law_value"] f_w d_w) (H_w : L2H.FnH P w K mg base CX0 1 f_w d_w ["_law_value"] spWhole) : FnOk P w K mg base CX0 8 f fd ["_law_note_here"] spRefu := by
  refine F.ok sc_rf (fun vs H Q E h => ?_) (fun cdv A outer s H vs Q E hr h => ?_)
  · obtain ⟨x, rfl, _⟩ := h
    rfl
  · obtain ⟨x, rfl, ⟨hx, hn, hl⟩, qn, qneg, qall, qbad⟩ := h
    refine ⟨_, (pss_cons (L2N.ps_try_as (i := 2) (Wout := fun _ _ _ _ => False) rfl rfl sc_rf.nd rfl rfl ⟨by rfl, by decide, .inl UR⟩ takesN
        (tb := fun W => tDrop (tCallS (spParse C D D1 D2) (WE W) (tCons (tVar 0) tNil)))
        (ts := fun a cls d => rf_s K D D1 D2 a cls d)
        (fun W pn xe tk _ => pss_one (ps_expr (pe_callS G_p (hr.mono (by decide)) (by rfl) D_p.g D_p.F.kp D_p.b (fun σ => L2N.passAt tk σ) (pa_cons (pv 0) pa_nil))))
        (fun a oe cls d pn hz hf => (pss_cons (ps_set (i := 1) sc_rf.nd rfl (.inl rfl) (pe_lst (pa_cons (pe_callB (call_isXs X_c.c hz.zc hf) (by rfl) T.b_isinstance (by decide +kernel) (pa_cons (pv 2) (pa_cons (pe_glob (v := .ref D) (by rfl) U rfl) pa_nil))) (pa_cons (pe_callB (call_isXs X_c.c hz.zc hf) (by rfl) T.b_isinstance (by decide +kernel) (pa_cons (pv 2) (pa_cons (pe_glob (v := .ref D1) (by rfl) U1 rfl) pa_nil))) (pa_cons (pe_callB (call_isXs X_c.c hz.zc hf) (by rfl) T.b_isinstance (by decide +kernel) (pa_cons (pv 2) (pa_cons (pe_glob (v := .ref D2) (by rfl) U2 rfl) pa_nil))) pa_nil)))))
        (pss_cons (ps_if (PW.pt (pw_or (pt_not (pt_val (pe_callB (call_isXs X_c.c hz.zc hf) (by rfl) T.b_isinstance (by decide +kernel) (pa_cons (pv 2) (pa_cons (pe_bltn (v := .ty "ValueError") (by rfl) T_ve (by decide +kernel) rfl) pa_nil))))) (pw_or1 (pt_cmpR op_ne (pe_bm PySem.F.plainAttrs_list PySem.F.slot_list_count PySem.F.type_list_count mt_countV (pv 1) (pa_cons pe_bl pa_nil)) pe_int (nomark _))))) (pss_one (ps_ret pe_non)) pss_nil)
        (pss_cons (ps_if (PW.pt (pw_and (pt_val (pe_ix (r := rIxL K) ix_list (pv 1) pe_int (fun _ _ => rfl))) (pw_and1 (pt_val (L2H.pe_callH H_w ⟨(L2H.RoomH.mono (j := 1) (L2H.roomH_of hr) (by decide)).dp, (L2H.RoomH.mono (j := 1) (L2H.roomH_of hr) (by decide)).un⟩ (hotS hz hf) (by rfl) D_w.g D_w.F.kp D_w.b (E := fun _ => E0) (fun _ => pass0A) (pa_cons (pe_xf (X_c.x _ XcR.m0) X_c.n0 hz.zc hf (pv 2)) pa_nil)))))) (pss_one (ps_ret (pe_lst (pa_cons pe_str (pa_cons (pe_xf (X_c.x _ XcR.m0) X_c.n0 hz.zc hf (pv 2)) pa_nil))))) pss_nil)
        (pss_cons (ps_if (PW.pt (pw_and (pt_val (pe_ix (r := rIxL K) ix_list (pv 1) pe_int (fun _ _ => rfl))) (pw_and1 (pt_val (L2H.pe_callH H_w ⟨(L2H.RoomH.mono (j := 1) (L2H.roomH_of hr) (by decide)).dp, (L2H.RoomH.mono (j := 1) (L2H.roomH_of hr) (by decide)).un⟩ (hotS hz hf) (by rfl) D_w.g D_w.F.kp D_w.b (E := fun _ => E0) (fun _ => pass0A) (pa_cons (pe_xf (X_c.x _ XcR.m1) X_c.n1 hz.zc hf (pv 2)) pa_nil)))))) (pss_one (ps_ret (pe_lst (pa_cons pe_str (pa_cons (pe_xf (X_c.x _ XcR.m1) X_c.n1 hz.zc hf (pv 2)) pa_nil))))) pss_nil)
        (pss_one (ps_if (PW.pt (pw_and (pt_val (pe_ix (r := rIxL K) ix_list (pv 1) pe_int (fun _ _ => rfl))) (pw_and (pt_val (L2H.pe_callH H_w ⟨(L2H.RoomH.mono (j := 1) (L2H.roomH_of hr) (by decide)).dp, (L2H.RoomH.mono (j := 1) (L2H.roomH_of hr) (by decide)).un⟩ (hotS hz hf) (by rfl) D_w.g D_w.F.kp D_w.b (E := fun _ => E0) (fun _ => pass0A) (pa_cons (pe_xf (X_c.x _ XcR.m2) X_c.n2 hz.zc hf (pv 2)) pa_nil))) (pw_and (pt_val (pe_callB call_isi (by rfl) T.b_isinstance (by decide +kernel) (pa_cons (pe_xf (X_c.x _ XcR.m2) X_c.n3 hz.zc hf (pv 2)) (pa_cons (pe_bltn (v := .ty "tuple") (by rfl) T.b_tuple (by decide +kernel) rfl) pa_nil)))) (pw_and1 (pt_cmpR op_eq (pe_callB call_len_seq (by rfl) T.b_len PySem.boot_len (pa_cons (pe_xf (X_c.x _ XcR.m2) X_c.n3 hz.zc hf (pv 2)) pa_nil)) pe_int (nomark _))))))) (pss_one (ps_if (pt_val (L2H.pe_callH H_w ⟨(L2H.RoomH.mono (j := 1) (L2H.roomH_of hr) (by decide)).dp, (L2H.RoomH.mono (j := 1) (L2H.roomH_of hr) (by decide)).un⟩ (hotS hz hf) (by rfl) D_w.g D_w.F.kp D_w.b (E := fun _ => E0) (fun _ => pass0A) (pa_cons (pe_ix (r := rIxT K) ix_tup (pe_xf (X_c.x _ XcR.m2) X_c.n3 hz.zc hf (pv 2)) pe_int (fun _ _ => rfl)) pa_nil))) (pss_one (ps_ret (pe_lst (pa_cons pe_str (pa_cons (pe_xf (X_c.x _ XcR.m2) X_c.n2 hz.zc hf (pv 2)) (pa_cons (pe_xf (X_c.x _ XcR.m2) X_c.n3 hz.zc hf (pv 2)) pa_nil)))))) pss_nil)) pss_nil))))))))
        (pss_one (ps_ret pe_non))), ?_⟩
    refine ⟨_, rfl, x, rfl, ⟨hx, hn, hl⟩, fun p hb H1 d s1 nd => ?_, fun al ng H1 d s1 nd => ?_, fun al nn ar H1 p s1 hp => ?_, fun al nn k dd bk hk H0 b s0 hb H1 d s01 nd => ?_⟩
    · refine ⟨true, X_c.e0, fun _ ax na => ?_, fun z => by cases z⟩
      have sd := same_upd (o := .xd (flE ["line"] [.int ((p : Int) + 1)])) nd
      have ed : upd H1 d (.xd (flE ["line"] [.int ((p : Int) + 1)])) d = some (.xd (flE ["line"] [.int ((p : Int) + 1)])) := upd_same
      generalize upd H1 d (.xd (flE ["line"] [.int ((p : Int) + 1)])) = H2 at *
      refine ⟨_, rfl, D, XcR.m0, rfl, d, .ref D, .ref D, true, _, rfl, rfl, ed, fun u h => h, X_c.k0, ?_⟩
      refine ⟨_, rfl, D, XcR.m0, rfl, d, .ref D1, .ref D1, false, _, rfl, rfl, ed, fun u h => h, X_c.k01, ?_⟩
      refine ⟨_, rfl, D, XcR.m0, rfl, d, .ref D2, .ref D2, false, _, rfl, rfl, ed, fun u h => h, X_c.k02, ?_⟩
      refine ⟨by show 3 ≤ sizeLine; decide, fun l nl => ?_⟩
      have sl := same_upd (o := .lst [.bl true, .bl false, .bl false]) nl
      have ed2 := sl _ _ ed
      have el : upd H2 l (.lst [.bl true, .bl false, .bl false]) l = some (.lst [.bl true, .bl false, .bl false]) := upd_same
      generalize upd H2 l (.lst [.bl true, .bl false, .bl false]) = H3 at *
      refine ⟨_, rfl, D, XcR.m0, rfl, d, .ty "ValueError", .type "ValueError", true, _, rfl, rfl, ed2, fun u h => h, X_c.v0, true, rfl, ?_⟩
      refine ⟨_, rfl, .inl ⟨rfl, _, .inl (.inl el)⟩, l, _, _, rfl, rfl, .inl (.inl el), rfl, rfl, rfl, _, rfl, ?_⟩
      refine ⟨_, rfl, l, _, _, _, rfl, rfl, .inl (.inl el), at_of (j := 0) rfl rfl, _, rfl, ?_⟩
      refine ⟨_, rfl, rfl, rfl, d, _, _, rfl, ed2, rfl, _, rfl, true, rfl, ?_⟩
      refine ⟨_, rfl, rfl, rfl, d, _, _, rfl, ed2, rfl, by show 2 ≤ sizeLine; decide, fun r nr => ?_⟩
      exact qn p hb _ r (((s1.trans sd).trans sl).trans (same_upd nr)) upd_same
    · refine ⟨true, X_c.e1, fun _ ax na => ?_, fun z => by cases z⟩
      have sd := same_upd (o := .xd (flE ["number"] [.int (topOf (linesOf x))])) nd
      have ed : upd H1 d (.xd (flE ["number"] [.int (topOf (linesOf x))])) d = some (.xd (flE ["number"] [.int (topOf (linesOf x))])) := upd_same
      generalize upd H1 d (.xd (flE ["number"] [.int (topOf (linesOf x))])) = H2 at *
      refine ⟨_, rfl, D1, XcR.m1, rfl, d, .ref D, .ref D, false, _, rfl, rfl, ed, fun u h => h, X_c.k10, ?_⟩
      refine ⟨_, rfl, D1, XcR.m1, rfl, d, .ref D1, .ref D1, true, _, rfl, rfl, ed, fun u h => h, X_c.k1, ?_⟩
      refine ⟨_, rfl, D1, XcR.m1, rfl, d, .ref D2, .ref D2, false, _, rfl, rfl, ed, fun u h => h, X_c.k12, ?_⟩
      refine ⟨by show 3 ≤ sizeLine; decide, fun l nl => ?_⟩
      have sl := same_upd (o := .lst [.bl false, .bl true, .bl false]) nl
      have ed2 := sl _ _ ed
      have el : upd H2 l (.lst [.bl false, .bl true, .bl false]) l = some (.lst [.bl false, .bl true, .bl false]) := upd_same
      generalize upd H2 l (.lst [.bl false, .bl true, .bl false]) = H3 at *
      refine ⟨_, rfl, D1, XcR.m1, rfl, d, .ty "ValueError", .type "ValueError", true, _, rfl, rfl, ed2, fun u h => h, X_c.v1, true, rfl, ?_⟩
      refine ⟨_, rfl, .inl ⟨rfl, _, .inl (.inl el)⟩, l, _, _, rfl, rfl, .inl (.inl el), rfl, rfl, rfl, _, rfl, ?_⟩
      refine ⟨_, rfl, l, _, _, _, rfl, rfl, .inl (.inl el), at_of (j := 0) rfl rfl, _, rfl, ?_⟩
      refine ⟨_, rfl, l, _, _, _, rfl, rfl, .inl (.inl el), at_of (j := 1) rfl rfl, _, rfl, ?_⟩
      refine ⟨_, rfl, rfl, rfl, d, _, _, rfl, ed2, rfl, _, rfl, true, rfl, ?_⟩
      refine ⟨_, rfl, rfl, rfl, d, _, _, rfl, ed2, rfl, by show 2 ≤ sizeLine; decide, fun r nr => ?_⟩
      exact qneg al ng _ r (((s1.trans sd).trans sl).trans (same_upd nr)) upd_same
    · exact qall al nn ar _ s1
    · refine ⟨true, X_c.e2, fun _ ax na => ?_, fun z => by cases z⟩
      have sd := same_upd (o := .xd (flE ["place", "letter"] [.int (k : Int), .ref b])) nd
      have ed : upd H1 d (.xd (flE ["place", "letter"] [.int (k : Int), .ref b])) d = some (.xd (flE ["place", "letter"] [.int (k : Int), .ref b])) := upd_same
      generalize upd H1 d (.xd (flE ["place", "letter"] [.int (k : Int), .ref b])) = H2 at *
      refine ⟨_, rfl, D2, XcR.m2, rfl, d, .ref D, .ref D, false, _, rfl, rfl, ed, fun u h => h, X_c.k20, ?_⟩
      refine ⟨_, rfl, D2, XcR.m2, rfl, d, .ref D1, .ref D1, false, _, rfl, rfl, ed, fun u h => h, X_c.k21, ?_⟩
      refine ⟨_, rfl, D2, XcR.m2, rfl, d, .ref D2, .ref D2, true, _, rfl, rfl, ed, fun u h => h, X_c.k2, ?_⟩
      refine ⟨by show 3 ≤ sizeLine; decide, fun l nl => ?_⟩
      have sl := same_upd (o := .lst [.bl false, .bl false, .bl true]) nl
      have ed2 := sl _ _ ed
      have el : upd H2 l (.lst [.bl false, .bl false, .bl true]) l = some (.lst [.bl false, .bl false, .bl true]) := upd_same
      generalize upd H2 l (.lst [.bl false, .bl false, .bl true]) = H3 at *
      refine ⟨_, rfl, D2, XcR.m2, rfl, d, .ty "ValueError", .type "ValueError", true, _, rfl, rfl, ed2, fun u h => h, X_c.v2, true, rfl, ?_⟩
      refine ⟨_, rfl, .inl ⟨rfl, _, .inl (.inl el)⟩, l, _, _, rfl, rfl, .inl (.inl el), rfl, rfl, rfl, _, rfl, ?_⟩
      refine ⟨_, rfl, l, _, _, _, rfl, rfl, .inl (.inl el), at_of (j := 0) rfl rfl, _, rfl, ?_⟩
      refine ⟨_, rfl, l, _, _, _, rfl, rfl, .inl (.inl el), at_of (j := 1) rfl rfl, _, rfl, ?_⟩
      refine ⟨_, rfl, l, _, _, _, rfl, rfl, .inl (.inl el), at_of (j := 2) rfl rfl, _, rfl, ?_⟩
      have gd : GoodR dd := by
        obtain ⟨i, hi⟩ := List.mem_iff_getElem?.mp (List.mem_of_getElem? hk)
        exact (dsOf_good (fun q hq => al q (by have := (List.getElem?_eq_some_iff.mp hk).1; rw [dsOf_len] at this; omega)) hl dd (List.mem_of_getElem? hk)).1
      obtain ⟨g1, n, hn1⟩ := id gd
      have edv : dv dd = [.str dd.1, .int n] := by show V.str dd.1 :: dd.2.map V.int = _; rw [hn1]; rfl
      have hb3 := sl _ _ (sd _ _ (s01 _ _ hb))
      have hb4 := hb3
      rw [edv] at hb4
      refine ⟨_, rfl, rfl, rfl, d, _, _, rfl, ed2, rfl, _, rfl, true, rfl, ?_⟩
      refine ⟨_, rfl, rfl, rfl, d, _, _, rfl, ed2, rfl, _, _, _, _, true, rfl, .ty "tuple", .base (.tup hb4), kit_ty (by decide +kernel), true, rfl, ?_⟩
      refine ⟨_, rfl, rfl, rfl, d, _, _, rfl, ed2, rfl, b, _, rfl, .inr (.inl (.inl hb4)), rfl, _, rfl, ?_⟩
      refine ⟨_, rfl, rfl, rfl, d, _, _, rfl, ed2, rfl, b, _, _, _, rfl, rfl, .inl (.inl hb4), at_of (j := 1) rfl rfl, _, rfl, true, rfl, ?_⟩
      refine ⟨_, rfl, rfl, rfl, d, _, _, rfl, ed2, rfl, _, rfl, rfl, rfl, d, _, _, rfl, ed2, rfl, by show 3 ≤ sizeLine; decide, fun r nr => ?_⟩
      exact qbad al nn k dd bk hk gd _ r b ((((s0.trans s01).trans sd).trans sl).trans (same_upd nr)) upd_same (same_upd nr _ _ hb3)

theorem badL_eq {ls : List Str} {p q : Nat} (h : BadL ls p) (k : BadL ls q) : p = q := by
  by_cases h1 : p < q
  · have := k.2.2 p h1
    rw [h.2.1] at this
    cases this
  · by_cases h2 : q < p
    · have := h.2.2 q h2
      rw [k.2.1] at this
      cases this
    · omega
theorem badL_all {ls : List Str} {p : Nat} (h : BadL ls p) (k : AllL ls) : False := by
  have := k p h.1
  rw [h.2.1] at this
  cases this
theorem badR_eq {t : Int} {ds : List Deed} {p q : Nat} (h : BadR t ds p) (k : BadR t ds q) : p = q := by
  obtain ⟨⟨d, hd, hn⟩, ha⟩ := h
  obtain ⟨⟨e, he, kn⟩, ka⟩ := k
  by_cases h1 : p < q
  · have := ka p d h1 hd
    rw [hn] at this
    cases this
  · by_cases h2 : q < p
    · have := ha q e h2 he
      rw [kn] at this
      cases this
    · omega
theorem badR_all {t : Int} {ds : List Deed} {p : Nat} (h : BadR t ds p) (k : AllR t ds) : False := by
  obtain ⟨⟨d, hd, hn⟩, _⟩ := h
  have := k p d hd
  rw [hn] at this
  cases this
theorem rEq_same {K : PySem.W.Frag} {a b : V} {d : PyData} {H : Hp} {Q : VK} (h1 : Dp K H a d) (h2 : Dp K H b d) (c : d.canLay0 = true) (dp : d.depth ≤ 64) (q : Q (.bl true) H) : rEqD K a b H Q :=
  ⟨d, d, h1, h2, shaped_of c dp, shaped_of c dp, by rw [eqv_of c]; exact q⟩
theorem two_dp {K : PySem.W.Frag} {H : Hp} {r : Addr} {x : Str} {i : Int} (h : H r = some (.lst [.str x, .int i])) : Dp K H (.ref r) (.list [.str x, .int i]) := .lst (.inl (.inl h)) (.cons (.str _) (.cons (.int _) .nil))
theorem letter_dp {K : PySem.W.Frag} {H : Hp} {r b : Addr} {x : Str} {i : Int} {d : Deed} (h : H r = some (.lst [.str x, .int i, .ref b])) (k : H b = some (.tup (dv d))) : Dp K H (.ref r) (.list [.str x, .int i, dD d]) := .lst (.inl (.inl h)) (.cons (.str _) (.cons (.int _) (.cons (dD_dp k) .nil)))
theorem two_lay {x : Str} {i : Int} (h : PyData.strOk x = true) : (PyData.list [.str x, .int i]).canLay0 = true ∧ (PyData.list [.str x, .int i]).depth ≤ 64 := by
  refine ⟨?_, by show 1 ≤ 64; decide⟩
  show (PyData.strOk x && (true && true)) = true
  rw [h]
  rfl
theorem letter_lay {x : Str} {i : Int} {d : Deed} (h : PyData.strOk x = true) (g : GoodR d) : (PyData.list [.str x, .int i, dD d]).canLay0 = true ∧ (PyData.list [.str x, .int i, dD d]).depth ≤ 64 := by
  obtain ⟨h1, h2⟩ := dD_lay d g.ok
  refine ⟨?_, ?_⟩
  · show (PyData.strOk x && (true && (PyData.canLay0 (dD d) && true))) = true
    rw [h, h1]
    rfl
  · show max (PyData.depth (.str x)) (max (PyData.depth (.int i)) (max (PyData.depth (dD d)) 0)) + 1 ≤ 64
    have e1 : PyData.depth (.str x) = 0 := rfl
    have e2 : PyData.depth (.int i) = 0 := rfl
    omega
def spReads : Sp := fun vs H Q _ => ∃ x : Str, vs = [.str x] ∧ Fit x ∧ ∀ H', Same H H' → Q (.bl true) H'
set_option maxHeartbeats 2000000 in
theorem ok_reads {f : Addr} {fd : FuncData} (F : Fun K "_law_reads" "_law_reads" s__law_reads f fd) (T : Bi mg)
    {f_p : Addr} {d_p : FuncData} (D_p : Df K mg "parse_row" s_parse_row ["text"] f_p d_p) (G_p : FnOk P w K mg base (L2N.CX P w) 7 f_p d_p ["text"] (spParse C D D1 D2))
    {f_o : Addr} {d_o : FuncData} (D_o : Df K mg "_law_outcome" s__law_outcome ["_law_note_here"] f_o d_o) (G_o : FnOk P w K mg base CX0 2 f_o d_o ["_law_note_here"] (spOutc K))
    {f_i : Addr} {d_i : FuncData} (D_i : Df K mg "_law_is_row" s__law_is_row ["_law_told", "_law_top", "_law_letters_here"] f_i d_i) (G_i : FnOk P w K mg base CX0 3 f_i d_i ["_law_told", "_law_top", "_law_letters_here"] (spIsRow K C))
    {f_f : Addr} {d_f : FuncData} (D_f : Df K mg "_law_refusal" s__law_refusal ["_law_note_here"] f_f d_f) (G_f : FnOk P w K mg base CX0 8 f_f d_f ["_law_note_here"] spRefu) : FnOk P w K mg base CX0 9 f fd ["_law_note_here"] spReads := by
  refine F.ok sc__law_reads (fun vs H Q E h => ?_) (fun cdv A outer s H vs Q E hr h => ?_)
  · obtain ⟨x, rfl, _⟩ := h
    rfl
  · obtain ⟨x, rfl, hx, q⟩ := h
    have hu64 : (A.deeper (envOfC "_law_reads" (defScope s__law_reads) s.heap.objs.size f cdv)).units + 64 < cLine := hr.units
    refine ⟨_, (pss_cons (ps_set (i := 1) sc__law_reads.nd rfl (.inl rfl) (pe_call G_o (hr.mono (by decide)) (by rfl) D_o.g D_o.F.kp D_o.b .nil pass0 (pa_cons (pv 0) pa_nil)))
        (pss_cons (ps_if (pt_cmpR op_eq (pe_ix (r := rIxL K) ix_list (pv 1) pe_int (fun _ _ => rfl)) pe_str (nomark _)) (pss_one (ps_ret (pe_call G_i (hr.mono (by decide)) (by rfl) D_i.g D_i.F.kp D_i.b .nil pass0 (pa_cons (pe_call G_p (hr.mono (by decide)) (by rfl) D_p.g D_p.F.kp D_p.b .nil passN (pa_cons (pv 0) pa_nil)) (pa_cons (pe_ix (r := rIxL K) ix_list (pv 1) pe_int (fun _ _ => rfl)) (pa_cons (pe_ix (r := rIxL K) ix_list (pv 1) pe_int (fun _ _ => rfl)) pa_nil)))))) pss_nil)
        (pss_one (ps_ret (pe_cmpR (op_eqDK (K := K) rfl hu64) (pe_call G_f (hr.mono (by decide)) (by rfl) D_f.g D_f.F.kp D_f.b .nil pass0 (pa_cons (pv 0) pa_nil)) (pv 1) (nomark _)))))), ?_⟩
    refine ⟨_, rfl, x, rfl, hx, ⟨fun p hb H1 r s1 e1 => ?_, fun al ng H1 r s1 e1 => ?_, fun al nn ar H1 r c us s1 e1 e2 dt => ?_, fun al nn k d bk hk H1 r b s1 e1 e2 => ?_⟩⟩
    · refine ⟨_, rfl, r, _, _, _, rfl, rfl, .inl (.inl e1), at_of (j := 0) rfl rfl, rfl, _, rfl, ?_⟩
      rw [show decide (V.str (Str.ofString "note") = V.str (Str.ofString "row")) = false by decide +kernel]
      refine ⟨_, rfl, x, rfl, hx, ⟨fun p2 hb2 H2 r2 s2 f1 => ?_, fun al _ _ _ _ _ => (badL_all hb al).elim, fun al _ _ _ _ => (badL_all hb al).elim, fun al _ _ _ _ _ _ _ _ _ _ _ _ => (badL_all hb al).elim⟩⟩
      cases badL_eq hb hb2
      obtain ⟨c1, c2⟩ := two_lay (x := "note") (i := (p : Int) + 1) (by decide +kernel)
      exact ⟨_, rfl, rEq_same (two_dp f1) (two_dp (s2 _ _ e1)) c1 c2 (q _ (s1.trans s2))⟩
    · refine ⟨_, rfl, r, _, _, _, rfl, rfl, .inl (.inl e1), at_of (j := 0) rfl rfl, rfl, _, rfl, ?_⟩
      rw [show decide (V.str (Str.ofString "lanes") = V.str (Str.ofString "row")) = false by decide +kernel]
      refine ⟨_, rfl, x, rfl, hx, ⟨fun p hb _ _ _ _ => (badL_all hb al).elim, fun _ _ H2 r2 s2 f1 => ?_, fun _ nn _ _ _ => absurd ng (by omega), fun _ nn _ _ _ _ _ _ _ _ _ _ _ => absurd ng (by omega)⟩⟩
      obtain ⟨c1, c2⟩ := two_lay (x := "lanes") (i := topOf (linesOf x)) (by decide +kernel)
      exact ⟨_, rfl, rEq_same (two_dp f1) (two_dp (s2 _ _ e1)) c1 c2 (q _ (s1.trans s2))⟩
    · refine ⟨_, rfl, r, _, _, _, rfl, rfl, .inl (.inl e1), at_of (j := 0) rfl rfl, rfl, _, rfl, ?_⟩
      rw [show decide (V.str (Str.ofString "row") = V.str (Str.ofString "row")) = true from decide_eq_true rfl]
      refine ⟨_, rfl, x, rfl, hx, ⟨fun p hb => (badL_all hb al).elim, fun _ ng => absurd ng (by omega), fun _ _ _ H2 p s2 hp => ?_, fun _ _ k d bk => (badR_all bk ar).elim⟩⟩
      refine ⟨_, rfl, r, _, _, _, rfl, rfl, .inl (.inl (s2 _ _ e1)), at_of (j := 1) rfl rfl, _, rfl, r, _, _, _, rfl, rfl, .inl (.inl (s2 _ _ e1)), at_of (j := 2) rfl rfl, ?_⟩
      have gds := dsOf_good (n := (linesOf x).length - 1) (fun q hq => al q (by have := List.length_pos_iff.mpr (lines_facts x).1; omega)) hx.2.2
      have ln : (dsOf (linesOf x) ((linesOf x).length - 1)).length ≤ 1000 := by
        rw [dsOf_len]
        have := hx.2.1
        omega
      exact ⟨p, c, us, _, _, rfl, hp, .inl (.inl (s2 _ _ e2)), dt.same s2, fun d hd => (gds d hd).1, ln, fun H3 s3 => q _ ((s1.trans s2).trans s3)⟩
    · refine ⟨_, rfl, r, _, _, _, rfl, rfl, .inl (.inl e1), at_of (j := 0) rfl rfl, rfl, _, rfl, ?_⟩
      rw [show decide (V.str (Str.ofString "letter") = V.str (Str.ofString "row")) = false by decide +kernel]
      refine ⟨_, rfl, x, rfl, hx, ⟨fun p hb _ _ _ _ => (badL_all hb al).elim, fun _ ng _ _ _ _ => absurd ng (by omega), fun _ _ ar _ _ => (badR_all bk ar).elim, fun _ _ k2 d2 bk2 hk2 gd H2 r2 b2 s2 f1 f2 => ?_⟩⟩
      cases badR_eq bk bk2
      cases hk.symm.trans hk2
      obtain ⟨c1, c2⟩ := letter_lay (x := "letter") (i := (k : Int)) (d := d) (by decide +kernel) gd
      exact ⟨_, rfl, rEq_same (letter_dp f1 f2) (letter_dp (s2 _ _ e1) (s2 _ _ e2)) c1 c2 (q _ (s1.trans s2))⟩

end
end Own

namespace Own
open PySem PySem.Spec PyProof.Rows L2 TL
theorem pl_nt2 {i : Int} (h : i.natAbs < 10 ^ 19) : Pl 20 (nt i) := by
  have hn : ∀ n : Nat, ∀ c ∈ numL n, c < 128 ∧ c ≠ 10 := fun n c hc => by
    have := numL_digits n c hc
    omega
  unfold nt
  refine ⟨?_, ?_⟩
  · rw [len_tl, tl_int]
    cases i with
    | ofNat n => exact Nat.le_trans (numL_len (k := 19) (by decide) h) (by decide)
    | negSucc m => exact Nat.succ_le_succ (numL_len (k := 19) (by decide) h)
  · rw [tl_int]
    cases i with
    | ofNat n => exact hn n
    | negSucc m =>
      intro c hc
      rcases List.mem_cons.mp hc with e | e
      · omega
      · exact hn _ c e
theorem LR.num {d : Deed} (h : LR d) : ∃ n : Int, d = (d.1, [n]) ∧ n.natAbs < 2 ^ 60 := by
  obtain ⟨⟨_, n, hn⟩, hs⟩ := h
  exact ⟨n, by rw [← hn], hs n (by rw [hn]; exact List.mem_cons_self)⟩
theorem word_pl {d : Deed} (h : GoodR d) : Pl 5 d.1 := by
  rcases good_word h with e | e | e <;> (rw [e]; exact pl_of (by decide +kernel))
theorem word_free {d : Deed} (h : GoodR d) : 32 ∉ tl d.1 := by
  rcases good_word h with e | e | e <;> (rw [e]; decide +kernel)
theorem wds_two {w : Str} {n : Int} (h : 32 ∉ tl w) : wdsOf (lineT (w, [n])) = [w, nt n] := by
  refine split_join (y := " ") (s := 32) (S := []) rfl (by decide +kernel) (fun e => nomatch e) fun p hp => ?_
  rcases List.mem_cons.mp hp with e | e
  · rw [e]
    exact h
  · obtain ⟨i, _, rfl⟩ := List.mem_map.mp e
    unfold nt
    rw [tl_int]
    exact intL_free (.inl (by decide))
theorem num_nt {n : Int} (h : n.natAbs < 2 ^ 60) : isNum (tl (nt n)) = true ∧ numV (nt n) = n := by
  have hl := (pl_nt2 (i := n) (Nat.lt_of_lt_of_le h (by decide))).1
  unfold nt at hl ⊢
  rw [len_tl, tl_int] at hl
  refine ⟨by rw [tl_int]; exact isNum_int n, numV_int (by omega)⟩
theorem rd_line {d : Deed} (h : LR d) : rdL cN (lineT d) = some d := by
  obtain ⟨n, hd, hn⟩ := h.num
  obtain ⟨h1, h2⟩ := num_nt hn
  have e : wdsOf (lineT d) = [d.1, nt n] := by rw [hd]; exact wds_two (word_free h.1)
  rw [rd_two cN_one e]
  have hc : (cN d.1).isSome = true := by
    have := h.1.1
    unfold cN
    cases e : valN CHG d.1 with
    | none => rw [e] at this; cases this
    | some i => rfl
  rw [if_pos ⟨hc, h1⟩, h2, ← hd]
theorem rd_first {t : Int} (h : t.natAbs < 2 ^ 60) : rdL c0 (lineT (("row" : Str), [t])) = some (("row" : Str), [t]) := by
  obtain ⟨h1, h2⟩ := num_nt h
  rw [rd_two c0_one (wds_two (by decide +kernel)), if_pos ⟨rfl, h1⟩, h2]
theorem pl_line {w : Str} {n : Int} (hw : Pl 5 w) (h : n.natAbs < 2 ^ 60) : Pl 26 (lineT (w, [n])) := by
  rw [line_one]
  exact ((hw.app (pl_of (n := 1) (by decide +kernel))).app (pl_nt2 (Nat.lt_of_lt_of_le h (by decide)))).le (by decide)
/-- the lines of a note -/
def linesT (t : Int) (ds : List Deed) : List Str := ((("row" : Str), [t]) :: ds).map lineT
theorem linesT_len (t : Int) (ds : List Deed) : (linesT t ds).length = ds.length + 1 := by
  unfold linesT
  rw [List.length_map, List.length_cons]
theorem linesT_pl {t : Int} {ds : List Deed} (ht : t.natAbs < 2 ^ 60) (h : ∀ d ∈ ds, LR d) : ∀ z ∈ linesT t ds, Pl 26 z := fun z hz => by
  rcases List.mem_cons.mp hz with e | e
  · rw [e]
    exact pl_line (pl_of (by decide +kernel)) ht
  · obtain ⟨d, hd, rfl⟩ := List.mem_map.mp e
    obtain ⟨n, e2, hn⟩ := (h d hd).num
    rw [e2]
    exact pl_line (word_pl (h d hd).1) hn
abbrev nT (t : Int) (ds : List Deed) : Str := noteT ((("row" : Str), [t]) :: ds)
theorem nT_eq (t : Int) (ds : List Deed) : nT t ds = Txt.join "\n" (linesT t ds) := rfl
section
variable {t : Int} {ds : List Deed}
theorem lines_note (ht : t.natAbs < 2 ^ 60) (h : ∀ d ∈ ds, LR d) : linesOf (nT t ds) = linesT t ds := lines_join (fun e => nomatch e) (linesT_pl ht h)
theorem line_at (h : ∀ d ∈ ds, LR d) {i : Nat} {d : Deed} (e : ds[i]? = some d) : lineV (linesT t ds) (i + 1) = some d := by
  unfold lineV linesT
  rw [List.map_cons, List.getElem?_cons_succ, List.getElem?_map, e]
  show rdL (if i + 1 = 0 then c0 else cN) (lineT d) = some d
  rw [if_neg (Nat.succ_ne_zero i)]
  exact rd_line (h d (List.mem_of_getElem? e))
theorem line_zero (ht : t.natAbs < 2 ^ 60) : lineV (linesT t ds) 0 = some (("row" : Str), [t]) := rd_first ht
theorem all_note (ht : t.natAbs < 2 ^ 60) (h : ∀ d ∈ ds, LR d) : AllL (linesT t ds) := fun p hp => by
  cases p with
  | zero =>
    rw [line_zero ht]
    rfl
  | succ i =>
    rw [linesT_len] at hp
    rw [line_at h (List.getElem?_eq_getElem (by omega : i < ds.length))]
    rfl
theorem ds_note (h : ∀ d ∈ ds, LR d) : dsOf (linesT t ds) ((linesT t ds).length - 1) = ds := by
  rw [linesT_len, Nat.add_sub_cancel]
  refine List.ext_getElem? fun i => ?_
  unfold dsOf
  rw [List.getElem?_map]
  by_cases hi : i < ds.length
  · rw [List.getElem?_range hi, List.getElem?_eq_getElem hi]
    show some ((lineV (linesT t ds) (i + 1)).getD ("", [])) = _
    rw [line_at h (List.getElem?_eq_getElem hi)]
    rfl
  · rw [List.getElem?_eq_none (by rw [List.length_range]; omega), List.getElem?_eq_none (by omega)]
    rfl
theorem top_note (ht : t.natAbs < 2 ^ 60) : topOf (linesT t ds) = t := by
  unfold topOf
  rw [line_zero ht]
  rfl
theorem note_nt (ht : t.natAbs < 2 ^ 60) (h : ∀ d ∈ ds, LR d) {m : Nat} (l : ds.length + 1 ≤ m) : Nt 26 m (nT t ds) := by
  rw [nT_eq]
  exact nt_of (by omega) (by rw [linesT_len]; exact l) (linesT_pl ht h)
/-- parse_row of a note that has the form -/
theorem parse_note {C D D1 D2 : Addr} {H : Hp} {Q : VK} {E : XK} (t0 : 0 ≤ t) (ht : t.natAbs < 2 ^ 60) (h : ∀ d ∈ ds, LR d) (al : AllR t ds) (l : ds.length ≤ 200) (q : ∀ H' p, Same H H' → RowAt C H' p t ds → Q (.ref p) H') : spParse C D D1 D2 [.str (nT t ds)] H Q E := by
  have f := (note_nt ht h (m := 201) (by omega)).fit (by decide) (by decide)
  have e1 := lines_note ht h
  have e2 := ds_note (t := t) h
  have e3 := top_note (ds := ds) ht
  refine ⟨nT t ds, rfl, f, ⟨?_, ?_, ?_, ?_⟩⟩ <;> rw [e1]
  · exact fun p hb => (badL_all hb (all_note ht h)).elim
  · exact fun _ ng => by rw [e3] at ng; exact absurd ng (by omega)
  · intro _ _ _ H' p s c
    rw [e2, e3] at c
    exact q H' p s c
  · intro _ _ k d bk
    rw [e2, e3] at bk
    exact (badR_all bk al).elim
end
theorem chg_le {d : Deed} (h : GoodR d) : -2 ≤ chgR d.1 ∧ chgR d.1 ≤ 2 := by
  rcases good_word h with e | e | e <;> rw [e] <;> decide +kernel
theorem end_le {t : Int} : ∀ (ds : List Deed), (∀ d ∈ ds, GoodR d) → t - 2 * ds.length ≤ endR t ds ∧ endR t ds ≤ t + 2 * ds.length
  | [], _ => by
    show t - 2 * (0 : Nat) ≤ t ∧ t ≤ t + 2 * (0 : Nat)
    omega
  | d :: r, g => by
    obtain ⟨h1, h2⟩ := end_le (t := t + chgR d.1) r fun e he => g e (List.mem_cons_of_mem _ he)
    obtain ⟨c1, c2⟩ := chg_le (g d List.mem_cons_self)
    show t - 2 * (r.length + 1 : Nat) ≤ endR (t + chgR d.1) r ∧ endR (t + chgR d.1) r ≤ t + 2 * (r.length + 1 : Nat)
    omega
theorem flip_lr {ds : List Deed} (h : ∀ d ∈ ds, LR d) : ∀ d ∈ flipD ds, LR d := fun d hd => by
  obtain ⟨e, he, rfl⟩ := List.mem_map.mp hd
  have := h e (List.mem_reverse.mp he)
  exact ⟨flip_good this.1, this.2⟩
section
variable {X : Cx} {CX : CXT} {k : Nat} {C g : Addr} {fd : FuncData} {ps : List Str} {sp : Sp} {E : XK}
def rOwnEq (K : PySem.W.Frag) (C : Addr) (sp : Sp) : R2 := fun x y H Q => ∃ (a dx : Addr) (fs : List (Str × V)) (tb : Value), x = .ref a ∧ H a = some (.ins C dx fs) ∧ (TyX K H y tb ∨ ∃ (b dy : Addr) (gs : List (Str × V)), y = .ref b ∧ H b = some (.ins C dy gs) ∧ tb = .ref C) ∧ PySem.W.notFirst K C tb = true ∧
  sp [.ref a, y] H (fun v H' => ∃ c : Bool, v = .bl c ∧ Q (.bl c) H') E0
theorem op_ownEq (hs : PySem.W.findIn X.K (.ref C) "__eq__" = some (some (.ref g))) (hf : PySem.W.isFn X.K (.ref g) = true) (F : FnOk X.prog X.w X.K X.mg X.base CX0 k g fd ps sp) (room : Room k X.A) (hb : Binds X.K fd ps []) :
    OpR X (compareOp .Eq) (rOwnEq X.K C sp) := by
  intro pins s σ H x y v u Q inv rx ry ask
  obtain ⟨a, dx, fs, tb, rfl, ha, ty, nf, q⟩ := ask
  cases (show v = Value.ref a from rx)
  obtain ⟨_, O, _, _, _, _⟩ := ins_get inv.hok ha
  obtain ⟨od, J, _⟩ := O.look
  obtain ⟨m, hF⟩ := inv.fr
  have look : PySem.W.Looks (model X.prog X.w) s.heap (typeOf u) tb := by
    rcases ty with ty | ⟨b, dy, gs, rfl, hb, rfl⟩
    · obtain ⟨Pp, kx, hp, _⟩ := kit_of inv ry ty
      exact kx.ty _ _ inv.kIn hp
    · cases (show u = Value.ref b from ry)
      obtain ⟨_, O2, _, _, _, _⟩ := ins_get inv.hok hb
      obtain ⟨od2, J2, _⟩ := O2.look
      exact J2.type
  show wpAny (model X.prog X.w) X.A (richCompare .Eq (.ref a) u) (EP X pins σ Q) X.xe s
  refine PySem.W.cmp_K (op := .Eq) (tb := tb) room.units0 hF inv.ok.mod.kin J look nf hs hf ?_
  refine wpAny_mono (run_fnS (E := fun _ => E0) (us := [.ref a, u]) (vs := [.ref a, y]) F room hb pass0A inv (.cons rfl (.cons ry .nil)) q) (fun w s' z => ?_) fun _ _ x => x
  obtain ⟨z', H', I', rz, c, rfl, qz⟩ := z
  cases (show w = Value.bool c from rz)
  exact ⟨.bl c, H', I', rfl, qz⟩
theorem op_ownEqK {K : PySem.W.Frag} (hK : X.K = K) (hs : PySem.W.findIn K (.ref C) "__eq__" = some (some (.ref g))) (hf : PySem.W.isFn K (.ref g) = true) (F : FnOk X.prog X.w K X.mg X.base CX0 k g fd ps sp) (room : Room k X.A) (hb : Binds K fd ps []) :
    OpR X (compareOp .Eq) (rOwnEq K C sp) := by
  subst hK
  exact op_ownEq hs hf F room hb
end
section
variable {X : Cx} {CX : CXT} {k : Nat} {f : Addr} {fd : FuncData} {ps ks : List Str} {sp : Sp} {E : XK} {x : Str} {p pos : Pos} {kws : List Keyword} {tk : TA} {g : List Value → List Value → List Value} {gV : List V → List V → List V}
theorem pe_callK0 (F : FnOk X.prog X.w X.K X.mg X.base CX k f fd ps sp) (hr : Room k X.A) (hg : Gl X x) (hm : X.mg x = some (.ref f)) (hk : PySem.W.keepIn X.K (.ref f) = true) (hb : KBn X.K fd ps 0 ks g gV) (hx : Passes CX X E)
    (hkw : PK X kws tk) (hall : (backToKw pos (keywordEach kws X.env)).all (·.1.isSome) = true := by rfl) (hks : (backToKw pos (keywordEach kws X.env)).filterMap (·.1) = ks := by rfl)
    (hdb : (x == ("__debug__" : Str)) = false := by decide)
    (hpl : ((backTo pos (starEach [] X.env)).any (·.1) || (backToKw pos (keywordEach kws X.env)).any (·.1.isNone)) = false := by rfl) :
    PE X (.Call (.Name x p) [] kws pos) (tCallN 0 ks.length sp gV E tNil tk) := by
  refine ⟨fun pins s σ H Q I h => ?_⟩
  refine wpAny_Call_Name_kw (ld_glob I hg hm ?_ hdb)
  refine PySem.W.callWith_KW0 (h₀ := X.base) I.ok.mod.kin hk hall ?_ hpl
  refine thn (hkw.run pos pins s σ H _ I h) fun ws s2 ⟨zs, H2, I2, rz, l1, l2, q2⟩ => ⟨I2.kIn, ?_⟩
  rw [hks]
  exact run_fnN (us := []) (vs := []) F hr hb hx I2 .nil rz rfl l2 q2
end
section
variable {X : Cx} {K : PySem.W.Frag} {o e : Expr} {es : List Expr} {to : TE} {t : TA} {apos cpos : Pos}
theorem pe_indexK (hK : X.K = K) (ho : PE X o to) (ha : PA X (e :: es) t)
    (hbase : attributeBase o "index" X.env (eval o X.env) = eval o X.env := by rfl)
    (hfew : ((backTo cpos (starEach (e :: es) X.env)).all (fun x => !x.1) && (backToKw cpos (keywordEach [] X.env)).all (fun x => x.1.isSome)
      && decide ((e :: es).length + ([] : List Keyword).length + (if ([] : List Keyword).isEmpty then 0 else 1) < 30)) = true := by rfl)
    (hline : (apos.endLine == cpos.line) = true := by rfl) (hs : starEach (e :: es) X.env = (false, eval e X.env) :: starEach es X.env := by rfl) (hplain : (backTo cpos (starEach es X.env)).any (·.1) = false := by rfl) :
    PE X (.Call (.Attribute o "index" apos) (e :: es) [] cpos) (tBM K "list" (rIndex K) to t) := by
  subst hK
  exact pe_bm PySem.F.plainAttrs_list PySem.F.slot_list_index PySem.F.type_list_index mt_index ho ha hbase hfew hline hs hplain
end
section
variable {K : PySem.W.Frag} {C : Addr}
/-- two rows with the same top and letters are equal -/
theorem eqRow (nfC : PySem.W.notFirst K C (.ref C) = true) {H : Hp} {Q : VK} {p o : Addr} {t : Int} {ds : List Deed} (hp : RowAt C H p t ds) (ho : RowAt C H o t ds) (g : ∀ d ∈ ds, GoodR d) (q : Q (.bl true) H) : rOwnEq K C (spREq C) (.ref p) (.ref o) H Q := by
  obtain ⟨dx, a, b, vs, e, _⟩ := id hp
  obtain ⟨dy, a2, b2, ws, e2, _⟩ := id ho
  exact ⟨p, dx, _, .ref C, rfl, e, .inr ⟨o, dy, _, rfl, e2, rfl⟩, nfC, p, o, t, ds, rfl, hp, ho, g, true, rfl, q⟩
end
end Own

namespace Own
open PySem PySem.Spec PyProof.Rows L2 TL
/-! ### what stands through the law -/
structure LW (K : PySem.W.Frag) (C z : Addr) (ns : List Int) (a1 : Addr) (s0 s1 s2 s3 : Int) (a5 : Addr) (us : List V) (t : Int) (ds : List Deed) (p7 : Addr) (H : Hp) : Prop where
  hs : SqL K H z (ns.map V.int)
  h1 : H a1 = some (.lst [.int s0, .int s1, .int s2, .int s3])
  hd : H a5 = some (.lst us)
  dt : DsT H us ds
  hr : RowAt C H p7 t ds
  ok : ∀ d ∈ ds, LR d
  al : AllR t ds
  len : ds.length ≤ 100
  t0 : 0 ≤ t ∧ t ≤ 100
  b2 : 0 ≤ s2 ∧ s2 < 13
  b3 : 0 ≤ s3 ∧ s3 < 6
theorem LW.same {K : PySem.W.Frag} {C z : Addr} {ns : List Int} {a1 : Addr} {s0 s1 s2 s3 : Int} {a5 : Addr} {us : List V} {t : Int} {ds : List Deed} {p7 : Addr} {H H' : Hp} (h : LW K C z ns a1 s0 s1 s2 s3 a5 us t ds p7 H) (s : Same H H') : LW K C z ns a1 s0 s1 s2 s3 a5 us t ds p7 H' :=
  ⟨s.seq h.hs, s _ _ h.h1, s _ _ h.hd, h.dt.same s, h.hr.same s, h.ok, h.al, h.len, h.t0, h.b2, h.b3⟩
theorem digs4 {ds : List Int} (h : Digs ds [8, 8, 13, 6]) : ∃ a b c d : Int, ds = [a, b, c, d] ∧ (0 ≤ a ∧ a < 8) ∧ (0 ≤ b ∧ b < 8) ∧ (0 ≤ c ∧ c < 13) ∧ (0 ≤ d ∧ d < 6) := by
  match ds, h with
  | [a, b, c, d], h => exact ⟨a, b, c, d, rfl, h.2 0 a 8 rfl rfl, h.2 1 b 8 rfl rfl, h.2 2 c 13 rfl rfl, h.2 3 d 6 rfl rfl⟩
  | [], h => exact absurd h.1 (by simp)
  | [_], h => exact absurd h.1 (by simp)
  | [_, _], h => exact absurd h.1 (by simp)
  | [_, _, _], h => exact absurd h.1 (by simp)
  | _ :: _ :: _ :: _ :: _ :: _, h => exact absurd h.1 (by simp)
theorem digs6 {ds : List Int} (h : Digs ds [23, 61, 60, 23, 61, 60]) : ∃ a b c d e f : Int, ds = [a, b, c, d, e, f] ∧ (0 ≤ a ∧ a < 23) ∧ (0 ≤ b ∧ b < 61) ∧ (0 ≤ c ∧ c < 60) ∧ (0 ≤ d ∧ d < 23) ∧ (0 ≤ e ∧ e < 61) ∧ (0 ≤ f ∧ f < 60) := by
  match ds, h with
  | [a, b, c, d, e, f], h => exact ⟨a, b, c, d, e, f, rfl, h.2 0 a 23 rfl rfl, h.2 1 b 61 rfl rfl, h.2 2 c 60 rfl rfl, h.2 3 d 23 rfl rfl, h.2 4 e 61 rfl rfl, h.2 5 f 60 rfl rfl⟩
  | [], h => exact absurd h.1 (by simp)
  | [_], h => exact absurd h.1 (by simp)
  | [_, _], h => exact absurd h.1 (by simp)
  | [_, _, _], h => exact absurd h.1 (by simp)
  | [_, _, _, _], h => exact absurd h.1 (by simp)
  | [_, _, _, _, _], h => exact absurd h.1 (by simp)
  | _ :: _ :: _ :: _ :: _ :: _ :: _ :: _, h => exact absurd h.1 (by simp)
def rep : Nat → List Int
  | 0 => []
  | n + 1 => 12 :: 60 :: rep n
theorem rep_map : ∀ n, (List.replicate n [V.int 12, V.int 60]).flatten = (rep n).map V.int
  | 0 => rfl
  | n + 1 => by
    rw [List.replicate_succ, List.flatten_cons, rep_map n]
    rfl
theorem rep_len : ∀ n, (rep n).length = 2 * n
  | 0 => rfl
  | n + 1 => by
    show (rep n).length + 1 + 1 = _
    rw [rep_len n]
    omega
theorem rep_mem : ∀ n, ∀ s ∈ rep n, s = 12 ∨ s = 60
  | 0, s, h => nomatch h
  | n + 1, s, h => by
    rcases List.mem_cons.mp h with e | h
    · exact .inl e
    · rcases List.mem_cons.mp h with e | h
      · exact .inr e
      · exact rep_mem n s h
theorem rep_at : ∀ n i, i < n → (rep n)[2 * i]? = some 12
  | 0, i, h => absurd h (Nat.not_lt_zero i)
  | n + 1, 0, _ => rfl
  | n + 1, i + 1, h => by
    show (rep n)[2 * i]? = some 12
    exact rep_at n i (Nat.lt_of_succ_lt_succ h)
theorem rep_even {n : Nat} {ds : List Int} (h : Digs ds (rep n)) (i : Nat) (x : Int) (e : ds[2 * i]? = some x) : 0 ≤ x ∧ x < 12 := by
  have hl := (List.getElem?_eq_some_iff.mp e).1
  rw [h.1, rep_len] at hl
  exact h.2 (2 * i) x 12 e (rep_at n i (by omega))
theorem DsT.toH {H : Hp} {vs : List V} {ds : List Deed} (h : DsT H vs ds) : DsH H vs ds := ⟨h.1, fun i d e => let ⟨b, e1, e2⟩ := h.2 i d e; ⟨b, e1, .inr e2⟩⟩
theorem flip_get {ds : List Deed} {i : Nat} {d : Deed} (hi : i < ds.length) (h : ds[ds.length - 1 - i]? = some d) : (flipD ds)[i]? = some (flip1 d) := by
  unfold flipD
  rw [List.getElem?_map, List.getElem?_reverse hi, h]
  rfl
theorem word_ix {d : Deed} (h : GoodR d) : ∃ (j : Nat) (z : V), [V.str "cross", .str "cap", .str "cup"][j]? = some z ∧ eqV z (.str d.1) = true ∧ (∀ (m : Nat) (z' : V), m < j → [V.str "cross", .str "cap", .str "cup"][m]? = some z' → eqV z' (.str d.1) = false) ∧ atI [V.str "cross", .str "cup", .str "cap"] (j : Int) = some (.str (upW d.1)) := by
  rcases good_word h with e | e | e <;> rw [e]
  · exact ⟨0, _, rfl, by decide +kernel, fun m z hm => absurd hm (Nat.not_lt_zero m), (atI_nat rfl).trans (congrArg (fun x => some (V.str x)) (by decide +kernel))⟩
  · refine ⟨2, _, rfl, by decide +kernel, fun m z hm hz => ?_, (atI_nat rfl).trans (congrArg (fun x => some (V.str x)) (by decide +kernel))⟩
    have : m = 0 ∨ m = 1 := by omega
    rcases this with e | e <;> (rw [e] at hz; cases Option.some.inj hz; decide +kernel)
  · refine ⟨1, _, rfl, by decide +kernel, fun m z hm hz => ?_, (atI_nat rfl).trans (congrArg (fun x => some (V.str x)) (by decide +kernel))⟩
    have : m = 0 := by omega
    rw [this] at hz
    cases Option.some.inj hz
    decide +kernel

section
variable {P : Program} {w : World} {K : PySem.W.Frag} {mg : Str → Option Value} {base : Heap} {C D0 D1 D2 : Addr}
def spLaw (K : PySem.W.Frag) : Sp := fun vs H Q _ => ∃ (s : Addr) (ns : List Int), vs = [.ref s] ∧ SqL K H s (ns.map V.int) ∧ ns.length ≤ 1000 ∧ ∀ H', Q (.bl true) H'
set_option maxHeartbeats 0 in
theorem ok_law {f : Addr} {fd : FuncData} (F : Fun K "law" "law" s_law f fd) (T : Bi mg) (T_rv : mg "reversed" = none) (L : RowC K mg C) 
    {f_c : Addr} {d_c : FuncData} (D_c : Df K mg "_law_cell" s__law_cell ["_law_script", "_law_k"] f_c d_c) (G_c : FnOk P w K mg base CX0 1 f_c d_c ["_law_script", "_law_k"] (spCell K))
    {f_d : Addr} {d_d : FuncData} (D_d : Df K mg "_law_digits" s__law_digits ["_law_cell_here", "_law_sizes"] f_d d_d) (G_d : FnOk P w K mg base CX0 1 f_d d_d ["_law_cell_here", "_law_sizes"] (spDigs K))
    {f_le : Addr} {d_le : FuncData} (D_le : Df K mg "_law_letters" s__law_letters ["_law_listed", "_law_top", "_law_upto"] f_le d_le) (G_le : FnOk P w K mg base CX0 1 f_le d_le ["_law_listed", "_law_top", "_law_upto"] (spLett K))
    {f_la : Addr} {d_la : FuncData} (D_la : Df K mg "_law_lanes" s__law_lanes ["_law_top", "_law_letters_here"] f_la d_la) (G_la : FnOk P w K mg base CX0 1 f_la d_la ["_law_top", "_law_letters_here"] (spLLan K))
    {f_ir : Addr} {d_ir : FuncData} (D_ir : Df K mg "_law_is_row" s__law_is_row ["_law_told", "_law_top", "_law_letters_here"] f_ir d_ir) (G_ir : FnOk P w K mg base CX0 3 f_ir d_ir ["_law_told", "_law_top", "_law_letters_here"] (spIsRow K C))
    {f_no : Addr} {d_no : FuncData} (D_no : Df K mg "_law_note" s__law_note ["_law_top", "_law_letters_here"] f_no d_no) (G_no : FnOk P w K mg base CX0 1 f_no d_no ["_law_top", "_law_letters_here"] (spLNote K))
    {f_sn : Addr} {d_sn : FuncData} (D_sn : Df K mg "_law_spoilt_note" s__law_spoilt_note ["_law_note_here", "_law_kind", "_law_place", "_law_seed"] f_sn d_sn) (G_sn : FnOk P w K mg base CX0 2 f_sn d_sn ["_law_note_here", "_law_kind", "_law_place", "_law_seed"] spSpN)
    {f_re : Addr} {d_re : FuncData} (D_re : Df K mg "_law_reads" s__law_reads ["_law_note_here"] f_re d_re) (G_re : FnOk P w K mg base CX0 9 f_re d_re ["_law_note_here"] spReads)
    {f_p : Addr} {d_p : FuncData} (D_p : Df K mg "parse_row" s_parse_row ["text"] f_p d_p) (G_p : FnOk P w K mg base (L2N.CX P w) 7 f_p d_p ["text"] (spParse C D0 D1 D2))
    {f_f : Addr} {d_f : FuncData} (D_f : Df K mg "format_row" s_format_row ["row"] f_f d_f) (G_f : FnOk P w K mg base CX0 2 f_f d_f ["row"] (spFmt C))
    (kb_f : KBn K d_f ["row"] 0 ["row"] (fun _ ws => ws) (fun _ zs => zs)) (kb_p : KBn K d_p ["text"] 0 ["text"] (fun _ ws => ws) (fun _ zs => zs))
    {f_i : Addr} {d_i : FuncData} (M : Mk K C f_i) (G_i : GRI P w K mg base C D1 D2 f_i d_i) (b_i : Binds K d_i ["self", "top", "letters"] [])
    {f_fl : Addr} {d_fl : FuncData} (M_fl : Meth K C "flipped" f_fl) (G_fl : FnOk P w K mg base CX0 7 f_fl d_fl ["self"] (spFlip C)) (b_fl : Binds K d_fl ["self"] [])
    {f_eq : Addr} {d_eq : FuncData} (i_eq : PySem.W.findIn K (.ref C) "__eq__" = some (some (.ref f_eq))) (n_eq : PySem.W.isFn K (.ref f_eq) = true) (G_eq : FnOk P w K mg base CX0 1 f_eq d_eq ["self", "other"] (spREq C)) (b_eq : Binds K d_eq ["self", "other"] []) (nfC : PySem.W.notFirst K C (.ref C) = true) : FnOk P w K mg base CX0 10 f fd ["_law_script"] (spLaw K) := by
  refine F.ok sc_law (fun vs H Q E h => ?_) (fun cdv A outer s H vs Q E hr h => ?_)
  · obtain ⟨z, ns, rfl, _⟩ := h
    rfl
  · obtain ⟨z, ns, rfl, hs, hn, q⟩ := h
    have hu64 : (A.deeper (envOfC "law" (defScope s_law) s.heap.objs.size f cdv)).units + 64 < cLine := hr.units
    obtain ⟨tPg, hPg, qPg⟩ : ∃ tR, PSs (cxOf CX0 P w K mg base ["_law_script", "_law_size", "_law_top", "_law_many", "_law_upto", "_law_letters_here", "_law_note_here", "_law_sample", "_law_told", "_law_k", "_law_lines", "_law_late", "_law_near", "_law_back", "_law_words", "_law_over", "_law_turned", "_law_wrong", "_law_letter"] "law" (defScope s_law) f cdv A outer s H E).nox ((defBody s_law).drop 15) tR ∧ ∀ (a1 : Addr) (s0_ s1_ s2_ s3_ : Int) (many upto : Option V) (a5 : Addr) (us : List V) (t : Int) (ds : List Deed) (p7 : Addr) (y9 y10 y11 y12 y13 y14 y15 y16 y17 y18 : Option V) (H0 : Hp), LW K C z ns a1 s0_ s1_ s2_ s3_ a5 us t ds p7 H0 → tR { nx := fun _ H' => Q .non H', rt := Q } [some (.ref z), some (.ref a1), some (.int t), many, upto, some (.ref a5), some (.str (nT t ds)), some (.ref p7), some (.str (nT t ds)), y9, y10, y11, y12, y13, y14, y15, y16, y17, y18] H0 := by
      refine ⟨_, (pss_cons (ps_set (i := 13) sc_law.nd rfl (.inl rfl) (pe_call G_f (hr.mono (by decide)) (by rfl) D_f.g D_f.F.kp D_f.b .nil pass0 (pa_cons (pe_meth0 (pv 7) L.cl M_fl G_fl (hr.mono (by decide)) b_fl .nil pass0) pa_nil)))
        (pss_cons (ps_set (i := 14) sc_law.nd rfl (.inr rfl) (pe_lst (pa_cons pe_str (pa_cons pe_str (pa_cons pe_str pa_nil)))))
        (pss_cons (ps_set (i := 15) sc_law.nd rfl (.inr rfl) (pe_lst (pa_cons pe_str (pa_cons pe_str (pa_cons pe_str pa_nil)))))
        (pss_cons (ps_setLc (i := 16) (own := [("_law_letter", 18)]) (g := gName 18) (tt := tYes) rfl sc_law.nd rfl rfl (sw_true rfl rfl rfl (by decide +kernel)) (pi_reversed (by rfl) T_rv (pa_cons (pv 5) pa_nil)) (blkOk_by (own := [("_law_letter", 18)]) (N := ["_law_script", "_law_size", "_law_top", "_law_many", "_law_upto", "_law_letters_here", "_law_note_here", "_law_sample", "_law_told", "_law_k", "_law_lines", "_law_late", "_law_near", "_law_back", "_law_words", "_law_over", "_law_turned", "_law_wrong", "_law_letter"]) (sc := defScope s_law) (by decide +kernel)) (fun _ _ _ _ _ => (pg_name (i := 18) sc_law.nd rfl (.inl rfl))) (fun _ _ _ _ _ => pts_nil) (fun _ _ _ _ _ => (pe_tup (pa_cons (pe_ix (r := rIxL K) ix_list (pv 15) (pe_indexK (K := K) rfl (pv 14) (pa_cons (pe_ix (r := rIxT K) ix_tup (pv 18) pe_int (fun _ _ => rfl)) pa_nil)) (fun _ _ => rfl)) (pa_cons (pe_ix (r := rIxT K) ix_tup (pv 18) pe_int (fun _ _ => rfl)) pa_nil)))))
        (pss_cons (ps_if (PW.pt (pw_or (pt_cmpR op_ne (pv 13) (pe_call G_no (hr.mono (by decide)) (by rfl) D_no.g D_no.F.kp D_no.b .nil pass0 (pa_cons (pe_ix (r := rIxL K) ix_list (pe_call G_la (hr.mono (by decide)) (by rfl) D_la.g D_la.F.kp D_la.b .nil pass0 (pa_cons (pv 2) (pa_cons (pv 5) pa_nil))) (pe_un un_neg pe_int) (fun _ _ => rfl)) (pa_cons (pv 16) pa_nil))) (nomark _)) (pw_or1 (pt_not (pt_val (pe_call G_re (hr.mono (by decide)) (by rfl) D_re.g D_re.F.kp D_re.b .nil pass0 (pa_cons (pv 13) pa_nil))))))) (pss_one (ps_ret pe_bl)) pss_nil)
        (pss_one (ps_ret (pe_and (pe_cmpR op_eq (pe_callK0 G_f (hr.mono (by decide)) (by rfl) D_f.g D_f.F.kp kb_f pass0 (pk_cons (pv 7) pk_nil)) (pv 6) (nomark _)) (pe_one (pe_call G_ir (hr.mono (by decide)) (by rfl) D_ir.g D_ir.F.kp D_ir.b .nil pass0 (pa_cons (pe_callK0 G_p (hr.mono (by decide)) (by rfl) D_p.g D_p.F.kp kb_p passN (pk_cons (pv 6) pk_nil)) (pa_cons (pv 2) (pa_cons (pv 5) pa_nil))))))))))))), ?_⟩
      intro a1 s0_ s1_ s2_ s3_ many upto a5 us t ds p7 y9 y10 y11 y12 y13 y14 y15 y16 y17 y18 H0 W
      obtain ⟨dx, ax, bx, vx, er, _⟩ := id W.hr
      have t1 := W.t0
      have tl_ := W.len
      have gd : ∀ d ∈ ds, GoodR d := fun d hd => (W.ok d hd).1
      obtain ⟨m1, m2⟩ := end_le (t := t) ds gd
      have lf := flip_lr W.ok
      have ll := flip_len ds
      have hb : (endR t ds).natAbs < 1000 := by omega
      refine ⟨_, rfl, p7, dx, _, rfl, er, rfl, p7, t, ds, rfl, W.hr, LR.good W.ok, t1.1, W.al, by omega, Nat.lt_of_lt_of_le hb (by decide +kernel), fun H1 x s1 r1 => ?_⟩
      refine ⟨x, endR t ds, flipD ds, rfl, r1, fun d hd => (lf d hd).sml, by omega, by omega, fun H2 s2 => ?_⟩
      refine ⟨by show 3 ≤ sizeLine; decide, fun c1 n1 => ?_⟩
      have s3 := same_upd (o := .lst [.str "cross", .str "cap", .str "cup"]) n1
      have ec1 : upd H2 c1 (.lst [.str "cross", .str "cap", .str "cup"]) c1 = some (.lst [.str "cross", .str "cap", .str "cup"]) := upd_same
      generalize upd H2 c1 (.lst [.str "cross", .str "cap", .str "cup"]) = H3 at *
      refine ⟨by show 3 ≤ sizeLine; decide, fun c2 n2 => ?_⟩
      have s4 := same_upd (o := .lst [.str "cross", .str "cup", .str "cap"]) n2
      have ec2 : upd H3 c2 (.lst [.str "cross", .str "cup", .str "cap"]) c2 = some (.lst [.str "cross", .str "cup", .str "cap"]) := upd_same
      generalize upd H3 c2 (.lst [.str "cross", .str "cup", .str "cap"]) = H4 at *
      have ec1' := s4 _ _ ec1
      have S4 := s1.trans (s2.trans (s3.trans s4))
      have W4 := W.same S4
      refine ⟨_, rfl, a5, us, rfl, .inl (.inl W4.hd), fun M nM => lc_it (walk_rev (K := K) (a := a5) (xs := us)) (fun i Hi => ∃ (Hc : Hp) (ws : List V), Same H4 Hc ∧ Hc M = none ∧ Hi = upd Hc M (.lst ws) ∧ DsT Hc ws ((flipD ds).take i)) ⟨H4, [], Same.refl _, nM, rfl, .nil⟩ (fun i Hi _ pv => ?_) (fun i v Hi H' hi pv y => ?_) fun Hi pv => ?_⟩
      · obtain ⟨Hc, ws, sc, nc, rfl, _⟩ := pv
        exact .inl (.inl ((sc.trans (same_upd nc)) _ _ W4.hd))
      · obtain ⟨Hc, ws, sc, nc, rfl, dh⟩ := pv
        obtain ⟨rfl, hv⟩ := y
        obtain ⟨b, d, rfl, hdi, eb⟩ := W4.dt.at_ hv
        obtain ⟨gw, n, hn1⟩ := id (gd d (List.mem_of_getElem? hdi))
        have edv : dv d = [.str d.1, .int n] := by show V.str d.1 :: d.2.map V.int = _; rw [hn1]; rfl
        obtain ⟨j, zv, j1, j2, j3, j4⟩ := word_ix (gd d (List.mem_of_getElem? hdi))
        have sM := same_upd (o := .lst ws) nc
        have eMM : upd Hc M (.lst ws) M = some (.lst ws) := upd_same
        have sH := sc.trans sM
        have dh1 := dh
        generalize hHi : upd Hc M (.lst ws) = Hi at *
        have eb1 := sH _ _ eb
        rw [edv] at eb1
        have hB : SqT K Hi b [.str d.1, .int n] := .inl (.inl eb1)
        have k1 := sH _ _ ec1'
        have k2 := sH _ _ ec2
        refine ⟨rfl, ?_⟩
        refine ⟨_, rfl, _, rfl, .inl ⟨rfl, _, .inl (.inl k1)⟩, _, rfl, b, _, _, _, rfl, rfl, hB, at_of (j := 0) rfl rfl, c1, _, _, j, _, rfl, rfl, .inl (.inl k1), rfl, rfl, j1, j2, j3, c2, _, _, _, rfl, rfl, .inl (.inl k2), j4, _, rfl, b, _, _, _, rfl, rfl, hB, at_of (j := 1) rfl rfl, by show 2 ≤ sizeLine; decide, fun u nu => ?_⟩
        have su := same_upd (o := .tup [.str (upW d.1), .int n]) nu
        have eMu := su _ _ eMM
        have nuM : u ≠ M := fun z => by rw [z, eMM] at nu; cases nu
        have lus : us.length = ds.length := W4.dt.1
        have hil : i < ds.length := by rw [← lus]; exact hi
        rw [lus] at hdi
        have lws : ws.length ≤ 100 := by rw [dh.1, List.length_take, ll]; omega
        refine ⟨ws, eMu, small1000 (by omega), hole (upd Hi u (.tup [.str (upW d.1), .int n])) M, ws ++ [.ref u], same_hole nM (sH.trans su), hole_at, upd_hole.symm, ?_⟩
        rw [List.take_add_one, flip_get hil hdi]
        have ef : dv (flip1 d) = [.str (upW d.1), .int n] := by show V.str (upW d.1) :: d.2.map V.int = _; rw [hn1]; rfl
        exact (dh1.same (same_hole nc (sM.trans su))).snoc (by rw [hole_ne nuM, ef]; exact upd_same)
      · obtain ⟨Hc, ws, sc, nc, rfl, dh⟩ := pv
        have lus : us.length = ds.length := W4.dt.1
        rw [lus, ← ll, List.take_length] at dh
        have sM := same_upd (o := .lst ws) nc
        have eM : upd Hc M (.lst ws) M = some (.lst ws) := upd_same
        have dtM := dh.same sM
        have S5 := S4.trans (sc.trans sM)
        generalize upd Hc M (.lst ws) = H5 at *
        have W5 := W.same S5
        refine ⟨_, rfl, _, rfl, _, rfl, a5, us, t, ds, rfl, .inl (.inl W5.hd), W5.dt, gd, by omega, fun H6 r s6 er6 => ?_⟩
        refine ⟨_, rfl, r, _, _, _, rfl, rfl, .inl (.inl er6), lanes_at t ds, ?_⟩
        refine ⟨_, rfl, M, ws, endR t ds, flipD ds, rfl, .inl (.inl (s6 _ _ eM)), dtM.same s6, lf, by omega, by omega, fun H7 s7 => ⟨rfl, _, rfl, ?_⟩⟩
        rw [show (!decide (V.str (noteT ((Str.ofString "row", [endR t ds]) :: flipD ds)) = V.str (noteT ((Str.ofString "row", [endR t ds]) :: flipD ds)))) = false by rw [decide_eq_true rfl]; rfl]
        refine ⟨_, rfl, nT (endR t ds) (flipD ds), rfl, (note_nt (by omega) lf (m := 101) (by omega)).fit (by decide) (by decide), fun H8 s8 => ⟨true, rfl, ?_⟩⟩
        have W8 := W5.same (s6.trans (s7.trans s8))
        refine ⟨_, rfl, rfl, rfl, p7, t, ds, rfl, W8.hr, fun d hd => (W.ok d hd).sml, by omega, by omega, fun H9 s9 => ?_⟩
        refine ⟨_, rfl, rfl, true, congrArg V.bl (decide_eq_true rfl), ?_⟩
        rw [if_pos rfl]
        refine ⟨_, rfl, rfl, rfl, ?_⟩
        dsimp only [tCall, tCons, tNil, tVar, List.cons_append, List.nil_append]
        refine parse_note t1.1 (by omega) W.ok W.al (by omega) fun H10 p10 s10 c10 => ?_
        have W10 := W8.same (s9.trans s10)
        exact ⟨_, rfl, _, rfl, p10, a5, us, t, ds, rfl, c10, .inl (.inl W10.hd), W10.dt, gd, by omega, fun H11 s11 => q _⟩
    obtain ⟨tPv, hPv, qPv⟩ : ∃ tR, PSs (cxOf CX0 P w K mg base ["_law_script", "_law_size", "_law_top", "_law_many", "_law_upto", "_law_letters_here", "_law_note_here", "_law_sample", "_law_told", "_law_k", "_law_lines", "_law_late", "_law_near", "_law_back", "_law_words", "_law_over", "_law_turned", "_law_wrong", "_law_letter"] "law" (defScope s_law) f cdv A outer s H E).nox ((defBody s_law).drop 12) tR ∧ ∀ (a1 : Addr) (s0_ s1_ s2_ s3_ : Int) (many upto : Option V) (a5 : Addr) (us : List V) (t : Int) (ds : List Deed) (p7 : Addr) (y9 y10 y11 y12 y13 y14 y15 y16 y17 y18 : Option V) (H0 : Hp), LW K C z ns a1 s0_ s1_ s2_ s3_ a5 us t ds p7 H0 → tR { nx := fun _ H' => Q .non H', rt := Q } [some (.ref z), some (.ref a1), some (.int t), many, upto, some (.ref a5), some (.str (nT t ds)), some (.ref p7), some (.str (nT t ds)), y9, y10, y11, y12, y13, y14, y15, y16, y17, y18] H0 := by
      refine ⟨_, (pss_cons (ps_set (i := 10) sc_law.nd rfl (.inl rfl) (pe_split (pv 6) pe_str))
        (pss_cons (ps_set (i := 11) sc_law.nd rfl (.inl rfl) (pe_ix (r := rIxL K) ix_list (pe_lst (pa_cons (pe_lst (pa_cons pe_str pa_nil)) (pa_cons (pe_lst (pa_cons pe_str pa_nil)) (pa_cons (pe_lst (pa_cons pe_str pa_nil)) (pa_cons (pe_lst (pa_cons pe_str pa_nil)) (pa_cons (pe_lst (pa_cons pe_str pa_nil)) (pa_cons (pe_lst pa_nil) pa_nil))))))) (pe_ix (r := rIxL K) ix_list (pv 1) pe_int (fun _ _ => rfl)) (fun _ _ => rfl)))
        (pss_cons (ps_for PassesOwn.never rfl (pi_list (pe_lst (pa_cons (pe_op op_cat (pe_op op_cat (pe_lst (pa_cons (pe_op op_add_str pe_str (pe_callTy call_str_int (by rfl) T.b_str (by decide +kernel) (pa_cons (pe_op op_add pe_int (pe_ix (r := rIxL K) ix_list (pv 1) pe_int (fun _ _ => rfl))) pa_nil))) pa_nil)) (pe_slice (sl_listK (K := K) rfl) (pv 10) (po_some pe_int) po_none)) (pv 11)) (pa_cons (pe_op op_cat (pe_op op_cat (pv 10) (pe_lst (pa_cons pe_str (pa_cons pe_str pa_nil)))) (pv 11)) pa_nil)))) (pg_name (i := 12) sc_law.nd rfl (.inl rfl))
        (pss_one (ps_if (pt_not (pt_val (pe_call G_re (hr.mono (by decide)) (by rfl) D_re.g D_re.F.kp D_re.b .nil pass0 (pa_cons (pe_asJ (K := K) rfl (pe_join pe_str (pv 12))) pa_nil)))) (pss_one (ps_ret pe_bl)) pss_nil)))
        hPg))), ?_⟩
      intro a1 s0_ s1_ s2_ s3_ many upto a5 us t ds p7 y9 y10 y11 y12 y13 y14 y15 y16 y17 y18 H0 W
      have t1 := W.t0
      have tl_ := W.len
      have pl := linesT_pl (t := t) (by omega) W.ok
      have nl_ := linesT_len t ds
      have nn := (note_nt (t := t) (by omega) W.ok (m := 101) (by omega)).fit (by decide) (by decide)
      have el := lines_note (t := t) (by omega) W.ok
      refine ⟨_, rfl, ⟨_, rfl⟩, nT t ds, _, rfl, rfl, rfl, Nat.le_trans (Nat.add_le_add_right nn.1 2) (by decide), fun a na => ?_⟩
      rw [show Txt.split (nT t ds) (Str.ofString "\n") = linesOf (nT t ds) from rfl, el]
      generalize linesT t ds = ls at *
      have s1 := same_upd (o := .lst (ls.map V.str)) na
      have ea : upd H0 a (.lst (ls.map V.str)) a = some (.lst (ls.map V.str)) := upd_same
      generalize upd H0 a (.lst (ls.map V.str)) = H1 at *
      refine ⟨by show 1 ≤ sizeLine; decide, fun c1 n1 => ⟨by show 1 ≤ sizeLine; decide, fun c2 n2 => ⟨by show 1 ≤ sizeLine; decide, fun c3 n3 => ⟨by show 1 ≤ sizeLine; decide, fun c4 n4 => ⟨by show 1 ≤ sizeLine; decide, fun c5 n5 => ⟨by show 0 ≤ sizeLine; decide, fun c6 n6 => ⟨by show 6 ≤ sizeLine; decide, fun o no => ?_⟩⟩⟩⟩⟩⟩⟩
      have u1 := same_upd (o := .lst [.str "cups 0"]) n1
      have u2 := same_upd (o := .lst [.str "cap"]) n2
      have u3 := same_upd (o := .lst [.str "row 1"]) n3
      have u4 := same_upd (o := .lst [.str ""]) n4
      have u5 := same_upd (o := .lst [.str "cross 0 0"]) n5
      have u6 := same_upd (o := .lst []) n6
      have u7 := same_upd (o := .lst [.ref c1, .ref c2, .ref c3, .ref c4, .ref c5, .ref c6]) no
      obtain ⟨ca, ws, hat, eca, wl, wp⟩ : ∃ (ca : Addr) (ws : List Str), atI [V.ref c1, .ref c2, .ref c3, .ref c4, .ref c5, .ref c6] s3_ = some (.ref ca) ∧ (upd (upd (upd (upd (upd (upd (upd H1 c1 (.lst [.str "cups 0"])) c2 (.lst [.str "cap"])) c3 (.lst [.str "row 1"])) c4 (.lst [.str ""])) c5 (.lst [.str "cross 0 0"])) c6 (.lst [])) o (.lst [.ref c1, .ref c2, .ref c3, .ref c4, .ref c5, .ref c6])) ca = some (.lst (ws.map V.str)) ∧ ws.length ≤ 1 ∧ ∀ x ∈ ws, Pl 26 x := by
        have one : ∀ y : Str, Pl 26 y → ∀ x ∈ [y], Pl 26 x := fun y h x hx => by rw [List.mem_singleton.mp hx]; exact h
        have b3 := W.b3
        have : s3_ = ((0 : Nat) : Int) ∨ s3_ = ((1 : Nat) : Int) ∨ s3_ = ((2 : Nat) : Int) ∨ s3_ = ((3 : Nat) : Int) ∨ s3_ = ((4 : Nat) : Int) ∨ s3_ = ((5 : Nat) : Int) := by omega
        rcases this with e | e | e | e | e | e <;> rw [e]
        · exact ⟨c1, ["cups 0"], atI_nat rfl, (u2.trans (u3.trans (u4.trans (u5.trans (u6.trans u7))))) _ _ upd_same, by decide, one _ (pl_of (by decide +kernel))⟩
        · exact ⟨c2, ["cap"], atI_nat rfl, (u3.trans (u4.trans (u5.trans (u6.trans u7)))) _ _ upd_same, by decide, one _ (pl_of (by decide +kernel))⟩
        · exact ⟨c3, ["row 1"], atI_nat rfl, (u4.trans (u5.trans (u6.trans u7))) _ _ upd_same, by decide, one _ (pl_of (by decide +kernel))⟩
        · exact ⟨c4, [""], atI_nat rfl, (u5.trans (u6.trans u7)) _ _ upd_same, by decide, one _ (pl_of (by decide +kernel))⟩
        · exact ⟨c5, ["cross 0 0"], atI_nat rfl, (u6.trans u7) _ _ upd_same, by decide, one _ (pl_of (by decide +kernel))⟩
        · exact ⟨c6, [], atI_nat rfl, u7 _ _ upd_same, by decide, fun x h => nomatch h⟩
      have s2 := u1.trans (u2.trans (u3.trans (u4.trans (u5.trans (u6.trans u7)))))
      have eo : (upd (upd (upd (upd (upd (upd (upd H1 c1 (.lst [.str "cups 0"])) c2 (.lst [.str "cap"])) c3 (.lst [.str "row 1"])) c4 (.lst [.str ""])) c5 (.lst [.str "cross 0 0"])) c6 (.lst [])) o (.lst [.ref c1, .ref c2, .ref c3, .ref c4, .ref c5, .ref c6])) o = some (.lst [.ref c1, .ref c2, .ref c3, .ref c4, .ref c5, .ref c6]) := upd_same
      clear u1 u2 u3 u4 u5 u6 u7 n1 n2 n3 n4 n5 n6 no
      generalize (upd (upd (upd (upd (upd (upd (upd H1 c1 (.lst [.str "cups 0"])) c2 (.lst [.str "cap"])) c3 (.lst [.str "row 1"])) c4 (.lst [.str ""])) c5 (.lst [.str "cross 0 0"])) c6 (.lst [])) o (.lst [.ref c1, .ref c2, .ref c3, .ref c4, .ref c5, .ref c6])) = H2 at *
      have W2 := W.same (s1.trans s2)
      have ea2 := s2 _ _ ea
      refine ⟨_, rfl, a1, _, _, _, rfl, rfl, .inl (.inl W2.h1), at_of (j := 3) rfl rfl, o, _, _, _, rfl, rfl, .inl (.inl eo), hat, ?_⟩
      have b2 := W.b2
      have pz : Pl 26 (Str.ofString "row -" ++ Str.ofString (toString (1 + s2_))) := ((pl_of (n := 5) (by decide +kernel)).app (pl_nt2 (i := 1 + s2_) (Nat.lt_of_lt_of_le (by omega : (1 + s2_).natAbs < 100) (by decide)))).le (by decide)
      have lz : (Str.ofString "row -").length + (nt (1 + s2_)).length ≤ 26 := by rw [← strLen_append]; exact pz.1
      have lim : ∀ n : Nat, n ≤ 1000 → n ≤ sizeLine := fun n h => Nat.le_trans h (by decide)
      have cl := cutG_len ls (some 1) none
      refine ⟨_, rfl, a1, _, _, _, rfl, rfl, .inl (.inl W2.h1), at_of (j := 2) rfl rfl, _, _, rfl, rfl, 1 + s2_, rfl, ?_, _, _, rfl, rfl, lim _ (Nat.le_trans lz (by decide)), by show 1 ≤ sizeLine; decide, fun l1 nl1 => ?_⟩
      · show (1 + s2_).natAbs.log2 < 1920
        exact Nat.lt_of_lt_of_le (log_lt (i := 1 + s2_) (k := 10) (by decide) (by omega)) (by decide)
      have v1 := same_upd (o := .lst [.str (Str.ofString "row -" ++ Str.ofString (toString (1 + s2_)))]) nl1
      have el1 : upd H2 l1 (.lst [.str (Str.ofString "row -" ++ Str.ofString (toString (1 + s2_)))]) l1 = some (.lst [.str (Str.ofString "row -" ++ Str.ofString (toString (1 + s2_)))]) := upd_same
      generalize upd H2 l1 (.lst [.str (Str.ofString "row -" ++ Str.ofString (toString (1 + s2_)))]) = H3 at *
      refine ⟨_, rfl, _, rfl, a, _, rfl, .inl (.inl (v1 _ _ ea2)), fun p np => ?_⟩
      rw [cut_map]
      have v2 := same_upd (o := .lst ((cutG ls (some 1) none).map V.str)) np
      have ep : upd H3 p (.lst ((cutG ls (some 1) none).map V.str)) p = some (.lst ((cutG ls (some 1) none).map V.str)) := upd_same
      generalize upd H3 p (.lst ((cutG ls (some 1) none).map V.str)) = H4 at *
      refine ⟨l1, p, _, _, rfl, rfl, v2 _ _ el1, ep, lim _ (by rw [List.length_map]; show 1 + _ ≤ 1000; omega), fun c nc => ?_⟩
      have v3 := same_upd (o := .lst ([.str (Str.ofString "row -" ++ Str.ofString (toString (1 + s2_)))] ++ (cutG ls (some 1) none).map V.str)) nc
      have ec : upd H4 c (.lst ([.str (Str.ofString "row -" ++ Str.ofString (toString (1 + s2_)))] ++ (cutG ls (some 1) none).map V.str)) c = some (.lst ([.str (Str.ofString "row -" ++ Str.ofString (toString (1 + s2_)))] ++ (cutG ls (some 1) none).map V.str)) := upd_same
      generalize upd H4 c (.lst ([.str (Str.ofString "row -" ++ Str.ofString (toString (1 + s2_)))] ++ (cutG ls (some 1) none).map V.str)) = H5 at *
      have V5 := v1.trans (v2.trans v3)
      refine ⟨_, rfl, c, ca, _, _, rfl, rfl, ec, V5 _ _ eca, lim _ (by rw [List.length_append, List.length_map, List.length_map]; show 1 + _ + _ ≤ 1000; omega), fun d nd => ?_⟩
      have v4 := same_upd (o := .lst (([.str (Str.ofString "row -" ++ Str.ofString (toString (1 + s2_)))] ++ (cutG ls (some 1) none).map V.str) ++ ws.map V.str)) nd
      have ed : upd H5 d (.lst (([.str (Str.ofString "row -" ++ Str.ofString (toString (1 + s2_)))] ++ (cutG ls (some 1) none).map V.str) ++ ws.map V.str)) d = some (.lst (([.str (Str.ofString "row -" ++ Str.ofString (toString (1 + s2_)))] ++ (cutG ls (some 1) none).map V.str) ++ ws.map V.str)) := upd_same
      generalize upd H5 d (.lst (([.str (Str.ofString "row -" ++ Str.ofString (toString (1 + s2_)))] ++ (cutG ls (some 1) none).map V.str) ++ ws.map V.str)) = H6 at *
      refine ⟨_, rfl, by show 2 ≤ sizeLine; decide, fun l2 nl2 => ?_⟩
      have v5 := same_upd (o := .lst [.str "cap 1000003", .str "cup 0"]) nl2
      have el2 : upd H6 l2 (.lst [.str "cap 1000003", .str "cup 0"]) l2 = some (.lst [.str "cap 1000003", .str "cup 0"]) := upd_same
      generalize upd H6 l2 (.lst [.str "cap 1000003", .str "cup 0"]) = H7 at *
      have V7 := V5.trans (v4.trans v5)
      refine ⟨a, l2, _, _, rfl, rfl, V7 _ _ ea2, el2, lim _ (by rw [List.length_map]; show _ + 2 ≤ 1000; omega), fun e ne_ => ?_⟩
      have v6 := same_upd (o := .lst (ls.map V.str ++ [.str "cap 1000003", .str "cup 0"])) ne_
      have ee : upd H7 e (.lst (ls.map V.str ++ [.str "cap 1000003", .str "cup 0"])) e = some (.lst (ls.map V.str ++ [.str "cap 1000003", .str "cup 0"])) := upd_same
      generalize upd H7 e (.lst (ls.map V.str ++ [.str "cap 1000003", .str "cup 0"])) = H8 at *
      have V8 := V7.trans v6
      refine ⟨_, rfl, e, ca, _, _, rfl, rfl, ee, V8 _ _ eca, lim _ (by rw [List.length_append, List.length_map, List.length_map]; show _ + 2 + _ ≤ 1000; omega), fun g_ ng => ?_⟩
      have v7 := same_upd (o := .lst ((ls.map V.str ++ [.str "cap 1000003", .str "cup 0"]) ++ ws.map V.str)) ng
      have eg_ : upd H8 g_ (.lst ((ls.map V.str ++ [.str "cap 1000003", .str "cup 0"]) ++ ws.map V.str)) g_ = some (.lst ((ls.map V.str ++ [.str "cap 1000003", .str "cup 0"]) ++ ws.map V.str)) := upd_same
      generalize upd H8 g_ (.lst ((ls.map V.str ++ [.str "cap 1000003", .str "cup 0"]) ++ ws.map V.str)) = H9 at *
      refine ⟨by show 2 ≤ sizeLine; decide, fun p2 np2 => ?_⟩
      have v8 := same_upd (o := .lst [.ref d, .ref g_]) np2
      have ep2 : upd H9 p2 (.lst [.ref d, .ref g_]) p2 = some (.lst [.ref d, .ref g_]) := upd_same
      generalize upd H9 p2 (.lst [.ref d, .ref g_]) = H10 at *
      have ed10 := (v5.trans (v6.trans (v7.trans v8))) _ _ ed
      have eg10 := v8 _ _ eg_
      have S10 := s1.trans (s2.trans (V8.trans (v7.trans v8)))
      refine ⟨p2, rfl, ⟨_, .inl (.inl ep2)⟩, for_list (xs := [.ref d, .ref g_]) (fun i σ H' => (∃ y12, σ = [some (.ref z), some (.ref a1), some (.int t), many, upto, some (.ref a5), some (.str (nT t ds)), some (.ref p7), some (.str (nT t ds)), y9, some (.ref a), some (.ref ca), y12, y13, y14, y15, y16, y17, y18]) ∧ Same H10 H') ⟨⟨_, rfl⟩, Same.refl _⟩ (fun i σ H' _ pv => .inl (.inl (pv.2 _ _ ep2))) (fun i v σ H11 hv pv => ?_) fun σ H11 pv => ?_⟩
      · obtain ⟨⟨y12, rfl⟩, s11⟩ := pv
        obtain ⟨q_, zs, rfl, eq_, zl, zp⟩ : ∃ (q_ : Addr) (zs : List Str), v = .ref q_ ∧ H10 q_ = some (.lst (zs.map V.str)) ∧ zs.length ≤ 110 ∧ ∀ x ∈ zs, Pl 26 x := by
          match i, hv with
          | 0, hv =>
            refine ⟨d, [(Str.ofString "row -" ++ Str.ofString (toString (1 + s2_)))] ++ cutG ls (some 1) none ++ ws, (Option.some.inj hv).symm, by rw [ed10, List.map_append, List.map_append]; rfl, by simp only [List.length_append, List.length_cons, List.length_nil]; omega, fun x hx => ?_⟩
            rcases List.mem_append.mp hx with h | h
            · rcases List.mem_append.mp h with h | h
              · rw [List.mem_singleton.mp h]
                exact pz
              · exact pl x (cutG_mem x h)
            · exact wp x h
          | 1, hv =>
            refine ⟨g_, ls ++ [Str.ofString "cap 1000003", Str.ofString "cup 0"] ++ ws, (Option.some.inj hv).symm, by rw [eg10, List.map_append, List.map_append]; rfl, by simp only [List.length_append, List.length_cons, List.length_nil]; omega, fun x hx => ?_⟩
            rcases List.mem_append.mp hx with h | h
            · rcases List.mem_append.mp h with h | h
              · exact pl x h
              · simp only [List.mem_cons, List.not_mem_nil, or_false] at h
                rcases h with e | e <;> (rw [e]; exact pl_of (by decide +kernel))
            · exact wp x h
          | i + 2, hv => exact absurd hv (by simp)
        refine ⟨⟨_, rfl⟩, _, rfl, _, q_, zs, rfl, rfl, .inl (.inl (.inl (s11 _ _ eq_))), join_few zp (by decide) (by omega), _, rfl, (nt_of (m := 110) (by decide) zl zp).fit (by decide) (by decide), fun H12 s12 => ⟨true, rfl, ?_⟩⟩
        exact ⟨⟨_, rfl⟩, s11.trans s12⟩
      · obtain ⟨⟨y12, rfl⟩, s11⟩ := pv
        exact qPg a1 s0_ s1_ s2_ s3_ many upto a5 us t ds p7 _ _ _ _ _ _ _ _ _ _ H11 (W.same (S10.trans s11))
    obtain ⟨tPb, hPb, qPb⟩ : ∃ tR, PSs (cxOf CX0 P w K mg base ["_law_script", "_law_size", "_law_top", "_law_many", "_law_upto", "_law_letters_here", "_law_note_here", "_law_sample", "_law_told", "_law_k", "_law_lines", "_law_late", "_law_near", "_law_back", "_law_words", "_law_over", "_law_turned", "_law_wrong", "_law_letter"] "law" (defScope s_law) f cdv A outer s H E).nox ((defBody s_law).drop 11) tR ∧ ∀ (a1 : Addr) (s0_ s1_ s2_ s3_ : Int) (many upto : Option V) (a5 : Addr) (us : List V) (t : Int) (ds : List Deed) (p7 : Addr) (y9 y10 y11 y12 y13 y14 y15 y16 y17 y18 : Option V) (H0 : Hp), LW K C z ns a1 s0_ s1_ s2_ s3_ a5 us t ds p7 H0 → tR { nx := fun _ H' => Q .non H', rt := Q } [some (.ref z), some (.ref a1), some (.int t), many, upto, some (.ref a5), some (.str (nT t ds)), some (.ref p7), some (.str (nT t ds)), y9, y10, y11, y12, y13, y14, y15, y16, y17, y18] H0 := by
      refine ⟨_, (pss_cons (ps_for PassesOwn.never rfl (pi_range1 (by rfl) T.b_range (pa_cons pe_int pa_nil)) (pg_name (i := 9) sc_law.nd rfl (.inl rfl))
        (pss_cons (ps_set (i := 17) sc_law.nd rfl (.inl rfl) (pe_call G_d (hr.mono (by decide)) (by rfl) D_d.g D_d.F.kp D_d.b .nil pass0 (pa_cons (pe_call G_c (hr.mono (by decide)) (by rfl) D_c.g D_c.F.kp D_c.b .nil pass0 (pa_cons (pv 0) (pa_cons (pe_op op_add pe_int (pv 9)) pa_nil))) (pa_cons (pe_lst (pa_cons pe_int (pa_cons pe_int (pa_cons pe_int (pa_cons pe_int (pa_cons pe_int (pa_cons pe_int pa_nil))))))) pa_nil))))
        (pss_cons (ps_set (i := 12) sc_law.nd rfl (.inl rfl) (pe_call G_sn (hr.mono (by decide)) (by rfl) D_sn.g D_sn.F.kp D_sn.b .nil pass0 (pa_cons (pv 6) (pa_cons (pe_ix (r := rIxL K) ix_list (pv 17) pe_int (fun _ _ => rfl)) (pa_cons (pe_ix (r := rIxL K) ix_list (pv 17) pe_int (fun _ _ => rfl)) (pa_cons (pe_ix (r := rIxL K) ix_list (pv 17) pe_int (fun _ _ => rfl)) pa_nil))))))
        (pss_one (ps_if (PW.pt (pw_or (pt_not (pt_val (pe_call G_re (hr.mono (by decide)) (by rfl) D_re.g D_re.F.kp D_re.b .nil pass0 (pa_cons (pv 12) pa_nil)))) (pw_or1 (pt_not (pt_val (pe_call G_re (hr.mono (by decide)) (by rfl) D_re.g D_re.F.kp D_re.b .nil pass0 (pa_cons (pe_call G_sn (hr.mono (by decide)) (by rfl) D_sn.g D_sn.F.kp D_sn.b .nil pass0 (pa_cons (pv 12) (pa_cons (pe_ix (r := rIxL K) ix_list (pv 17) pe_int (fun _ _ => rfl)) (pa_cons (pe_ix (r := rIxL K) ix_list (pv 17) pe_int (fun _ _ => rfl)) (pa_cons (pe_ix (r := rIxL K) ix_list (pv 17) pe_int (fun _ _ => rfl)) pa_nil))))) pa_nil))))))) (pss_one (ps_ret pe_bl)) pss_nil)))))
        hPv), ?_⟩
      intro a1 s0_ s1_ s2_ s3_ many upto a5 us t ds p7 y9 y10 y11 y12 y13 y14 y15 y16 y17 y18 H0 W
      refine ⟨6, rfl, by omega, by omega, for_range (lo := 0) (n := 6) (fun i σ H' => (∃ y9 y12 y17, σ = [some (.ref z), some (.ref a1), some (.int t), many, upto, some (.ref a5), some (.str (nT t ds)), some (.ref p7), some (.str (nT t ds)), y9, y10, y11, y12, y13, y14, y15, y16, y17, y18]) ∧ Same H0 H') ⟨⟨_, _, _, rfl⟩, Same.refl _⟩ (fun i σ H1 hi pv => ?_) (fun σ H1 pv => ?_)⟩
      · obtain ⟨⟨y9, y12, y17, rfl⟩, s1⟩ := pv
        have W1 := W.same s1
        refine ⟨_, rfl, _, rfl, _, _, rfl, rfl, z, ns, 2 + i, by show [V.ref z, V.int (2 + (0 + (i : Int)))] = _; rw [show (2 + (0 + (i : Int))) = ((2 + i : Nat) : Int) by omega], W1.hs, by omega, hn, fun c => ⟨by show 6 ≤ sizeLine; decide, fun l nl => ?_⟩⟩
        have s2 := same_upd (o := .lst [.int 23, .int 61, .int 60, .int 23, .int 61, .int 60]) nl
        refine ⟨c, l, [23, 61, 60, 23, 61, 60], rfl, .inl (.inl upd_same), by decide, by decide, fun H2 r dg s3 nr er hdg => ?_⟩
        obtain ⟨x0, x1, x2, x3, x4, x5, rfl, b0, b1, b2, b3, b4, b5⟩ := digs6 hdg
        have t1 := W.t0
        have tl := W.len
        refine ⟨_, rfl, _, rfl, r, _, _, _, rfl, rfl, .inl (.inl er), at_of (j := 0) rfl rfl, _, rfl, r, _, _, _, rfl, rfl, .inl (.inl er), at_of (j := 1) rfl rfl, _, rfl, r, _, _, _, rfl, rfl, .inl (.inl er), at_of (j := 2) rfl rfl, nT t ds, x0, x1, x2, 26, 101, rfl, note_nt (by omega) W.ok (by omega), by decide, by decide, b0, b1, b2, fun H3 y s4 ny => ?_⟩
        refine ⟨_, rfl, y, rfl, ny.fit (by decide) (by decide), fun H4 s5 => ⟨true, rfl, ?_⟩⟩
        have er4 := (s4.trans s5) _ _ er
        refine ⟨_, rfl, _, rfl, r, _, _, _, rfl, rfl, .inl (.inl er4), at_of (j := 3) rfl rfl, _, rfl, r, _, _, _, rfl, rfl, .inl (.inl er4), at_of (j := 4) rfl rfl, _, rfl, r, _, _, _, rfl, rfl, .inl (.inl er4), at_of (j := 5) rfl rfl, y, x3, x4, x5, 82, 102, rfl, ny, by decide, by decide, b3, b4, b5, fun H5 y2 s6 ny2 => ?_⟩
        refine ⟨y2, rfl, ny2.fit (by decide) (by decide), fun H6 s7 => ⟨true, rfl, ?_⟩⟩
        exact ⟨⟨_, _, _, rfl⟩, s1.trans (s2.trans (s3.trans (s4.trans (s5.trans (s6.trans s7)))))⟩
      · obtain ⟨⟨y9, y12, y17, rfl⟩, s1⟩ := pv
        exact qPv a1 s0_ s1_ s2_ s3_ many upto a5 us t ds p7 _ _ _ _ _ _ _ _ _ _ H1 (W.same s1)
    refine ⟨_, (pss_cons (ps_set (i := 1) sc_law.nd rfl (.inl rfl) (pe_call G_d (hr.mono (by decide)) (by rfl) D_d.g D_d.F.kp D_d.b .nil pass0 (pa_cons (pe_call G_c (hr.mono (by decide)) (by rfl) D_c.g D_c.F.kp D_c.b .nil pass0 (pa_cons (pv 0) (pa_cons pe_int pa_nil))) (pa_cons (pe_lst (pa_cons pe_int (pa_cons pe_int (pa_cons pe_int (pa_cons pe_int pa_nil))))) pa_nil))))
        (pss_cons (ps_set (i := 2) sc_law.nd rfl (.inl rfl) (pe_ix (r := rIxL K) ix_list (pv 1) pe_int (fun _ _ => rfl)))
        (pss_cons (ps_set (i := 3) sc_law.nd rfl (.inl rfl) (pe_ix (r := rIxL K) ix_list (pv 1) pe_int (fun _ _ => rfl)))
        (pss_cons (ps_set (i := 4) sc_law.nd rfl (.inl rfl) pe_int)
        (C8.pss_cut (ps_if (pt_cmpR op_eq (pe_ix (r := rIxL K) ix_list (pv 1) pe_int (fun _ _ => rfl)) pe_int (nomark _)) (pss_cons (ps_set (i := 2) sc_law.nd rfl (.inl rfl) (pe_op op_add (pv 2) pe_int))
        (pss_cons (ps_set (i := 3) sc_law.nd rfl (.inl rfl) (pe_op op_mul pe_int (pv 3)))
        (pss_one (ps_set (i := 4) sc_law.nd rfl (.inl rfl) pe_int)))) pss_nil)
        (pss_cons (ps_set (i := 5) sc_law.nd rfl (.inl rfl) (pe_call G_le (hr.mono (by decide)) (by rfl) D_le.g D_le.F.kp D_le.b .nil pass0 (pa_cons (pe_call G_d (hr.mono (by decide)) (by rfl) D_d.g D_d.F.kp D_d.b .nil pass0 (pa_cons (pe_call G_c (hr.mono (by decide)) (by rfl) D_c.g D_c.F.kp D_c.b .nil pass0 (pa_cons (pv 0) (pa_cons pe_int pa_nil))) (pa_cons (pe_op op_rep (pe_lst (pa_cons pe_int (pa_cons pe_int pa_nil))) (pv 3)) pa_nil))) (pa_cons (pv 2) (pa_cons (pv 4) pa_nil)))))
        (pss_cons (ps_set (i := 6) sc_law.nd rfl (.inl rfl) (pe_call G_no (hr.mono (by decide)) (by rfl) D_no.g D_no.F.kp D_no.b .nil pass0 (pa_cons (pv 2) (pa_cons (pv 5) pa_nil))))
        (pss_cons (ps_set (i := 7) sc_law.nd rfl (.inl rfl) (pe_make M G_i (hr.mono (by decide)) (by rfl) L.g b_i .nil passN (pa_cons (pv 2) (pa_cons (pv 5) pa_nil))))
        (pss_cons (ps_set (i := 8) sc_law.nd rfl (.inl rfl) (pe_call G_f (hr.mono (by decide)) (by rfl) D_f.g D_f.F.kp D_f.b .nil pass0 (pa_cons (pv 7) pa_nil)))
        (pss_cons (ps_if (PW.pt (pw_or (pt_not (pt_val (pe_callB call_isi (by rfl) T.b_isinstance (by decide +kernel) (pa_cons (pv 8) (pa_cons (pe_bltn (v := .ty "str") (by rfl) T.b_str (by decide +kernel) rfl) pa_nil))))) (pw_or (pt_cmpR op_ne (pv 8) (pv 6) (nomark _)) (pw_or1 (pt_not (pt_val (pe_call G_re (hr.mono (by decide)) (by rfl) D_re.g D_re.F.kp D_re.b .nil pass0 (pa_cons (pv 6) pa_nil)))))))) (pss_one (ps_ret pe_bl)) pss_nil)
        (pss_cons (ps_if (pt_cmpR op_notBl (pe_cmpR (by exact op_ownEqK (K := K) rfl i_eq n_eq G_eq (hr.mono (by decide)) b_eq) (pe_call G_p (hr.mono (by decide)) (by rfl) D_p.g D_p.F.kp D_p.b .nil passN (pa_cons (pv 8) pa_nil)) (pv 7) (nomark _)) pe_bl (nomark _)) (pss_one (ps_ret pe_bl)) pss_nil)
        hPb))))))))))), ?_⟩
    refine ⟨_, rfl, z, ns, 0, rfl, hs, by decide, hn, fun c0_ => ⟨by show 4 ≤ sizeLine; decide, fun l0 nl0 => ?_⟩⟩
    have s1 := same_upd (o := .lst [.int 8, .int 8, .int 13, .int 6]) nl0
    refine ⟨c0_, l0, [8, 8, 13, 6], rfl, .inl (.inl upd_same), by decide, by decide, fun H1 a1 dg s2 nr er hdg => ?_⟩
    obtain ⟨d0, d1, d2, d3, rfl, b0, b1, b2, b3⟩ := digs4 hdg
    have S2 := s1.trans s2
    refine ⟨_, rfl, a1, _, _, _, rfl, rfl, .inl (.inl er), at_of (j := 1) rfl rfl, _, rfl, a1, _, _, _, rfl, rfl, .inl (.inl er), at_of (j := 2) rfl rfl, ?_⟩
    refine ⟨fun σ' H' => ∃ t many upto : Int, σ' = [some (.ref z), some (.ref a1), some (.int t), some (.int many), some (.int upto), none, none, none, none, none, none, none, none, none, none, none, none, none, none] ∧ H' = H1 ∧ (0 ≤ t ∧ t ≤ 100) ∧ (0 ≤ many ∧ many ≤ 36) ∧ 10 ≤ upto, ?_, fun σ' H' m => ?_⟩
    · refine ⟨_, rfl, a1, _, _, _, rfl, rfl, .inl (.inl er), at_of (j := 0) rfl rfl, rfl, _, rfl, ite2 (fun c => ?_) (fun c => ?_)⟩
      · exact ⟨_, rfl, _, _, rfl, rfl, _, rfl, _, _, rfl, rfl, .inl ⟨by decide, by decide⟩, _, _, _, rfl, rfl, by omega, by omega, by decide⟩
      · exact ⟨_, _, _, rfl, rfl, by omega, by omega, by decide⟩
    obtain ⟨t, many, upto, rfl, rfl, ht, hm, hu⟩ := m
    refine ⟨_, rfl, z, ns, 1, rfl, S2.seq hs, by decide, hn, fun c1_ => ⟨by show 2 ≤ sizeLine; decide, fun l1 nl1 => ⟨_, rfl, l1, many, _, rfl, rfl, upd_same, by omega, by omega, ?_, fun l2 nl2 => ?_⟩⟩⟩
    · show 2 * many.toNat ≤ sizeLine
      exact Nat.le_trans (by omega : 2 * many.toNat ≤ 100) (by decide)
    have s3 := (same_upd (o := .lst [.int 12, .int 60]) nl1).trans (same_upd (o := .lst (List.replicate many.toNat [V.int 12, V.int 60]).flatten) nl2)
    refine ⟨c1_, l2, rep many.toNat, rfl, .inl (.inl (upd_same.trans (congrArg (fun l => some (HO.lst l)) (rep_map _)))), by rw [rep_len]; omega, fun s hs => ?_, fun H3 p dg s4 np ep hdg => ?_⟩
    · rcases rep_mem _ s hs with e | e <;> rw [e] <;> decide
    have ld := hdg.1
    rw [rep_len] at ld
    refine ⟨_, rfl, _, rfl, p, dg, t, upto, rfl, .inl (.inl ep), by omega, rep_even hdg, ht, hu, fun H4 a5 us ds s5 e5 dt ok al len => ?_⟩
    have S5 := S2.trans (s3.trans (s4.trans s5))
    have s35 := s3.trans (s4.trans s5)
    refine ⟨_, rfl, _, rfl, a5, us, t, ds, rfl, .inl (.inl e5), dt, ok, by omega, by omega, fun H5 s6 => ?_⟩
    refine ⟨_, rfl, _, rfl, ?_⟩
    dsimp only [tNil]
    refine rd_mkR (C := C) (R := fun v H2 => gName 7 v _ H2 _) ⟨.inl (s6 _ _ e5), (dt.same s6).toH, LR.good ok, by omega, Nat.lt_of_lt_of_le (by omega : t.natAbs < 101) (by decide +kernel), fun ng => absurd ng (by omega), fun _ _ H6 p7 s7 r => ?_, fun _ k b bk => (badR_all bk al).elim⟩
    refine ⟨_, rfl, p7, t, ds, rfl, r, fun d hd => (ok d hd).sml, by omega, by omega, fun H7 s8 => ?_⟩
    refine ⟨_, rfl, _, _, _, _, true, rfl, .ty "str", .base (.str _), kit_ty (by decide +kernel), true, rfl, ?_⟩
    refine ⟨_, rfl, _, rfl, rfl, _, rfl, ?_⟩
    rw [show (!decide (V.str (nT t ds) = V.str (nT t ds))) = false by rw [decide_eq_true rfl]; rfl]
    refine ⟨_, rfl, nT t ds, rfl, (note_nt (by omega) ok (m := 101) (by omega)).fit (by decide) (by decide), fun H8 s9 => ⟨true, rfl, ?_⟩⟩
    refine ⟨_, rfl, ?_⟩
    dsimp only [tSeq, tIfS, tOr, tTest, tOp, tCall, tCons, L2.tC, tNil, tVar, tRet, List.cons_append, List.nil_append]
    refine parse_note ht.1 (by omega) ok al (by omega) fun H9 p9 s10 c9 => ?_
    have s710 := s8.trans (s9.trans s10)
    refine ⟨_, rfl, eqRow nfC c9 (r.same s710) (fun d hd => (ok d hd).1) ⟨_, _, rfl, rfl, _, rfl, ?_⟩⟩
    have s6' := s6.trans (s7.trans s710)
    exact qPb a1 d0 d1 d2 d3 _ _ a5 us t ds p7 _ _ _ _ _ _ _ _ _ _ H9 ⟨(S5.trans s6').seq hs, (s35.trans s6') _ _ er, s6' _ _ e5, dt.same s6', r.same s710, ok, al, len, ht, b2, b3⟩

end
end Own

namespace Own
open PySem PySem.Spec PyProof.Rows L2
/-! ### an own error's class and its base -/
theorem sup_of {K : PySem.W.Frag} {D R N M : Addr} {n1 n2 n3 n4 : Str} {b1 b2 s1 s2 bm : List Value} {h1 h2 a1 a2 : Bool} {l1 l2 : List Str} {c1 c2 : Option Bool} {d1 d2 : Option Addr} {k0 k1 k2 k3 k5 j0 j1 j2 j3 j5 : Option Value} {i1 i2 : String} {v : Option Value}
    (lD : K.lookup D = some (excClassObj n1 n2 D N b1 (.ref R :: bm) h1 l1 s1 a1 c1 d1 k0 k1 k2 k3 k5 i1)) (lR : K.lookup R = some (excClassObj n3 n4 R M b2 bm h2 l2 s2 a2 c2 d2 j0 j1 j2 j3 j5 i2)) (iR : PySem.W.findIn K (.ref R) "__init__" = some v) : PySem.W.ks_superIn K D D "__init__" = some v := by
  have iR : (match K.lookup R with
      | some ⟨_, _, .cls cd, _⟩ => PySem.W.alongIn K "__init__" cd.mro
      | _ => none) = some v := iR
  rw [lR] at iR
  unfold PySem.W.ks_superIn PySem.W.clsIn
  rw [lD]
  have e : ((Value.ref D :: .ref R :: bm).dropWhile (· != .ref D)).drop 1 = .ref R :: bm := by simp [List.dropWhile]
  show PySem.W.alongIn K "__init__" (((Value.ref D :: .ref R :: bm).dropWhile (· != .ref D)).drop 1) = some v
  rw [e]
  exact iR
theorem kit_ref {K : PySem.W.Frag} {D c : Addr} {b : Bool} (hd : PySem.W.subIn K (.ref D) (.ref D) = some true) (h1 : PySem.W.isClsIn K c = true) (h2 : PySem.W.typeIn K (.ref c) = some (.type "type")) (h3 : PySem.W.subIn K (.ref D) (.ref c) = some b) : PySem.W.kitOne K (.ref D) (.ref c) = some b := by
  unfold PySem.W.kitOne
  by_cases h : (Value.ref D == Value.ref c) = true
  · rw [if_pos h]
    have e : D = c := Value.ref.inj (beq_iff_eq.mp h)
    subst e
    exact hd.symm.trans h3
  · rw [if_neg h]
    show (if ((PySem.W.clsIn K c).isSome && PySem.W.typeIn K (.ref c) == some (.type "type")) = true then PySem.W.subIn K (.ref D) (.ref c) else none) = some b
    have e : ((PySem.W.clsIn K c).isSome && PySem.W.typeIn K (.ref c) == some (.type "type")) = true := by
      have h1 : (PySem.W.clsIn K c).isSome = true := h1
      rw [h1, h2]
      rfl
    rw [if_pos e]
    exact h3
theorem kit_ve {K : PySem.W.Frag} {D : Addr} {b : Bool} (h : PySem.W.subIn K (.ref D) (.type "ValueError") = some b) : PySem.W.kitOne K (.ref D) (.type "ValueError") = some b := by
  unfold PySem.W.kitOne
  rw [if_neg fun z : (Value.ref D == Value.type "ValueError") = true => by cases beq_iff_eq.mp z]
  show (if PySem.W.kitMeta "ValueError" = true then PySem.W.subIn K (.ref D) (.type "ValueError") else none) = some b
  rw [if_pos (by decide +kernel)]
  exact h
/-- a def of one parameter, called by its keyword -/
theorem kb_one {K : PySem.W.Frag} {x qual : Str} {st : Stmt} {f : Addr} {fd : FuncData} {a : Str} (F : Fun K x qual st f fd)
    (h : ∀ (kV doc pm : Value) (an : Option Addr) (cdv ct u : Value), bindArgs (PySem.W.fnOf x qual (defArgs st) (defBody st) (defScope st) .none kV doc pm an cdv ct) ⟨[], [(a, u)]⟩ = pure [(a, u)]) :
    KBn K fd [a] 0 [a] (fun _ ws => ws) (fun _ zs => zs) := by
  obtain ⟨oc, od, kV, doc, pm, an, cdv, ct, osl, rfl, lk, hcd⟩ := F.ex
  refine ⟨fun s us ws _ hu hw => ?_, fun _ r2 => r2⟩
  match us, hu, ws, hw with
  | [], _, [u], _ => exact .of_eq (h kV doc pm an cdv ct u)
/-! ### what the top has left -/
theorem df_mk {K : PySem.W.Frag} {mg : Str → Option Value} {x : Str} {st : Stmt} {ps : List Str} {h : Heap} {f : Addr} {oc : Value} {od an : Option Addr} {osl : Array (Option Value)} {kV doc pm cdv ct : Value} (X : K.In h) (G : h.Ns mainGlobals mg)
    (a : PySem.W.nsIn K mainGlobals x = some (some (.ref f))) (l : K.lookup f = some ⟨oc, od, .func (PySem.W.fnOf x x (defArgs st) (defBody st) (defScope st) .none kV doc pm an cdv ct), osl⟩) (c : PySem.W.codeIn K cdv x = true) (k : PySem.W.keepIn K (.ref f) = true)
    (b : ∀ (kV doc pm : Value) (an : Option Addr) (cdv ct : Value) (us : List Value), us.length = ps.length → bindArgs (PySem.W.fnOf x x (defArgs st) (defBody st) (defScope st) .none kV doc pm an cdv ct) ⟨us, []⟩ = pure (ps.zip us)) :
    Df K mg x st ps f (PySem.W.fnOf x x (defArgs st) (defBody st) (defScope st) .none kV doc pm an cdv ct) :=
  ⟨fun_mk l c k, PySem.W.mg_of X G a, (fun_mk l c k).binds b⟩
set_option maxHeartbeats 0 in
theorem all_mk {lw : PySem.W.OpenLaw} {w : World} {K : PySem.W.Frag} {h : Heap} {mg : Str → Option Value} {fa f1 f2 f3 f4 f5 f6 f7 f8 f9 f10 f11 f12 f13 f14 f15 f16 f17 f18 f19 f20 f21 f22 f23 f24 f25 f26 C f27 f28 f29 p_Row_bottom f30 zdC TdC f31 DN ccN cdaN fuN NN DA ccA cdaA fuA NA DB ccB cdaB fuB NB x0 NR dN dU : Addr} (X : K.In h) (G : h.Ns mainGlobals mg) (hfa : mg "law" = some (.ref fa))
    {od1 an1 : Option Addr} {sl1 : Array (Option Value)} {oc1 kV1 dc1 pm1 cd1 ct1 : Value} {od2 an2 : Option Addr} {sl2 : Array (Option Value)} {oc2 kV2 dc2 pm2 cd2 ct2 : Value} {od3 an3 : Option Addr} {sl3 : Array (Option Value)} {oc3 kV3 dc3 pm3 cd3 ct3 : Value} {od4 an4 : Option Addr} {sl4 : Array (Option Value)} {oc4 kV4 dc4 pm4 cd4 ct4 : Value} {od5 an5 : Option Addr} {sl5 : Array (Option Value)} {oc5 kV5 dc5 pm5 cd5 ct5 : Value} {od6 an6 : Option Addr} {sl6 : Array (Option Value)} {oc6 kV6 dc6 pm6 cd6 ct6 : Value} {od7 an7 : Option Addr} {sl7 : Array (Option Value)} {oc7 kV7 dc7 pm7 cd7 ct7 : Value} {od8 an8 : Option Addr} {sl8 : Array (Option Value)} {oc8 kV8 dc8 pm8 cd8 ct8 : Value} {od9 an9 : Option Addr} {sl9 : Array (Option Value)} {oc9 kV9 dc9 pm9 cd9 ct9 : Value} {od10 an10 : Option Addr} {sl10 : Array (Option Value)} {oc10 kV10 dc10 pm10 cd10 ct10 : Value} {od11 an11 : Option Addr} {sl11 : Array (Option Value)} {oc11 kV11 dc11 pm11 cd11 ct11 : Value} {od12 an12 : Option Addr} {sl12 : Array (Option Value)} {oc12 kV12 dc12 pm12 cd12 ct12 : Value} {od13 an13 : Option Addr} {sl13 : Array (Option Value)} {oc13 kV13 dc13 pm13 cd13 ct13 : Value} {od14 an14 : Option Addr} {sl14 : Array (Option Value)} {oc14 kV14 dc14 pm14 cd14 ct14 : Value} {od15 an15 : Option Addr} {sl15 : Array (Option Value)} {oc15 kV15 dc15 pm15 cd15 ct15 : Value} {od16 an16 : Option Addr} {sl16 : Array (Option Value)} {oc16 kV16 dc16 pm16 cd16 ct16 : Value} {od17 an17 : Option Addr} {sl17 : Array (Option Value)} {oc17 kV17 dc17 pm17 cd17 ct17 : Value} {od18 an18 : Option Addr} {sl18 : Array (Option Value)} {oc18 kV18 dc18 pm18 cd18 ct18 : Value} {od19 an19 : Option Addr} {sl19 : Array (Option Value)} {oc19 kV19 dc19 pm19 cd19 ct19 : Value} {od20 an20 : Option Addr} {sl20 : Array (Option Value)} {oc20 kV20 dc20 pm20 cd20 ct20 : Value} {od21 an21 : Option Addr} {sl21 : Array (Option Value)} {oc21 kV21 dc21 pm21 cd21 ct21 : Value} {od22 an22 : Option Addr} {sl22 : Array (Option Value)} {oc22 kV22 dc22 pm22 cd22 ct22 : Value} {od23 an23 : Option Addr} {sl23 : Array (Option Value)} {oc23 kV23 dc23 pm23 cd23 ct23 : Value} {od24 an24 : Option Addr} {sl24 : Array (Option Value)} {oc24 kV24 dc24 pm24 cd24 ct24 : Value} {od25 an25 : Option Addr} {sl25 : Array (Option Value)} {oc25 kV25 dc25 pm25 cd25 ct25 : Value} {od26 an26 : Option Addr} {sl26 : Array (Option Value)} {oc26 kV26 dc26 pm26 cd26 ct26 : Value} {od27 an27 : Option Addr} {sl27 : Array (Option Value)} {oc27 kV27 dc27 pm27 cd27 ct27 : Value} {od28 an28 : Option Addr} {sl28 : Array (Option Value)} {oc28 kV28 dc28 pm28 cd28 ct28 : Value} {od29 an29 : Option Addr} {sl29 : Array (Option Value)} {oc29 kV29 dc29 pm29 cd29 ct29 : Value} {rest_Row_bottom : List Value} {od30 an30 : Option Addr} {sl30 : Array (Option Value)} {oc30 kV30 dc30 pm30 cd30 ct30 : Value} {odTC : Option Addr} {slTC : Array (Option Value)} {ocTC : Value} {nTC : Nat} {od31 an31 : Option Addr} {sl31 : Array (Option Value)} {oc31 kV31 dc31 pm31 cd31 ct31 : Value} {nmR qR : Str} {niR : String} {bsR subR : List Value} {snR : List Str} {abR hdR : Bool} {colR : Option Bool} {ddR : Option Addr} {m0r m1r m2r m3r m5r : Option Value} {nmN qN fileN : Str} {bsN subN : List Value} {snN : List Str} {abN : Bool} {colN : Option Bool} {ddN odN anN cldN cddN : Option Addr} {m0N m1N m2N m3N m5N : Option Value} {ocN kVN dcN pmN ctN clN cclN : Value} {slN cslN ccsN : Array (Option Value)} {vsN : Array Value} {tfN : Tok} {nmA qA fileA : Str} {bsA subA : List Value} {snA : List Str} {abA : Bool} {colA : Option Bool} {ddA odA anA cldA cddA : Option Addr} {m0A m1A m2A m3A m5A : Option Value} {ocA kVA dcA pmA ctA clA cclA : Value} {slA cslA ccsA : Array (Option Value)} {vsA : Array Value} {tfA : Tok} {nmB qB fileB : Str} {bsB subB : List Value} {snB : List Str} {abB : Bool} {colB : Option Bool} {ddB odB anB cldB cddB : Option Addr} {m0B m1B m2B m3B m5B : Option Value} {ocB kVB dcB pmB ctB clB cclB : Value} {slB cslB ccsB : Array (Option Value)} {vsB : Array Value} {tfB : Tok} {esdN : Array DictEntry} {nndN : Nat} {esdU : Array DictEntry} {nndU : Nat} {tU0 tU1 tU2 : Tok}
    (iN : PySem.W.specialIn K (.builtin "object.__class__") "__get__" = some (some (.builtin "getset_descriptor.__get__")))
    (iT : PySem.W.takesIn K (.builtin "object.__class__") = some true)
    (a1 : PySem.W.nsIn K mainGlobals "written" = some (some (.ref f1)))
    (l1 : K.lookup f1 = some ⟨oc1, od1, .func (PySem.W.fnOf "written" "written" (defArgs s_written) (defBody s_written) (defScope s_written) .none kV1 dc1 pm1 an1 cd1 ct1), sl1⟩)
    (c1 : PySem.W.codeIn K cd1 "written" = true)
    (k1 : PySem.W.keepIn K (.ref f1) = true)
    (a2 : PySem.W.nsIn K mainGlobals "is_number" = some (some (.ref f2)))
    (l2 : K.lookup f2 = some ⟨oc2, od2, .func (PySem.W.fnOf "is_number" "is_number" (defArgs s_is_number) (defBody s_is_number) (defScope s_is_number) .none kV2 dc2 pm2 an2 cd2 ct2), sl2⟩)
    (c2 : PySem.W.codeIn K cd2 "is_number" = true)
    (k2 : PySem.W.keepIn K (.ref f2) = true)
    (a3 : PySem.W.nsIn K mainGlobals "numbers_of" = some (some (.ref f3)))
    (l3 : K.lookup f3 = some ⟨oc3, od3, .func (PySem.W.fnOf "numbers_of" "numbers_of" (defArgs s_numbers_of) (defBody s_numbers_of) (defScope s_numbers_of) .none kV3 dc3 pm3 an3 cd3 ct3), sl3⟩)
    (c3 : PySem.W.codeIn K cd3 "numbers_of" = true)
    (k3 : PySem.W.keepIn K (.ref f3) = true)
    (a4 : PySem.W.nsIn K mainGlobals "words_at" = some (some (.ref f4)))
    (l4 : K.lookup f4 = some ⟨oc4, od4, .func (PySem.W.fnOf "words_at" "words_at" (defArgs s_words_at) (defBody s_words_at) (defScope s_words_at) .none kV4 dc4 pm4 an4 cd4 ct4), sl4⟩)
    (c4 : PySem.W.codeIn K cd4 "words_at" = true)
    (k4 : PySem.W.keepIn K (.ref f4) = true)
    (a5 : PySem.W.nsIn K mainGlobals "read_line" = some (some (.ref f5)))
    (l5 : K.lookup f5 = some ⟨oc5, od5, .func (PySem.W.fnOf "read_line" "read_line" (defArgs s_read_line) (defBody s_read_line) (defScope s_read_line) .none kV5 dc5 pm5 an5 cd5 ct5), sl5⟩)
    (c5 : PySem.W.codeIn K cd5 "read_line" = true)
    (k5 : PySem.W.keepIn K (.ref f5) = true)
    (a6 : PySem.W.nsIn K mainGlobals "is_whole" = some (some (.ref f6)))
    (l6 : K.lookup f6 = some ⟨oc6, od6, .func (PySem.W.fnOf "is_whole" "is_whole" (defArgs s_is_whole) (defBody s_is_whole) (defScope s_is_whole) .none kV6 dc6 pm6 an6 cd6 ct6), sl6⟩)
    (c6 : PySem.W.codeIn K cd6 "is_whole" = true)
    (k6 : PySem.W.keepIn K (.ref f6) = true)
    (a7 : PySem.W.nsIn K mainGlobals "is_sequence" = some (some (.ref f7)))
    (l7 : K.lookup f7 = some ⟨oc7, od7, .func (PySem.W.fnOf "is_sequence" "is_sequence" (defArgs s_is_sequence) (defBody s_is_sequence) (defScope s_is_sequence) .none kV7 dc7 pm7 an7 cd7 ct7), sl7⟩)
    (c7 : PySem.W.codeIn K cd7 "is_sequence" = true)
    (k7 : PySem.W.keepIn K (.ref f7) = true)
    (a8 : PySem.W.nsIn K mainGlobals "is_below" = some (some (.ref f8)))
    (l8 : K.lookup f8 = some ⟨oc8, od8, .func (PySem.W.fnOf "is_below" "is_below" (defArgs s_is_below) (defBody s_is_below) (defScope s_is_below) .none kV8 dc8 pm8 an8 cd8 ct8), sl8⟩)
    (c8 : PySem.W.codeIn K cd8 "is_below" = true)
    (k8 : PySem.W.keepIn K (.ref f8) = true)
    (a9 : PySem.W.nsIn K mainGlobals "lanes_along" = some (some (.ref f9)))
    (l9 : K.lookup f9 = some ⟨oc9, od9, .func (PySem.W.fnOf "lanes_along" "lanes_along" (defArgs s_lanes_along) (defBody s_lanes_along) (defScope s_lanes_along) .none kV9 dc9 pm9 an9 cd9 ct9), sl9⟩)
    (c9 : PySem.W.codeIn K cd9 "lanes_along" = true)
    (k9 : PySem.W.keepIn K (.ref f9) = true)
    (a10 : PySem.W.nsIn K mainGlobals "is_letter" = some (some (.ref f10)))
    (l10 : K.lookup f10 = some ⟨oc10, od10, .func (PySem.W.fnOf "is_letter" "is_letter" (defArgs s_is_letter) (defBody s_is_letter) (defScope s_is_letter) .none kV10 dc10 pm10 an10 cd10 ct10), sl10⟩)
    (c10 : PySem.W.codeIn K cd10 "is_letter" = true)
    (k10 : PySem.W.keepIn K (.ref f10) = true)
    (a11 : PySem.W.nsIn K mainGlobals "format_row" = some (some (.ref f11)))
    (l11 : K.lookup f11 = some ⟨oc11, od11, .func (PySem.W.fnOf "format_row" "format_row" (defArgs s_format_row) (defBody s_format_row) (defScope s_format_row) .none kV11 dc11 pm11 an11 cd11 ct11), sl11⟩)
    (c11 : PySem.W.codeIn K cd11 "format_row" = true)
    (k11 : PySem.W.keepIn K (.ref f11) = true)
    (a12 : PySem.W.nsIn K mainGlobals "parse_row" = some (some (.ref f12)))
    (l12 : K.lookup f12 = some ⟨oc12, od12, .func (PySem.W.fnOf "parse_row" "parse_row" (defArgs s_parse_row) (defBody s_parse_row) (defScope s_parse_row) .none kV12 dc12 pm12 an12 cd12 ct12), sl12⟩)
    (c12 : PySem.W.codeIn K cd12 "parse_row" = true)
    (k12 : PySem.W.keepIn K (.ref f12) = true)
    (a13 : PySem.W.nsIn K mainGlobals "_law_whole" = some (some (.ref f13)))
    (l13 : K.lookup f13 = some ⟨oc13, od13, .func (PySem.W.fnOf "_law_whole" "_law_whole" (defArgs s__law_whole) (defBody s__law_whole) (defScope s__law_whole) .none kV13 dc13 pm13 an13 cd13 ct13), sl13⟩)
    (c13 : PySem.W.codeIn K cd13 "_law_whole" = true)
    (k13 : PySem.W.keepIn K (.ref f13) = true)
    (a14 : PySem.W.nsIn K mainGlobals "_law_cell" = some (some (.ref f14)))
    (l14 : K.lookup f14 = some ⟨oc14, od14, .func (PySem.W.fnOf "_law_cell" "_law_cell" (defArgs s__law_cell) (defBody s__law_cell) (defScope s__law_cell) .none kV14 dc14 pm14 an14 cd14 ct14), sl14⟩)
    (c14 : PySem.W.codeIn K cd14 "_law_cell" = true)
    (k14 : PySem.W.keepIn K (.ref f14) = true)
    (a15 : PySem.W.nsIn K mainGlobals "_law_digits" = some (some (.ref f15)))
    (l15 : K.lookup f15 = some ⟨oc15, od15, .func (PySem.W.fnOf "_law_digits" "_law_digits" (defArgs s__law_digits) (defBody s__law_digits) (defScope s__law_digits) .none kV15 dc15 pm15 an15 cd15 ct15), sl15⟩)
    (c15 : PySem.W.codeIn K cd15 "_law_digits" = true)
    (k15 : PySem.W.keepIn K (.ref f15) = true)
    (a16 : PySem.W.nsIn K mainGlobals "_law_letters" = some (some (.ref f16)))
    (l16 : K.lookup f16 = some ⟨oc16, od16, .func (PySem.W.fnOf "_law_letters" "_law_letters" (defArgs s__law_letters) (defBody s__law_letters) (defScope s__law_letters) .none kV16 dc16 pm16 an16 cd16 ct16), sl16⟩)
    (c16 : PySem.W.codeIn K cd16 "_law_letters" = true)
    (k16 : PySem.W.keepIn K (.ref f16) = true)
    (a17 : PySem.W.nsIn K mainGlobals "_law_lanes" = some (some (.ref f17)))
    (l17 : K.lookup f17 = some ⟨oc17, od17, .func (PySem.W.fnOf "_law_lanes" "_law_lanes" (defArgs s__law_lanes) (defBody s__law_lanes) (defScope s__law_lanes) .none kV17 dc17 pm17 an17 cd17 ct17), sl17⟩)
    (c17 : PySem.W.codeIn K cd17 "_law_lanes" = true)
    (k17 : PySem.W.keepIn K (.ref f17) = true)
    (a18 : PySem.W.nsIn K mainGlobals "_law_is_row" = some (some (.ref f18)))
    (l18 : K.lookup f18 = some ⟨oc18, od18, .func (PySem.W.fnOf "_law_is_row" "_law_is_row" (defArgs s__law_is_row) (defBody s__law_is_row) (defScope s__law_is_row) .none kV18 dc18 pm18 an18 cd18 ct18), sl18⟩)
    (c18 : PySem.W.codeIn K cd18 "_law_is_row" = true)
    (k18 : PySem.W.keepIn K (.ref f18) = true)
    (a19 : PySem.W.nsIn K mainGlobals "_law_note" = some (some (.ref f19)))
    (l19 : K.lookup f19 = some ⟨oc19, od19, .func (PySem.W.fnOf "_law_note" "_law_note" (defArgs s__law_note) (defBody s__law_note) (defScope s__law_note) .none kV19 dc19 pm19 an19 cd19 ct19), sl19⟩)
    (c19 : PySem.W.codeIn K cd19 "_law_note" = true)
    (k19 : PySem.W.keepIn K (.ref f19) = true)
    (a20 : PySem.W.nsIn K mainGlobals "_law_spoilt_line" = some (some (.ref f20)))
    (l20 : K.lookup f20 = some ⟨oc20, od20, .func (PySem.W.fnOf "_law_spoilt_line" "_law_spoilt_line" (defArgs s__law_spoilt_line) (defBody s__law_spoilt_line) (defScope s__law_spoilt_line) .none kV20 dc20 pm20 an20 cd20 ct20), sl20⟩)
    (c20 : PySem.W.codeIn K cd20 "_law_spoilt_line" = true)
    (k20 : PySem.W.keepIn K (.ref f20) = true)
    (a21 : PySem.W.nsIn K mainGlobals "_law_spoilt_note" = some (some (.ref f21)))
    (l21 : K.lookup f21 = some ⟨oc21, od21, .func (PySem.W.fnOf "_law_spoilt_note" "_law_spoilt_note" (defArgs s__law_spoilt_note) (defBody s__law_spoilt_note) (defScope s__law_spoilt_note) .none kV21 dc21 pm21 an21 cd21 ct21), sl21⟩)
    (c21 : PySem.W.codeIn K cd21 "_law_spoilt_note" = true)
    (k21 : PySem.W.keepIn K (.ref f21) = true)
    (a22 : PySem.W.nsIn K mainGlobals "_law_number" = some (some (.ref f22)))
    (l22 : K.lookup f22 = some ⟨oc22, od22, .func (PySem.W.fnOf "_law_number" "_law_number" (defArgs s__law_number) (defBody s__law_number) (defScope s__law_number) .none kV22 dc22 pm22 an22 cd22 ct22), sl22⟩)
    (c22 : PySem.W.codeIn K cd22 "_law_number" = true)
    (k22 : PySem.W.keepIn K (.ref f22) = true)
    (a23 : PySem.W.nsIn K mainGlobals "_law_outcome" = some (some (.ref f23)))
    (l23 : K.lookup f23 = some ⟨oc23, od23, .func (PySem.W.fnOf "_law_outcome" "_law_outcome" (defArgs s__law_outcome) (defBody s__law_outcome) (defScope s__law_outcome) .none kV23 dc23 pm23 an23 cd23 ct23), sl23⟩)
    (c23 : PySem.W.codeIn K cd23 "_law_outcome" = true)
    (k23 : PySem.W.keepIn K (.ref f23) = true)
    (a24 : PySem.W.nsIn K mainGlobals "_law_refusal" = some (some (.ref f24)))
    (l24 : K.lookup f24 = some ⟨oc24, od24, .func (PySem.W.fnOf "_law_refusal" "_law_refusal" (defArgs s__law_refusal) (defBody s__law_refusal) (defScope s__law_refusal) .none kV24 dc24 pm24 an24 cd24 ct24), sl24⟩)
    (c24 : PySem.W.codeIn K cd24 "_law_refusal" = true)
    (k24 : PySem.W.keepIn K (.ref f24) = true)
    (a25 : PySem.W.nsIn K mainGlobals "_law_reads" = some (some (.ref f25)))
    (l25 : K.lookup f25 = some ⟨oc25, od25, .func (PySem.W.fnOf "_law_reads" "_law_reads" (defArgs s__law_reads) (defBody s__law_reads) (defScope s__law_reads) .none kV25 dc25 pm25 an25 cd25 ct25), sl25⟩)
    (c25 : PySem.W.codeIn K cd25 "_law_reads" = true)
    (k25 : PySem.W.keepIn K (.ref f25) = true)
    (a26 : PySem.W.nsIn K mainGlobals "law" = some (some (.ref f26)))
    (l26 : K.lookup f26 = some ⟨oc26, od26, .func (PySem.W.fnOf "law" "law" (defArgs s_law) (defBody s_law) (defScope s_law) .none kV26 dc26 pm26 an26 cd26 ct26), sl26⟩)
    (c26 : PySem.W.codeIn K cd26 "law" = true)
    (k26 : PySem.W.keepIn K (.ref f26) = true)
    (z0 : PySem.W.nsIn K mainGlobals "max" = some none)
    (z1 : PySem.W.nsIn K mainGlobals "min" = some none)
    (z2 : PySem.W.nsIn K mainGlobals "tuple" = some none)
    (z3 : PySem.W.nsIn K mainGlobals "range" = some none)
    (z4 : PySem.W.nsIn K mainGlobals "isinstance" = some none)
    (z5 : PySem.W.nsIn K mainGlobals "int" = some none)
    (z6 : PySem.W.nsIn K mainGlobals "bool" = some none)
    (z7 : PySem.W.nsIn K mainGlobals "len" = some none)
    (z8 : PySem.W.nsIn K mainGlobals "list" = some none)
    (z9 : PySem.W.nsIn K mainGlobals "str" = some none)
    (z10 : PySem.W.nsIn K mainGlobals "sorted" = some none)
    (z11 : PySem.W.nsIn K mainGlobals "sum" = some none)
    (aC : PySem.W.nsIn K mainGlobals "Row" = some (some (.ref C)))
    (pgC : PySem.W.plainGet K C Str.empty = true)
    (hdC : PySem.W.hasDictIn K C = true)
    (poC : PySem.W.plainOver K C = true)
    (saC : PySem.W.findIn K (.ref C) "__setattr__" = some (some (.builtin "object.__setattr__")))
    (mkC : PySem.W.makesIn K C = true)
    (kcC : PySem.W.keepIn K (.ref C) = true)
    (nfC_top : PySem.W.findIn K (.ref C) "top" = some none)
    (nfC__lanes : PySem.W.findIn K (.ref C) "_lanes" = some none)
    (nfC_letters : PySem.W.findIn K (.ref C) "letters" = some none)
    (iAC : PySem.W.findIn K (.ref C) "__class__" = some (some (.builtin "object.__class__")))
    (iMC : PySem.W.mroIn K C (.type "object") = some true)
    (i27 : PySem.W.findIn K (.ref C) "__len__" = some (some (.ref f27)))
    (n27 : PySem.W.isFn K (.ref f27) = true)
    (l27 : K.lookup f27 = some ⟨oc27, od27, .func (PySem.W.fnOf "__len__" "Row.__len__" (defArgs s_Row_len) (defBody s_Row_len) (defScope s_Row_len) .none kV27 dc27 pm27 an27 cd27 ct27), sl27⟩)
    (c27 : PySem.W.codeIn K cd27 "Row.__len__" = true)
    (k27 : PySem.W.keepIn K (.ref f27) = true)
    (i28 : PySem.W.findIn K (.ref C) "__eq__" = some (some (.ref f28)))
    (n28 : PySem.W.isFn K (.ref f28) = true)
    (l28 : K.lookup f28 = some ⟨oc28, od28, .func (PySem.W.fnOf "__eq__" "Row.__eq__" (defArgs s_Row_eq) (defBody s_Row_eq) (defScope s_Row_eq) .none kV28 dc28 pm28 an28 cd28 ct28), sl28⟩)
    (c28 : PySem.W.codeIn K cd28 "Row.__eq__" = true)
    (k28 : PySem.W.keepIn K (.ref f28) = true)
    (i29 : PySem.W.findIn K (.ref C) "flipped" = some (some (.ref f29)))
    (n29 : PySem.W.isFn K (.ref f29) = true)
    (l29 : K.lookup f29 = some ⟨oc29, od29, .func (PySem.W.fnOf "flipped" "Row.flipped" (defArgs s_Row_flipped) (defBody s_Row_flipped) (defScope s_Row_flipped) .none kV29 dc29 pm29 an29 cd29 ct29), sl29⟩)
    (c29 : PySem.W.codeIn K cd29 "Row.flipped" = true)
    (k29 : PySem.W.keepIn K (.ref f29) = true)
    (iP_Row_bottom : PySem.W.findIn K (.ref C) "bottom" = some (some (.ref p_Row_bottom)))
    (rP_Row_bottom : PySem.W.recIn K p_Row_bottom "property" = some (.ref f30 :: rest_Row_bottom))
    (gP_Row_bottom : PySem.W.specialIn K (.ref p_Row_bottom) "__get__" = some (some (.builtin "property.__get__")))
    (tP_Row_bottom : PySem.W.takesIn K (.ref p_Row_bottom) = some true)
    (l30 : K.lookup f30 = some ⟨oc30, od30, .func (PySem.W.fnOf "bottom" "Row.bottom" (defArgs s_Row_bottom) (defBody s_Row_bottom) (defScope s_Row_bottom) .none kV30 dc30 pm30 an30 cd30 ct30), sl30⟩)
    (c30 : PySem.W.codeIn K cd30 "Row.bottom" = true)
    (k30 : PySem.W.keepIn K (.ref f30) = true)
    (i31 : PySem.W.findIn K (.ref C) "__init__" = some (some (.ref f31)))
    (n31 : PySem.W.isFn K (.ref f31) = true)
    (l31 : K.lookup f31 = some ⟨oc31, od31, .func (PySem.W.fnOf "__init__" "Row.__init__" (defArgs s_Row_init) (defBody s_Row_init) (defScope s_Row_init) (.ref TdC) kV31 dc31 pm31 an31 cd31 ct31), sl31⟩)
    (c31 : PySem.W.codeIn K cd31 "Row.__init__" = true)
    (k31 : PySem.W.keepIn K (.ref f31) = true)
    (lTC : K.lookup TdC = some ⟨ocTC, odTC, .seq #[.ref zdC] nTC, slTC⟩)
    (aN : PySem.W.nsIn K mainGlobals "NoteError" = some (some (.ref DN)))
    (aA : PySem.W.nsIn K mainGlobals "BadLanes" = some (some (.ref DA)))
    (aB : PySem.W.nsIn K mainGlobals "BadLetter" = some (some (.ref DB)))
    (a_x0 : PySem.W.nsIn K mainGlobals "RimError" = some (some (.ref x0)))
    (lRe : K.lookup x0 = some (excClassObj nmR qR x0 NR bsR [.type "ValueError", .type "Exception", .type "BaseException", .type "object"] hdR snR subR abR colR ddR m0r m1r m2r m3r m5r niR))
    (iRe : PySem.W.findIn K (.ref x0) "__init__" = some (some (.builtin "ValueError.__init__")))
    (opD : PySem.W.nsIn K cStatics "thirdparty.any" = some none)
    (tpD : (lw.prog.main.scope.names.lookup ("super" : Str)).isSome = false)
    (zS : PySem.W.nsIn K mainGlobals "super" = some none)
    (zV : PySem.W.nsIn K mainGlobals "ValueError" = some none)
    (lN : K.lookup DN = some (excClassObj nmN qN DN NN bsN [.ref x0, .type "ValueError", .type "Exception", .type "BaseException", .type "object"] true snN subN abN colN ddN m0N m1N m2N m3N m5N "ValueError.__new__"))
    (saN : PySem.W.findIn K (.ref DN) "__setattr__" = some (some (.builtin "object.__setattr__")))
    (eN : PySem.W.subIn K (.ref DN) (.type "BaseException") = some true)
    (tN : PySem.W.typeIn K (.ref DN) = some (.type "type"))
    (kN : PySem.W.keepIn K (.ref DN) = true)
    (iuN : PySem.W.findIn K (.ref DN) "__init__" = some (some (.ref fuN)))
    (tuN : PySem.W.typeIn K (.ref fuN) = some (.type "function"))
    (luN : K.lookup fuN = some ⟨ocN, odN, .func (PySem.W.fnX "__init__" "NoteError.__init__" (defArgs s_NoteError_init) (defBody s_NoteError_init) (defScope s_NoteError_init) [("__class__", ccN)] .none kVN dcN pmN anN (.ref cdaN) ctN), slN⟩)
    (cuN : PySem.W.codeIn K (.ref cdaN) "NoteError.__init__" = true)
    (lcN : K.lookup ccN = some ⟨clN, cldN, .cell (some (.ref DN)), cslN⟩)
    (ldN : K.lookup cdaN = some ⟨cclN, cddN, .fields vsN, ccsN⟩)
    (cvN : vsN[2]? = some (.str fileN tfN))
    (cfN : ((lw.prog.main.file : Str) == fileN) = true)
    (veN : PySem.W.subIn K (.ref DN) (.type "ValueError") = some true)
    (meN : PySem.W.mroIn K DN (.ref DN) = some true)
    (gaN : PySem.W.findIn K (.ref DN) "__getattribute__" = some (some (.builtin "BaseException.__getattribute__")))
    (ggN : PySem.W.findIn K (.ref DN) "__getattr__" = some none)
    (hN : PySem.W.hasDictIn K DN = true)
    (caN : PySem.W.findIn K (.ref DN) "__class__" = some (some (.builtin "object.__class__")))
    (moN : PySem.W.mroIn K DN (.type "object") = some true)
    (sdN : PySem.W.subIn K (.ref DN) (.ref DN) = some true)
    (n0N : PySem.W.findIn K (.ref DN) "line" = some none)
    (qNDA : PySem.W.subIn K (.ref DN) (.ref DA) = some false)
    (qNDB : PySem.W.subIn K (.ref DN) (.ref DB) = some false)
    (qNx0 : PySem.W.subIn K (.ref DN) (.ref x0) = some true)
    (lA : K.lookup DA = some (excClassObj nmA qA DA NA bsA [.ref x0, .type "ValueError", .type "Exception", .type "BaseException", .type "object"] true snA subA abA colA ddA m0A m1A m2A m3A m5A "ValueError.__new__"))
    (saA : PySem.W.findIn K (.ref DA) "__setattr__" = some (some (.builtin "object.__setattr__")))
    (eA : PySem.W.subIn K (.ref DA) (.type "BaseException") = some true)
    (tA : PySem.W.typeIn K (.ref DA) = some (.type "type"))
    (kA : PySem.W.keepIn K (.ref DA) = true)
    (iuA : PySem.W.findIn K (.ref DA) "__init__" = some (some (.ref fuA)))
    (tuA : PySem.W.typeIn K (.ref fuA) = some (.type "function"))
    (luA : K.lookup fuA = some ⟨ocA, odA, .func (PySem.W.fnX "__init__" "BadLanes.__init__" (defArgs s_BadLanes_init) (defBody s_BadLanes_init) (defScope s_BadLanes_init) [("__class__", ccA)] .none kVA dcA pmA anA (.ref cdaA) ctA), slA⟩)
    (cuA : PySem.W.codeIn K (.ref cdaA) "BadLanes.__init__" = true)
    (lcA : K.lookup ccA = some ⟨clA, cldA, .cell (some (.ref DA)), cslA⟩)
    (ldA : K.lookup cdaA = some ⟨cclA, cddA, .fields vsA, ccsA⟩)
    (cvA : vsA[2]? = some (.str fileA tfA))
    (cfA : ((lw.prog.main.file : Str) == fileA) = true)
    (veA : PySem.W.subIn K (.ref DA) (.type "ValueError") = some true)
    (meA : PySem.W.mroIn K DA (.ref DA) = some true)
    (gaA : PySem.W.findIn K (.ref DA) "__getattribute__" = some (some (.builtin "BaseException.__getattribute__")))
    (ggA : PySem.W.findIn K (.ref DA) "__getattr__" = some none)
    (hA : PySem.W.hasDictIn K DA = true)
    (caA : PySem.W.findIn K (.ref DA) "__class__" = some (some (.builtin "object.__class__")))
    (moA : PySem.W.mroIn K DA (.type "object") = some true)
    (sdA : PySem.W.subIn K (.ref DA) (.ref DA) = some true)
    (n0A : PySem.W.findIn K (.ref DA) "number" = some none)
    (qADN : PySem.W.subIn K (.ref DA) (.ref DN) = some false)
    (qADB : PySem.W.subIn K (.ref DA) (.ref DB) = some false)
    (qAx0 : PySem.W.subIn K (.ref DA) (.ref x0) = some true)
    (lB : K.lookup DB = some (excClassObj nmB qB DB NB bsB [.ref x0, .type "ValueError", .type "Exception", .type "BaseException", .type "object"] true snB subB abB colB ddB m0B m1B m2B m3B m5B "ValueError.__new__"))
    (saB : PySem.W.findIn K (.ref DB) "__setattr__" = some (some (.builtin "object.__setattr__")))
    (eB : PySem.W.subIn K (.ref DB) (.type "BaseException") = some true)
    (tB : PySem.W.typeIn K (.ref DB) = some (.type "type"))
    (kB : PySem.W.keepIn K (.ref DB) = true)
    (iuB : PySem.W.findIn K (.ref DB) "__init__" = some (some (.ref fuB)))
    (tuB : PySem.W.typeIn K (.ref fuB) = some (.type "function"))
    (luB : K.lookup fuB = some ⟨ocB, odB, .func (PySem.W.fnX "__init__" "BadLetter.__init__" (defArgs s_BadLetter_init) (defBody s_BadLetter_init) (defScope s_BadLetter_init) [("__class__", ccB)] .none kVB dcB pmB anB (.ref cdaB) ctB), slB⟩)
    (cuB : PySem.W.codeIn K (.ref cdaB) "BadLetter.__init__" = true)
    (lcB : K.lookup ccB = some ⟨clB, cldB, .cell (some (.ref DB)), cslB⟩)
    (ldB : K.lookup cdaB = some ⟨cclB, cddB, .fields vsB, ccsB⟩)
    (cvB : vsB[2]? = some (.str fileB tfB))
    (cfB : ((lw.prog.main.file : Str) == fileB) = true)
    (veB : PySem.W.subIn K (.ref DB) (.type "ValueError") = some true)
    (meB : PySem.W.mroIn K DB (.ref DB) = some true)
    (gaB : PySem.W.findIn K (.ref DB) "__getattribute__" = some (some (.builtin "BaseException.__getattribute__")))
    (ggB : PySem.W.findIn K (.ref DB) "__getattr__" = some none)
    (hB : PySem.W.hasDictIn K DB = true)
    (caB : PySem.W.findIn K (.ref DB) "__class__" = some (some (.builtin "object.__class__")))
    (moB : PySem.W.mroIn K DB (.type "object") = some true)
    (sdB : PySem.W.subIn K (.ref DB) (.ref DB) = some true)
    (n0B : PySem.W.findIn K (.ref DB) "place" = some none)
    (n1B : PySem.W.findIn K (.ref DB) "letter" = some none)
    (qBDN : PySem.W.subIn K (.ref DB) (.ref DN) = some false)
    (qBDA : PySem.W.subIn K (.ref DB) (.ref DA) = some false)
    (qBx0 : PySem.W.subIn K (.ref DB) (.ref x0) = some true)
    (ic_DN : PySem.W.isClsIn K DN = true)
    (tc_DN : PySem.W.typeIn K (.ref DN) = some (.type "type"))
    (ic_DA : PySem.W.isClsIn K DA = true)
    (tc_DA : PySem.W.typeIn K (.ref DA) = some (.type "type"))
    (ic_DB : PySem.W.isClsIn K DB = true)
    (tc_DB : PySem.W.typeIn K (.ref DB) = some (.type "type"))
    (ic_x0 : PySem.W.isClsIn K x0 = true)
    (tc_x0 : PySem.W.typeIn K (.ref x0) = some (.type "type"))
    (a_dN : PySem.W.nsIn K mainGlobals "CHANGES" = some (some (.ref dN)))
    (l_dN : K.lookup dN = some ⟨.type "dict", none, .dict esdN nndN, #[]⟩)
    (kl_dN : KLit w.params esdN.toList CHG)
    (lo_dN : (dN == sysModules) = false)
    (exRe : PySem.W.subIn K (.ref x0) (.type "BaseException") = some true)
    (hdRe : PySem.W.hasDictIn K x0 = true)
    (zEn : PySem.W.nsIn K mainGlobals "enumerate" = some none)
    (zRv : PySem.W.nsIn K mainGlobals "reversed" = some none)
    (a_dU : PySem.W.nsIn K mainGlobals "UPSIDE_DOWN" = some (some (.ref dU)))
    (l_dU : K.lookup dU = some ⟨.type "dict", none, .dict esdU nndU, #[]⟩)
    (kl_dU : PySem.W.KeysLit w.params esdU.toList)
    (n0_dU : PySem.W.nsIn K dU "cross" = some (some (.str "cross" tU0)))
    (n1_dU : PySem.W.nsIn K dU "cup" = some (some (.str "cap" tU1)))
    (n2_dU : PySem.W.nsIn K dU "cap" = some (some (.str "cup" tU2))) :
    ∃ fd : FuncData, (∀ (s : Shared) (v : Value), BindsTo s fd ⟨[v], []⟩ [("_law_script", v)]) ∧ ∀ base : Heap, K.In base → base.Ns mainGlobals mg → FnOk lw.prog w K mg base CX0 10 fa fd ["_law_script"] (spLaw K) := by
  have e := hfa.symm.trans (PySem.W.mg_of X G a26)
  cases e
  have D_written := df_mk (ps := ["lines"]) (st := s_written) X G a1 l1 c1 k1 fun _ _ _ _ _ _ us hl => match us, hl with | [_], _ => rfl
  have D_is_number := df_mk (ps := ["word"]) (st := s_is_number) X G a2 l2 c2 k2 fun _ _ _ _ _ _ us hl => match us, hl with | [_], _ => rfl
  have D_numbers_of := df_mk (ps := ["words", "place"]) (st := s_numbers_of) X G a3 l3 c3 k3 fun _ _ _ _ _ _ us hl => match us, hl with | [_, _], _ => rfl
  have D_words_at := df_mk (ps := ["lines", "place"]) (st := s_words_at) X G a4 l4 c4 k4 fun _ _ _ _ _ _ us hl => match us, hl with | [_, _], _ => rfl
  have D_read_line := df_mk (ps := ["lines", "place", "counts"]) (st := s_read_line) X G a5 l5 c5 k5 fun _ _ _ _ _ _ us hl => match us, hl with | [_, _, _], _ => rfl
  have D_is_whole := df_mk (ps := ["value"]) (st := s_is_whole) X G a6 l6 c6 k6 fun _ _ _ _ _ _ us hl => match us, hl with | [_], _ => rfl
  have D_is_sequence := df_mk (ps := ["value"]) (st := s_is_sequence) X G a7 l7 c7 k7 fun _ _ _ _ _ _ us hl => match us, hl with | [_], _ => rfl
  have D_is_below := df_mk (ps := ["value", "bound"]) (st := s_is_below) X G a8 l8 c8 k8 fun _ _ _ _ _ _ us hl => match us, hl with | [_, _], _ => rfl
  have D_lanes_along := df_mk (ps := ["top", "letters"]) (st := s_lanes_along) X G a9 l9 c9 k9 fun _ _ _ _ _ _ us hl => match us, hl with | [_, _], _ => rfl
  have D_is_letter := df_mk (ps := ["letter", "lanes"]) (st := s_is_letter) X G a10 l10 c10 k10 fun _ _ _ _ _ _ us hl => match us, hl with | [_, _], _ => rfl
  have D_format_row := df_mk (ps := ["row"]) (st := s_format_row) X G a11 l11 c11 k11 fun _ _ _ _ _ _ us hl => match us, hl with | [_], _ => rfl
  have D_parse_row := df_mk (ps := ["text"]) (st := s_parse_row) X G a12 l12 c12 k12 fun _ _ _ _ _ _ us hl => match us, hl with | [_], _ => rfl
  have D__law_whole := df_mk (ps := ["_law_value"]) (st := s__law_whole) X G a13 l13 c13 k13 fun _ _ _ _ _ _ us hl => match us, hl with | [_], _ => rfl
  have D__law_cell := df_mk (ps := ["_law_script", "_law_k"]) (st := s__law_cell) X G a14 l14 c14 k14 fun _ _ _ _ _ _ us hl => match us, hl with | [_, _], _ => rfl
  have D__law_digits := df_mk (ps := ["_law_cell_here", "_law_sizes"]) (st := s__law_digits) X G a15 l15 c15 k15 fun _ _ _ _ _ _ us hl => match us, hl with | [_, _], _ => rfl
  have D__law_letters := df_mk (ps := ["_law_listed", "_law_top", "_law_upto"]) (st := s__law_letters) X G a16 l16 c16 k16 fun _ _ _ _ _ _ us hl => match us, hl with | [_, _, _], _ => rfl
  have D__law_lanes := df_mk (ps := ["_law_top", "_law_letters_here"]) (st := s__law_lanes) X G a17 l17 c17 k17 fun _ _ _ _ _ _ us hl => match us, hl with | [_, _], _ => rfl
  have D__law_is_row := df_mk (ps := ["_law_told", "_law_top", "_law_letters_here"]) (st := s__law_is_row) X G a18 l18 c18 k18 fun _ _ _ _ _ _ us hl => match us, hl with | [_, _, _], _ => rfl
  have D__law_note := df_mk (ps := ["_law_top", "_law_letters_here"]) (st := s__law_note) X G a19 l19 c19 k19 fun _ _ _ _ _ _ us hl => match us, hl with | [_, _], _ => rfl
  have D__law_spoilt_line := df_mk (ps := ["_law_line", "_law_kind", "_law_seed"]) (st := s__law_spoilt_line) X G a20 l20 c20 k20 fun _ _ _ _ _ _ us hl => match us, hl with | [_, _, _], _ => rfl
  have D__law_spoilt_note := df_mk (ps := ["_law_note_here", "_law_kind", "_law_place", "_law_seed"]) (st := s__law_spoilt_note) X G a21 l21 c21 k21 fun _ _ _ _ _ _ us hl => match us, hl with | [_, _, _, _], _ => rfl
  have D__law_number := df_mk (ps := ["_law_word"]) (st := s__law_number) X G a22 l22 c22 k22 fun _ _ _ _ _ _ us hl => match us, hl with | [_], _ => rfl
  have D__law_outcome := df_mk (ps := ["_law_note_here"]) (st := s__law_outcome) X G a23 l23 c23 k23 fun _ _ _ _ _ _ us hl => match us, hl with | [_], _ => rfl
  have D__law_refusal := df_mk (ps := ["_law_note_here"]) (st := s__law_refusal) X G a24 l24 c24 k24 fun _ _ _ _ _ _ us hl => match us, hl with | [_], _ => rfl
  have D__law_reads := df_mk (ps := ["_law_note_here"]) (st := s__law_reads) X G a25 l25 c25 k25 fun _ _ _ _ _ _ us hl => match us, hl with | [_], _ => rfl
  have T : Bi mg := ⟨PySem.W.mg_none_of X G z0, PySem.W.mg_none_of X G z1, PySem.W.mg_none_of X G z2, PySem.W.mg_none_of X G z3, PySem.W.mg_none_of X G z4, PySem.W.mg_none_of X G z5, PySem.W.mg_none_of X G z6, PySem.W.mg_none_of X G z7, PySem.W.mg_none_of X G z8, PySem.W.mg_none_of X G z9, PySem.W.mg_none_of X G z10, PySem.W.mg_none_of X G z11⟩
  have clC : Cls K C := ⟨pgC, hdC, poC, saC⟩
  have IC : C8.InsC K C := ⟨clC, iAC, iN, iT, iMC, kitTrue⟩
  have F_Row_len : Fun K "__len__" "Row.__len__" s_Row_len f27 _ := fun_mk l27 c27 k27
  have B_Row_len := F_Row_len.binds (ps := ["self"]) fun _ _ _ _ _ _ us hl => match us, hl with | [_], _ => rfl
  have MT_Row_len : Meth K C "__len__" f27 := ⟨i27, n27, k27⟩
  have F_Row_eq : Fun K "__eq__" "Row.__eq__" s_Row_eq f28 _ := fun_mk l28 c28 k28
  have B_Row_eq := F_Row_eq.binds (ps := ["self", "other"]) fun _ _ _ _ _ _ us hl => match us, hl with | [_, _], _ => rfl
  have MT_Row_eq : Meth K C "__eq__" f28 := ⟨i28, n28, k28⟩
  have F_Row_flipped : Fun K "flipped" "Row.flipped" s_Row_flipped f29 _ := fun_mk l29 c29 k29
  have B_Row_flipped := F_Row_flipped.binds (ps := ["self"]) fun _ _ _ _ _ _ us hl => match us, hl with | [_], _ => rfl
  have MT_Row_flipped : Meth K C "flipped" f29 := ⟨i29, n29, k29⟩
  have F_Row_bottom : Fun K "bottom" "Row.bottom" s_Row_bottom f30 _ := fun_mk l30 c30 k30
  have B_Row_bottom := F_Row_bottom.binds (ps := ["self"]) fun _ _ _ _ _ _ us hl => match us, hl with | [_], _ => rfl
  have PT_Row_bottom : PropOf K C "bottom" p_Row_bottom f30 := ⟨iP_Row_bottom, gP_Row_bottom, tP_Row_bottom, ⟨_, rP_Row_bottom⟩⟩
  have FIC : FunD K "__init__" "Row.__init__" (defArgs s_Row_init) (defBody s_Row_init) (defScope s_Row_init) [.ref zdC] [] f31 _ := ⟨⟨_, _, _, _, _, _, _, _, _, _, rfl, l31, c31, .inr ⟨by simp, TdC, _, [.ref zdC], nTC, rfl, lTC, rfl, .cons rfl .nil⟩, .inl rfl⟩, k31⟩
  obtain ⟨dsC, vdsC, BIC⟩ := FIC.binds1 (ps := ["self", "top", "letters"]) 3 1 (by simp) rfl fun T kV doc pm an cdv ct us its h1 h2 => match us, h1, its, h2 with | [_, _, _], _, [_], _ => ⟨_, rfl, rfl⟩
  have edsC : dsC = [] := by cases vdsC; rfl
  subst edsC
  have MIC : Mk K C f31 := ⟨mkC, i31, n31, kcC⟩
  have OXN : OexC K DN := ⟨⟨_, _, _, _, _, _, _, _, _, _, _, _, _, _, _, lN, rfl⟩, saN, eN, tN, kN⟩
  have EKN : ErrK lw.prog K mg DN ccN cdaN := ⟨OXN, ⟨_, _, _, lcN⟩, ⟨_, _, _, _, _, _, ldN, cvN, cfN⟩, sup_of lN lRe iRe, veN, meN, opD, PySem.W.mg_none_of X G zS, tpD⟩
  have BUN : Binds K (PySem.W.fnX "__init__" "NoteError.__init__" (defArgs s_NoteError_init) (defBody s_NoteError_init) (defScope s_NoteError_init) [("__class__", ccN)] .none kVN dcN pmN anN (.ref cdaN) ctN) ["self", "line"] [] := Binds.all fun us hl => match us, hl with | [_, _], _ => rfl
  have ETN : ErrT K mg "NoteError" DN fuN := ⟨PySem.W.mg_of X G aN, iuN, tuN⟩
  have OXA : OexC K DA := ⟨⟨_, _, _, _, _, _, _, _, _, _, _, _, _, _, _, lA, rfl⟩, saA, eA, tA, kA⟩
  have EKA : ErrK lw.prog K mg DA ccA cdaA := ⟨OXA, ⟨_, _, _, lcA⟩, ⟨_, _, _, _, _, _, ldA, cvA, cfA⟩, sup_of lA lRe iRe, veA, meA, opD, PySem.W.mg_none_of X G zS, tpD⟩
  have BUA : Binds K (PySem.W.fnX "__init__" "BadLanes.__init__" (defArgs s_BadLanes_init) (defBody s_BadLanes_init) (defScope s_BadLanes_init) [("__class__", ccA)] .none kVA dcA pmA anA (.ref cdaA) ctA) ["self", "number"] [] := Binds.all fun us hl => match us, hl with | [_, _], _ => rfl
  have ETA : ErrT K mg "BadLanes" DA fuA := ⟨PySem.W.mg_of X G aA, iuA, tuA⟩
  have OXB : OexC K DB := ⟨⟨_, _, _, _, _, _, _, _, _, _, _, _, _, _, _, lB, rfl⟩, saB, eB, tB, kB⟩
  have EKB : ErrK lw.prog K mg DB ccB cdaB := ⟨OXB, ⟨_, _, _, lcB⟩, ⟨_, _, _, _, _, _, ldB, cvB, cfB⟩, sup_of lB lRe iRe, veB, meB, opD, PySem.W.mg_none_of X G zS, tpD⟩
  have BUB : Binds K (PySem.W.fnX "__init__" "BadLetter.__init__" (defArgs s_BadLetter_init) (defBody s_BadLetter_init) (defScope s_BadLetter_init) [("__class__", ccB)] .none kVB dcB pmB anB (.ref cdaB) ctB) ["self", "place", "letter"] [] := Binds.all fun us hl => match us, hl with | [_, _, _], _ => rfl
  have ETB : ErrT K mg "BadLetter" DB fuB := ⟨PySem.W.mg_of X G aB, iuB, tuB⟩
  have KT_dN : KTab K w dN CHG := ⟨⟨_, _, l_dN, kl_dN⟩, lo_dN, by decide +kernel, by decide⟩
  have L : RowC K mg C := ⟨clC, nfC_top, nfC__lanes, nfC_letters, (PySem.W.mg_of X G aC)⟩
  have TE : BiE mg := ⟨(PySem.W.mg_none_of X G zEn)⟩
  have UN : NErC K mg DN fuN _ := ⟨OXN, ETN, BUN⟩
  have UA : ErrU K mg "BadLanes" DA fuA _ ["self", "number"] := ⟨OXA, ETA, BUA⟩
  have UB : ErrU K mg "BadLetter" DB fuB _ ["self", "place", "letter"] := ⟨OXB, ETB, BUB⟩
  have TU : UpD K w dU := ⟨List.forall_mem_cons.mpr ⟨⟨_, _, _, l_dU, kl_dU, n0_dU, ⟨_, rfl⟩⟩, List.forall_mem_cons.mpr ⟨⟨_, _, _, l_dU, kl_dU, n1_dU, ⟨_, rfl⟩⟩, List.forall_mem_cons.mpr ⟨⟨_, _, _, l_dU, kl_dU, n2_dU, ⟨_, rfl⟩⟩, fun _ h => nomatch h⟩⟩⟩⟩
  have XC : XcR K DN DA DB x0 := ⟨List.forall_mem_cons.mpr ⟨⟨gaN, ggN, eN, hN, caN, iN, iT, moN⟩, List.forall_mem_cons.mpr ⟨⟨gaA, ggA, eA, hA, caA, iN, iT, moA⟩, List.forall_mem_cons.mpr ⟨⟨gaB, ggB, eB, hB, caB, iN, iT, moB⟩, fun _ h => nomatch h⟩⟩⟩, List.forall_mem_cons.mpr ⟨⟨gaN, ggN, eN, hN⟩, List.forall_mem_cons.mpr ⟨⟨gaA, ggA, eA, hA⟩, List.forall_mem_cons.mpr ⟨⟨gaB, ggB, eB, hB⟩, fun _ h => nomatch h⟩⟩⟩, n0N, n0A, n0B, n1B, kit_ref sdN ic_DN tc_DN sdN, kit_ref sdN ic_DA tc_DA qNDA, kit_ref sdN ic_DB tc_DB qNDB, kit_ref sdA ic_DA tc_DA sdA, kit_ref sdA ic_DN tc_DN qADN, kit_ref sdA ic_DB tc_DB qADB, kit_ref sdB ic_DB tc_DB sdB, kit_ref sdB ic_DN tc_DN qBDN, kit_ref sdB ic_DA tc_DA qBDA, kit_ve veN, kit_ve veA, kit_ve veB, PySem.W.exm_ref exRe hdRe tc_x0 qNx0, PySem.W.exm_ref exRe hdRe tc_x0 qAx0, PySem.W.exm_ref exRe hdRe tc_x0 qBx0⟩
  have kb_p := kb_one D_parse_row.F (a := "text") fun kV doc pm an cdv ct u => by kernel_rfl
  have kb_f := kb_one D_format_row.F (a := "row") fun kV doc pm an cdv ct u => by kernel_rfl
  have nfC : PySem.W.notFirst K C (.ref C) = true := by
    unfold PySem.W.notFirst
    rw [beq_self_eq_true]
    rfl
  refine ⟨PySem.W.fnOf "law" "law" (defArgs s_law) (defBody s_law) (defScope s_law) .none kV26 dc26 pm26 an26 cd26 ct26, fun s v => .of_eq rfl, fun base _ _ => ?_⟩
  have GeN := ok_NoteError (P := lw.prog) (w := w) (mg := mg) (base := base) EKN luN cuN n0N
  have GeA := ok_BadLanes (P := lw.prog) (w := w) (mg := mg) (base := base) EKA luA cuA n0A
  have GeB := ok_BadLetter (P := lw.prog) (w := w) (mg := mg) (base := base) EKB luB cuB n0B n1B
  have Gwr := ok_written (P := lw.prog) (w := w) (mg := mg) (base := base) D_written.F T
  have Gnum := ok_number (P := lw.prog) (w := w) (mg := mg) (base := base) D_is_number.F T
  have Gns := ok_nums (P := lw.prog) (w := w) (mg := mg) (base := base) D_numbers_of.F T UN GeN D_is_number Gnum
  have Gwd := ok_words (P := lw.prog) (w := w) (mg := mg) (base := base) D_words_at.F T UN GeN
  have Gln := ok_line (P := lw.prog) (w := w) (mg := mg) (base := base) D_read_line.F T UN GeN D_words_at Gwd D_numbers_of Gns
  have Gwh := ok_whole (P := lw.prog) (w := w) (mg := mg) (base := base) D_is_whole.F T
  have Gsq := ok_seqB (P := lw.prog) (w := w) (mg := mg) (base := base) D_is_sequence.F T
  have Gbe := ok_below (P := lw.prog) (w := w) (mg := mg) (base := base) D_is_below.F D_is_whole Gwh
  have Glt := ok_letter (P := lw.prog) (w := w) (mg := mg) (base := base) D_is_letter.F T (PySem.W.mg_of X G a_dN) KT_dN D_is_sequence Gsq D_is_below Gbe
  have Gla := ok_lanes (P := lw.prog) (w := w) (mg := mg) (base := base) D_lanes_along.F T TE (PySem.W.mg_of X G a_dN) KT_dN UB GeB D_is_letter Glt
  have Gri := ok_rinit (P := lw.prog) (w := w) (mg := mg) (base := base) FIC T L UA GeA D_is_whole Gwh D_lanes_along Gla
  have Gbo := ok_bottom (P := lw.prog) (w := w) (mg := mg) (base := base) F_Row_bottom L
  have Grl := ok_rlen (P := lw.prog) (w := w) (mg := mg) (base := base) F_Row_len T L
  have Geq := ok_req (P := lw.prog) (w := w) (mg := mg) (base := base) F_Row_eq T L IC
  have Gfl := ok_flipped (P := lw.prog) (w := w) (mg := mg) (base := base) F_Row_flipped L (PySem.W.mg_of X G a_dU) TU PT_Row_bottom Gbo B_Row_bottom MIC Gri BIC
  have Gfmt := ok_fmt (P := lw.prog) (w := w) (mg := mg) (base := base) D_format_row.F T L D_written Gwr
  have Gpa := ok_parse (P := lw.prog) (w := w) (mg := mg) (base := base) D_parse_row.F T L (PySem.W.mg_of X G a_dN) KT_dN D_read_line Gln MIC Gri BIC
  have Glw := ok_lwhole (P := lw.prog) (w := w) (mg := mg) (base := base) D__law_whole.F T
  have Hlw := okH_whole (P := lw.prog) (w := w) (mg := mg) (base := base) D__law_whole.F T
  have Gcell := ok_cell (P := lw.prog) (w := w) (mg := mg) (base := base) D__law_cell.F T
  have Gdig := ok_digits (P := lw.prog) (w := w) (mg := mg) (base := base) D__law_digits.F T
  have Gle := ok_letters (P := lw.prog) (w := w) (mg := mg) (base := base) D__law_letters.F T
  have Gll := ok_llanes (P := lw.prog) (w := w) (mg := mg) (base := base) D__law_lanes.F T
  have Gir := ok_isrow (P := lw.prog) (w := w) (mg := mg) (base := base) D__law_is_row.F T L IC D__law_whole Glw D__law_lanes Gll MT_Row_len Grl B_Row_len PT_Row_bottom Gbo B_Row_bottom
  have Glo := ok_lnote (P := lw.prog) (w := w) (mg := mg) (base := base) D__law_note.F T
  have Gsl := ok_spline (P := lw.prog) (w := w) (mg := mg) (base := base) D__law_spoilt_line.F T
  have Gsn := ok_spnote (P := lw.prog) (w := w) (mg := mg) (base := base) D__law_spoilt_note.F T D__law_spoilt_line Gsl
  have Gnb := ok_lnum (P := lw.prog) (w := w) (mg := mg) (base := base) D__law_number.F T
  have Goc := ok_outc (P := lw.prog) (w := w) (mg := mg) (base := base) D__law_outcome.F T D__law_number Gnb
  have Gre := ok_refu (P := lw.prog) (w := w) (mg := mg) (base := base) D__law_refusal.F T (PySem.W.mg_none_of X G zV) (PySem.W.mg_of X G aN) (PySem.W.mg_of X G aA) (PySem.W.mg_of X G aB) (PySem.W.mg_of X G a_x0) XC D_parse_row Gpa D__law_whole Hlw
  have Grd := ok_reads (P := lw.prog) (w := w) (mg := mg) (base := base) D__law_reads.F T D_parse_row Gpa D__law_outcome Goc D__law_is_row Gir D__law_refusal Gre
  exact ok_law (fun_mk l26 c26 k26) T (PySem.W.mg_none_of X G zRv) L D__law_cell Gcell D__law_digits Gdig D__law_letters Gle D__law_lanes Gll D__law_is_row Gir D__law_note Glo D__law_spoilt_note Gsn D__law_reads Grd D_parse_row Gpa D_format_row Gfmt kb_f kb_p MIC Gri BIC MT_Row_flipped Gfl B_Row_flipped i28 n28 Geq B_Row_eq nfC
end Own

open PySem PySem.W PyProof.Rows
set_option maxRecDepth 100000 in
set_option maxHeartbeats 0 in
theorem PySem.Challenge.cw_rimcords_k69_row_notes_holds : PySem.Challenge.rw_rimcords_k69_row_notes.Holds := by
  w_on; o_law; k_head; (case hw => w_witness2)
  k_fill
  refine L2.walk_of (l := PySem.Challenge.rw_rimcords_k69_row_notes) (n := 63) (k := 10) (x := "_law_script") (CX := fun _ => L2.CX0) (sp := fun w => Own.spLaw _) rfl (by decide) rfl ⟨rfl, by decide, by decide⟩ (fun w h Y => PySem.W.kIn_of Y) ?F (fun _ _ a ns hl _ hS => ⟨a, ns, rfl, hS, Nat.le_trans hl (by decide), fun _ => rfl⟩) (fun _ _ _ _ _ h => h)
  case F =>
    intro w mg fa h KX G hmg
    refine' Own.all_mk KX G hmg ?iN ?iT ?a1 ?l1 ?c1 ?k1 ?a2 ?l2 ?c2 ?k2 ?a3 ?l3 ?c3 ?k3 ?a4 ?l4 ?c4 ?k4 ?a5 ?l5 ?c5 ?k5 ?a6 ?l6 ?c6 ?k6 ?a7 ?l7 ?c7 ?k7 ?a8 ?l8 ?c8 ?k8 ?a9 ?l9 ?c9 ?k9 ?a10 ?l10 ?c10 ?k10 ?a11 ?l11 ?c11 ?k11 ?a12 ?l12 ?c12 ?k12 ?a13 ?l13 ?c13 ?k13 ?a14 ?l14 ?c14 ?k14 ?a15 ?l15 ?c15 ?k15 ?a16 ?l16 ?c16 ?k16 ?a17 ?l17 ?c17 ?k17 ?a18 ?l18 ?c18 ?k18 ?a19 ?l19 ?c19 ?k19 ?a20 ?l20 ?c20 ?k20 ?a21 ?l21 ?c21 ?k21 ?a22 ?l22 ?c22 ?k22 ?a23 ?l23 ?c23 ?k23 ?a24 ?l24 ?c24 ?k24 ?a25 ?l25 ?c25 ?k25 ?a26 ?l26 ?c26 ?k26 ?z0 ?z1 ?z2 ?z3 ?z4 ?z5 ?z6 ?z7 ?z8 ?z9 ?z10 ?z11 ?aC ?pgC ?hdC ?poC ?saC ?mkC ?kcC ?nfC_top ?nfC__lanes ?nfC_letters ?iAC ?iMC ?i27 ?n27 ?l27 ?c27 ?k27 ?i28 ?n28 ?l28 ?c28 ?k28 ?i29 ?n29 ?l29 ?c29 ?k29 ?iP_Row_bottom ?rP_Row_bottom ?gP_Row_bottom ?tP_Row_bottom ?l30 ?c30 ?k30 ?i31 ?n31 ?l31 ?c31 ?k31 ?lTC ?aN ?aA ?aB ?a_x0 ?lRe ?iRe ?opD ?tpD ?zS ?zV ?lN ?saN ?eN ?tN ?kN ?iuN ?tuN ?luN ?cuN ?lcN ?ldN ?cvN ?cfN ?veN ?meN ?gaN ?ggN ?hN ?caN ?moN ?sdN ?n0N ?qNDA ?qNDB ?qNx0 ?lA ?saA ?eA ?tA ?kA ?iuA ?tuA ?luA ?cuA ?lcA ?ldA ?cvA ?cfA ?veA ?meA ?gaA ?ggA ?hA ?caA ?moA ?sdA ?n0A ?qADN ?qADB ?qAx0 ?lB ?saB ?eB ?tB ?kB ?iuB ?tuB ?luB ?cuB ?lcB ?ldB ?cvB ?cfB ?veB ?meB ?gaB ?ggB ?hB ?caB ?moB ?sdB ?n0B ?n1B ?qBDN ?qBDA ?qBx0 ?ic_DN ?tc_DN ?ic_DA ?tc_DA ?ic_DB ?tc_DB ?ic_x0 ?tc_x0 ?a_dN ?l_dN ?kl_dN ?lo_dN ?exRe ?hdRe ?zEn ?zRv ?a_dU ?l_dU ?kl_dU ?n0_dU ?n1_dU ?n2_dU
    (case iN => k_is)
    (case iT => k_is)
    (case a1 => k_is)
    (case l1 => k_is)
    (case c1 => k_is)
    (case k1 => k_is)
    (case a2 => k_is)
    (case l2 => k_is)
    (case c2 => k_is)
    (case k2 => k_is)
    (case a3 => k_is)
    (case l3 => k_is)
    (case c3 => k_is)
    (case k3 => k_is)
    (case a4 => k_is)
    (case l4 => k_is)
    (case c4 => k_is)
    (case k4 => k_is)
    (case a5 => k_is)
    (case l5 => k_is)
    (case c5 => k_is)
    (case k5 => k_is)
    (case a6 => k_is)
    (case l6 => k_is)
    (case c6 => k_is)
    (case k6 => k_is)
    (case a7 => k_is)
    (case l7 => k_is)
    (case c7 => k_is)
    (case k7 => k_is)
    (case a8 => k_is)
    (case l8 => k_is)
    (case c8 => k_is)
    (case k8 => k_is)
    (case a9 => k_is)
    (case l9 => k_is)
    (case c9 => k_is)
    (case k9 => k_is)
    (case a10 => k_is)
    (case l10 => k_is)
    (case c10 => k_is)
    (case k10 => k_is)
    (case a11 => k_is)
    (case l11 => k_is)
    (case c11 => k_is)
    (case k11 => k_is)
    (case a12 => k_is)
    (case l12 => k_is)
    (case c12 => k_is)
    (case k12 => k_is)
    (case a13 => k_is)
    (case l13 => k_is)
    (case c13 => k_is)
    (case k13 => k_is)
    (case a14 => k_is)
    (case l14 => k_is)
    (case c14 => k_is)
    (case k14 => k_is)
    (case a15 => k_is)
    (case l15 => k_is)
    (case c15 => k_is)
    (case k15 => k_is)
    (case a16 => k_is)
    (case l16 => k_is)
    (case c16 => k_is)
    (case k16 => k_is)
    (case a17 => k_is)
    (case l17 => k_is)
    (case c17 => k_is)
    (case k17 => k_is)
    (case a18 => k_is)
    (case l18 => k_is)
    (case c18 => k_is)
    (case k18 => k_is)
    (case a19 => k_is)
    (case l19 => k_is)
    (case c19 => k_is)
    (case k19 => k_is)
    (case a20 => k_is)
    (case l20 => k_is)
    (case c20 => k_is)
    (case k20 => k_is)
    (case a21 => k_is)
    (case l21 => k_is)
    (case c21 => k_is)
    (case k21 => k_is)
    (case a22 => k_is)
    (case l22 => k_is)
    (case c22 => k_is)
    (case k22 => k_is)
    (case a23 => k_is)
    (case l23 => k_is)
    (case c23 => k_is)
    (case k23 => k_is)
    (case a24 => k_is)
    (case l24 => k_is)
    (case c24 => k_is)
    (case k24 => k_is)
    (case a25 => k_is)
    (case l25 => k_is)
    (case c25 => k_is)
    (case k25 => k_is)
    (case a26 => k_is)
    (case l26 => k_is)
    (case c26 => k_is)
    (case k26 => k_is)
    (case z0 => k_is)
    (case z1 => k_is)
    (case z2 => k_is)
    (case z3 => k_is)
    (case z4 => k_is)
    (case z5 => k_is)
    (case z6 => k_is)
    (case z7 => k_is)
    (case z8 => k_is)
    (case z9 => k_is)
    (case z10 => k_is)
    (case z11 => k_is)
    (case aC => k_is)
    (case pgC => k_is)
    (case hdC => k_is)
    (case poC => k_is)
    (case saC => k_is)
    (case mkC => k_is)
    (case kcC => k_is)
    (case nfC_top => k_is)
    (case nfC__lanes => k_is)
    (case nfC_letters => k_is)
    (case iAC => k_is)
    (case iMC => k_is)
    (case i27 => k_is)
    (case n27 => k_is)
    (case l27 => k_is)
    (case c27 => k_is)
    (case k27 => k_is)
    (case i28 => k_is)
    (case n28 => k_is)
    (case l28 => k_is)
    (case c28 => k_is)
    (case k28 => k_is)
    (case i29 => k_is)
    (case n29 => k_is)
    (case l29 => k_is)
    (case c29 => k_is)
    (case k29 => k_is)
    (case iP_Row_bottom => k_is)
    (case rP_Row_bottom => k_is)
    (case gP_Row_bottom => k_is)
    (case tP_Row_bottom => k_is)
    (case l30 => k_is)
    (case c30 => k_is)
    (case k30 => k_is)
    (case i31 => k_is)
    (case n31 => k_is)
    (case l31 => k_is)
    (case c31 => k_is)
    (case k31 => k_is)
    (case lTC => k_is)
    (case aN => k_is)
    (case aA => k_is)
    (case aB => k_is)
    (case a_x0 => k_is)
    (case lRe => k_is)
    (case iRe => k_is)
    (case opD => k_is)
    (case tpD => first | rfl | decide +kernel)
    (case zS => k_is)
    (case zV => k_is)
    (case lN => k_is)
    (case saN => k_is)
    (case eN => k_is)
    (case tN => k_is)
    (case kN => k_is)
    (case iuN => k_is)
    (case tuN => k_is)
    (case luN => k_is)
    (case cuN => k_is)
    (case lcN => k_is)
    (case ldN => k_is)
    (case cvN => first | rfl | decide +kernel)
    (case cfN => first | rfl | decide +kernel)
    (case veN => k_is)
    (case meN => k_is)
    (case gaN => k_is)
    (case ggN => k_is)
    (case hN => k_is)
    (case caN => k_is)
    (case moN => k_is)
    (case sdN => k_is)
    (case n0N => k_is)
    (case qNDA => k_is)
    (case qNDB => k_is)
    (case qNx0 => k_is)
    (case lA => k_is)
    (case saA => k_is)
    (case eA => k_is)
    (case tA => k_is)
    (case kA => k_is)
    (case iuA => k_is)
    (case tuA => k_is)
    (case luA => k_is)
    (case cuA => k_is)
    (case lcA => k_is)
    (case ldA => k_is)
    (case cvA => first | rfl | decide +kernel)
    (case cfA => first | rfl | decide +kernel)
    (case veA => k_is)
    (case meA => k_is)
    (case gaA => k_is)
    (case ggA => k_is)
    (case hA => k_is)
    (case caA => k_is)
    (case moA => k_is)
    (case sdA => k_is)
    (case n0A => k_is)
    (case qADN => k_is)
    (case qADB => k_is)
    (case qAx0 => k_is)
    (case lB => k_is)
    (case saB => k_is)
    (case eB => k_is)
    (case tB => k_is)
    (case kB => k_is)
    (case iuB => k_is)
    (case tuB => k_is)
    (case luB => k_is)
    (case cuB => k_is)
    (case lcB => k_is)
    (case ldB => k_is)
    (case cvB => first | rfl | decide +kernel)
    (case cfB => first | rfl | decide +kernel)
    (case veB => k_is)
    (case meB => k_is)
    (case gaB => k_is)
    (case ggB => k_is)
    (case hB => k_is)
    (case caB => k_is)
    (case moB => k_is)
    (case sdB => k_is)
    (case n0B => k_is)
    (case n1B => k_is)
    (case qBDN => k_is)
    (case qBDA => k_is)
    (case qBx0 => k_is)
    (case ic_DN => k_is)
    (case tc_DN => k_is)
    (case ic_DA => k_is)
    (case tc_DA => k_is)
    (case ic_DB => k_is)
    (case tc_DB => k_is)
    (case ic_x0 => k_is)
    (case tc_x0 => k_is)
    (case a_dN => k_is)
    (case l_dN => k_is)
    (case kl_dN => first | exact ⟨⟨_, _, rfl, rfl, rfl⟩, ⟨_, _, rfl, rfl, rfl⟩, ⟨_, _, rfl, rfl, rfl⟩, ⟨_, _, rfl, rfl, rfl⟩, ⟨_, _, rfl, rfl, rfl⟩, ⟨_, _, rfl, rfl, rfl⟩, trivial⟩ | exact ⟨⟨_, _, rfl, rfl, rfl⟩, ⟨_, _, rfl, rfl, rfl⟩, ⟨_, _, rfl, rfl, rfl⟩, trivial⟩)
    (case lo_dN => first | rfl | decide +kernel)
    (case exRe => k_is)
    (case hdRe => k_is)
    (case zEn => k_is)
    (case zRv => k_is)
    (case a_dU => k_is)
    (case l_dU => k_is)
    (case kl_dU => exact ⟨⟨_, _, rfl, rfl⟩, ⟨_, _, rfl, rfl⟩, ⟨_, _, rfl, rfl⟩, trivial⟩)
    (case n0_dU => k_is)
    (case n1_dU => k_is)
    (case n2_dU => k_is)
