import PyProof.Rows.All
import Wide.All
import OpenK.AllK
import Wide.FinOn
import HandS.ForMost
import HandS.IsInst
import HandS.Style
import HandS.Defaults
import HandS.MakeKwOnly
import HandS.Conv
import HandS.Sort
import HandS.SortRule
import HandS.Deep
import HandS.Property
import HandS.TupSets
import HandS.Codes
import HandS.GenOver
import PyProof.GenRules
import PyProof.GenQ
import HandS.GenCall
import HandS.GenList
import HandS.MakeKw
import HandS.Words
import KE.KStateDown
import HandS.Base
import HandS.Call
import HandS.Ends
import HandS.More
import HandS.WordsExc
import HandS.Exc
import HandS.Head0
import HandS.Head1
import HandS.Head2
import HandS.HeadEnd
import HandS.HeadHook1
import HandS.HeadHook2
import HandS.TupLe
import HandS.TupAny
import PySem.Challenge.RW_rimcords_k51_pairings
set_option maxHeartbeats 1000000
set_option Elab.async false
set_option linter.all false
set_option maxRecDepth 100000
/-! Rules of my own for the hand layer. -/
namespace Own
open PySem PySem.Spec PyProof.Rows L2
/-- the two ints of a pair that stands in the heap -/
def kOf (H : Hp) (v : V) : Int × Int := match v with
  | .ref a => match H a with
    | some (.tup [.int i, .int j]) => (i, j)
    | _ => (0, 0)
  | _ => (0, 0)
theorem kOf_at {H : Hp} {a : Addr} {i j : Int} (h : H a = some (.tup [.int i, .int j])) : kOf H (.ref a) = (i, j) := by
  show (match H a with | some (.tup [.int i, .int j]) => (i, j) | _ => (0, 0)) = (i, j)
  rw [h]
def rSortedDT : List V → Hp → VK → Prop := fun vs H Q => ∃ (d : Addr) (kvs : List (List Key × V)), vs = [V.ref d] ∧ Rd H d (.dT kvs) ∧ (∀ kv ∈ kvs, ∃ i j : Int, kv.1 = [Sum.inl i, Sum.inl j]) ∧
  ∀ (bs : List Addr) (ys : List V) (p : Addr), IsKeys H kvs bs → SrtO.Srtd (ltP (kOf H)) ys → SrtO.Stb (ltP (kOf H)) ys (bs.map V.ref) → H p = none → Q (.ref p) (upd H p (.lst ys))
section
variable {X : Cx}
theorem paired_right {α β : Type} {R : α → β → Prop} {xs : List α} {ys : List β} (h : Paired R xs ys) : ∀ y ∈ ys, ∃ x ∈ xs, R x y := by
  induction h with
  | nil => intro y hy; cases hy
  | cons h t ih =>
    intro y hy
    rcases List.mem_cons.mp hy with e | e
    · subst e
      exact ⟨_, List.mem_cons_self, h⟩
    · obtain ⟨x, hx, hr⟩ := ih y e
      exact ⟨x, List.mem_cons_of_mem _ hx, hr⟩
theorem cr_sortedDT (hc : X.calm = true) : CallR X (.builtin "sorted") rSortedDT := by
  intro pins s σ H xs us Q I r h
  obtain ⟨d, kvs, rfl, hd, hkv, q⟩ := h
  obtain ⟨u, rfl, rx⟩ := r.one
  cases rx
  obtain ⟨z, hs, ks, pr, o, es, ep, ho, hx, hdt, he, hn⟩ := (show ObjOk X.prog X.w H s.heap d (.dT kvs) from hd.ok I.hok)
  have l1 : es.size = ks.length := size_of_entries he
  have l2 : kvs.length = ks.length := Paired.length pr
  refine Calls.call_function_entry PyProof.Rows.kind_sorted PyProof.Rows.plain_sorted PyProof.Rows.entry_sorted (PyProof.Rows.args_sorted1 _) ?_
  unfold Builtin.«sorted»
  refine wpAny_bind (m := checkCount "sorted" 1 1 _) (wpAny_pure ?_)
  refine wpAny_bind (PySem.W.kdu_collect (A := X.A.in1) (kdl_raw hs hx hdt) (I.ok.hd hc) ho (by omega) fun h' tk acc' kp it => ?_)
  have ea : acc'.toList = ks.map fun x => Value.ref x.2.1 := by
    have hl : acc'.toList.length = ks.length := by rw [Array.length_toList, it.1]; exact l1
    apply List.ext_getElem?
    intro j
    rw [List.getElem?_map]
    cases hj : acc'.toList[j]? with
    | none =>
      have h1 := List.getElem?_eq_none_iff.mp hj
      rw [List.getElem?_eq_none (by omega)]
      all_goals rfl
    | some v =>
      obtain ⟨en, hen, hv⟩ := it.2 j v (by rw [← Array.getElem?_toList]; exact hj)
      have qe := entry_at he j
      rw [hen] at qe
      cases hb : ks[j]? with
      | none =>
        rw [hb] at qe
        exact nomatch (show some en = none from qe)
      | some b =>
        rw [hb] at qe
        have e2 : en = entryOfKey (tupleKind (mixKind X.prog X.w)) b := Option.some.inj qe
        rw [hv, e2]
        all_goals rfl
  have hal : acc'.toList.length ≤ sizeLine := by rw [ea, List.length_map]; omega
  have I1 : Inv X pins σ H { s with heap := h', toks := tk } := I.kept kp
  have keys := isKeys_of pr
  have hpair : ∀ v ∈ acc'.toList, ∃ t i j, v = Value.ref t ∧ H t = some (.tup [.int i, .int j]) := fun v hv => by
    rw [ea] at hv
    obtain ⟨x, hx, rfl⟩ := List.mem_map.mp hv
    obtain ⟨kv, hkm, hb⟩ := paired_right keys x.2.1 (List.mem_map.mpr ⟨x, hx, rfl⟩)
    obtain ⟨i, j, e⟩ := hkv kv hkm
    rw [e] at hb
    exact ⟨_, i, j, rfl, hb⟩
  refine wpAny_bind (wpAny_newList ?_ hal)
  have hoL : (h'.push (seqObj "list" acc'.toList.toArray 0)).get? h'.objs.size = some (seqObj "list" acc'.toList.toArray 0) := Heap.get?_push_size _ rfl
  have hp : ∀ v ∈ acc'.toList, Srt.IsPair (h'.push (seqObj "list" acc'.toList.toArray 0)) v (kOf H (backV v)).1 (kOf H (backV v)).2 := fun v hv => by
    obtain ⟨t, i, j, rfl, ht⟩ := hpair v hv
    obtain ⟨_, its2, r2, o, ho2, hc2, n2, hd2⟩ := I1.hok _ _ ht
    obtain ⟨u1, u2, rfl, ri, rj⟩ := vals2 r2
    obtain ⟨t1, rfl⟩ := ri
    obtain ⟨t2, rfl⟩ := rj
    rw [show backV (Value.ref t) = V.ref t from rfl, kOf_at ht]
    exact ⟨t, o, t1, t2, n2, rfl, Heap.get?_push_of_some _ ho2, hc2, hd2⟩
  show wpAny _ _ _ _ _ { s with heap := h'.push (seqObj "list" acc'.toList.toArray 0), toks := tk }
  refine wpAny_bind (wpAny_holding (wpAny_call_entry PyProof.Rows.slot_list_sort ⟨_, hoL, rfl⟩ PyProof.Rows.entry_list_sort
    (SrtO.list_sort_ord (s := { s with heap := h'.push (seqObj "list" acc'.toList.toArray 0), toks := tk }) (SrtO.swo_lex fun v => kOf H (backV v)) hoL hal (fun h2 => ?_) fun out hs hb => ⟨_, rfl, ?_⟩) (PyProof.Rows.args_list_sort _)))
  · refine SrtO.pairs_sortableO (s := { s with heap := h'.push (seqObj "list" acc'.toList.toArray 0), toks := tk }) (by omega) hp fun o e => ?_
    have e' : some o = some (seqObj "list" acc'.toList.toArray 0) := e.symm.trans hoL
    cases e'
    intro c
    exact absurd (Value.type.inj c) (by decide)
  · obtain ⟨e', he'⟩ := PyProof.Rows.sortedHeap_at (vs := acc'.toList) (out := out.toArray) hoL
    have hrefs : ∀ u ∈ out, ∃ a, u = Value.ref a := fun u hu => by
      obtain ⟨t, i, j, e, _⟩ := hpair u (hb.perm.mem_iff.mp hu)
      exact ⟨t, e⟩
    have hb2 : SrtO.Stb (ltP (kOf H)) (out.map backV) ((ks.map fun x => x.2.1).map V.ref) := by
      have e1 : ((ks.map fun x => x.2.1).map V.ref) = acc'.toList.map backV := by
        rw [ea, List.map_map, List.map_map]
        rfl
      rw [e1]
      exact SrtO.Stb.map (ltP_swo (kOf H)) backV hb
    have hlen : (out.map backV).length ≤ sizeLine := by
      rw [List.length_map, hb.perm.length_eq]
      exact hal
    refine wpAny_pure ⟨_, rfl, .ref h'.objs.size, upd H h'.objs.size (.lst (out.map backV)), I1.laid (t' := tk) (fun b u e => ?_) (Nat.le_refl _)
      (show ObjOk X.prog X.w _ _ _ (.lst (out.map backV)) from ⟨hlen, out, e', vals_back hrefs, by exact he'⟩), rfl, q _ _ _ keys (SrtO.srtd_map hs) hb2 (I1.hok.fresh (Nat.le_refl _))⟩
    have hbn : b < h'.objs.size := Heap.lt_size e
    rw [PyProof.Rows.sortedHeap_old (Nat.ne_of_lt hbn) (by rw [size_push']; exact Nat.lt_succ_of_lt hbn)]
    exact Heap.get?_push_of_some _ e
/-- len(o), o an instance of an own class with a __len__ -/
def rLenOwn (C : Addr) (sp : Sp) (E : XK) : List V → Hp → VK → Prop := fun vs H Q => ∃ (a dx : Addr) (fs : List (Str × V)), vs = [V.ref a] ∧ H a = some (.ins C dx fs) ∧ sp [V.ref a] H (fun v H' => ∃ n : Nat, v = .int (n : Int) ∧ n ≤ sizeLine ∧ Q (.int (n : Int)) H') E
theorem cr_lenOwn {CX : CXT} {k : Nat} {C f : Addr} {fd : FuncData} {ps : List Str} {sp : Sp} {E : XK} (hm : Meth X.K C "__len__" f) (F : FnOk X.prog X.w X.K X.mg X.base CX k f fd ps sp) (hr : Room (k + 1) X.A) (hb : Binds X.K fd ps []) (hx : Passes CX X.nox E) :
    CallR X (.builtin "len") (rLenOwn C sp E) := by
  intro pins s σ H xs us Q I r h
  obtain ⟨a, dx, fs, rfl, ea, q⟩ := h
  obtain ⟨u, rfl, rx⟩ := vals1 r
  cases rx
  obtain ⟨mA, O, _, _, _, _⟩ := ins_get I.hok ea
  obtain ⟨od, J, _⟩ := O.look
  have hl : [Value.ref a].length = ps.length := (F.len _ _ _ _ q : _)
  apply Calls.call_function_entry kind_len plain_len entry_len (args_len1 _)
  show wpAny _ _ (Builtin.«len» _) _ _ _
  unfold Builtin.«len»
  apply wpAny_bind (m := oneArg "len" _)
  apply wpAny_pure
  apply wpAny_bind (m := callSpecial? (.ref a) (Str.ofString "__len__"))
  apply PySem.W.special_fn I.kIn J hm.at_ (beq_iff_eq.mp hm.fn)
  apply wpAny_call
  refine codeAny_mono (F.run X.A.in1 X.stack s H ⟨[.ref a], []⟩ [.ref a] [V.ref a] _ E hr.in1 I.env0.in1 (hb s [.ref a] I.kIn hl) (.cons rfl .nil) q) fun r s' hq => ?_
  rcases r with e | fl
  · exact False.elim (hx pins σ H s e s' (I.wish _) hq)
  · cases fl <;> first | exact False.elim hq | skip
    rename_i u
    obtain ⟨v, H', I3, rv, n, ev, hn, q3⟩ := I.after hq
    subst ev
    obtain ⟨t, et⟩ := rv
    subst et
    have h63 : sizeLine < 2 ^ 63 := by decide
    apply wpAny_bind
    apply wpAny_holding
    apply wpAny_pure
    apply wpAny_bind
    apply wpAny_letGo
    show wpAny _ _ (if (n : Int) < 0 then _ else _) _ _ _
    rw [if_neg (by omega)]
    show wpAny _ _ (if (n : Int) ≥ 2 ^ 63 then _ else _) _ _ _
    rw [if_neg (by omega)]
    apply wpAny_bind
    apply wpAny_mkInt
    exact wpAny_pure ⟨_, rfl, .int (n : Int), H', I3.tok _, ⟨_, rfl⟩, q3⟩
/-- for x in xs, xs a list or a tuple -/
def iSeq (K : PySem.W.Frag) (ta : TE) : TI := fun σ H R => ta σ H fun x H1 => ∃ a, x = .ref a ∧ (((∃ xs, SqL K H1 a xs) ∧ R (Itl K a) H1) ∨ ((∃ xs, SqT K H1 a xs) ∧ R (Itt K a) H1))
theorem pi_seq {tg l : Expr} {tl : TE} (hl : PE X l tl) : PI X tg l (iSeq X.K tl) := by
  refine ⟨fun pins s σ H R I h => thn (hl.run pins s σ H _ I h) ?_⟩
  rintro v s1 ⟨x, H1, I1, r1, a, rfl, q | q⟩
  all_goals
    obtain ⟨⟨xs, hq⟩, q⟩ := q
    obtain rfl : v = Value.ref a := r1
    have fresh := I1.fpOk (Nat.le_refl s1.heap.objs.size) (I1.hok.fresh (Nat.le_refl _))
    have older : ∀ {u : Obj}, Inv X pins σ H1 { s1 with heap := s1.heap.push u, toks := s1.toks } := fun {u} => I1.kept (t' := s1.toks) fun b o e => Heap.get?_push_of_some _ e
  · obtain ⟨its, rv, p, hz⟩ := I1.list hq
    exact wpAny_pyIter_list p.isList ⟨_, [s1.heap.objs.size], _, _, H1, rfl, older, turn_list a _, ⟨_, Heap.get?_push_size _ rfl, rfl, rfl⟩, fun b hb => by rw [List.mem_singleton.mp hb]; exact fresh, q⟩
  · obtain ⟨its, rv, p, hz⟩ := I1.tuple hq
    exact wpAny_pyIter_tuple (show s1.heap.IsTuple a its.toArray from p) ⟨_, [s1.heap.objs.size], _, _, H1, rfl, older, turn_tuple a _, ⟨_, Heap.get?_push_size _ rfl, rfl, rfl⟩, fun b hb => by rw [List.mem_singleton.mp hb]; exact fresh, q⟩
/-- the loop's rule for both -/
def SqB (K : PySem.W.Frag) (H : Hp) (a : Addr) (xs : List V) : Prop := SqL K H a xs ∨ SqT K H a xs
end
end Own

/-! Generators that sleep: whoever does not wake them leaves them as they are. -/
namespace Slp
open PySem
open Sem (wp)
/-! ### entries that nothing can wake -/
def husk : GenState → GenState
  | .suspended _ l c p fs cl => .suspended (fun _ => .unsupported "asleep") l c p fs cl
  | x => x
theorem husk_seen (x : GenState) : (husk x).seen = x.seen := by cases x <;> rfl
theorem husk_bare (x : GenState) : (husk x).bare = x.bare := by cases x <;> rfl
def Sleeps : GenState → Prop
  | .suspended .. => True
  | _ => False
def Clear : GenState → Prop
  | .suspended _ _ _ _ fs _ => splitAtGen fs = none
  | _ => True
def over (D : Nat → Option GenState) (s : Shared) : Shared := { s with gens := s.gens.mapIdx fun i x => (D i).getD x }
structure Nap (D : Nat → Option GenState) (s : Shared) : Prop where
  is : ∀ i r, D i = some r → Sleeps r ∧ s.gens[i]? = some (husk r)
  rest : ∀ i x, D i = none → s.gens[i]? = some x → Clear x
def FrOk (D : Nat → Option GenState) (fs : List Frame) : Prop := ∀ F ∈ fs, match F with
  | .gen g _ _ _ _ => D g = none
  | _ => True
theorem FrOk.nil {D : Nat → Option GenState} : FrOk D [] := fun _ h => by simp at h
theorem FrOk.tail {D : Nat → Option GenState} {F : Frame} {fs : List Frame} (h : FrOk D (F :: fs)) : FrOk D fs := fun G hG => h G (List.mem_cons_of_mem _ hG)
theorem FrOk.of_none {D : Nat → Option GenState} : ∀ {fs : List Frame}, splitAtGen fs = none → FrOk D fs
  | [], _ => .nil
  | .gen .. :: _, h => by cases h
  | .ret k a g l c p kp :: fs, h => by
    have h' : (splitAtGen fs).map (fun (x : List Frame × (Nat × (GenResult → Sem Fin) × Code × Pos) × List Frame) => (Frame.ret k a g l c p kp :: x.1, x.2.1, x.2.2)) = none := h
    intro F hF
    rcases List.mem_cons.mp hF with rfl | hF
    · trivial
    · exact FrOk.of_none (Option.map_eq_none_iff.mp h') F hF
theorem FrOk.split {D : Nat → Option GenState} : ∀ {fs pre : List Frame} {g : Nat} {k : GenResult → Sem Fin} {c : Code} {p : Pos} {rest : List Frame}, FrOk D fs → splitAtGen fs = some (pre, (g, k, c, p), rest) → D g = none ∧ FrOk D rest
  | [], _, _, _, _, _, _, _, h => by cases h
  | .gen g' k' l' c' p' :: fs, pre, g, k, c, p, rest, f, h => by
    have h' : some (([] : List Frame), (g', k', c', p'), fs) = some (pre, (g, k, c, p), rest) := h
    simp only [Option.some.injEq, Prod.mk.injEq] at h'
    obtain ⟨_, ⟨rfl, _, _, _⟩, rfl⟩ := h'
    exact ⟨f _ (List.mem_cons_self ..), f.tail⟩
  | .ret k' a g' l c' p' kp :: fs, pre, g, k, c, p, rest, f, h => by
    have h' : (splitAtGen fs).map (fun (x : List Frame × (Nat × (GenResult → Sem Fin) × Code × Pos) × List Frame) => (Frame.ret k' a g' l c' p' kp :: x.1, x.2.1, x.2.2)) = some (pre, (g, k, c, p), rest) := h
    obtain ⟨⟨p1, b1, r1⟩, e1, e2⟩ := Option.map_eq_some_iff.mp h'
    simp only [Prod.mk.injEq] at e2
    obtain ⟨_, rfl, rfl⟩ := e2
    exact FrOk.split f.tail e1
theorem split_append {a b : List Frame} (h : splitAtGen a = none) (k : splitAtGen b = none) : splitAtGen (a ++ b) = none := by
  rw [splitAtGen_append_none b h, k]
  rfl
theorem no_run {M : Model} {Γ : Ctx} {p : Pos} {x : String} {fs : List Frame} {s s' : Shared} {e : End} (h : Runs M Γ p (.unsupported x) fs s e s') : False := by
  cases h with
  | segRet a _ => cases a
  | segGen a _ => cases a
  | segSuspOut _ a => cases a
  | segSuspGen _ a _ _ => cases a
section
variable {D : Nat → Option GenState} {s : Shared}
theorem over_at {g : Nat} {x : GenState} (h : s.gens[g]? = some x) : (over D s).gens[g]? = some ((D g).getD x) := by
  show (s.gens.mapIdx fun i x => (D i).getD x)[g]? = _
  rw [Array.getElem?_mapIdx, h]
  rfl
theorem Nap.size (n : Nap D s) {i : Nat} (h : s.gens.size ≤ i) : D i = none := by
  cases e : D i with
  | none => rfl
  | some r =>
    have := (n.is i r e).2
    rw [Array.getElem?_eq_none_iff.mpr h] at this
    cases this
theorem Nap.heap {s' : Shared} (n : Nap D s) (e : s'.gens = s.gens) : Nap D s' := ⟨fun i r h => by rw [e]; exact n.is i r h, fun i x h k => n.rest i x h (by rw [← e]; exact k)⟩
theorem Nap.set {g : Nat} {x : GenState} (n : Nap D s) (h : D g = none) (c : Clear x) : Nap D (s.setGen g x) := by
  refine ⟨fun i r hi => ?_, fun i y hi hy => ?_⟩
  · have ne : g ≠ i := fun z => by rw [← z, h] at hi; cases hi
    obtain ⟨a, b⟩ := n.is i r hi
    exact ⟨a, by show (s.gens.setIfInBounds g x)[i]? = _; rw [Array.getElem?_setIfInBounds_ne ne]; exact b⟩
  · have hy : (s.gens.setIfInBounds g x)[i]? = some y := hy
    by_cases z : g = i
    · subst z
      rw [Array.getElem?_setIfInBounds_self] at hy
      split at hy
      · cases hy
        exact c
      · cases hy
    · rw [Array.getElem?_setIfInBounds_ne z] at hy
      exact n.rest i y hi hy
theorem Nap.push {c : Code} (n : Nap D s) : Nap D { s with gens := s.gens.push (.fresh c) } := by
  refine ⟨fun i r hi => ?_, fun i y hi hy => ?_⟩
  · obtain ⟨a, b⟩ := n.is i r hi
    have lt : i < s.gens.size := (Array.getElem?_eq_some_iff.mp b).1
    exact ⟨a, by show (s.gens.push _)[i]? = _; rw [Array.getElem?_push, if_neg (Nat.ne_of_lt lt)]; exact b⟩
  · have hy : (s.gens.push (.fresh c))[i]? = some y := hy
    rw [Array.getElem?_push] at hy
    split at hy
    · cases hy
      trivial
    · exact n.rest i y hi hy
theorem over_set {g : Nat} {x : GenState} (h : D g = none) : over D (s.setGen g x) = (over D s).setGen g x := by
  unfold over Shared.setGen
  congr 1
  refine Array.ext_getElem? fun i => ?_
  rw [Array.getElem?_mapIdx]
  by_cases z : g = i
  · subst z
    rw [Array.getElem?_setIfInBounds_self, Array.getElem?_setIfInBounds_self]
    simp only [Array.size_mapIdx]
    split <;> simp [h]
  · rw [Array.getElem?_setIfInBounds_ne z, Array.getElem?_setIfInBounds_ne z, Array.getElem?_mapIdx]
theorem over_push {c : Code} (n : Nap D s) : over D { s with gens := s.gens.push (.fresh c) } = { over D s with gens := (over D s).gens.push (.fresh c) } := by
  unfold over
  congr 1
  refine Array.ext_getElem? fun i => ?_
  rw [Array.getElem?_mapIdx, Array.getElem?_push, Array.getElem?_push, Array.getElem?_mapIdx, Array.size_mapIdx]
  by_cases z : i = s.gens.size
  · rw [if_pos z, if_pos z, z]
    simp [n.size (Nat.le_refl _)]
  · rw [if_neg z, if_neg z]
theorem over_size : (over D s).gens.size = s.gens.size := by simp [over]
end
theorem clear_end {e : End} (h : ∀ v g l k c p fs, e = .susp v g l k c p fs → splitAtGen fs = none) : Clear e.genState := by
  cases e with
  | ret r => trivial
  | susp v g l k c p fs => exact h v g l k c p fs rfl
def Ret (e : End) : Prop := ∀ v g l k c p fs, e = .susp v g l k c p fs → splitAtGen fs = none
theorem Ret.ret {r : Result} : Ret (.ret r) := fun _ _ _ _ _ _ _ h => by cases h
theorem runs_over {M : Model} {D : Nat → Option GenState} {Γ : Ctx} {p : Pos} {t : Sem Fin} {fs : List Frame} {s s' : Shared} {e : End} (h : Runs M Γ p t fs s e s') (n : Nap D s) (f : FrOk D fs) :
    Nap D s' ∧ Ret e ∧ Runs M Γ p t fs (over D s) e (over D s') := by
  induction h with
  | done => exact ⟨n, .ret, .done⟩
  | raise => exact ⟨n, .ret, .raise⟩
  | again q _ ih => obtain ⟨a, b, c⟩ := ih n f; exact ⟨a, b, .again q c⟩
  | rule _ ih => obtain ⟨a, b, c⟩ := ih n f; exact ⟨a, b, .rule c⟩
  | «at» _ ih => obtain ⟨a, b, c⟩ := ih n f; exact ⟨a, b, .at c⟩
  | load q _ ih => obtain ⟨a, b, c⟩ := ih n f; exact ⟨a, b, .load q c⟩
  | update q _ ih => obtain ⟨a, b, c⟩ := ih (n.heap rfl) f; exact ⟨a, b, .update q c⟩
  | loadIfAlive _ ih => obtain ⟨a, b, c⟩ := ih n f; exact ⟨a, b, .loadIfAlive c⟩
  | point _ ih => obtain ⟨a, b, c⟩ := ih n f; exact ⟨a, b, .point c⟩
  | alloc _ ih => obtain ⟨a, b, c⟩ := ih (n.heap rfl) f; exact ⟨a, b, .alloc c⟩
  | fresh _ ih => obtain ⟨a, b, c⟩ := ih (n.heap rfl) f; exact ⟨a, b, .fresh c⟩
  | ask _ ih => obtain ⟨a, b, c⟩ := ih n f; exact ⟨a, b, .ask c⟩
  | choose q _ ih => obtain ⟨a, b, c⟩ := ih (n.heap rfl) f; exact ⟨a, b, .choose q c⟩
  | os _ ih => obtain ⟨a, b, c⟩ := ih (n.heap rfl) f; exact ⟨a, b, .os c⟩
  | handled _ ih => obtain ⟨a, b, c⟩ := ih n f; exact ⟨a, b, .handled c⟩
  | stack _ ih => obtain ⟨a, b, c⟩ := ih n f; exact ⟨a, b, .stack c⟩
  | thread _ ih => obtain ⟨a, b, c⟩ := ih n f; exact ⟨a, b, .thread c⟩
  | @genState g st Γ p k s e s' q _ ih =>
    obtain ⟨a, b, c⟩ := ih n f
    refine ⟨a, b, .genState (over_at q) ?_⟩
    have e1 : ((D g).getD st).seen = st.seen := by
      cases hd : D g with
      | none => rfl
      | some r =>
        have z := (n.is g r hd).2
        rw [q] at z
        cases z
        exact (husk_seen r).symm
    rw [e1]
    exact c
  | newGen _ ih =>
    obtain ⟨a, b, c⟩ := ih n.push f
    rw [over_push n] at c
    refine ⟨a, b, .newGen ?_⟩
    rw [over_size]
    exact c
  | call _ _ ih1 ih2 =>
    obtain ⟨a1, b1, c1⟩ := ih1 n .nil
    obtain ⟨a, b, c⟩ := ih2 a1 .nil
    exact ⟨a, b, .call c1 c⟩
  | callSusp _ ih =>
    obtain ⟨a, b, c⟩ := ih n .nil
    refine ⟨a, fun v g l k c' p' fs h => ?_, .callSusp c⟩
    cases h
    exact split_append (b _ _ _ _ _ _ _ rfl) rfl
  | yield => exact ⟨n, fun v g l k c p fs h => by cases h; rfl, .yield⟩
  | @resumeFresh Γ p g l k s c e₁ s₁ e s' q _ hq _ ih1 ih2 =>
    have hd : D g = none := by
      cases hd : D g with
      | none => rfl
      | some r =>
        obtain ⟨z1, z⟩ := n.is g r hd
        rw [q] at z
        cases r <;> first | exact z1.elim | cases z
    obtain ⟨a1, b1, c1⟩ := ih1 (n.set hd trivial) .nil
    obtain ⟨a, b, c⟩ := ih2 (a1.set hd (clear_end b1)) .nil
    rw [over_set hd] at c1 c
    refine ⟨a, b, .resumeFresh ?_ c1 hq c⟩
    rw [over_at q, hd]
    rfl
  | @resumeSuspended Γ p g r l k s k₀ l₀ c₀ p₀ fs cl e₁ s₁ e s' q h1 hq _ ih1 ih2 =>
    cases hd : D g with
    | some r' =>
      obtain ⟨z1, z⟩ := n.is g r' hd
      rw [q] at z
      cases r' <;> first | exact z1.elim | skip
      cases z
      exact (no_run h1).elim
    | none =>
      have hc : splitAtGen fs = none := n.rest g _ hd q
      obtain ⟨a1, b1, c1⟩ := ih1 (n.set hd trivial) (.of_none hc)
      obtain ⟨a, b, c⟩ := ih2 (a1.set hd (clear_end b1)) .nil
      rw [over_set hd] at c1 c
      refine ⟨a, b, .resumeSuspended (l₀ := l₀) (cl := cl) ?_ c1 hq c⟩
      rw [over_at q, hd]
      rfl
  | @resumeJustStarted g v Γ p k s e s' l c₀ q hv _ ih =>
    obtain ⟨a, b, c⟩ := ih n f
    refine ⟨a, b, .resumeJustStarted (c := c₀) ?_ hv c⟩
    have hd : D g = none := by
      cases hd : D g with
      | none => rfl
      | some r =>
        obtain ⟨z1, z⟩ := n.is g r hd
        rw [q] at z
        cases r <;> first | exact z1.elim | cases z
    rw [over_at q, hd]
    rfl
  | @resumeThrowFresh g Γ p k e s' x l s c₀ q _ ih =>
    have hd : D g = none := by
      cases hd : D g with
      | none => rfl
      | some r =>
        obtain ⟨z1, z⟩ := n.is g r hd
        rw [q] at z
        cases r <;> first | exact z1.elim | cases z
    obtain ⟨a, b, c⟩ := ih (n.set hd trivial) .nil
    rw [over_set hd] at c
    refine ⟨a, b, .resumeThrowFresh (c := c₀) ?_ c⟩
    rw [over_at q, hd]
    rfl
  | @resumeRunning g Γ p k s e s' r l q _ ih =>
    obtain ⟨a, b, c⟩ := ih n f
    refine ⟨a, b, .resumeRunning ?_ c⟩
    have hd : D g = none := by
      cases hd : D g with
      | none => rfl
      | some r =>
        obtain ⟨z1, z⟩ := n.is g r hd
        rw [q] at z
        cases r <;> first | exact z1.elim | cases z
    rw [over_at q, hd]
    rfl
  | @resumeFinished g Γ p k s e s' r l q _ ih =>
    obtain ⟨a, b, c⟩ := ih n f
    refine ⟨a, b, .resumeFinished ?_ c⟩
    have hd : D g = none := by
      cases hd : D g with
      | none => rfl
      | some r =>
        obtain ⟨z1, z⟩ := n.is g r hd
        rw [q] at z
        cases r <;> first | exact z1.elim | cases z
    rw [over_at q, hd]
    rfl
  | segRet _ _ ih1 ih2 =>
    obtain ⟨a1, b1, c1⟩ := ih1 n .nil
    obtain ⟨a, b, c⟩ := ih2 a1 f.tail
    exact ⟨a, b, .segRet c1 c⟩
  | segGen _ _ ih1 ih2 =>
    have hd : D _ = none := f _ (List.mem_cons_self ..)
    obtain ⟨a1, b1, c1⟩ := ih1 n .nil
    obtain ⟨a, b, c⟩ := ih2 (a1.set hd trivial) f.tail
    rw [over_set hd] at c
    exact ⟨a, b, .segGen c1 c⟩
  | segSuspOut hs _ ih =>
    obtain ⟨a, b, c⟩ := ih n .nil
    refine ⟨a, fun v g l k c' p' fs' h => ?_, .segSuspOut hs c⟩
    cases h
    exact split_append (b _ _ _ _ _ _ _ rfl) hs
  | segSuspGen hs _ hq _ ih1 ih2 =>
    obtain ⟨hd, fr⟩ := f.split hs
    obtain ⟨a1, b1, c1⟩ := ih1 n .nil
    have hpre := splitAtGen_pre hs
    obtain ⟨a, b, c⟩ := ih2 (a1.set hd (split_append (b1 _ _ _ _ _ _ _ rfl) hpre)) fr
    rw [over_set hd] at c
    exact ⟨a, b, .segSuspGen hs c1 hq c⟩
theorem wakes_over {M : Model} {D : Nat → Option GenState} {Γ : Ctx} {p : Pos} {g : Nat} {r : Resume} {s s' : Shared} {res : GenResult} (h : Wakes M Γ p g r s res s') (n : Nap D s) : Nap D s' ∧ Wakes M Γ p g r (over D s) res (over D s') := by
  unfold Wakes at h ⊢
  cases q : s.gens[g]? with
  | none =>
    rw [q] at h
    exact h.elim
  | some x =>
    rw [q] at h
    have at_ := over_at (D := D) q
    cases hd : D g with
    | some r' =>
      obtain ⟨z1, z⟩ := n.is g r' hd
      rw [q] at z
      cases r' <;> first | exact z1.elim | skip
      cases z
      obtain ⟨e₁, s₁, hr, _⟩ := h
      exact (no_run hr).elim
    | none =>
      rw [hd] at at_
      rw [at_]
      cases x with
      | fresh c =>
        cases r with
        | send v =>
          cases v with
          | none =>
            obtain ⟨e₁, s₁, hr, hq, rfl, rfl⟩ := h
            obtain ⟨a, b, c⟩ := runs_over hr (n.set hd trivial) .nil
            rw [over_set hd] at c
            exact ⟨a.set hd (clear_end b), e₁, over D s₁, c, hq, rfl, over_set hd⟩
          | _ =>
            obtain ⟨rfl, rfl⟩ := h
            exact ⟨n, rfl, rfl⟩
        | throw y =>
          obtain ⟨rfl, rfl⟩ := h
          exact ⟨n.set hd trivial, rfl, over_set hd⟩
      | suspended k₀ l₀ c₀ p₀ fs cl =>
        obtain ⟨e₁, s₁, hr, hq, rfl, rfl⟩ := h
        obtain ⟨a, b, c⟩ := runs_over hr (n.set hd trivial) (.of_none (n.rest g _ hd q))
        rw [over_set hd] at c
        exact ⟨a.set hd (clear_end b), e₁, over D s₁, c, hq, rfl, over_set hd⟩
      | running =>
        obtain ⟨rfl, rfl⟩ := h
        exact ⟨n, rfl, rfl⟩
      | finished =>
        obtain ⟨rfl, rfl⟩ := h
        exact ⟨n, rfl, rfl⟩
theorem wp_over {α : Type} (M : Model) (D : Nat → Option GenState) (Γ : Ctx) (t : Sem α) : ∀ (Q : α → Pos → Shared → Prop) (E : Value → Pos → Shared → Prop) (p : Pos) (s : Shared), Nap D s → wp M Γ t Q E p s →
    wp M Γ t (fun a p' s' => ∃ s0, s' = over D s0 ∧ Nap D s0 ∧ Q a p' s0) (fun e p' s' => ∃ s0, s' = over D s0 ∧ Nap D s0 ∧ E e p' s0) p (over D s) := by
  induction t with
  | pure a => intro Q E p s n h; exact ⟨s, rfl, n, h⟩
  | raise e => intro Q E p s n h; exact ⟨s, rfl, n, h⟩
  | unsupported _ => intro Q E p s _ h; exact h
  | finish _ => intro Q E p s _ h; exact h
  | register _ _ => intro Q E p s _ h; exact h
  | yield _ _ _ _ => intro Q E p s _ h; exact h
  | fork _ _ => intro Q E p s _ h; exact h
  | await _ _ _ _ _ => intro Q E p s _ h; exact h
  | rule _ k ih => intro Q E p s n h; exact ih () Q E p s n h
  | «at» p' k ih => intro Q E p s n h; exact ih () Q E p' s n h
  | load a _ k ih => intro Q E p s n h; obtain ⟨o, ho, h⟩ := h; exact ⟨o, ho, ih o Q E p s n h⟩
  | update a _ f k ih => intro Q E p s n h; exact ⟨h.1, ih () Q E p _ (by exact n.heap rfl) h.2⟩
  | loadIfAlive a k ih => intro Q E p s n h; exact ih _ Q E p s n h
  | point _ k ih => intro Q E p s n h; exact ih () Q E p s n h
  | alloc o k ih => intro Q E p s n h; exact ih _ Q E p _ (by exact n.heap rfl) h
  | fresh k ih => intro Q E p s n h; exact ih _ Q E p _ (by exact n.heap rfl) h
  | ask k ih => intro Q E p s n h; exact ih _ Q E p s n h
  | choose src m k ih => intro Q E p s n h; exact ⟨h.1, ih _ Q E p _ (by exact n.heap rfl) h.2⟩
  | os q _ k ih => intro Q E p s n h; exact ih _ Q E p _ (by exact n.heap rfl) h
  | handled own k ih => intro Q E p s n h; exact ih _ Q E p s n h
  | stack k ih => intro Q E p s n h; exact ih _ Q E p s n h
  | thread k ih => intro Q E p s n h; exact ih _ Q E p s n h
  | call c hd _ _ k ih =>
    intro Q E p s n h
    obtain ⟨r, s1, hr, h⟩ := h
    obtain ⟨a, _, c'⟩ := runs_over hr n .nil
    exact ⟨r, over D s1, c', ih r Q E p s1 a h⟩
  | genState g k ih =>
    intro Q E p s n h
    obtain ⟨st, hs, h⟩ := h
    refine ⟨_, over_at hs, ?_⟩
    have e1 : ((D g).getD st).seen = st.seen := by
      cases hd : D g with
      | none => rfl
      | some r =>
        have z := (n.is g r hd).2
        rw [hs] at z
        cases z
        exact (husk_seen r).symm
    rw [e1]
    exact ih _ Q E p s n h
  | newGen c k ih =>
    intro Q E p s n h
    have z := ih _ Q E p _ (n.push (c := c)) h
    rw [over_push n] at z
    show wp M Γ (k (over D s).gens.size) _ _ p _
    rw [over_size]
    exact z
  | resume g r _ k ih =>
    intro Q E p s n h
    obtain ⟨res, s1, hw, h⟩ := h
    obtain ⟨a, w⟩ := wakes_over hw n
    exact ⟨res, over D s1, w, ih res Q E p s1 a h⟩
/-! ### a state in which all that sleeps is out of reach -/
def napped (s : Shared) : Shared := { s with gens := s.gens.map husk }
def sleepers (s : Shared) (i : Nat) : Option GenState := match s.gens[i]? with
  | some (.suspended k l c p fs cl) => some (.suspended k l c p fs cl)
  | _ => none
theorem sleepers_some {s : Shared} {i : Nat} {r : GenState} (h : sleepers s i = some r) : Sleeps r ∧ s.gens[i]? = some r := by
  unfold sleepers at h
  split at h
  · rename_i e
    cases h
    exact ⟨trivial, e⟩
  · cases h
theorem nap_napped (s : Shared) : Nap (sleepers s) (napped s) := by
  refine ⟨fun i r h => ?_, fun i x h e => ?_⟩
  · obtain ⟨a, b⟩ := sleepers_some h
    refine ⟨a, ?_⟩
    show (s.gens.map husk)[i]? = _
    rw [Array.getElem?_map, b]
    rfl
  · have e : (s.gens.map husk)[i]? = some x := e
    rw [Array.getElem?_map] at e
    obtain ⟨y, e1, rfl⟩ := Option.map_eq_some_iff.mp e
    unfold sleepers at h
    rw [e1] at h
    cases y <;> first | trivial | cases h
theorem over_napped (s : Shared) : over (sleepers s) (napped s) = s := by
  unfold over napped
  obtain ⟨h, G, d, t, o⟩ := s
  congr 1
  refine Array.ext_getElem? fun i => ?_
  rw [Array.getElem?_mapIdx, Array.getElem?_map]
  show Option.map (fun x => (sleepers ⟨h, G, d, t, o⟩ i).getD x) (Option.map husk (G[i]?)) = G[i]?
  unfold sleepers
  cases e : G[i]? with
  | none => rfl
  | some y => cases y <;> rfl
/-- s: ahead; s0: behind, of the state in which the sleepers are out of reach; s1: behind -/
structure Woke (s s0 s1 : Shared) : Prop where
  same : s1 = { s0 with gens := s1.gens }
  kept : ∀ (i : Nat) (r : GenState), s.gens[i]? = some r → Sleeps r → s1.gens[i]? = some r
  bare : PyProof.Rows.AllBare s0.gens → PyProof.Rows.AllBare s1.gens
theorem woke_of {s s0 s1 : Shared} (h : s1 = over (sleepers s) s0 ∧ Nap (sleepers s) s0) : Woke s s0 s1 := by
  obtain ⟨rfl, n⟩ := h
  refine ⟨rfl, fun i r e sl => ?_, fun b y hy => ?_⟩
  · have q : sleepers s i = some r := by
      unfold sleepers
      rw [e]
      cases r <;> first | exact sl.elim | rfl
    rw [over_at (n.is i r q).2, q]
    rfl
  · obtain ⟨i, hi⟩ := Array.mem_iff_getElem?.mp hy
    have hi : (s0.gens.mapIdx fun i x => (sleepers s i).getD x)[i]? = some y := hi
    rw [Array.getElem?_mapIdx] at hi
    obtain ⟨x, e1, rfl⟩ := Option.map_eq_some_iff.mp hi
    have bx := b x (Array.mem_of_getElem? e1)
    cases q : sleepers s i with
    | none => exact bx
    | some r =>
      have z := (n.is i r q).2
      rw [e1] at z
      cases z
      rw [husk_bare] at bx
      exact bx
/-- whoever can do without the sleepers leaves them as they are -/
theorem wpAny_asleep {α : Type} {M : Model} {A : Around} {t : Sem α} {Q : α → Shared → Prop} {E : Value → Shared → Prop} {s : Shared} (h : wpAny M A t Q E (napped s)) :
    wpAny M A t (fun a s1 => ∃ s0, Q a s0 ∧ Woke s s0 s1) (fun e s1 => ∃ s0, E e s0 ∧ Woke s s0 s1) s := by
  have k : wpAny M A t (fun a s1 => ∃ s0, s1 = over (sleepers s) s0 ∧ Nap (sleepers s) s0 ∧ Q a s0) (fun e s1 => ∃ s0, s1 = over (sleepers s) s0 ∧ Nap (sleepers s) s0 ∧ E e s0) (over (sleepers s) (napped s)) :=
    fun Γ p hΓ => wp_over M (sleepers s) Γ t _ _ p (napped s) (nap_napped s) (h Γ p hΓ)
  rw [over_napped] at k
  exact wpAny_mono k (fun a s1 ⟨s0, e, n, q⟩ => ⟨s0, q, woke_of ⟨e, n⟩⟩) fun x s1 ⟨s0, e, n, q⟩ => ⟨s0, q, woke_of ⟨e, n⟩⟩
end Slp

/-! One turn of a generator: from its waking to what it hands out next, or to its end. -/
namespace Slp
open PySem
open Sem (wp)
/-- the code goes on to an end of its turn -/
def Act (M : Model) (A : Around) (c : Code) (t : Sem Fin) (fs : List Frame) (s : Shared) (Φ : End → Shared → Prop) : Prop :=
  ∀ Γ p, Γ.code = c → Γ.Woken A → ∃ e s', Runs M Γ p t fs s e s' ∧ Φ e s'
section
variable {M : Model} {A : Around} {c : Code} {fs : List Frame} {s : Shared} {Φ : End → Shared → Prop}
theorem act_wrap {α : Type} {m : Sem α} {K : α → Sem Fin} {H : Value → Sem Fin} {gd : Bool → Bool} {lv : List Value → List Value}
    (h : wpAny M (A.over c fs) m (fun a s1 => Act M A c (K a) fs s1 Φ) (fun _ _ => False) s) : Act M A c (m.wrap K H gd lv) fs s Φ := by
  rintro Γ p rfl wk
  refine runs_wrap_of_wp K H gd lv m (h (Γ.over fs) p (wk.over fs)) (fun a p1 s1 z => ?_) (fun x p1 s1 z => z.elim)
  exact z Γ p1 rfl wk
theorem act_bind {α : Type} {m : Sem α} {K : α → Sem Fin} (h : wpAny M (A.over c fs) m (fun a s1 => Act M A c (K a) fs s1 Φ) (fun _ _ => False) s) : Act M A c (m >>= K) fs s Φ := by
  rw [Sem.bind_eq_wrap']
  exact act_wrap h
theorem act_stand {q : Pos} {k : Unit → Sem Fin} (h : Act M A c (k ()) fs s Φ) : Act M A c (.at q k) fs s Φ :=
  act_wrap (K := k) (H := .raise) (m := standAt q) (gd := id) (lv := id) (wpAny_standAt h)
theorem act_point {l : List Value} {k : Unit → Sem Fin} (h : Act M A c (k ()) fs s Φ) : Act M A c (.point l k) fs s Φ :=
  act_wrap (K := k) (H := .raise) (m := point) (gd := id) (lv := fun _ => l) (wpAny_point h)
theorem act_call {c1 : Code} {h : Option Value} {g : Bool} {l : List Value} {k : Result → Sem Fin} (z : ∀ p, Act M A c1 (M.den c1) (.ret k h g l c p [] :: fs) s Φ) : Act M A c (.call c1 h g l k) fs s Φ := by
  rintro Γ p rfl wk
  obtain ⟨e, s1, a, b⟩ := z p (Γ.goto c1) p rfl (wk.goto c1)
  exact ⟨e, s1, runs_call_seg a, b⟩
theorem act_leaf {k : Result → Sem Fin} {h : Option Value} {g : Bool} {l kp : List Value} {c1 : Code} {q : Pos} (r : Result) (z : Act M A c1 (k r) fs s Φ) : Act M A c (leafOf r) (.ret k h g l c1 q kp :: fs) s Φ := by
  rintro Γ p rfl wk
  obtain ⟨e, s1, a, b⟩ := z (Γ.goto c1) q rfl (wk.goto c1)
  exact ⟨e, s1, Runs.pop r a, b⟩
theorem act_again {c1 : Code} (hq : c1.quiet = true) (z : Act M A c1 (M.den c1) fs s Φ) : Act M A c (.pure (.again c1)) fs s Φ := by
  rintro Γ p rfl wk
  obtain ⟨e, s1, a, b⟩ := z (Γ.goto c1) p rfl (wk.goto c1)
  exact ⟨e, s1, Runs.head (c₁ := c1) (fun _ _ x => .again hq x) a, b⟩
theorem act_end (r : Result) (z : Φ (.ret r) s) : Act M A c (leafOf r) [] s Φ := by
  rintro Γ p rfl _
  exact ⟨.ret r, s, Runs.leaf r, z⟩
theorem act_out {v : Value} {g : Bool} {l : List Value} {k : Resume → Sem Fin} (nf : splitAtGen fs = none) (z : ∀ p, Φ (.susp v g l k c p fs) s) : Act M A c (.yield v g l k) fs s Φ := by
  rintro Γ p rfl _
  exact ⟨_, s, Runs.yield' fs nf, z p⟩
end
/-! ### statements -/
section
variable {M : Model} {A : Around} {c : Code} {fs : List Frame} {s : Shared} {Φ : End → Shared → Prop} {env : Env} {K : Flow → Sem Fin} {H : Value → Sem Fin} {gd : Bool → Bool} {lv : List Value → List Value}
/-- yield e, as a statement -/
theorem act_yield {e : Expr} {yp pos : Pos} (nf : splitAtGen fs = none) (hgd : gd false = false) (hco : env.scope.isCoroutine = false) (hi : interactive env = false)
    (h : wpAny M (A.over c fs) (eval e env) (fun v s1 => ∀ (l : List Value) (k : Resume → Sem Fin) (p : Pos), (∀ (B : Around) (s2 : Shared) (Ψ : End → Shared → Prop), Act M B c (K .next) fs s2 Ψ → Act M B c (k (.send .none)) fs s2 Ψ) → Φ (.susp v false l k c p fs) s1) (fun _ _ => False) s) :
    Act M A c ((exec (.Expr (.Yield (some e) yp) pos) env).wrap K H gd lv) fs s Φ := by
  rw [exec_Expr env _ pos hi rfl]
  show Act M A c (.at pos fun _ => ((eval e env >>= fun v => (standAt yp >>= fun _ => yieldOut env v)) >>= fun x => dropValue (.Yield (some e) yp) pos x).wrap K H gd lv) fs s Φ
  have hy : ∀ v, yieldOut env v = yieldValue v := fun v => by simp only [yieldOut, hco, Bool.false_eq_true, if_false]
  simp only [hy]
  refine act_stand ?_
  rw [Sem.bind_eq_wrap', Sem.bind_eq_wrap', Sem.wrap_wrap, Sem.wrap_wrap]
  refine act_wrap (wpAny_mono h (fun v s1 z => ?_) fun _ _ x => x)
  refine act_stand (act_out nf fun p => ?_)
  have e1 : gd false = false := hgd
  have q := z
  show Φ (.susp v (gd false) _ _ c p fs) s1
  rw [e1]
  exact q _ _ p fun B s2 Ψ y => y
/-- a loop: what it walks, then its turns -/
theorem act_for {tg iter : Expr} {body : List Stmt} {pos : Pos} (hs : ∀ x, foldedSetIterable iter env x = pure x)
    (h : wpAny M (A.over c fs) (eval iter env) (fun x s1 => wpAny M (A.over c fs) (pyIter x) (fun it s2 => ∀ (kk : Result → Sem Fin) (l : List Value) (p : Pos), kk (.ok .next) = K .next →
      Act M A (.forLoop tg it body [] env) (M.den (.forLoop tg it body [] env)) (.ret kk none (gd false) l c p [] :: fs) s2 Φ) (fun _ _ => False) s1) (fun _ _ => False) s) :
    Act M A c ((exec (.For tg iter body [] pos) env).wrap K H gd lv) fs s Φ := by
  rw [exec_For]
  rw [Sem.bind_eq_wrap', Sem.wrap_wrap]
  refine act_wrap (wpAny_standAt ?_)
  rw [Sem.bind_eq_wrap', Sem.wrap_wrap]
  refine act_wrap (wpAny_mono h (fun x s1 h1 => ?_) fun _ _ y => y)
  rw [Sem.bind_eq_wrap', Sem.wrap_wrap]
  refine act_wrap (wpAny_of_eq (hs x) ?_)
  rw [Sem.bind_eq_wrap', Sem.wrap_wrap]
  refine act_wrap (wpAny_standAt ?_)
  rw [Sem.bind_eq_wrap', Sem.wrap_wrap]
  refine act_wrap (wpAny_holding (wpAny_mono h1 (fun it s2 h2 => ?_) fun _ _ y => y))
  exact act_call fun p => h2 _ _ p rfl
end
section
variable {prog : Program} {w : World} {A : Around} {c0 : Code} {fs : List Frame} {s : Shared} {Φ : End → Shared → Prop} {env : Env}
/-- a loop's turn -/
theorem act_turn {tg : Expr} {it : Value} {body : List Stmt}
    (h : wpAny (model prog w) (A.over (.forLoop tg it body [] env) fs) (pyNext it) (fun r s1 => match r with
      | none => Act (model prog w) A (.forLoop tg it body [] env) (.pure (.again (.block [] env))) fs s1 Φ
      | some v => wpAny (model prog w) (A.over (.forLoop tg it body [] env) fs) (letOwnedTupleGo tg it v) (fun _ s2 => wpAny (model prog w) (A.over (.forLoop tg it body [] env) fs) (assign tg env v) (fun _ s3 =>
          ∀ (J : Value → Sem Fin) (Kf : Flow → Sem Fin), Kf .next = .pure (.again (.forLoop tg it body [] env)) → Act (model prog w) A (.forLoop tg it body [] env) ((execs body env).wrap Kf J id id) fs s3 Φ)
        (fun _ _ => False) s2) (fun _ _ => False) s1) (fun _ _ => False) s) :
    Act (model prog w) A (.forLoop tg it body [] env) ((model prog w).den (.forLoop tg it body [] env)) fs s Φ := by
  show Act _ A _ ((forTurn tg it body [] env).onRaise (fun x => do noteFrame x env; theTreesLotGoes x)) fs s Φ
  unfold forTurn
  rw [Sem.onRaise_eq_wrap, Sem.bind_eq_wrap', Sem.wrap_wrap]
  refine act_wrap (wpAny_standAt ?_)
  rw [Sem.bind_eq_wrap', Sem.wrap_wrap]
  refine act_wrap (wpAny_onRaise (wpAny_mono h (fun r s1 h1 => ?_) fun _ _ y => y.elim))
  cases r with
  | none => exact h1
  | some v =>
    show Act _ A _ (Sem.wrap _ _ _ _ (letOwnedTupleGo tg it v >>= fun _ => assign tg env v >>= fun _ => execs body env >>= _)) fs s1 Φ
    rw [Sem.bind_eq_wrap', Sem.wrap_wrap]
    refine act_wrap (wpAny_mono h1 (fun _ s2 h2 => ?_) fun _ _ y => y)
    rw [Sem.bind_eq_wrap', Sem.wrap_wrap]
    refine act_wrap (wpAny_mono h2 (fun _ s3 h3 => ?_) fun _ _ y => y)
    rw [Sem.bind_eq_wrap', Sem.wrap_wrap]
    exact h3 _ _ rfl
theorem act_block (h : Act (model prog w) A (.block [] env) (.pure (.done .next)) fs s Φ) : Act (model prog w) A c0 (.pure (.again (.block [] env))) fs s Φ := by
  refine act_again rfl ?_
  exact h
theorem act_func {body : List Stmt} (h : ∀ (Kf : Flow → Sem Fin) (J : Value → Sem Fin) (gd : Bool → Bool) (lv : List Value → List Value), gd false = false → Kf .next = .pure (.done (.ret .none)) → Act (model prog w) A (.func body env) ((execs body env).wrap Kf J gd lv) fs s Φ) :
    Act (model prog w) A (.func body env) ((model prog w).den (.func body env)) fs s Φ := by
  show Act _ A _ (.point [] fun _ => ((execs body env).onRaise (leaving env)) >>= _) fs s Φ
  refine act_point ?_
  rw [Sem.onRaise_eq_wrap, Sem.bind_eq_wrap', Sem.wrap_wrap]
  exact h _ _ _ _ rfl rfl
end
/-! ### the waking -/
def goes (M : Model) (A : Around) (gs : GenState) (s : Shared) (Φ : End → Shared → Prop) : Prop := match gs with
  | .fresh c => Act M A c (M.den c) [] s Φ
  | .suspended k _ c _ fs _ => Act M A c (k (.send .none)) fs s Φ
  | _ => False
theorem wpAny_wake {M : Model} {A : Around} {α : Type} {k : GenResult → Sem α} {Q : α → Shared → Prop} {E : Value → Shared → Prop} {s : Shared} {g : Nat} {gs : GenState} {l : List Value} {Φ : End → Shared → Prop} (at_ : s.gens[g]? = some gs)
    (go : goes M A gs (s.setGen g .running) Φ) (h : ∀ e s1, Φ e s1 → e.quiet = true ∧ wpAny M A (k e.result) Q E (s1.setGen g e.genState)) : wpAny M A (.resume g (.send .none) l k) Q E s := by
  intro Γ p hΓ
  rw [Sem.wp_resume]
  cases gs with
  | fresh c =>
    obtain ⟨e, s1, r, z⟩ := go (Γ.wake c p) p rfl (hΓ.wake c p)
    obtain ⟨a, b⟩ := h e s1 z
    exact ⟨_, _, by unfold Wakes; rw [at_]; exact ⟨e, s1, r, a, rfl, rfl⟩, b Γ p hΓ⟩
  | suspended k0 l0 c p0 fs cl =>
    obtain ⟨e, s1, r, z⟩ := go (Γ.wake c p) p0 rfl (hΓ.wake c p)
    obtain ⟨a, b⟩ := h e s1 z
    exact ⟨_, _, by unfold Wakes; rw [at_]; exact ⟨e, s1, r, a, rfl, rfl⟩, b Γ p hΓ⟩
  | running => exact go.elim
  | finished => exact go.elim
/-- next(g) in a loop -/
theorem wpAny_nextG {P : Program} {w : World} {A : Around} {s : Shared} {a : Addr} {g : Nat} {gs : GenState} {Q : Option Value → Shared → Prop} {E : Value → Shared → Prop} {Φ : End → Shared → Prop} (calm : A.handled = none) (lim : s.heap.NoLimit) (room : A.depth < recursionLimit)
    (hg : s.heap.IsGen a g) (at_ : s.gens[g]? = some gs) (go : goes (model P w) A.in1 gs (s.setGen g .running) Φ)
    (h : ∀ e s1, Φ e s1 → e.quiet = true ∧ match e with
      | .ret r => (r = .ok (.ret .none) ∨ r = .ok .next) ∧ ∀ h', (∀ b o, s1.heap.get? b = some o → h'.get? b = some o) → Q none { s1.setGen g .finished with heap := h' }
      | .susp v _ _ _ _ _ _ => Q (some v) (s1.setGen g e.genState)) : wpAny (model P w) A (pyNext (.ref a)) Q E s := by
  unfold pyNext
  refine wpAny_bind (wpAny_attempt (wpAny_callSpecial?_slot (name := Str.ofString "__next__") hg.typeIs slot_gen_next (wpAny_call_entry slot_gen_next hg.typeIs entry_gen_next ?_ (args_gen_next _))))
  show wpAny _ A.in1 (Builtin.Generator.genWake (.ref a) (.send .none)) _ _ s
  unfold Builtin.Generator.genWake
  refine wpAny_bind (wpAny_holding (wpAny_genNumber hg (wpAny_bind (wpAny_genState at_ ?_))))
  cases gs with
  | running => exact go.elim
  | finished => exact go.elim
  | _ =>
    refine wpAny_bind (wpAny_roomToWake lim room ?_)
    show wpAny _ A.in1 (.resume g (.send .none) [] _) _ _ s
    refine wpAny_wake at_ go fun e s1 z => ?_
    obtain ⟨hq, z⟩ := h e s1 z
    refine ⟨hq, ?_⟩
    cases e with
    | ret r =>
      obtain ⟨hr, z⟩ := z
      have res : End.result (.ret r) = .returned .none := by rcases hr with rfl | rfl <;> rfl
      first | rw [res] | simp only [res]
      show wpAny _ A.in1 (newExc (.type "StopIteration") [] >>= _) _ _ _
      refine wpAny_bind ?_
      simp only [newExc, newTuple]
      refine wpAny_bind (wpAny_newObj_type ?_ (by size_fits))
      refine wpAny_bind (m := firstArgMember _ _) (wpAny_of_eq (a := Value.none) (by first | rfl | (simp only [firstArgMember]; rfl)) ?_)
      refine wpAny_newObj_type ?_ (by size_fits)
      simp only [raiseNew]
      refine wpAny_bind (wpAny_bind (wpAny_handled ?_))
      first | rw [show A.in1.handled = none from calm] | rw [calm]
      refine wpAny_throw ?_
      refine wpAny_bind (wpAny_isInstance (T := "StopIteration") (b := true) ⟨_, Heap.get?_push_size _ rfl, rfl⟩ isSubtype_stop ?_)
      exact wpAny_pure (z _ fun b o y => Heap.get?_push_of_some _ (Heap.get?_push_of_some _ y))
    | susp v g0 l0 k0 c0 p0 fs0 => exact wpAny_pure ⟨v, rfl, wpAny_pure z⟩
end Slp

/-! A generator def whose body is one loop that hands out: what each waking gives. -/
namespace Slp
open PySem PySem.Spec PyProof.Rows L2 GenW
/-- what a generator does: at the stage i it may be woken in H; it hands something out and is at another stage, or ends, and leaves H' -/
structure Gn where
  S : Type
  s0 : S
  go : S → Hp → Prop
  out : S → Hp → Option (V × S) → Hp → Prop
def cut (L : Addr) (h : Heap) : Heap := { h with objs := h.objs.extract 0 L }
theorem ext_size {α : Type} (xs : Array α) (L : Nat) (hL : L ≤ xs.size) : (xs.extract 0 L).size = L := by
  rw [Array.size_extract]
  omega
theorem ext_low {α : Type} (xs : Array α) (L b : Nat) (hb : b < L) : (xs.extract 0 L)[b]? = xs[b]? := by
  rw [Array.getElem?_extract]
  by_cases z : b < xs.size
  · rw [if_pos (by omega)]
    simp
  · rw [if_neg (by omega)]
    exact (Array.getElem?_eq_none_iff.mpr (Nat.le_of_not_lt z)).symm
theorem ext_lt {α : Type} (xs : Array α) (L b : Nat) (h : b < (xs.extract 0 L).size) : b < L := by
  rw [Array.size_extract] at h
  omega
theorem cut_size {L : Addr} {h : Heap} (hL : L ≤ h.objs.size) : (cut L h).objs.size = L := ext_size h.objs L hL
theorem cut_low {L b : Addr} {h : Heap} (hb : b < L) : (cut L h).get? b = h.get? b := by
  unfold Heap.get? cut
  have e : (h.objs.extract 0 L)[b]? = h.objs[b]? := ext_low h.objs L b hb
  dsimp only
  rw [e]
theorem cut_some {L b : Addr} {h : Heap} {o : Obj} (e : (cut L h).get? b = some o) : b < L ∧ h.get? b = some o := by
  have lt : b < L := ext_lt h.objs L b (Heap.lt_size e)
  exact ⟨lt, (cut_low lt).symm.trans e⟩
/-- a generator that was made: L its frame, go its object at a, body its code -/
structure GCx where
  P : Program
  w : World
  K : PySem.W.Frag
  mg : Str → Option Value
  base : Heap
  k : Nat
  N : List Str
  qual : Str
  scope : Scope
  f : Addr
  cd : Value
  outer : List Env
  L : Addr
  J : Gn
  a : Addr
  go : Obj
  tg : Expr
  iter : Expr
  e : Expr
  yp : Pos
  pos : Pos
  fpos : Pos
abbrev GCx.env (G : GCx) : Env := envOfC G.qual G.scope G.L G.f G.cd
abbrev GCx.body (G : GCx) : List Stmt := [.For G.tg G.iter [.Expr (.Yield (some G.e) G.yp) G.pos] [] G.fpos]
def GCx.cx (G : GCx) (A : Around) (s : Shared) (H : Hp) : Cx where
  prog := G.P
  w := G.w
  K := G.K
  mg := G.mg
  base := G.base
  A := A.deeper G.env
  N := G.N
  s_0 := { s with heap := cut G.L s.heap }
  H_0 := H
  env := G.env
  outer := G.outer
  stack := G.env :: G.outer
  ex := []
  fn := fun _ => true
  calm := true
  pn := []
  xe := fun _ _ => False
structure GCx.Ok (G : GCx) : Prop where
  kind : G.scope.kind = .function
  co : G.scope.isCoroutine = false
  nc : ∀ y ∈ G.scope.names, y.2 ≠ .cell ∧ y.2 ≠ .free
  cells : G.env.cells = []
  old : ∀ b ∈ frs G.outer, b < G.L
  bL : G.base.objs.size ≤ G.L
  aL : G.L < G.a
  ing : ∀ v, G.go.data ≠ .cell v
  plain : interactive G.env = false
def GCx.Loc (G : GCx) (σ : L2.St) (h : Heap) : Prop := σ.length = G.N.length ∧ (∃ m, h.Ns G.L m ∧ ∀ (i : Nat) (x : Str) (v : V), G.N[i]? = some x → σ[i]? = some (some v) → Vis G.scope x → ∃ u, RelV v u ∧ G.env.kindOf x = some .local ∧ m x = some u)
def GCx.Loc.at {G : GCx} {σ : L2.St} {h h' : Heap} (l : G.Loc σ h) (k : ∀ o, h.get? G.L = some o → h'.get? G.L = some o) : G.Loc σ h' := by
  obtain ⟨l1, m, hn, q⟩ := l
  exact ⟨l1, m, hn.at' k, q⟩
section
variable {G : GCx} {A : Around} {s s0 : Shared} {H H' HA : Hp} {σ : L2.St} {ip : List (Addr × Obj)}
theorem no_cells (ok : G.Ok) {x : Str} {c : Addr} (h : G.env.cells.lookup x = some c) : False := by
  rw [ok.cells] at h
  cases h
theorem loc_of (ok : G.Ok) (I : Inv (G.cx A s0 HA) ip σ H s) : G.Loc σ s.heap := by
  refine ⟨I.len, ?_⟩
  obtain ⟨m, hn, q⟩ := I.loc
  refine ⟨m, hn, fun i x v h1 h2 h3 => ?_⟩
  obtain ⟨u, r, z⟩ := q i x v h1 h2 h3
  rcases z with ⟨z1, z2⟩ | ⟨_, c, z, _⟩
  · exact ⟨u, r, z1, z2⟩
  · exact (no_cells ok z).elim
/-- at each waking the frame is taken up again -/
theorem inv_woken (ok : G.Ok) (e0 : Env0 G.P G.w G.K G.mg G.base A G.outer s H) (hd : A.handled = none) (l : G.Loc σ s.heap) (fr : H G.L = none)
    (pins : ∀ p ∈ ip, s.heap.get? p.1 = some p.2 ∧ H p.1 = none ∧ p.1 ≠ G.L ∧ p.1 ∉ frs G.outer ∧ ∀ v, p.2.data ≠ .cell v) : Inv (G.cx A s H) ip σ H s := by
  obtain ⟨l1, m, hn, q⟩ := l
  have hL : G.L ≤ s.heap.objs.size := Nat.le_of_lt hn.lt
  have lowB : ∀ b o, G.base.get? b = some o → b < G.L := fun b o e => Nat.lt_of_lt_of_le (Heap.lt_size e) ok.bL
  refine ⟨⟨e0.mod, ok.kind, rfl, rfl, ?_, fun y z c h1 _ => (no_cells ok h1).elim, fun y hy => ?_, fun y c _ h => (no_cells ok h).elim, fun _ => hd, Around.frames_deeper e0.frames, .inr ⟨rfl, rfl⟩, fun b z => absurd (show b ∈ ([] : List Addr) from z) (by simp), fun b o e => ?_, ?_,
    fun b o e z => absurd (show b ∈ ([] : List Addr) from z) (by simp), fun b z => absurd (show b ∈ ([] : List Addr) from z) (by simp), ?_, e0.frf⟩, rfl, e0.bare, Un.kept fun b o e => (cut_some e).2, ⟨m, hn, fun i x v h1 h2 h3 => ?_⟩,
    fun y c h => (no_cells ok h).elim, fr, fun y c h => (no_cells ok h).elim, pins, e0.hok, l1⟩
  · show (cut G.L s.heap).objs.size ≤ G.L
    exact Nat.le_of_eq (cut_size hL)
  · have hy : G.scope.names.lookup y = some .cell ∨ G.scope.names.lookup y = some .free := hy
    rcases hy with hy | hy
    · exact absurd rfl (ok.nc _ (PySem.mem_of_lookup hy)).1
    · exact absurd rfl (ok.nc _ (PySem.mem_of_lookup hy)).2
  · obtain ⟨z1, z2⟩ := e0.bs b o e
    exact ⟨(cut_low (lowB b o e)).trans z1, z2⟩
  · show G.base.objs.size ≤ (cut G.L s.heap).objs.size
    rw [cut_size hL]
    exact ok.bL
  · show (cut G.L s.heap).FunFrames G.base G.outer
    have gen : ∀ l : List Env, (∀ b ∈ frs l, b < G.L) → s.heap.FunFrames G.base l → (cut G.L s.heap).FunFrames G.base l := by
      intro l
      induction l with
      | nil => intro _ _; trivial
      | cons env r ih =>
        intro lo z
        obtain ⟨z1, ⟨F, o, z2, z3, z4, z5⟩, z6⟩ := z
        refine ⟨z1, ⟨F, o, z2, z3, (cut_low (lo F ?_)).trans z4, z5⟩, ih (fun b hb => lo b ?_) z6⟩
        · unfold frs
          rw [List.filterMap_cons, z2]
          exact List.mem_cons_self ..
        · unfold frs
          rw [List.filterMap_cons, z2]
          exact List.mem_cons_of_mem _ hb
    exact gen _ ok.old e0.funs
  · obtain ⟨u, r, z1, z2⟩ := q i x v h1 h2 h3
    exact ⟨u, r, .inl ⟨z1, z2⟩⟩
theorem in_range {L n b : Nat} (h : b < n) (z : ¬ b < L) : b ∈ List.range' L (n - L) := by
  rw [List.mem_range'_1]
  omega
/-- what a turn leaves, for whoever woke it -/
structure AftC (P : Program) (w : World) (outer : List Env) (L : Addr) (s : Shared) (H : Hp) (s1 : Shared) (H1 : Hp) : Prop where
  os : s1.os = s.os
  bare : AllBare s1.gens
  un : Un (frs outer) (List.range' L (s.heap.objs.size - L)) H H1 s.heap s1.heap
  hok : HOk P w H1 s1.heap
abbrev Aft (G : GCx) := AftC G.P G.w G.outer G.L
theorem aft_of (I : Inv (G.cx A s0 HA) ip σ H s) : Aft G s0 HA s H := by
  have low : ∀ b o, s0.heap.get? b = some o → b ∉ List.range' G.L (s0.heap.objs.size - G.L) → (cut G.L s0.heap).get? b = some o := fun b o e n => by
    have lt : b < G.L := by
      refine Classical.byContradiction fun z => n ?_
      have q := Heap.lt_size e
      exact in_range q z
    exact (cut_low lt).trans e
  refine ⟨I.os, I.bare, ⟨fun b o e n nf nx => I.base.keep b o (low b o e nx) n nf (by show b ∉ ([] : List Addr); simp), fun b o e n nf nx => I.base.slot b o (low b o e nx) n nf (by show b ∉ ([] : List Addr); simp), fun b o e n nx => I.base.free b o (low b o e nx) n (by show b ∉ ([] : List Addr); simp), fun b o e nx => I.base.there b o (low b o e nx) (by show b ∉ ([] : List Addr); simp), I.base.tups, I.base.frzs, I.base.tbls⟩, I.hok⟩
end
/-- asleep, to be woken at turn i (n: for so many turns); prv: its own objects -/
def Zc (P : Program) (w : World) (K : PySem.W.Frag) (mg : Str → Option Value) (base : Heap) (k : Nat) (outer : List Env) (L : Addr) (J : Gn) (a : Addr) (go : Obj) : Nat → J.S → GenState → List Addr → Heap → Prop
  | 0, _, _, _, _ => True
  | n + 1, i, gs, prv, h => ∀ (A : Around) (s : Shared) (H : Hp), Room (k + 1) A → Env0 P w K mg base A outer s H → (∀ b ∈ prv, ∀ o, h.get? b = some o → s.heap.get? b = some o) → (∀ b ∈ prv, H b = none) → J.go i H →
      goes (model P w) A gs s fun e s1 => ∃ H1, AftC P w outer L s H s1 H1 ∧ match e with
        | .ret r => (r = .ok (.ret .none) ∨ r = .ok .next) ∧ J.out i H none H1
        | .susp v _ _ _ _ _ _ => e.quiet = true ∧ ∃ x i1, RelV x v ∧ J.out i H (some (x, i1)) H1 ∧ s1.heap.get? a = some go ∧ ∃ prv1, a ∈ prv1 ∧ (∀ b ∈ prv1, L ≤ b ∧ H1 b = none ∧ ∃ o, s1.heap.get? b = some o ∧ ∀ v, o.data ≠ .cell v) ∧ Zc P w K mg base k outer L J a go n i1 e.genState prv1 s1.heap
abbrev Zz (G : GCx) := Zc G.P G.w G.K G.mg G.base G.k G.outer G.L G.J G.a G.go
/-- the end of a turn -/
def Turned (G : GCx) (n : Nat) (i : G.J.S) (s : Shared) (H : Hp) (e : End) (s1 : Shared) : Prop := ∃ H1, Aft G s H s1 H1 ∧ match e with
  | .ret r => (r = .ok (.ret .none) ∨ r = .ok .next) ∧ G.J.out i H none H1
  | .susp v _ _ _ _ _ _ => e.quiet = true ∧ ∃ x i1, RelV x v ∧ G.J.out i H (some (x, i1)) H1 ∧ s1.heap.get? G.a = some G.go ∧ ∃ prv1, G.a ∈ prv1 ∧ (∀ b ∈ prv1, G.L ≤ b ∧ H1 b = none ∧ ∃ o, s1.heap.get? b = some o ∧ ∀ v, o.data ≠ .cell v) ∧ Zz G n i1 e.genState prv1 s1.heap
/-- what is asked of a generator's readings: the walk, the target, what is handed out -/
def Reads (G : GCx) (σ0 : L2.St) (wi : TI) (g : TG) (te : TE) : Prop := ∀ H0, G.J.go G.J.s0 H0 → wi σ0 H0 fun Jt H1 => ∃ W : Nat → G.J.S → Hp → L2.St → Hp → Prop, W 0 G.J.s0 H0 σ0 H1 ∧ ∀ j i HA σ H, W j i HA σ H →
  (Jt.stop j H ∧ G.J.out i HA none H) ∨ (Jt.go j H ∧ ∀ x H2, Jt.yld j H x H2 → g x σ H2 fun σ3 H3 => te σ3 H3 fun v H4 => ∃ i1, G.J.out i HA (some (v, i1)) H4 ∧ ∀ HB, G.J.go i1 HB → W (j + 1) i1 HB σ3 HB)
end Slp

/-! The turns of such a generator. -/
namespace Slp
open PySem PySem.Spec PyProof.Rows L2 GenW
section
variable {G : GCx}
abbrev GCx.loop (G : GCx) (it : Addr) : Code := .forLoop G.tg (.ref it) [.Expr (.Yield (some G.e) G.yp) G.pos] [] G.env
abbrev GCx.fun_ (G : GCx) : Code := .func G.body G.env
theorem over_fun {A : Around} : A.over G.fun_ [] = A.deeper G.env := over_func
theorem over_lp {A : Around} {it : Addr} {kk : Result → Sem PySem.Fin} {gb : Bool} {l kp : List Value} {p : Pos} : A.over (G.loop it) [.ret kk none gb l G.fun_ p kp] = A.deeper G.env := (over_loop rfl rfl).trans over_fun
/-- a turn of the loop -/
theorem turn_act (ok : G.Ok) {g : TG} {te : TE} {Jt : It} {fp : List Addr} {it : Addr} {tn : Nat → Heap → Prop} {W : Nat → G.J.S → Hp → L2.St → Hp → Prop}
    (hpg : ∀ (A : Around) (s : Shared) (H : Hp), Room G.k (A.deeper G.env) → PG (G.cx A s H) G.tg g ∧ PE (G.cx A s H) G.e te)
    (hW : ∀ j i HA σ H, W j i HA σ H → (Jt.stop j H ∧ G.J.out i HA none H) ∨ (Jt.go j H ∧ ∀ x H2, Jt.yld j H x H2 → g x σ H2 fun σ3 H3 => te σ3 H3 fun v H4 => ∃ i1, G.J.out i HA (some (v, i1)) H4 ∧ ∀ HB, G.J.go i1 HB → W (j + 1) i1 HB σ3 HB))
    (T : Turn G.P G.w G.K G.tg Jt fp it tn) (stat : ∀ b ∈ fp, b ≠ G.L ∧ G.L ≤ b ∧ G.a ≠ b) (kk : Result → Sem PySem.Fin) (hk : kk (.ok .next) = .pure (.done (.ret .none))) (l : List Value) (p : Pos) :
    ∀ (n j : Nat) (i : G.J.S) (A : Around) (s0 s : Shared) (HA H : Hp) (σ : L2.St), Room (G.k + 1) A → Inv (G.cx A s0 HA) [(G.a, G.go)] σ H s → tn j s.heap → (∀ b ∈ fp, H b = none) → W j i HA σ H → G.L ≤ s0.heap.objs.size →
      Act (model G.P G.w) A (G.loop it) ((model G.P G.w).den (G.loop it)) [.ret kk none false l G.fun_ p []] s (Turned G n i s0 HA) := by
  have nfs : ∀ b, G.L ≤ b → b ∉ frs G.outer := fun b hb z => absurd (ok.old b z) (Nat.not_lt.mpr hb)
  have fpok : ∀ {A : Around} {s0 : Shared} {HA H : Hp}, G.L ≤ s0.heap.objs.size → (∀ b ∈ fp, H b = none) → ∀ b ∈ fp, FpOk (G.cx A s0 HA) [(G.a, G.go)] H b := fun {A s0 HA H} hz hn b hb => by
    obtain ⟨z1, z2, z3⟩ := stat b hb
    refine ⟨hn b hb, z1, nfs b z2, .inr ?_, fun y c q => (no_cells ok q).elim, fun q hq => ?_⟩
    · show (cut G.L s0.heap).objs.size ≤ b
      rw [cut_size hz]
      exact z2
    · have hq : q ∈ [(G.a, G.go)] := hq
      rw [List.mem_singleton.mp hq]
      exact z3
  -- the turn, if what sleeps behind it can be woken so many times
  have step : ∀ n, (∀ (j : Nat) (i : G.J.S) (k : Resume → Sem PySem.Fin) (l2 : List Value) (p2 : Pos) (σ : L2.St) (h : Heap), (∀ (B : Around) (s2 : Shared) (Ψ : End → Shared → Prop), Act (model G.P G.w) B (G.loop it) (.pure (.again (G.loop it))) [.ret kk none false l G.fun_ p []] s2 Ψ →
        Act (model G.P G.w) B (G.loop it) (k (.send .none)) [.ret kk none false l G.fun_ p []] s2 Ψ) → G.Loc σ h → h.get? G.a = some G.go → tn j h → (∀ HB, G.J.go i HB → W j i HB σ HB) →
        Zz G n i (.suspended k l2 (G.loop it) p2 [.ret kk none false l G.fun_ p []] false) (G.a :: G.L :: fp) h) →
      ∀ (j : Nat) (i : G.J.S) (A : Around) (s0 s : Shared) (HA H : Hp) (σ : L2.St), Room (G.k + 1) A → Inv (G.cx A s0 HA) [(G.a, G.go)] σ H s → tn j s.heap → (∀ b ∈ fp, H b = none) → W j i HA σ H → G.L ≤ s0.heap.objs.size →
        Act (model G.P G.w) A (G.loop it) ((model G.P G.w).den (G.loop it)) [.ret kk none false l G.fun_ p []] s (Turned G n i s0 HA) := by
    intro n hz j i A s0 s HA H σ room I st fr w0 hs0
    obtain ⟨pg, pe⟩ := hpg A s0 HA (room.deeper _)
    refine act_turn ?_
    rw [over_lp]
    rcases hW j i HA σ H w0 with ⟨stop, out⟩ | ⟨go, nxt⟩
    · refine wpAny_mono (T.done (G.cx A s0 HA) rfl rfl rfl rfl j [(G.a, G.go)] s σ H (fun _ _ => False) I (fpok hs0 fr) st stop) (fun r s1 ⟨hr, I1⟩ => ?_) fun _ _ y => y
      subst hr
      refine act_block ?_
      refine act_leaf (.ok .next) ?_
      rw [hk]
      exact act_end (.ok (.ret .none)) ⟨H, aft_of I1, .inl rfl, out⟩
    · refine wpAny_mono (T.item (G.cx A s0 HA) rfl rfl rfl rfl j [(G.a, G.go)] s σ H (fun _ _ => False) I (fpok hs0 fr) st go) (fun r s1 ⟨u, hr, h1⟩ => ?_) fun _ _ y => y
      subst hr
      refine wpAny_mono h1 (fun _ s2 ⟨x, H2, I2, r2, y2, st2, fr2⟩ => ?_) fun _ _ y => y
      have I2' := I2.pinned (fpok hs0 fr2) (T.obj _ _ st2)
      refine wpAny_mono (pg.run _ s2 σ H2 x u _ I2' r2 (nxt x H2 y2)) (fun _ s3 ⟨σ3, H3, I3, q3⟩ => ?_) fun _ _ y => y
      intro Je Kf hKf
      rw [execs_cons_wrap]
      refine act_yield rfl rfl ok.co ok.plain ?_
      rw [over_lp]
      refine wpAny_mono (pe.run _ s3 σ3 H3 _ I3 q3) (fun v s4 ⟨y4, H4, I4, r4, i1, out4, again4⟩ => ?_) fun _ _ y => y
      intro l2 k2 p2 hk2
      have pin4 : ∀ b ∈ fp, ∀ o, s2.heap.get? b = some o → s4.heap.get? b = some o ∧ H4 b = none := fun b hb o e => by
        have z := I4.pin (b, o) (List.mem_append_right _ (List.mem_append_right _ (mem_pinsAt hb e)))
        exact ⟨z.1, z.2.1⟩
      have go4 := I4.pin (G.a, G.go) (List.mem_append_right _ (List.mem_append_left _ (List.mem_singleton.mpr rfl)))
      have st4 : tn (j + 1) s4.heap := T.keep _ _ _ st2 fun b hb o e => (pin4 b hb o e).1
      have lc4 := loc_of ok I4
      refine ⟨H4, aft_of I4, rfl, y4, i1, r4, out4, go4.1, G.a :: G.L :: fp, List.mem_cons_self .., fun b hb => ?_, ?_⟩
      · rcases List.mem_cons.mp hb with rfl | hb
        · exact ⟨Nat.le_of_lt ok.aL, go4.2.1, G.go, go4.1, ok.ing⟩
        · rcases List.mem_cons.mp hb with rfl | hb
          · obtain ⟨_, m, ⟨o, es, ep, ho, hd, _⟩, _⟩ := lc4
            exact ⟨Nat.le_refl _, I4.free, o, ho, fun v z => by rw [hd] at z; cases z⟩
          · obtain ⟨o, e, d⟩ := T.obj _ _ st2 b hb
            obtain ⟨z1, z2⟩ := pin4 b hb o e
            exact ⟨(stat b hb).2.1, z2, o, z1, d⟩
      · refine hz (j + 1) i1 k2 l2 p2 σ3 s4.heap (fun B s5 Ψ y => hk2 B s5 Ψ ?_) lc4 go4.1 st4 again4
        show Act _ B _ (Kf .next) _ s5 Ψ
        rw [hKf]
        exact y
  have wake : ∀ n, (∀ (j : Nat) (i : G.J.S) (A : Around) (s0 s : Shared) (HA H : Hp) (σ : L2.St), Room (G.k + 1) A → Inv (G.cx A s0 HA) [(G.a, G.go)] σ H s → tn j s.heap → (∀ b ∈ fp, H b = none) → W j i HA σ H → G.L ≤ s0.heap.objs.size →
        Act (model G.P G.w) A (G.loop it) ((model G.P G.w).den (G.loop it)) [.ret kk none false l G.fun_ p []] s (Turned G n i s0 HA)) →
      ∀ (j : Nat) (i : G.J.S) (k : Resume → Sem PySem.Fin) (l2 : List Value) (p2 : Pos) (σ : L2.St) (h : Heap), (∀ (B : Around) (s2 : Shared) (Ψ : End → Shared → Prop), Act (model G.P G.w) B (G.loop it) (.pure (.again (G.loop it))) [.ret kk none false l G.fun_ p []] s2 Ψ →
        Act (model G.P G.w) B (G.loop it) (k (.send .none)) [.ret kk none false l G.fun_ p []] s2 Ψ) → G.Loc σ h → h.get? G.a = some G.go → tn j h → (∀ HB, G.J.go i HB → W j i HB σ HB) →
        Zz G (n + 1) i (.suspended k l2 (G.loop it) p2 [.ret kk none false l G.fun_ p []] false) (G.a :: G.L :: fp) h := by
    intro n hn j i k l2 p2 σ h hk2 lc ga st hw
    intro A s H room e0 same none_ go
    refine hk2 A s _ (act_again rfl ?_)
    have ga' := same G.a (List.mem_cons_self ..) _ ga
    have lc' : G.Loc σ s.heap := lc.at fun o e => same G.L (List.mem_cons_of_mem _ (List.mem_cons_self ..)) o e
    have hL : G.L ≤ s.heap.objs.size := by
      obtain ⟨_, m, hm, _⟩ := lc'
      exact Nat.le_of_lt hm.lt
    refine hn j i A s s H H σ room (inv_woken ok e0 room.hd lc' (none_ _ (List.mem_cons_of_mem _ (List.mem_cons_self ..))) fun q hq => ?_) (T.keep _ _ _ st fun b hb o e => same b (List.mem_cons_of_mem _ (List.mem_cons_of_mem _ hb)) o e) (fun b hb => none_ b (List.mem_cons_of_mem _ (List.mem_cons_of_mem _ hb))) (hw H go) hL
    rw [List.mem_singleton.mp hq]
    exact ⟨ga', none_ _ (List.mem_cons_self ..), Nat.ne_of_gt ok.aL, nfs _ (Nat.le_of_lt ok.aL), ok.ing⟩
  intro n
  induction n with
  | zero => exact step 0 fun _ _ _ _ _ _ _ _ _ _ _ _ => trivial
  | succ n ih => exact step (n + 1) (wake n ih)
end
end Slp

/-! Such a generator def's promise, by its readings. -/
namespace Slp
open PySem PySem.Spec PyProof.Rows L2 GenW
section
variable {G : GCx}
theorem fresh_zz (ok : G.Ok) {σ0 : L2.St} {wi : TI} {g : TG} {te : TE} (fold : ∀ x, foldedSetIterable G.iter G.env x = pure x)
    (hpg : ∀ (A : Around) (s : Shared) (H : Hp), Room G.k (A.deeper G.env) → PI (G.cx A s H) G.tg G.iter wi ∧ PG (G.cx A s H) G.tg g ∧ PE (G.cx A s H) G.e te) (rd : Reads G σ0 wi g te) {h : Heap} (lc : G.Loc σ0 h) (ga : h.get? G.a = some G.go) :
    ∀ n, Zz G n G.J.s0 (.fresh G.fun_) [G.a, G.L] h := by
  intro n
  cases n with
  | zero => trivial
  | succ n =>
    intro A s H room e0 same none_ go
    have ga' := same G.a (List.mem_cons_self ..) _ ga
    have lc' : G.Loc σ0 s.heap := lc.at fun o e => same G.L (List.mem_cons_of_mem _ (List.mem_cons_self ..)) o e
    have hL : G.L ≤ s.heap.objs.size := by
      obtain ⟨_, m, hm, _⟩ := lc'
      exact Nat.le_of_lt hm.lt
    have nfa : G.a ∉ frs G.outer := fun z => absurd (ok.old _ z) (Nat.not_lt.mpr (Nat.le_of_lt ok.aL))
    have I : Inv (G.cx A s H) [(G.a, G.go)] σ0 H s := inv_woken ok e0 room.hd lc' (none_ _ (List.mem_cons_of_mem _ (List.mem_cons_self ..))) fun q hq => by
      rw [List.mem_singleton.mp hq]
      exact ⟨ga', none_ _ (List.mem_cons_self ..), Nat.ne_of_gt ok.aL, nfa, ok.ing⟩
    refine act_func fun Kf Je gd lv hgd hKf => ?_
    rw [execs_cons_wrap]
    refine act_for fold ?_
    rw [over_fun]
    obtain ⟨pi_, _, _⟩ := hpg A s H (room.deeper _)
    refine wpAny_mono (pi_.run _ s σ0 H _ I (rd H go)) (fun v s1 h1 => wpAny_mono h1 (fun itv s2 h2 => ?_) fun _ _ y => y) fun _ _ y => y
    obtain ⟨it, fp, tn, Jt, H2, rfl, I2, T, st2, f2, W, w0, hW⟩ := h2
    intro kk l p hkk
    rw [hgd]
    refine turn_act ok (fun A s H r => (hpg A s H r).2) hW T (fun b hb => ?_) kk (hkk.trans hKf) l p n 0 G.J.s0 A s s2 H H2 σ0 room I2 st2 (fun b hb => (f2 b hb).1) w0 hL
    obtain ⟨_, z1, _, z3, _, z4⟩ := f2 b hb
    refine ⟨z1, ?_, z4 (G.a, G.go) (List.mem_append_right _ (List.mem_singleton.mpr rfl))⟩
    rcases z3 with z3 | z3
    · exact absurd (show b ∈ ([] : List Addr) from z3) (by simp)
    · have z3 : (cut G.L s.heap).objs.size ≤ b := z3
      rw [cut_size hL] at z3
      exact z3
end
/-- a generator def's promise: the arguments, the heap, what is wanted of the generator that is made -/
abbrev SpN := List V → Hp → (Gn → Prop) → Prop
/-- what a call of it gives: a generator that sleeps -/
def Made (P : Program) (w : World) (K : PySem.W.Frag) (mg : Str → Option Value) (base : Heap) (k : Nat) (outer : List Env) (R : Gn → Prop) (s : Shared) (u : Value) (s1 : Shared) : Prop :=
  ∃ (a : Addr) (g : Nat) (go : Obj) (gs : GenState) (prv : List Addr) (J : Gn), u = .ref a ∧ s1.heap.get? a = some go ∧ (∀ h : Heap, h.get? a = some go → h.IsGen a g) ∧ s1.gens[g]? = some gs ∧ s1.os = s.os ∧ AllBare s1.gens ∧
    (∀ b o, s.heap.get? b = some o → s1.heap.get? b = some o) ∧ a ∈ prv ∧ (∀ b ∈ prv, s.heap.objs.size ≤ b ∧ ∃ o, s1.heap.get? b = some o ∧ ∀ v, o.data ≠ .cell v) ∧ R J ∧
    ∀ n, Zc P w K mg base k outer s.heap.objs.size J a go n J.s0 gs prv s1.heap
structure GnOk (P : Program) (w : World) (K : PySem.W.Frag) (mg : Str → Option Value) (base : Heap) (k : Nat) (f : Addr) (fd : FuncData) (ps : List Str) (sp : SpN) : Prop where
  len : ∀ vs H R, sp vs H R → vs.length = ps.length
  run : ∀ (A : Around) (outer : List Env) (s : Shared) (H : Hp) (args : Args) (us : List Value) (vs : List V) (R : Gn → Prop), Room k A → Env0 P w K mg base A outer s H → BindsTo s fd args (ps.zip us) → Vals vs us → sp vs H R →
    codeAny (model P w) A (.call (.ref f) args) (fun r s1 => match r with | .ok (.ret u) => Made P w K mg base k outer R s u s1 | _ => False) s
theorem gn_of {P : Program} {w : World} {K : PySem.W.Frag} {mg : Str → Option Value} {base : Heap} {k : Nat} {f : Addr} {name qual : Str} {params : Arguments} {scope : Scope} {dV kV doc pm cdv ct oc : Value} {an od : Option Addr} {osl : Array (Option Value)} {N ps : List Str} {sp : SpN}
    {tg iter e : Expr} {yp pos fpos : Pos}
    (lk : K.lookup f = some ⟨oc, od, .func (PySem.W.fnOf name qual params [.For tg iter [.Expr (.Yield (some e) yp) pos] [] fpos] scope dV kV doc pm an cdv ct), osl⟩) (hcd : PySem.W.codeIn K cdv qual = true) (S : GScope N ps scope)
    (nc : ∀ y ∈ scope.names, y.2 ≠ .cell ∧ y.2 ≠ .free) (cells : ∀ n, cellsFrom n scope.names [] = []) (len : ∀ vs H R, sp vs H R → vs.length = ps.length) (plain : ∀ L, interactive (envOfC qual scope L f cdv) = false)
    (hbody : ∀ (outer : List Env) (L : Addr) (vs : List V) (H : Hp) (R : Gn → Prop), sp vs H R → ∃ J, R J ∧ ∃ wi g te, ∀ (a : Addr) (go : Obj), let G : GCx := ⟨P, w, K, mg, base, k, N, qual, scope, f, cdv, outer, L, J, a, go, tg, iter, e, yp, pos, fpos⟩
      Reads G (start N vs) wi g te ∧ ∀ (A : Around) (s : Shared) (H : Hp), Room k (A.deeper G.env) → PI (G.cx A s H) tg iter wi ∧ PG (G.cx A s H) tg g ∧ PE (G.cx A s H) e te)
    (fold : ∀ (env : Env) x, foldedSetIterable iter env x = pure x) :
    GnOk P w K mg base k f (PySem.W.fnOf name qual params [.For tg iter [.Expr (.Yield (some e) yp) pos] [] fpos] scope dV kV doc pm an cdv ct) ps sp := by
  refine ⟨len, fun A outer s H args us vs R hr e0 hb r hsp => ?_⟩
  have hl := len _ _ _ hsp
  have KX : K.In s.heap := e0.mod.kin.keeps fun b o z => (e0.bs b o z).1
  have lim : s.heap.NoLimit := e0.mod.nolimit.keeps fun b o z => (e0.bs b o z).1
  have hkind : ∀ y ∈ ps.zip us, scope.names.lookup y.1 = some .local ∨ (scope.names.lookup y.1 = some .cell ∧ ((cellsFrom (s.heap.objs.size + 1) scope.names []).lookup y.1).isSome = true) := fun ⟨n, v⟩ hy => by
    rcases S.par n (List.of_mem_zip hy).1 with q | q
    · exact .inl q
    · exact .inr ⟨q, PySem.W.cellsFrom_some _ _ _ (.inl q)⟩
  refine codeAny_call_generator hr.depth (KX _ _ lk) rfl S.co S.gen rfl (PySem.W.codeRec_of KX hcd) (hb _ _ _ _ ?_)
  refine wpAny_newFunctionEnv_cells S.kind hkind fun env he s1 x => ?_
  subst he
  have lim1 : s1.heap.NoLimit := lim.keeps x.toInCall.keep
  refine ⟨lim1, ?_⟩
  obtain ⟨h1, tk, es1, hk1⟩ := x.done
  have os1 : s1.os = s.os := by rw [es1]
  have gen1 : s1.gens = s.gens := by rw [es1]
  have lt1 : s.heap.objs.size < s1.heap.objs.size := x.toInCall.ns.lt
  have I1 : Inv (gcxOf P w K mg base N qual scope f cdv A outer s H (fun _ _ _ => False) []) [] (start N vs) H s1 := inv_startG S hr.hd e0 hl r x
  have main : ∀ (go : Obj) (nm qn : Value) (tk2 : Nat), go.cls = .type "generator" → go.data = .fields #[.int s1.gens.size 0, nm, qn] → go.slots = #[] → (∀ h : Heap, (h.push go).get? h.objs.size = some go) →
      Made P w K mg base k outer R s (.ref s1.heap.objs.size) { s1 with gens := s1.gens.push (.fresh (.func [.For tg iter [.Expr (.Yield (some e) yp) pos] [] fpos] (envOfC qual scope s.heap.objs.size f cdv))), toks := tk2, heap := s1.heap.push go } := by
    intro go nm qn tk2 gc gd gs gp
    have pushed : (s1.heap.push go).get? s1.heap.objs.size = some go := gp _
    have ing : ∀ v, go.data ≠ .cell v := fun v q => by rw [gd] at q; cases q
    obtain ⟨J, rJ, wi, g, te, hbd⟩ := hbody outer s.heap.objs.size vs H R hsp
    obtain ⟨rd, pp⟩ := hbd s1.heap.objs.size go
    obtain ⟨m, hn, hq⟩ := I1.loc
    have hn : s1.heap.Ns s.heap.objs.size m := hn
    have Lat : ∀ b o, s1.heap.get? b = some o → (s1.heap.push go).get? b = some o := fun b o z => Heap.get?_push_of_some _ z
    refine ⟨s1.heap.objs.size, s1.gens.size, go, _, [s1.heap.objs.size, s.heap.objs.size], J, rfl, pushed, fun h z => ⟨go, nm, qn, z, gc, gd, gs⟩, Array.getElem?_push_size .., os1, AllBare.push (by rw [gen1]; exact e0.bare) rfl, fun b o z => Lat b o (x.toInCall.keep b o z), List.mem_cons_self .., fun b hb => ?_, rJ, ?_⟩
    · rcases List.mem_cons.mp hb with rfl | hb
      · exact ⟨Nat.le_of_lt lt1, go, pushed, ing⟩
      · rw [List.mem_singleton.mp hb]
        obtain ⟨o, es, ep, ho, hd, _⟩ := hn
        exact ⟨Nat.le_refl _, o, Lat _ _ ho, fun v z => by rw [hd] at z; cases z⟩
    · have ok : GCx.Ok ⟨P, w, K, mg, base, k, N, qual, scope, f, cdv, outer, s.heap.objs.size, J, s1.heap.objs.size, go, tg, iter, e, yp, pos, fpos⟩ := by
        refine ⟨S.kind, S.co, nc, cells _, fun b hb => ?_, e0.bsz, lt1, ing, plain _⟩
        obtain ⟨_, o, ho, _⟩ := e0.funs.mem hb
        exact Heap.lt_size ho
      refine fresh_zz ok (fold _) pp rd ⟨I1.len, m, hn.at' fun o z => Lat _ _ z, fun i y v h1 h2 h3 => ?_⟩ pushed
      obtain ⟨u, rv, z⟩ := hq i y v h1 h2 h3
      rcases z with ⟨z1, z2⟩ | ⟨_, c, z, _⟩
      · exact ⟨u, rv, z1, z2⟩
      · have z : (cellsFrom (s.heap.objs.size + 1) scope.names []).lookup y = some c := z
        rw [cells] at z
        cases z
  exact main _ _ _ _ rfl rfl rfl fun h => Heap.get?_push_size _ rfl
end Slp

/-! for x in f(..), f a generator def; the body is any. -/
namespace Slp
open PySem PySem.Spec PyProof.Rows L2 GenW
theorem act_mono {M : Model} {A : Around} {c : Code} {t : Sem PySem.Fin} {fs : List Frame} {s : Shared} {Φ Ψ : End → Shared → Prop} (h : Act M A c t fs s Φ) (k : ∀ e s1, Φ e s1 → Ψ e s1) : Act M A c t fs s Ψ := fun Γ p e1 e2 => by
  obtain ⟨e, s1, a, b⟩ := h Γ p e1 e2
  exact ⟨e, s1, a, k e s1 b⟩
theorem goes_mono {M : Model} {A : Around} {gs : GenState} {s : Shared} {Φ Ψ : End → Shared → Prop} (h : goes M A gs s Φ) (k : ∀ e s1, Φ e s1 → Ψ e s1) : goes M A gs s Ψ := by
  cases gs with
  | fresh c => exact act_mono h k
  | suspended k0 l c p fs cl => exact act_mono h k
  | running => exact h.elim
  | finished => exact h.elim
section
variable {P : Program} {w : World} {K : PySem.W.Frag} {mg : Str → Option Value} {base : Heap} {k : Nat} {outer : List Env} {L : Addr} {J : Gn} {a : Addr} {go : Obj}
theorem zc_mono : ∀ {n n' : Nat} {i : J.S} {gs : GenState} {prv : List Addr} {h h' : Heap}, n' ≤ n → (∀ b ∈ prv, ∀ o, h.get? b = some o → h'.get? b = some o) → Zc P w K mg base k outer L J a go n i gs prv h → Zc P w K mg base k outer L J a go n' i gs prv h'
  | _, 0, _, _, _, _, _, _, _, _ => trivial
  | 0, _ + 1, _, _, _, _, _, le, _, _ => absurd le (by omega)
  | n + 1, n' + 1, i, gs, prv, h, h', le, hk, z => fun A s H room e0 same none_ g => by
    refine goes_mono (z A s H room e0 (fun b hb o e => same b hb o (hk b hb o e)) none_ g) fun e s1 ⟨H1, af, q⟩ => ⟨H1, af, ?_⟩
    cases e with
    | ret r => exact q
    | susp v g0 l0 k0 c0 p0 fs0 =>
      obtain ⟨q1, x, i1, q2, q2', q3, prv1, q4, q5, q6⟩ := q
      exact ⟨q1, x, i1, q2, q2', q3, prv1, q4, q5, zc_mono (by omega) (fun _ _ _ e => e) q6⟩
end
theorem husk_all {s : Shared} (h : AllBare s.gens) : AllBare (napped s).gens := fun y hy => by
  obtain ⟨x, hx, rfl⟩ := Array.mem_map.mp hy
  rw [husk_bare]
  exact h x hx
theorem inv_gens {X : Cx} {pins : List (Addr × Obj)} {σ : L2.St} {H : Hp} {s : Shared} (I : Inv X pins σ H s) {G : Array GenState} (h : AllBare G) : Inv X pins σ H { s with gens := G } :=
  ⟨I.ok, I.os, h, I.base, I.loc, I.cell, I.free, I.freeC, I.pin, I.hok, I.len⟩
theorem inv_woke {X : Cx} {pins : List (Addr × Obj)} {σ : L2.St} {H : Hp} {s s0 s1 : Shared} (I : Inv X pins σ H s0) (k : Woke s s0 s1) : Inv X pins σ H s1 := by
  rw [k.same]
  exact inv_gens I (k.bare I.bare)
/-- what leaves the code asks nothing of the generators -/
def Deaf (X : Cx) : Prop := ∀ (e : Value) (s s0 s1 : Shared), Woke s s0 s1 → X.xe e s0 → X.xe e s1
section
variable {X : Cx} {k : Nat}
/-- an expression whose value is a generator -/
abbrev TGn := L2.St → Hp → (Gn → Hp → Prop) → Prop
structure PGn (X : Cx) (k : Nat) (e : Expr) (t : TGn) : Prop where
  run : ∀ (pins : List (Addr × Obj)) (s : Shared) (σ : L2.St) (H : Hp) (R : Gn → Hp → Prop), Inv X pins σ H s → t σ H R → wpAny (model X.prog X.w) X.A (eval e X.env)
    (fun u s' => ∃ H1 sc, Inv X pins σ H1 sc ∧ Made X.prog X.w X.K X.mg X.base k X.stack (fun J => R J H1) sc u s') X.xe s
variable {f : Addr} {fd : FuncData} {ps : List Str} {sp : SpN} {x : Str} {p pos' : Pos} {ds : List Value} {dvs : List V}
theorem run_gn {pins : List (Addr × Obj)} {σ : L2.St} {H : Hp} {s : Shared} {us : List Value} {vs : List V} {R : Gn → Hp → Prop} {E1 : Value → Shared → Prop} (F : GnOk X.prog X.w X.K X.mg X.base k f fd ps sp) (hr : Room k X.A) (hb : Binds X.K fd ps ds) (hd : Vals dvs ds)
    (I : Inv X pins σ H s) (r : Vals vs us) (h : sp (vs ++ dvs) H fun J => R J H) :
    wpAny (model X.prog X.w) X.A (call (.ref f) us) (fun u s' => ∃ H1 sc, Inv X pins σ H1 sc ∧ Made X.prog X.w X.K X.mg X.base k X.stack (fun J => R J H1) sc u s') E1 s := by
  have r2 : Vals (vs ++ dvs) (us ++ ds) := r.append hd
  have hl2 : (us ++ ds).length = ps.length := by rw [← r2.length]; exact F.len _ _ _ h
  refine wpAny_call (codeAny_mono (F.run X.A X.stack s H ⟨us, []⟩ (us ++ ds) (vs ++ dvs) _ hr I.env0 (hb s us I.kIn hl2) r2 h) fun r s' hq => ?_)
  cases r with
  | error e => exact False.elim hq
  | ok fl => cases fl with
    | ret u => exact ⟨H, s, I, hq⟩
    | _ => exact False.elim hq
def tCallN (sp : SpN) (dvs : List V) (t : TA) : TGn := fun σ H R => t σ H fun vs H1 => sp (vs ++ dvs) H1 fun J => R J H1
/-- f(e, ..) of a generator def -/
theorem pgn_call {e : Expr} {es : List Expr} {t : TA} (F : GnOk X.prog X.w X.K X.mg X.base k f fd ps sp) (hr : Room k X.A) (hg : Gl X x) (hm : X.mg x = some (.ref f)) (hk : PySem.W.keepIn X.K (.ref f) = true) (hb : Binds X.K fd ps ds) (hd : Vals dvs ds)
    (ha : PA X (e :: es) t) (hdb : (x == ("__debug__" : Str)) = false := by decide) (he : starEach (e :: es) X.env = (false, eval e X.env) :: starEach es X.env := by rfl) (hpl : (backTo pos' (starEach es X.env)).any (·.1) = false := by rfl) :
    PGn X k (.Call (.Name x p) (e :: es) [] pos') (tCallN sp dvs t) := by
  refine ⟨fun pins s σ H R I h => ?_⟩
  refine wpAny_Call_Name_kw (ld_glob I hg hm ?_ hdb)
  refine PySem.W.callWith_K (h₀ := X.base) I.ok.mod.kin hk (thn (ha.run pos' pins s σ H _ I h) fun us s1 ⟨vs, H1, I1, r, q⟩ => ⟨I1.kIn, ?_⟩) he hpl
  exact run_gn F hr hb hd I1 r q
/-- the loop: at each turn what the generator gives, then the body -/
def tForG (t : TGn) (g : TG) (tb : TS) : TS := fun D σ H => t σ H fun J H1 => ∃ W : J.S → Nat → L2.St → Hp → Prop, (∃ m, W J.s0 m σ H1) ∧ ∀ i m σ H, W i m σ H → J.go i H ∧ ∀ r H2, J.out i H r H2 → match r with
  | none => D.nx σ H2
  | some (x, i1) => ∃ N : L2.St → Hp → Prop, (∀ σ' H', N σ' H' → ∃ m', m' < m ∧ W i1 m' σ' H') ∧ g x σ H2 fun σ3 H3 => tb { D with nx := N, ct := N, bk := D.nx } σ3 H3
theorem ps_forG {tg iter : Expr} {body : List Stmt} {t : TGn} {g : TG} {tb : TS} {pos : Pos} (hp : PassesOwn (model X.prog X.w) X.A X.env X.xe) (hx : Deaf X) (hc : X.calm = true) (hr : Room (k + 2) X.A) (hi : PGn X k iter t) (hg : PG X tg g) (hb : PSs X body tb)
    (hs : ∀ x, foldedSetIterable iter X.env x = pure x := by intro _; rfl) : PS X (.For tg iter body [] pos) (tForG t g tb) := by
  refine ⟨fun pins s σ H D I h => ?_⟩
  refine wpAny_For (thn (hi.run pins s σ H _ I h) fun v s1 ⟨H1, sc, Ic, md⟩ => ?_) hs
  obtain ⟨a, gn, go, gs, prv, J, rfl, ga, isg, at1, os1, bare1, kept, apr, prv1, ⟨W, ⟨m0, w0⟩, turn⟩, zz⟩ := md
  refine wpAny_pyIter_gen (isg _ ga) ?_
  -- whatever is younger than the generator's frame is none of ours
  have young : ∀ b, sc.heap.objs.size ≤ b → (b ∈ X.ex ∨ X.s_0.heap.objs.size ≤ b) ∧ b ≠ X.env.locals ∧ (∀ y c, X.env.cells.lookup y = some c → c ≠ b) ∧ ∀ q ∈ X.pn ++ pins, q.1 ≠ b := fun b hb => by
    obtain ⟨_, z1, _, z3, z4, z5⟩ := Ic.fpOk (H' := fun _ => none) hb rfl
    exact ⟨z3, z1, z4, z5⟩
  have youngFs : ∀ b, sc.heap.objs.size ≤ b → b ∉ X.fs := fun b hb => Ic.nofs hb
  have fpok : ∀ {H' : Hp} {l : List Addr}, (∀ b ∈ l, sc.heap.objs.size ≤ b ∧ H' b = none) → ∀ b ∈ l, FpOk X pins H' b := fun {H' l} z b hb => by
    obtain ⟨z1, z2⟩ := z b hb
    obtain ⟨y1, y2, y3, y4⟩ := young b z1
    exact ⟨z2, y2, youngFs b z1, y1, y3, y4⟩
  have I1 : Inv X pins σ H1 s1 := Ic.call' (ch := []) os1 (Un.kept kept) (Ic.hok.kept kept) bare1 fun b z => by simp at z
  have atP : ∀ {s2 s3 : Shared} {σ2 : L2.St} {H2 H3 : Hp}, Inv X pins σ2 H2 s2 → AftC X.prog X.w X.stack sc.heap.objs.size s2 H2 s3 H3 → Inv X pins σ2 H3 s3 := fun {s2 s3 σ2 H2 H3} I2 af =>
    I2.call' af.os af.un af.hok af.bare fun b hb => young b (by rw [List.mem_range'_1] at hb; exact hb.1)
  refine codeAny_forLoop_any (fun m s' => ∃ i σ' H' gs prv, Inv X pins σ' H' s' ∧ s'.heap.get? a = some go ∧ s'.gens[gn]? = some gs ∧ a ∈ prv ∧ (∀ b ∈ prv, sc.heap.objs.size ≤ b ∧ H' b = none ∧ ∃ o, s'.heap.get? b = some o ∧ ∀ v, o.data ≠ .cell v) ∧
    Zc X.prog X.w X.K X.mg X.base k X.stack sc.heap.objs.size J a go (m + 1) i gs prv s'.heap ∧ W i m σ' H') ?_ m0 ⟨J.s0, σ, H1, gs, prv, I1, ga, at1, apr, fun b hb => ⟨(prv1 b hb).1, Ic.hok.fresh (prv1 b hb).1, (prv1 b hb).2⟩, zz _, w0⟩
  rintro m s3 ⟨i, σ3, H3, gs, prv, I3, ga3, at3, apr, hprv, z3, w3⟩
  obtain ⟨jgo, jout⟩ := turn i m σ3 H3 w3
  have lt3 : gn < s3.gens.size := (Array.getElem?_eq_some_iff.mp at3).1
  have e0 : Env0 X.prog X.w X.K X.mg X.base X.A.in1 X.stack (s3.setGen gn .running) H3 := by
    have z := I3.env0.in1
    exact ⟨z.frames, z.mod, z.bs, z.bsz, z.funs, z.frf, z.hok, allBare_setGen I3.bare rfl⟩
  refine wpAny_passesOwn hp (wpAny_gsz (n := gn + 1) lt3 (wpAny_nextG (I3.ok.hd hc) I3.nolimit hr.depth (isg _ ga3) at3 (z3 X.A.in1 (s3.setGen gn .running) H3 hr.in1 e0 (fun b hb o e => e) (fun b hb => (hprv b hb).2.1) jgo) fun e s4 ⟨H4, af, q⟩ => ?_))
  have af' : AftC X.prog X.w X.stack sc.heap.objs.size s3 H3 s4 H4 := ⟨af.os, af.bare, af.un, af.hok⟩
  cases e with
  | ret r =>
    obtain ⟨q1, q2⟩ := q
    refine ⟨rfl, q1, fun h' hk _ => ?_⟩
    have I4 : Inv X pins σ3 H4 { s4.setGen gn .finished with heap := h' } := I3.call' (ch := List.range' sc.heap.objs.size (s3.heap.objs.size - sc.heap.objs.size)) af.os (af.un.trans (Un.kept hk)) (af.hok.kept hk) (allBare_setGen af.bare rfl) fun b hb => young b (by rw [List.mem_range'_1] at hb; exact hb.1)
    exact wpAny_execs_nil ⟨σ3, H4, I4, jout none H4 q2⟩
  | susp v g0 l0 k0 c0 p0 fs0 =>
    obtain ⟨q1, x, i1, rx, q2, ga4, prv4, apr4, hprv4, z4⟩ := q
    refine ⟨q1, fun hsz => ?_⟩
    obtain ⟨N, hN, q5⟩ := jout (some (x, i1)) H4 q2
    have bare4 : (End.susp v g0 l0 k0 c0 p0 fs0).genState.bare = true := End.bare_of_quiet q1
    have I4 : Inv X pins σ3 H4 (s4.setGen gn (End.susp v g0 l0 k0 c0 p0 fs0).genState) := atP I3 ⟨af.os, allBare_setGen af.bare bare4, af.un, af.hok⟩
    have sz4 : gn < s4.gens.size := by
      have z : gn + 1 ≤ (s4.setGen gn (End.susp v g0 l0 k0 c0 p0 fs0).genState).gens.size := hsz
      rw [setGen_size] at z
      exact z
    have at4 : (s4.setGen gn (End.susp v g0 l0 k0 c0 p0 fs0).genState).gens[gn]? = some (End.susp v g0 l0 k0 c0 p0 fs0).genState := setGen_at sz4
    generalize es5 : s4.setGen gn (End.susp v g0 l0 k0 c0 p0 fs0).genState = s5 at I4 at4 ⊢
    have hp5 : s5.heap = s4.heap := by rw [← es5]; rfl
    rw [← hp5] at ga4 hprv4 z4
    obtain ⟨o5, nm, qn, ho5, hc5, hd5, _⟩ := isg _ ga4
    refine wpAny_passesOwn hp (go_of ho5 hc5 hd5 (by decide) ?_)
    have Ip : Inv X (pins ++ pinsAt prv4 s5.heap) σ3 H4 s5 := I4.pinned (fpok fun b hb => ⟨(hprv4 b hb).1, (hprv4 b hb).2.1⟩) fun b hb => (hprv4 b hb).2.2
    have slp : Sleeps (End.susp v g0 l0 k0 c0 p0 fs0).genState := trivial
    refine wpAny_passesOwn hp (wpAny_mono (wpAny_asleep (hg.run _ (napped s5) σ3 H4 x v _ (inv_gens Ip (husk_all I4.bare)) rx q5)) (fun _ s6 ⟨s60, ⟨σ6, H6, I60, q6⟩, wk6⟩ => ?_) fun er s6 ⟨s60, xe, wk6⟩ => hx er _ _ _ wk6 xe)
    have I6 := inv_woke I60 wk6
    have at6 := wk6.kept gn _ at4 slp
    refine wpAny_passesOwn hp (wpAny_mono (wpAny_asleep (hb.run _ (napped s6) σ6 H6 _ (inv_gens I6 (husk_all I6.bare)) q6)) (fun fl s7 ⟨s70, sp7, wk7⟩ => ?_) fun er s7 ⟨s70, xe, wk7⟩ => hx er _ _ _ wk7 xe)
    have at7 := wk7.kept gn _ at6 slp
    have again : ∀ {σ7 : L2.St} {H7 : Hp}, Inv X (pins ++ pinsAt prv4 s5.heap) σ7 H7 s7 → N σ7 H7 → ∃ m1, m1 < m ∧ ∃ i σ' H' gs prv, Inv X pins σ' H' s7 ∧ s7.heap.get? a = some go ∧ s7.gens[gn]? = some gs ∧ a ∈ prv ∧ (∀ b ∈ prv, sc.heap.objs.size ≤ b ∧ H' b = none ∧ ∃ o, s7.heap.get? b = some o ∧ ∀ v, o.data ≠ .cell v) ∧
        Zc X.prog X.w X.K X.mg X.base k X.stack sc.heap.objs.size J a go (m1 + 1) i gs prv s7.heap ∧ W i m1 σ' H' := fun {σ7 H7} I7 n7 => by
      obtain ⟨m1, hm, w7⟩ := hN σ7 H7 n7
      have pin7 : ∀ b ∈ prv4, ∀ o, s5.heap.get? b = some o → s7.heap.get? b = some o ∧ H7 b = none := fun b hb o e => by
        have z := I7.pin (b, o) (List.mem_append_right _ (List.mem_append_right _ (mem_pinsAt hb e)))
        exact ⟨z.1, z.2.1⟩
      refine ⟨m1, hm, i1, σ7, H7, _, prv4, I7.unpinned, (pin7 a apr4 _ ga4).1, at7, apr4, fun b hb => ?_, zc_mono (by omega) (fun b hb o e => (pin7 b hb o e).1) z4, w7⟩
      obtain ⟨y1, y2, o, y3, y4⟩ := hprv4 b hb
      obtain ⟨y5, y6⟩ := pin7 b hb o y3
      exact ⟨y1, y6, o, y5, y4⟩
    cases fl with
    | next => obtain ⟨σ7, H7, I7, n7⟩ := sp7; exact again (inv_woke I7 wk7) n7
    | cont => obtain ⟨σ7, H7, I7, n7⟩ := sp7; exact again (inv_woke I7 wk7) n7
    | brk => obtain ⟨σ7, H7, I7, q7⟩ := sp7; exact ⟨σ7, H7, (inv_woke I7 wk7).unpinned, q7⟩
    | ret u => obtain ⟨y7, σ7, H7, I7, r7, q7⟩ := sp7; exact ⟨y7, σ7, H7, (inv_woke I7 wk7).unpinned, r7, q7⟩
end
end Slp

/-! A generator def called by keywords alone. -/
namespace Slp
open PySem PySem.Spec PyProof.Rows L2
section
variable {X : Cx} {k : Nat} {f : Addr} {fd : FuncData} {ps ks : List Str} {sp : SpN} {x : Str} {p pos : Pos} {kws : List Keyword} {tk : TA} {g : List Value → List Value → List Value} {gV : List V → List V → List V}
def tCallNK (n : Nat) (sp : SpN) (gV : List V → List V → List V) (tk : TA) : TGn := fun σ H R => tk σ H fun zs H1 => zs.length = n ∧ sp (gV [] zs) H1 fun J => R J H1
theorem pgn_callK0 (F : GnOk X.prog X.w X.K X.mg X.base k f fd ps sp) (hr : Room k X.A) (hg : Gl X x) (hm : X.mg x = some (.ref f)) (hk : PySem.W.keepIn X.K (.ref f) = true) (hb : KBn X.K fd ps 0 ks g gV)
    (hkw : PK X kws tk) (hall : (backToKw pos (keywordEach kws X.env)).all (·.1.isSome) = true := by rfl) (hks : (backToKw pos (keywordEach kws X.env)).filterMap (·.1) = ks := by rfl)
    (hdb : (x == ("__debug__" : Str)) = false := by decide)
    (hpl : ((backTo pos (starEach [] X.env)).any (·.1) || (backToKw pos (keywordEach kws X.env)).any (·.1.isNone)) = false := by rfl) :
    PGn X k (.Call (.Name x p) [] kws pos) (tCallNK ks.length sp gV tk) := by
  refine ⟨fun pins s σ H R I h => ?_⟩
  refine wpAny_Call_Name_kw (ld_glob I hg hm ?_ hdb)
  refine PySem.W.callWith_KW0 (h₀ := X.base) I.ok.mod.kin hk hall ?_ hpl
  refine thn (hkw.run pos pins s σ H _ I h) fun ws s2 ⟨zs, H2, I2, rz, l2, q2⟩ => ⟨I2.kIn, ?_⟩
  rw [hks]
  have r2 := hb.rel (us := []) (vs := []) .nil rz
  refine wpAny_call (codeAny_mono (F.run X.A X.stack s2 H2 ⟨[], ks.zip ws⟩ (g [] ws) (gV [] zs) _ hr I2.env0 (hb.to s2 [] ws I2.kIn rfl (rz.length.symm.trans l2)) r2 q2) fun r s' hq => ?_)
  cases r with
  | error e => exact False.elim hq
  | ok fl => cases fl with
    | ret u => exact ⟨H2, s2, I2, hq⟩
    | _ => exact False.elim hq
end
section
variable {K : PySem.W.Frag}
theorem kb_alone {x qual : Str} {st : Stmt} {f : Addr} {fd : FuncData} {ps : List Str} (F : Fun K x qual st f fd)
    (h : ∀ (kV doc pm : Value) (an : Option Addr) (cdv ct : Value) (ws : List Value), ws.length = ps.length → bindArgs (PySem.W.fnOf x qual (defArgs st) (defBody st) (defScope st) .none kV doc pm an cdv ct) ⟨[], ps.zip ws⟩ = pure (ps.zip ws)) :
    KBn K fd ps 0 ps (fun _ ws => ws) (fun _ zs => zs) := by
  obtain ⟨oc, od, kV, doc, pm, an, cdv, ct, osl, rfl, lk, hcd⟩ := F.ex
  refine ⟨fun s us ws _ hu hw => ?_, fun _ r => r⟩
  have e : us = [] := List.length_eq_zero_iff.mp hu
  subst e
  exact .of_eq (h kV doc pm an cdv ct ws hw)
end
end Slp

namespace Own
open PySem PySem.Spec PyProof.Rows L2
/-! ### the text by places -/
def top (i : Nat) : Stmt := PySem.Challenge.pw_rimcords_k51_pairings.main.body.getD i (.Pass ⟨0, 0, 0, 0⟩)
abbrev s_pairings : Stmt := top 1
theorem sc_pairings : GScope ["pins", "pairing"] ["pins"] (defScope s_pairings) := ⟨rfl, rfl, rfl, by decide +kernel, rfl, by decide +kernel, by decide +kernel⟩
abbrev s_all_paired : Stmt := top 2
theorem sc_all_paired : FnScope ["pins", "at", "rest"] ["pins"] (defScope s_all_paired) := ⟨rfl, rfl, rfl, by decide +kernel, rfl, by decide +kernel, by decide +kernel⟩
abbrev s__law_cell : Stmt := top 4
theorem sc__law_cell : FnScope ["_law_script", "_law_k", "_law_seed", "_law_cell_here"] ["_law_script", "_law_k"] (defScope s__law_cell) := ⟨rfl, rfl, rfl, by decide +kernel, rfl, by decide +kernel, by decide +kernel⟩
abbrev s__law_digits : Stmt := top 5
theorem sc__law_digits : FnScope ["_law_cell_here", "_law_sizes", "_law_row_here", "_law_rest", "_law_seed", "_law_k", "_law_size", "_law_twice"] ["_law_cell_here", "_law_sizes"] (defScope s__law_digits) := ⟨rfl, rfl, rfl, by decide +kernel, rfl, by decide +kernel, by decide +kernel⟩
abbrev s__law_same : Stmt := top 6
theorem sc__law_same : FnScope ["_law_told", "_law_due", "_law_k"] ["_law_told", "_law_due"] (defScope s__law_same) := ⟨rfl, rfl, rfl, by decide +kernel, rfl, by decide +kernel, by decide +kernel⟩
abbrev s__law_all_pairings : Stmt := top 7
theorem sc__law_all_pairings : FnScope ["_law_numbers", "_law_begun", "_law_step", "_law_longer", "_law_entry", "_law_left", "_law_k"] ["_law_numbers"] (defScope s__law_all_pairings) := ⟨rfl, rfl, rfl, by decide +kernel, rfl, by decide +kernel, by decide +kernel⟩
abbrev s__law_row : Stmt := top 8
theorem sc__law_row : FnScope ["_law_row_here", "_law_count", "_law_numbers", "_law_at", "_law_k"] ["_law_row_here"] (defScope s__law_row) := ⟨rfl, rfl, rfl, by decide +kernel, rfl, by decide +kernel, by decide +kernel⟩
abbrev s__law_right : Stmt := top 9
theorem sc__law_right : FnScope ["_law_numbers", "_law_due", "_law_told", "_law_one"] ["_law_numbers", "_law_due"] (defScope s__law_right) := ⟨rfl, rfl, rfl, by decide +kernel, rfl, by decide +kernel, by decide +kernel⟩
abbrev s_law : Stmt := top 10
theorem sc_law : FnScope ["_law_script", "_law_one", "_law_two", "_law_first", "_law_second", "_law_handed", "_law_begun", "_law_pairs"] ["_law_script"] (defScope s_law) := ⟨rfl, rfl, rfl, by decide +kernel, rfl, by decide +kernel, by decide +kernel⟩
end Own

/-! The end of a law by one run of the top: what is looked at behind it. -/
namespace Hx
open PySem PySem.Spec PyProof.Rows L2
abbrev Fg := PySem.W.Frag
/-! ### functions -/
abbrev Parts : Type := Option (Str × Str × Arguments × FuncBody × Scope × Addr × Addr)
def dataOf (K : Fg) (a : Addr) : Data := match K.lookup a with
  | none => .plain
  | some ob => ob.data
def funOf (K : Fg) (a : Addr) : FuncData := match dataOf K a with
  | .func d => d
  | _ => default
def partsOf (K : Fg) (a : Addr) : Parts := match dataOf K a with
  | .func d => some (d.name, d.qualname, d.params, d.body, d.scope, d.globals, d.builtins)
  | _ => none
structure Fd where
  spot : Fg → Addr
  nm : Str
  ql : Str
  st : Stmt
  dV : Fg → Value := fun _ => .none
  cl : Fg → List (Str × Addr) := fun _ => []
  cda : Option (Fg → Addr) := none
def Fd.due (d : Fd) : Parts := some (d.nm, d.ql, defArgs d.st, .stmts (defBody d.st), defScope d.st, mainGlobals, builtinsNs)
def Fd.fits (K : Fg) (d : Fd) : Bool := decide ((funOf K (d.spot K)).defaults = d.dV K) && (decide ((funOf K (d.spot K)).closure = d.cl K) && (PySem.W.codeIn K (funOf K (d.spot K)).code d.ql && PySem.W.keepIn K (.ref (d.spot K))))
theorem two {a b : Bool} (h : (a && b) = true) : a = true ∧ b = true := by simpa using h
theorem data_at {K : Fg} {a : Addr} {x : Data} (h : dataOf K a = x) (ne : x ≠ .plain) : ∃ oc od sl, K.lookup a = some ⟨oc, od, x, sl⟩ := by
  unfold dataOf at h
  split at h
  · exact (ne h.symm).elim
  · rename_i ob e
    obtain ⟨oc, od, dt, sl⟩ := ob
    cases h
    exact ⟨oc, od, sl, e⟩
theorem Fd.look {K : Fg} {d : Fd} (e : partsOf K (d.spot K) = d.due) (c : d.fits K = true) :
    ∃ (oc : Value) (od : Option Addr) (sl : Array (Option Value)) (kV dc pm : Value) (an : Option Addr) (cd ct : Value),
      K.lookup (d.spot K) = some ⟨oc, od, .func (PySem.W.fnX d.nm d.ql (defArgs d.st) (defBody d.st) (defScope d.st) (d.cl K) (d.dV K) kV dc pm an cd ct), sl⟩ ∧ PySem.W.codeIn K cd d.ql = true ∧
      PySem.W.keepIn K (.ref (d.spot K)) = true ∧ cd = (funOf K (d.spot K)).code := by
  unfold partsOf at e
  split at e
  case h_2 => cases e
  case h_1 fd hd =>
    obtain ⟨oc, od, sl, lk⟩ := data_at hd (fun z => by cases z)
    have hf : funOf K (d.spot K) = fd := by
      unfold funOf
      rw [hd]
    obtain ⟨c1, c⟩ := two c
    obtain ⟨c2, c⟩ := two c
    obtain ⟨c3, c4⟩ := two c
    rw [hf] at c1 c2 c3
    have c1 := of_decide_eq_true c1
    have c2 := of_decide_eq_true c2
    obtain ⟨n1, n2, n3, n4, n5, n6, n7, n8, n9, n10, n11, n12, n13, n14, n15⟩ := fd
    unfold Fd.due at e
    simp only [Option.some.injEq, Prod.mk.injEq] at e
    obtain ⟨h1, h2, h3, h4, h5, h6, h7⟩ := e
    subst h1 h2 h3 h4 h5 h6 h7
    have c1 : n8 = d.dV K := c1
    have c2 : n7 = d.cl K := c2
    subst c1 c2
    exact ⟨oc, od, sl, n9, n10, n11, n12, n13, n14, lk, c3, c4, by rw [hf]⟩
/-! ### tuples, tables -/
def tupAt (K : Fg) (a : Addr) : Addr := match (funOf K a).defaults with
  | .ref t => t
  | _ => 0
def itemAt (K : Fg) (a : Addr) (i : Nat) : Addr := match dataOf K a with
  | .seq its _ => (match its[i]? with
    | some (.ref b) => b
    | _ => 0)
  | _ => 0
def codeAt (K : Fg) (a : Addr) : Addr := match (funOf K a).code with
  | .ref t => t
  | _ => 0
def cellAt (K : Fg) (a : Addr) : Addr := match (funOf K a).closure with
  | [(_, c)] => c
  | _ => 0
def getterAt (K : Fg) (a : Addr) : Addr := match PySem.W.recIn K a "property" with
  | some (.ref f :: _) => f
  | _ => 0
def getterRest (K : Fg) (a : Addr) : List Value := match PySem.W.recIn K a "property" with
  | some (_ :: r) => r
  | _ => []
def seqIs (K : Fg) (a : Addr) (its : Array Value) : Bool := match dataOf K a with
  | .seq xs _ => decide (xs = its)
  | _ => false
theorem seq_look {K : Fg} {a : Addr} {its : Array Value} (h : seqIs K a its = true) : ∃ (oc : Value) (od : Option Addr) (sl : Array (Option Value)) (n : Nat), K.lookup a = some ⟨oc, od, .seq its n, sl⟩ := by
  unfold seqIs at h
  split at h
  case h_2 => cases h
  case h_1 xs n e =>
    obtain ⟨oc, od, sl, lk⟩ := data_at e (fun z => by cases z)
    rw [of_decide_eq_true h] at lk
    exact ⟨oc, od, sl, n, lk⟩
def typIs (K : Fg) (a : Addr) (t : String) : Bool := match K.lookup a with
  | some ob => decide (ob.cls = .type t)
  | none => false
theorem tup_look {K : Fg} {a : Addr} {its : Array Value} {t : String} (h : (seqIs K a its && typIs K a t) = true) : ∃ (od : Option Addr) (sl : Array (Option Value)) (n : Nat), K.lookup a = some ⟨.type t, od, .seq its n, sl⟩ := by
  obtain ⟨h1, h2⟩ := two h
  obtain ⟨oc, od, sl, n, lk⟩ := seq_look h1
  unfold typIs at h2
  rw [lk] at h2
  have e : oc = .type t := of_decide_eq_true h2
  rw [e] at lk
  exact ⟨od, sl, n, lk⟩
abbrev Row : Type := Option (Str × Int × Int)
def rowOf (e : DictEntry) : Row := match e.key, e.val with
  | .str x _, .int i _ => some (x, e.hash, i)
  | _, _ => none
def tabOf (K : Fg) (a : Addr) : Option (List Row) := match K.lookup a with
  | some ⟨.type t, none, .dict es _, ⟨[]⟩⟩ => (match decide (t = "dict") with
    | true => some (es.toList.map rowOf)
    | false => none)
  | _ => none
def dueTab (P : Params) (ps : List (Str × Int)) : Option (List Row) := some (ps.map fun p => some (p.1, PyData.keyHash P p.1, p.2))
def Fits (P : Params) (e : DictEntry) (p : Str × Int) : Prop := ∃ t u, e.key = .str p.1 t ∧ e.hash = PyData.keyHash P p.1 ∧ e.val = .int p.2 u
def FitAll (P : Params) : List DictEntry → List (Str × Int) → Prop
  | [], [] => True
  | e :: r, p :: q => Fits P e p ∧ FitAll P r q
  | _, _ => False
theorem rows_fit {P : Params} : ∀ {es : List DictEntry} {ps : List (Str × Int)}, (es.map rowOf = ps.map fun p => some (p.1, PyData.keyHash P p.1, p.2)) → FitAll P es ps
  | [], [], _ => trivial
  | [], _ :: _, h => by cases h
  | _ :: _, [], h => by cases h
  | e :: r, p :: q, h => by
    obtain ⟨h1, h2⟩ := List.cons.inj h
    refine ⟨?_, rows_fit h2⟩
    obtain ⟨eh, ek, ev⟩ := e
    unfold rowOf at h1
    cases ek with
    | str x t =>
      cases ev with
      | int i u =>
        obtain ⟨a1, a2, a3⟩ : x = p.1 ∧ eh = PyData.keyHash P p.1 ∧ i = p.2 := by simpa using h1
        subst a1 a2 a3
        exact ⟨t, u, rfl, rfl, rfl⟩
      | _ => simp at h1
    | _ => simp at h1
theorem tab_look {K : Fg} {P : Params} {a : Addr} {ps : List (Str × Int)} (h : tabOf K a = dueTab P ps) : ∃ (es : Array DictEntry) (n : Nat), K.lookup a = some ⟨.type "dict", none, .dict es n, #[]⟩ ∧ FitAll P es.toList ps := by
  unfold tabOf at h
  split at h
  case h_2 => cases h
  case h_1 t es n e =>
    by_cases q : t = "dict"
    · subst q
      exact ⟨es, n, e, rows_fit (Option.some.inj h)⟩
    · rw [decide_eq_false q] at h
      cases h
/-! ### the Hook -/
def reach (g : Addr → Option Obj) (from_ : List Addr) : Nat → List Addr
  | 0 => from_
  | n + 1 => He.growD g (reach g from_ n)
structure Look where
  adrs : List Addr
  fns : List Fd
  ex : List (Fg → Bool)
  tabs : List ((Fg → Addr) × List (Str × Int))
abbrev Al : Type := Bool × List Parts × List (Option (List Row))
def Look.obs (L : Look) (K : Fg) : Al := ((L.ex.all fun f => f K) && L.fns.all fun d => d.fits K, L.fns.map fun d => partsOf K (d.spot K), L.tabs.map fun t => tabOf K (t.1 K))
def Look.due (L : Look) (w : World) : Al := (true, L.fns.map Fd.due, L.tabs.map fun t => dueTab w.params t.2)
def Look.obsG (L : Look) (g : Addr → Option Obj) : Al := L.obs (He.frG g L.adrs)
def Look.hook (L : Look) : PySem.W.Hook where
  α := Al
  obs := fun s => L.obsG s.heap.get?
  val := L.due
  says := fun w h => ∃ K : Fg, K.In h ∧ L.obs K = L.due w
  of := fun _ _ e => ⟨_, He.frG_in, e⟩
  keeps := fun _ _ _ ⟨K, hK, c⟩ k => ⟨K, PySem.W.Frag.In.keeps hK k, c⟩
def Look.ob (L : Look) (s : PySem.W.SharedT) : Al := L.obsG (HandSHeadRun.getT s)
theorem Look.ob_eq (L : Look) (s : PySem.W.SharedT) : L.ob s = L.hook.obs s.abs := by
  have e : HandSHeadRun.getT s = s.abs.heap.get? := funext fun a => HandSHeadRun.getT_eq s a
  unfold Look.ob
  rw [e]
  rfl
section
variable {L : Look} {w : World} {K : Fg}
theorem Look.fact (c : L.obs K = L.due w) (i : Nat) {f : Fg → Bool} (h : L.ex[i]? = some f := by rfl) : f K = true :=
  List.all_eq_true.mp (two (congrArg (fun z : Al => z.1) c : ((L.ex.all fun f => f K) && L.fns.all fun d => d.fits K) = true)).1 f (List.mem_of_getElem? h)
theorem Look.fn (c : L.obs K = L.due w) (i : Nat) {d : Fd} (h : L.fns[i]? = some d := by rfl) :
    ∃ (oc : Value) (od : Option Addr) (sl : Array (Option Value)) (kV dc pm : Value) (an : Option Addr) (cd ct : Value),
      K.lookup (d.spot K) = some ⟨oc, od, .func (PySem.W.fnX d.nm d.ql (defArgs d.st) (defBody d.st) (defScope d.st) (d.cl K) (d.dV K) kV dc pm an cd ct), sl⟩ ∧ PySem.W.codeIn K cd d.ql = true ∧
      PySem.W.keepIn K (.ref (d.spot K)) = true ∧ cd = (funOf K (d.spot K)).code := by
  have c2 := (two (congrArg (fun z : Al => z.1) c : ((L.ex.all fun f => f K) && L.fns.all fun d => d.fits K) = true)).2
  have e := congrArg (fun z : Al => z.2.1[i]?) c
  have e : (L.fns.map fun d => partsOf K (d.spot K))[i]? = (L.fns.map Fd.due)[i]? := e
  rw [List.getElem?_map, List.getElem?_map, h] at e
  exact Fd.look (Option.some.inj e) (List.all_eq_true.mp c2 d (List.mem_of_getElem? h))
theorem Look.tab (c : L.obs K = L.due w) (i : Nat) {t : (Fg → Addr) × List (Str × Int)} (h : L.tabs[i]? = some t := by rfl) :
    ∃ (es : Array DictEntry) (n : Nat), K.lookup (t.1 K) = some ⟨.type "dict", none, .dict es n, #[]⟩ ∧ FitAll w.params es.toList t.2 := by
  have e := congrArg (fun z : Al => z.2.2[i]?) c
  have e : (L.tabs.map fun t => tabOf K (t.1 K))[i]? = (L.tabs.map fun t => dueTab w.params t.2)[i]? := e
  rw [List.getElem?_map, List.getElem?_map, h] at e
  exact tab_look (Option.some.inj e)
end
end Hx

namespace Own
open PySem PySem.Spec PyProof.Rows L2
def pa_f1 (K : PySem.W.Frag) : Addr := He.ga K "all_paired"
def pa_f2 (K : PySem.W.Frag) : Addr := He.ga K "pairings"
def pa_f3 (K : PySem.W.Frag) : Addr := He.ga K "_law_cell"
def pa_f4 (K : PySem.W.Frag) : Addr := He.ga K "_law_digits"
def pa_f5 (K : PySem.W.Frag) : Addr := He.ga K "_law_same"
def pa_f6 (K : PySem.W.Frag) : Addr := He.ga K "_law_all_pairings"
def pa_f7 (K : PySem.W.Frag) : Addr := He.ga K "_law_row"
def pa_f8 (K : PySem.W.Frag) : Addr := He.ga K "_law_right"
def pa_f9 (K : PySem.W.Frag) : Addr := He.ga K "law"
def fd_0 : Hx.Fd := { spot := pa_f1, nm := "all_paired", ql := "all_paired", st := s_all_paired }
def fd_1 : Hx.Fd := { spot := pa_f2, nm := "pairings", ql := "pairings", st := s_pairings }
def fd_2 : Hx.Fd := { spot := pa_f3, nm := "_law_cell", ql := "_law_cell", st := s__law_cell }
def fd_3 : Hx.Fd := { spot := pa_f4, nm := "_law_digits", ql := "_law_digits", st := s__law_digits }
def fd_4 : Hx.Fd := { spot := pa_f5, nm := "_law_same", ql := "_law_same", st := s__law_same }
def fd_5 : Hx.Fd := { spot := pa_f6, nm := "_law_all_pairings", ql := "_law_all_pairings", st := s__law_all_pairings }
def fd_6 : Hx.Fd := { spot := pa_f7, nm := "_law_row", ql := "_law_row", st := s__law_row }
def fd_7 : Hx.Fd := { spot := pa_f8, nm := "_law_right", ql := "_law_right", st := s__law_right }
def fd_8 : Hx.Fd := { spot := pa_f9, nm := "law", ql := "law", st := s_law }
def ex_0 (K : PySem.W.Frag) : Bool := decide (PySem.W.nsIn K mainGlobals "all_paired" = some (some (.ref (pa_f1 K))))
def ex_1 (K : PySem.W.Frag) : Bool := decide (PySem.W.nsIn K mainGlobals "pairings" = some (some (.ref (pa_f2 K))))
def ex_2 (K : PySem.W.Frag) : Bool := decide (PySem.W.nsIn K mainGlobals "_law_cell" = some (some (.ref (pa_f3 K))))
def ex_3 (K : PySem.W.Frag) : Bool := decide (PySem.W.nsIn K mainGlobals "_law_digits" = some (some (.ref (pa_f4 K))))
def ex_4 (K : PySem.W.Frag) : Bool := decide (PySem.W.nsIn K mainGlobals "_law_same" = some (some (.ref (pa_f5 K))))
def ex_5 (K : PySem.W.Frag) : Bool := decide (PySem.W.nsIn K mainGlobals "_law_all_pairings" = some (some (.ref (pa_f6 K))))
def ex_6 (K : PySem.W.Frag) : Bool := decide (PySem.W.nsIn K mainGlobals "_law_row" = some (some (.ref (pa_f7 K))))
def ex_7 (K : PySem.W.Frag) : Bool := decide (PySem.W.nsIn K mainGlobals "_law_right" = some (some (.ref (pa_f8 K))))
def ex_8 (K : PySem.W.Frag) : Bool := decide (PySem.W.nsIn K mainGlobals "law" = some (some (.ref (pa_f9 K))))
def ex_9 (K : PySem.W.Frag) : Bool := decide (PySem.W.nsIn K mainGlobals "max" = some none)
def ex_10 (K : PySem.W.Frag) : Bool := decide (PySem.W.nsIn K mainGlobals "min" = some none)
def ex_11 (K : PySem.W.Frag) : Bool := decide (PySem.W.nsIn K mainGlobals "tuple" = some none)
def ex_12 (K : PySem.W.Frag) : Bool := decide (PySem.W.nsIn K mainGlobals "range" = some none)
def ex_13 (K : PySem.W.Frag) : Bool := decide (PySem.W.nsIn K mainGlobals "isinstance" = some none)
def ex_14 (K : PySem.W.Frag) : Bool := decide (PySem.W.nsIn K mainGlobals "int" = some none)
def ex_15 (K : PySem.W.Frag) : Bool := decide (PySem.W.nsIn K mainGlobals "bool" = some none)
def ex_16 (K : PySem.W.Frag) : Bool := decide (PySem.W.nsIn K mainGlobals "len" = some none)
def ex_17 (K : PySem.W.Frag) : Bool := decide (PySem.W.nsIn K mainGlobals "list" = some none)
def ex_18 (K : PySem.W.Frag) : Bool := decide (PySem.W.nsIn K mainGlobals "str" = some none)
def ex_19 (K : PySem.W.Frag) : Bool := decide (PySem.W.nsIn K mainGlobals "sorted" = some none)
def ex_20 (K : PySem.W.Frag) : Bool := decide (PySem.W.nsIn K mainGlobals "sum" = some none)
def ex_21 (K : PySem.W.Frag) : Bool := decide (PySem.W.nsIn K mainGlobals "all" = some none)
def fdL0 : List (Hx.Fd) := [fd_0, fd_1, fd_2, fd_3, fd_4, fd_5, fd_6, fd_7, fd_8]
def exL0 : List (PySem.W.Frag → Bool) := [ex_0, ex_1, ex_2, ex_3, ex_4, ex_5, ex_6, ex_7, ex_8, ex_9, ex_10, ex_11, ex_12, ex_13, ex_14, ex_15, ex_16, ex_17, ex_18, ex_19, ex_20, ex_21]
def tabL : List ((PySem.W.Frag → Addr) × List (Str × Int)) := []
def adL0 : List (Addr) := [3, 20, 21, 25, 26, 32, 33, 39, 40, 44, 45, 49, 50, 56, 57, 63, 64, 70, 71]
def adL : List Addr := adL0
def lk : Hx.Look := { adrs := adL, fns := fdL0, ex := exL0, tabs := tabL }
def nmL0 : List (Str) := ["pairings", "all_paired", "_law_cell", "_law_digits", "_law_same", "_law_all_pairings", "_law_row", "_law_right"]
def nms : List Str := nmL0
abbrev RR : PySem.W.OpenRow := PySem.W.OpenLaw.row PySem.Challenge.rw_rimcords_k51_pairings
theorem run_false (w : World) : HandSHeadRun.RunEq RR (PySem.W.view RR.prog [10]) lk.hook lk.ob 20000 nms (w.withFollow "special-get-raises" false) := by
  intro os
  kernel_rfl
theorem run_true (w : World) : HandSHeadRun.RunEq RR (PySem.W.view RR.prog [10]) lk.hook lk.ob 20000 nms (w.withFollow "special-get-raises" true) := by
  intro os
  kernel_rfl
theorem run (w : World) : HandSHeadRun.RunEq RR (PySem.W.view RR.prog [10]) lk.hook lk.ob 20000 nms w := PySem.W.byRow2 "special-get-raises" (P := fun w => HandSHeadRun.RunEq RR (PySem.W.view RR.prog [10]) lk.hook lk.ob 20000 nms w) run_false run_true w
end Own

namespace Own
open PySem PySem.Spec PyProof.Rows L2
theorem same_upd {H : Hp} {p : Addr} {o : HO} (h : H p = none) : Same H (upd H p o) := fun b x e => by
  rw [upd_ne (ne_of_none e h)]
  exact e
theorem SqB.same {K : PySem.W.Frag} {H H' : Hp} {a : Addr} {xs : List V} (s : Same H H') (h : SqB K H a xs) : SqB K H' a xs := by
  rcases h with h | ((h | ⟨o, h⟩) | h)
  · exact .inl (s.seq h)
  · exact .inr (.inl (.inl (s _ _ h)))
  · exact .inr (.inl (.inr ⟨o, s _ _ h⟩))
  · exact .inr (.inr h)
/-- a loop over a list or a tuple: what stood in Hb stands in each turn -/
theorem for_same {K : PySem.W.Frag} {a : Addr} {xs : List V} {g : TG} {tb : TS} {D : Ends} {σ : L2.St} {H Hb : Hp} (hB : SqB K Hb a xs) (Pv : Nat → L2.St → Hp → Prop) (h0 : Pv 0 σ H) (hk : ∀ i σ' H', Pv i σ' H' → Same Hb H')
    (hs : ∀ i x σ H, xs[i]? = some x → Pv i σ H → g x σ H fun σ2 H2 => tb { D with nx := Pv (i + 1), ct := Pv (i + 1), bk := D.nx } σ2 H2) (hd : ∀ σ H, Pv xs.length σ H → D.nx σ H) :
    ((∃ xs, SqL K H a xs) ∧ ∃ W : Nat → Nat → L2.St → Hp → Prop, (∃ m, W 0 m σ H) ∧ ∀ i m σ H, W i m σ H →
      ((Itl K a).stop i H ∧ D.nx σ H) ∨ ((Itl K a).go i H ∧ ∃ N : L2.St → Hp → Prop, (∀ σ' H', N σ' H' → ∃ m', m' < m ∧ W (i + 1) m' σ' H') ∧ ∀ x H', (Itl K a).yld i H x H' → g x σ H' fun σ2 H2 => tb { D with nx := N, ct := N, bk := D.nx } σ2 H2)) ∨
    ((∃ xs, SqT K H a xs) ∧ ∃ W : Nat → Nat → L2.St → Hp → Prop, (∃ m, W 0 m σ H) ∧ ∀ i m σ H, W i m σ H →
      ((Itt K a).stop i H ∧ D.nx σ H) ∨ ((Itt K a).go i H ∧ ∃ N : L2.St → Hp → Prop, (∀ σ' H', N σ' H' → ∃ m', m' < m ∧ W (i + 1) m' σ' H') ∧ ∀ x H', (Itt K a).yld i H x H' → g x σ H' fun σ2 H2 => tb { D with nx := N, ct := N, bk := D.nx } σ2 H2)) := by
  have tup : ∀ {H'}, SqT K Hb a xs → Same Hb H' → SqT K H' a xs := fun h s => by
    rcases h with (h | ⟨o, h⟩) | h
    · exact .inl (.inl (s _ _ h))
    · exact .inl (.inr ⟨o, s _ _ h⟩)
    · exact .inr h
  rcases hB with h | h
  · exact .inl ⟨⟨xs, (hk 0 σ H h0).seq h⟩, for_list Pv h0 (fun i σ' H' _ p => (hk i σ' H' p).seq h) hs hd⟩
  · exact .inr ⟨⟨xs, tup h (hk 0 σ H h0)⟩, for_tup Pv h0 (fun i σ' H' _ p => tup h (hk i σ' H' p)) hs hd⟩
theorem kitTrue {K : PySem.W.Frag} {t : Value} : PySem.W.kitOne K t t = some true := by
  unfold PySem.W.kitOne
  rw [if_pos (beq_self_eq_true t)]
section
variable {P : Program} {w : World} {K : PySem.W.Frag} {mg : Str → Option Value} {base : Heap}
structure Df (K : PySem.W.Frag) (mg : Str → Option Value) (x : Str) (st : Stmt) (ps : List Str) (f : Addr) (fd : FuncData) : Prop where
  F : Fun K x x st f fd
  g : mg x = some (.ref f)
  b : Binds K fd ps []
/-- the built-ins that the text calls -/
structure Bi (mg : Str → Option Value) : Prop where
  b_max : mg "max" = none
  b_min : mg "min" = none
  b_tuple : mg "tuple" = none
  b_range : mg "range" = none
  b_isinstance : mg "isinstance" = none
  b_int : mg "int" = none
  b_bool : mg "bool" = none
  b_len : mg "len" = none
  b_list : mg "list" = none
  b_str : mg "str" = none
  b_sorted : mg "sorted" = none
  b_sum : mg "sum" = none
/-! ### kinds -/
def spWhole : Sp := fun vs H Q _ => ∃ i : Int, vs = [.int i] ∧ Q (.bl true) H
end
theorem fmod_in (x : Int) {n : Int} (h : 0 < n) : 0 ≤ x.fmod n ∧ x.fmod n < n := by
  rw [Int.fmod_eq_emod_of_nonneg _ (Int.le_of_lt h)]
  exact ⟨Int.emod_nonneg _ (by omega), Int.emod_lt_of_pos _ h⟩
section
variable {P : Program} {w : World} {K : PySem.W.Frag} {mg : Str → Option Value} {base : Heap} {C : Addr}
/-! ### the law's helpers: kinds, cells, digits -/
def spCell (K : PySem.W.Frag) : Sp := fun vs H Q _ => ∃ (l : Addr) (ns : List Int) (j : Nat), vs = [.ref l, .int (j : Int)] ∧ SqL K H l (ns.map V.int) ∧ j ≤ 100000 ∧ ns.length ≤ 1000 ∧ ∀ c : Int, Q (.int c) H
theorem ok_cell {f : Addr} {fd : FuncData} (F : Fun K "_law_cell" "_law_cell" s__law_cell f fd) (T : Bi mg) : FnOk P w K mg base CX0 1 f fd ["_law_script", "_law_k"] (spCell K) := by
  refine F.ok sc__law_cell (fun vs H Q E h => ?_) (fun cdv A outer s H vs Q E hr h => ?_)
  · obtain ⟨l, ns, j, rfl, _⟩ := h
    rfl
  · obtain ⟨l, ns, j, rfl, hs, hj, hn, q⟩ := h
    refine ⟨_, (pss_cons (ps_if (pt_cmpR op_lt (pv 1) (pe_callB call_len_seq (by rfl) T.b_len PySem.boot_len (pa_cons (pv 0) pa_nil)) (nomark _)) (pss_one (ps_ret (pe_ix (r := rIxL K) ix_list (pv 0) (pv 1) (fun _ _ => rfl)))) pss_nil)
        (pss_cons (ps_set (i := 2) sc__law_cell.nd rfl (.inl rfl) pe_int)
        (pss_cons (ps_for PassesOwn.never rfl (pi_list (pv 0)) (pg_name (i := 3) sc__law_cell.nd rfl (.inl rfl))
        (pss_one (ps_set (i := 2) sc__law_cell.nd rfl (.inl rfl) (pe_op op_mod (pe_callTy call_int1 (by rfl) T.b_int (by decide +kernel) (pa_cons (pe_op op_add (pe_op op_mul (pv 2) pe_int) (pe_op op_mod (pe_callTy call_int1 (by rfl) T.b_int (by decide +kernel) (pa_cons (pv 3) pa_nil)) pe_int)) pa_nil)) pe_int))))
        (pss_one (ps_ret (pe_op op_mod (pe_callTy call_int1 (by rfl) T.b_int (by decide +kernel) (pa_cons (pe_op op_mul (pe_op op_mul (pe_op op_add (pv 2) pe_int) (pe_op op_add (pv 1) pe_int)) pe_int) pa_nil)) pe_int)))))), ?_⟩
    refine ⟨_, rfl, _, rfl, l, _, rfl, .inl hs, _, _, rfl, rfl, _, rfl, ite2 (fun e => ?_) (fun e => ?_)⟩
    · have e1 : (j : Int) < ((ns.map V.int).length : Int) := of_decide_eq_true e
      rw [List.length_map] at e1
      have hj2 : j < ns.length := by omega
      have g : (ns.map V.int)[j]? = some (.int ns[j]) := by
        rw [List.getElem?_map, List.getElem?_eq_getElem hj2]
        rfl
      exact ⟨_, rfl, _, rfl, _, _, _, _, rfl, rfl, hs, atI_nat g, q _⟩
    · refine ⟨_, rfl, l, rfl, ⟨_, hs⟩, for_list (xs := ns.map V.int) (fun i σ H' => (∃ (z : Int) (y : Option V), 0 ≤ z ∧ z < 1000003 ∧ σ = [some (.ref l), some (.int (j : Int)), some (.int z), y]) ∧ H' = H) ⟨⟨17, none, by decide, by decide, rfl⟩, rfl⟩ (fun i σ H' _ p => by rw [p.2]; exact hs) (fun i x σ H' hx p => ?_) (fun σ H' p => ?_)⟩
      · obtain ⟨⟨z, y, z0, z1, rfl⟩, rfl⟩ := p
        obtain ⟨c, rfl⟩ : ∃ c, x = .int c := by
          rw [List.getElem?_map] at hx
          cases e2 : ns[i]? with
          | none => rw [e2] at hx; cases hx
          | some c =>
            rw [e2] at hx
            exact ⟨c, (Option.some.inj hx).symm⟩
        refine ⟨_, rfl, _, _, rfl, rfl, .inl ⟨by omega, by omega⟩, _, rfl, .inl ⟨_, rfl, _, _, rfl, rfl, by show (0 : Int) < 1000003; decide, _, _, rfl, rfl, .inl ⟨_, rfl, _, _, rfl, rfl, by show (0 : Int) < 1000003; decide, ?_⟩⟩⟩
        exact ⟨⟨_, _, Int.emod_nonneg _ (by decide), Int.emod_lt_of_pos _ (by decide), rfl⟩, rfl⟩
      · obtain ⟨⟨z, y, z0, z1, rfl⟩, rfl⟩ := p
        have hp : (z + 7) * ((j : Int) + 3) < 2 ^ 64 ∧ -(2 ^ 64) < (z + 7) * ((j : Int) + 3) := by
          have a1 : 0 ≤ z + 7 := by omega
          have a2 : z + 7 ≤ 1000010 := by omega
          have b1 : 0 ≤ (j : Int) + 3 := by omega
          have b2 : (j : Int) + 3 ≤ 100003 := by omega
          have c1 : (z + 7) * ((j : Int) + 3) ≤ 1000010 * 100003 := Int.mul_le_mul a2 b2 b1 (by decide)
          have c2 : 0 ≤ (z + 7) * ((j : Int) + 3) := Int.mul_nonneg a1 b1
          omega
        exact ⟨_, rfl, _, _, rfl, rfl, _, rfl, _, _, rfl, rfl, _, _, rfl, rfl, .inl ⟨by omega, by omega⟩, _, _, rfl, rfl, .inl ⟨hp.2, hp.1⟩, .inl ⟨_, rfl, _, _, rfl, rfl, by show (0 : Int) < 2147483647; decide, q _⟩⟩
/-- each digit lies below its size -/
def Digs (ds szs : List Int) : Prop := ds.length = szs.length ∧ ∀ (i : Nat) (d s : Int), ds[i]? = some d → szs[i]? = some s → 0 ≤ d ∧ d < s
theorem Digs.snoc {ds szs : List Int} {i : Nat} {d s : Int} (h : Digs ds (szs.take i)) (e : szs[i]? = some s) (h0 : 0 ≤ d) (h1 : d < s) : Digs (ds ++ [d]) (szs.take (i + 1)) := by
  have hi : i < szs.length := (List.getElem?_eq_some_iff.mp e).1
  have hl : ds.length = i := by
    rw [h.1, List.length_take]
    omega
  rw [List.take_add_one, e]
  refine ⟨by rw [List.length_append, List.length_append, h.1]; rfl, fun j x y hx hy => ?_⟩
  by_cases hj : j < i
  · rw [List.getElem?_append_left (by omega)] at hx
    rw [List.getElem?_append_left (by rw [List.length_take]; omega)] at hy
    exact h.2 j x y hx hy
  · rw [List.getElem?_append_right (by omega)] at hx
    rw [List.getElem?_append_right (by rw [List.length_take]; omega), List.length_take] at hy
    have hk : j - ds.length = 0 := by
      cases hk : j - ds.length with
      | zero => rfl
      | succ k =>
        rw [hk] at hx
        simp at hx
    rw [hk] at hx
    rw [show j - min i szs.length = 0 by omega] at hy
    obtain rfl : d = x := Option.some.inj hx
    obtain rfl : s = y := Option.some.inj hy
    exact ⟨h0, h1⟩
def spDigs (K : PySem.W.Frag) : Sp := fun vs H Q _ => ∃ (c : Int) (b : Addr) (szs : List Int), vs = [.int c, .ref b] ∧ SqL K H b (szs.map V.int) ∧ szs.length ≤ 1000 ∧ (∀ s ∈ szs, 0 < s ∧ s < 1073741824) ∧ ∀ H' p ds, Same H H' → H p = none → H' p = some (.lst (ds.map V.int)) → Digs ds szs → Q (.ref p) H'
theorem int_at {ns : List Int} {i : Nat} {x : V} (h : (ns.map V.int)[i]? = some x) : ∃ c, x = .int c ∧ ns[i]? = some c := by
  rw [List.getElem?_map] at h
  cases e : ns[i]? with
  | none => rw [e] at h; cases h
  | some c =>
    rw [e] at h
    exact ⟨c, (Option.some.inj h).symm, rfl⟩
theorem ok_digits {f : Addr} {fd : FuncData} (F : Fun K "_law_digits" "_law_digits" s__law_digits f fd) (T : Bi mg) : FnOk P w K mg base CX0 1 f fd ["_law_cell_here", "_law_sizes"] (spDigs K) := by
  refine F.ok sc__law_digits (fun vs H Q E h => ?_) (fun cdv A outer s H vs Q E hr h => ?_)
  · obtain ⟨c, b, szs, rfl, _⟩ := h
    rfl
  · obtain ⟨c, b, szs, rfl, hb, hl, hsz, q⟩ := h
    refine ⟨_, (pss_cons (ps_set (i := 2) sc__law_digits.nd rfl (.inl rfl) (pe_lst pa_nil))
        (pss_cons (ps_set (i := 3) sc__law_digits.nd rfl (.inl rfl) (pe_callTy call_int1 (by rfl) T.b_int (by decide +kernel) (pa_cons (pv 0) pa_nil)))
        (pss_cons (ps_if (pt_cmpR op_ge (pv 3) (pe_op op_pow pe_int pe_int) (nomark _)) (pss_cons (ps_set (i := 3) sc__law_digits.nd rfl (.inl rfl) (pe_op op_sub (pv 3) (pe_op op_pow pe_int pe_int)))
        (pss_cons (ps_for PassesOwn.never rfl (pi_list (pv 1)) (pg_name (i := 6) sc__law_digits.nd rfl (.inl rfl))
        (pss_cons (ps_expr (pe_bm PySem.F.plainAttrs_list PySem.F.slot_list_append PySem.F.type_list_append mt_append (pv 2) (pa_cons (pe_op op_modN (pe_callTy call_int1 (by rfl) T.b_int (by decide +kernel) (pa_cons (pv 3) pa_nil)) (pv 6)) pa_nil)))
        (pss_one (ps_set (i := 3) sc__law_digits.nd rfl (.inl rfl) (pe_op op_fdivN (pe_callTy call_int1 (by rfl) T.b_int (by decide +kernel) (pa_cons (pv 3) pa_nil)) (pv 6))))))
        (pss_one (ps_ret (pv 2))))) pss_nil)
        (pss_cons (ps_set (i := 4) sc__law_digits.nd rfl (.inl rfl) (pe_op op_mod (pe_callTy call_int1 (by rfl) T.b_int (by decide +kernel) (pa_cons (pv 3) pa_nil)) pe_int))
        (pss_cons (ps_for PassesOwn.never rfl (pi_range1 (by rfl) T.b_range (pa_cons (pe_callB call_len_seq (by rfl) T.b_len PySem.boot_len (pa_cons (pv 1) pa_nil)) pa_nil)) (pg_name (i := 5) sc__law_digits.nd rfl (.inl rfl))
        (pss_cons (ps_set (i := 4) sc__law_digits.nd rfl (.inl rfl) (pe_op op_mod (pe_callTy call_int1 (by rfl) T.b_int (by decide +kernel) (pa_cons (pe_op op_add (pe_op op_add (pe_op op_mul (pv 4) pe_int) (pe_op op_mul pe_int (pv 5))) pe_int) pa_nil)) pe_int))
        (pss_cons (ps_set (i := 7) sc__law_digits.nd rfl (.inl rfl) (pe_op op_mod (pe_callTy call_int1 (by rfl) T.b_int (by decide +kernel) (pa_cons (pe_op op_mul (pv 4) (pe_op op_add (pe_op op_fdiv (pv 4) pe_int) pe_int)) pa_nil)) pe_int))
        (pss_one (ps_expr (pe_bm PySem.F.plainAttrs_list PySem.F.slot_list_append PySem.F.type_list_append mt_append (pv 2) (pa_cons (pe_op op_modN (pe_op op_fdiv (pv 7) pe_int) (pe_ix (r := rIxL K) ix_list (pv 1) (pv 5) (fun _ _ => rfl))) pa_nil)))))))
        (pss_one (ps_ret (pv 2)))))))), ?_⟩
    refine ⟨Nat.zero_le _, fun p np => ?_⟩
    have sp : Same H (upd H p (.lst [])) := same_upd np
    refine ⟨_, rfl, .inl ⟨_, rfl, ?_⟩⟩
    refine ⟨_, rfl, _, _, rfl, rfl, ⟨by decide, by decide, by decide⟩, _, _, rfl, rfl, _, rfl, ite2 (fun e => ?_) (fun e => ?_)⟩
    · refine ⟨_, rfl, _, _, rfl, rfl, ⟨by decide, by decide, by decide⟩, _, _, rfl, rfl, ?_⟩
      refine ⟨_, rfl, b, rfl, ⟨_, sp.seq hb⟩, for_list (xs := szs.map V.int) (fun i σ H' => (∃ (z : Int) (ds : List Int) (y4 y5 y6 y7 : Option V), σ = [some (.int c), some (.ref b), some (.ref p), some (.int z), y4, y5, y6, y7] ∧ H' = upd H p (.lst (ds.map V.int)) ∧ Digs ds (szs.take i))) ⟨_, [], _, _, _, _, rfl, rfl, rfl, fun j d s h => by simp at h⟩ (fun i σ H' _ p => by obtain ⟨_, _, _, _, _, _, _, rfl, _⟩ := p; exact (same_upd np).seq hb) (fun i x σ H' hx pv => ?_) (fun σ H' pv => ?_)⟩
      · obtain ⟨z, ds, y4, y5, y6, y7, rfl, rfl, dg⟩ := pv
        obtain ⟨sz, rfl, hsi⟩ := int_at hx
        have hs := hsz sz (List.mem_of_getElem? hsi)
        have hi : i < szs.length := (List.getElem?_eq_some_iff.mp hsi).1
        refine ⟨_, rfl, .inl ⟨rfl, _, .inl (.inl upd_same)⟩, _, rfl, .inl ⟨_, rfl, _, rfl, _, _, rfl, rfl, by omega, p, _, _, rfl, rfl, upd_same, ?_, ?_⟩⟩
        · rw [List.length_map, dg.1, List.length_take]
          exact Nat.lt_of_le_of_lt (Nat.min_le_right _ _) (small1000 hl)
        refine ⟨_, rfl, .inl ⟨_, rfl, _, rfl, _, _, rfl, rfl, ⟨by omega, by omega⟩, ?_⟩⟩
        have hm := fmod_in z hs.1
        refine ⟨_, ds ++ [z.fmod sz], _, _, _, _, rfl, ?_, dg.snoc hsi hm.1 hm.2⟩
        rw [upd_upd, List.map_append]
        rfl
      · obtain ⟨z, ds, y4, y5, y6, y7, rfl, rfl, dg⟩ := pv
        rw [List.length_map, List.take_length] at dg
        exact ⟨_, rfl, q _ p ds (same_upd np) np upd_same dg⟩
    · refine ⟨_, rfl, .inl ⟨_, rfl, _, _, rfl, rfl, by show (0 : Int) < 2147483629; decide, ?_⟩⟩
      refine ⟨_, rfl, b, _, rfl, .inl (sp.seq hb), _, rfl, by omega, by rw [List.length_map]; omega, ?_⟩
      rw [show ((szs.map V.int).length : Int).toNat = szs.length by rw [List.length_map]; omega]
      refine for_range (lo := 0) (n := szs.length) (fun i σ H' => (∃ (z : Int) (ds : List Int) (y3 y4 y6 y7 : Option V), 0 ≤ z ∧ z < 2147483647 ∧ σ = [some (.int c), some (.ref b), some (.ref p), y3, some (.int z), y4, y6, y7] ∧ H' = upd H p (.lst (ds.map V.int)) ∧ Digs ds (szs.take i))) ⟨_, [], _, _, _, _, Int.emod_nonneg _ (by decide), Int.lt_of_lt_of_le (Int.emod_lt_of_pos _ (by decide)) (by decide), rfl, rfl, rfl, fun j d s h => by simp at h⟩ (fun i σ H' hi pv => ?_) (fun σ H' pv => ?_)
      · obtain ⟨z, ds, y3, y4, y6, y7, z0, z1, rfl, rfl, dg⟩ := pv
        have hsi : szs[i]? = some szs[i] := List.getElem?_eq_getElem hi
        have hs := hsz szs[i] (List.mem_of_getElem? hsi)
        generalize szs[i] = sz at hsi hs
        refine ⟨_, rfl, _, _, rfl, rfl, .inl ⟨by omega, by omega⟩, _, rfl, _, _, rfl, rfl, .inl ⟨by decide, by decide⟩, _, _, rfl, rfl, _, _, rfl, rfl, .inl ⟨_, rfl, _, _, rfl, rfl, by show (0 : Int) < 2147483647; decide, ?_⟩⟩
        generalize hz : (z * 48271 + 974711 * (0 + (i : Int)) + 12345) % 2147483647 = z2
        have z20 : 0 ≤ z2 := by rw [← hz]; exact Int.emod_nonneg _ (by decide)
        have z21 : z2 < 2147483647 := by rw [← hz]; exact Int.emod_lt_of_pos _ (by decide)
        refine ⟨_, rfl, _, rfl, _, _, rfl, rfl, ⟨by decide, by decide⟩, _, _, rfl, rfl, _, _, rfl, rfl, .inl ⟨?_, ?_⟩, .inl ⟨_, rfl, _, _, rfl, rfl, by show (0 : Int) < 2147483629; decide, ?_⟩⟩
        · show -(2 ^ 64) < (z * 48271 + 974711 * (0 + (i : Int)) + 12345) % 2147483647
          rw [hz]
          omega
        · show (z * 48271 + 974711 * (0 + (i : Int)) + 12345) % 2147483647 < 2 ^ 64
          rw [hz]
          omega
        refine ⟨_, rfl, .inl ⟨rfl, _, .inl (.inl upd_same)⟩, _, rfl, _, _, rfl, rfl, ⟨by decide, by decide⟩, _, rfl, _, rfl, b, _, _, _, rfl, rfl, (same_upd np).seq hb, at_of (j := i) (by omega) (by rw [List.getElem?_map, hsi]; rfl), _, _, rfl, rfl, by omega, p, _, _, rfl, rfl, upd_same, ?_, ?_⟩
        · rw [List.length_map, dg.1, List.length_take]
          exact Nat.lt_of_le_of_lt (Nat.min_le_right _ _) (small1000 hl)
        have hm := fun x : Int => fmod_in x hs.1
        refine ⟨_, ds ++ [((((z * 48271 + 974711 * (0 + (i : Int)) + 12345) % 2147483647) * (((z * 48271 + 974711 * (0 + (i : Int)) + 12345) % 2147483647) / 65537 + 3)) % 2147483629 / 19).fmod sz], _, _, _, _, ?_, ?_, rfl, ?_, dg.snoc hsi (hm _).1 (hm _).2⟩
        · exact Int.emod_nonneg _ (by decide)
        · exact Int.emod_lt_of_pos _ (by decide)
        · rw [upd_upd, List.map_append]
          rfl
      · obtain ⟨z, ds, y3, y4, y6, y7, z0, z1, rfl, rfl, dg⟩ := pv
        rw [List.take_length] at dg
        exact ⟨_, rfl, q _ p ds (same_upd np) np upd_same dg⟩
end
end Own

namespace Own
open PySem PySem.Spec PyProof.Rows L2
/-- [.. for a in range(..) for b in range(..)], from without -/
theorem lc2_range {lo : Int} {n : Nat} {g : TG} {tt : TT} {wi1 : TI} {g1 : TG} {tt1 : TT} {te : TE} {vs vs1 : List Nat} {σ : L2.St} {H1 : Hp} {D : Addr} {Qd : Hp → Prop} (Pv : Nat → Hp → Prop) (h0 : Pv 0 (upd H1 D (.lst [])))
    (hs : ∀ i H, i < n → Pv i H → g (.int (lo + i)) (wipe σ vs) H fun σ2 H2 => wipe σ2 vs = wipe σ vs ∧ tt σ2 H2 fun b H3 =>
      if b = true then wi1 σ2 H3 fun J1 H4 => ∃ W1 : Nat → Nat → Hp → Prop, (∃ m, W1 0 m H4) ∧ ∀ j k H, W1 j k H →
        (J1.stop j H ∧ Pv (i + 1) H) ∨ (J1.go j H ∧ ∃ Nx1 : Hp → Prop, (∀ H', Nx1 H' → ∃ k', k' < k ∧ W1 (j + 1) k' H') ∧ ∀ x H', J1.yld j H x H' → g1 x (wipe σ2 vs1) H' fun σ3 H5 => wipe σ3 vs1 = wipe σ2 vs1 ∧ tt1 σ3 H5 fun b H6 =>
          if b = true then te σ3 H6 fun y H7 => ∃ acc, H7 D = some (.lst acc) ∧ acc.length < sizeLine ∧ Nx1 (upd H7 D (.lst (acc ++ [y]))) else Nx1 H6)
      else Pv (i + 1) H3) (hd : ∀ H, Pv n H → Qd H) :
    ∃ W : Nat → Nat → Hp → Prop, (∃ m, W 0 m (upd H1 D (.lst []))) ∧ ∀ i m H, W i m H →
      ((Itr lo n).stop i H ∧ Qd H) ∨ ((Itr lo n).go i H ∧ ∃ Nx : Hp → Prop, (∀ H', Nx H' → ∃ m', m' < m ∧ W (i + 1) m' H') ∧ ∀ x H', (Itr lo n).yld i H x H' → g x (wipe σ vs) H' fun σ2 H2 => wipe σ2 vs = wipe σ vs ∧ tt σ2 H2 fun b H3 =>
        if b = true then wi1 σ2 H3 fun J1 H4 => ∃ W1 : Nat → Nat → Hp → Prop, (∃ m, W1 0 m H4) ∧ ∀ j k H, W1 j k H →
          (J1.stop j H ∧ Nx H) ∨ (J1.go j H ∧ ∃ Nx1 : Hp → Prop, (∀ H', Nx1 H' → ∃ k', k' < k ∧ W1 (j + 1) k' H') ∧ ∀ x H', J1.yld j H x H' → g1 x (wipe σ2 vs1) H' fun σ3 H5 => wipe σ3 vs1 = wipe σ2 vs1 ∧ tt1 σ3 H5 fun b H6 =>
            if b = true then te σ3 H6 fun y H7 => ∃ acc, H7 D = some (.lst acc) ∧ acc.length < sizeLine ∧ Nx1 (upd H7 D (.lst (acc ++ [y]))) else Nx1 H6)
        else Nx H3) := by
  refine ⟨fun i m H => m = n - i ∧ i ≤ n ∧ Pv i H, ⟨n, by simp, Nat.zero_le _, h0⟩, ?_⟩
  rintro i m H ⟨rfl, hi, p⟩
  by_cases hlt : i < n
  · refine .inr ⟨hlt, Pv (i + 1), fun H' p' => ⟨n - (i + 1), by omega, rfl, hlt, p'⟩, fun x H' y => ?_⟩
    obtain ⟨e, y⟩ := y
    subst e y
    exact hs i _ hlt p
  · have e : i = n := by omega
    subst e
    exact .inl ⟨Nat.le_refl _, hd H p⟩
/-- the inner one -/
theorem in_range {lo : Int} {n : Nat} {g1 : TG} {tt1 : TT} {te : TE} {vs1 : List Nat} {σ : L2.St} {H4 : Hp} {D : Addr} {N : Hp → Prop} (P2 : Nat → Hp → Prop) (h0 : P2 0 H4)
    (hs : ∀ j H, j < n → P2 j H → g1 (.int (lo + j)) (wipe σ vs1) H fun σ3 H5 => wipe σ3 vs1 = wipe σ vs1 ∧ tt1 σ3 H5 fun b H6 => if b = true then te σ3 H6 fun y H7 => ∃ acc, H7 D = some (.lst acc) ∧ acc.length < sizeLine ∧ P2 (j + 1) (upd H7 D (.lst (acc ++ [y]))) else P2 (j + 1) H6) (hd : ∀ H, P2 n H → N H) :
    ∃ W1 : Nat → Nat → Hp → Prop, (∃ m, W1 0 m H4) ∧ ∀ j k H, W1 j k H →
        ((Itr lo n).stop j H ∧ N H) ∨ ((Itr lo n).go j H ∧ ∃ Nx1 : Hp → Prop, (∀ H', Nx1 H' → ∃ k', k' < k ∧ W1 (j + 1) k' H') ∧ ∀ x H', (Itr lo n).yld j H x H' → g1 x (wipe σ vs1) H' fun σ3 H5 => wipe σ3 vs1 = wipe σ vs1 ∧ tt1 σ3 H5 fun b H6 =>
          if b = true then te σ3 H6 fun y H7 => ∃ acc, H7 D = some (.lst acc) ∧ acc.length < sizeLine ∧ Nx1 (upd H7 D (.lst (acc ++ [y]))) else Nx1 H6) := by
  refine ⟨fun i m H => m = n - i ∧ i ≤ n ∧ P2 i H, ⟨n, by simp, Nat.zero_le _, h0⟩, ?_⟩
  rintro i m H ⟨rfl, hi, p⟩
  by_cases hlt : i < n
  · refine .inr ⟨hlt, P2 (i + 1), fun H' p' => ⟨n - (i + 1), by omega, rfl, hlt, p'⟩, fun x H' y => ?_⟩
    obtain ⟨e, y⟩ := y
    subst e y
    exact hs i _ hlt p
  · have e : i = n := by omega
    subst e
    exact .inl ⟨Nat.le_refl _, hd H p⟩
end Own

namespace Own
/-! ### all pairings of a row -/
abbrev Pr := Int × Int
def ap : Nat → List Int → List (List Pr)
  | _, [] => [[]]
  | 0, _ :: _ => []
  | n + 1, a :: r => (List.range r.length).flatMap fun k => (ap n (r.eraseIdx k)).map fun t => (a, r.getD k 0) :: t
theorem len_er {r : List Int} {k : Nat} (h : k < r.length) : (r.eraseIdx k).length + 1 = r.length := by
  rw [List.length_eraseIdx, if_pos h]
  omega
theorem ap_fuel : ∀ (n m : Nat) (xs : List Int), xs.length ≤ n → xs.length ≤ m → ap n xs = ap m xs
  | n, m, [], _, _ => by cases n <;> cases m <;> rfl
  | 0, _, _ :: _, h, _ => by simp at h
  | _, 0, _ :: _, _, h => by simp at h
  | n + 1, m + 1, a :: r, h1, h2 => by
    have h1 : r.length ≤ n := by simpa using h1
    have h2 : r.length ≤ m := by simpa using h2
    unfold ap
    have e : ∀ k ∈ List.range r.length, ((ap n (r.eraseIdx k)).map fun t => (a, r.getD k 0) :: t) = ((ap m (r.eraseIdx k)).map fun t => (a, r.getD k 0) :: t) := fun k hk => by
      have := len_er (List.mem_range.mp hk)
      rw [ap_fuel n m (r.eraseIdx k) (by omega) (by omega)]
    rw [List.flatMap_def, List.flatMap_def, List.map_congr_left e]
/-- the pairings, by themselves -/
def prs' (xs : List Int) : List (List Pr) := ap xs.length xs
theorem prs_nil : prs' [] = [[]] := rfl
theorem prs_cons (a : Int) (r : List Int) : prs' (a :: r) = (List.range r.length).flatMap fun k => (prs' (r.eraseIdx k)).map fun t => (a, r.getD k 0) :: t := by
  show ap (r.length + 1) (a :: r) = _
  unfold ap
  have e : ∀ k ∈ List.range r.length, ((ap r.length (r.eraseIdx k)).map fun t => (a, r.getD k 0) :: t) = ((prs' (r.eraseIdx k)).map fun t => (a, r.getD k 0) :: t) := fun k hk => by
    have := len_er (List.mem_range.mp hk)
    unfold prs'
    rw [ap_fuel r.length (r.eraseIdx k).length (r.eraseIdx k) (by omega) (by omega)]
  rw [List.flatMap_def, List.flatMap_def, List.map_congr_left e]
/-- how many there are -/
def cnt : Nat → Nat
  | 0 => 1
  | 1 => 0
  | n + 2 => (n + 1) * cnt n
theorem flat_len {α β : Type} {f : α → List β} {c : Nat} : ∀ {l : List α}, (∀ x ∈ l, (f x).length = c) → (l.flatMap f).length = l.length * c
  | [], _ => by simp
  | x :: l, h => by
    rw [List.flatMap_cons, List.length_append, h x (List.mem_cons_self ..), flat_len fun y hy => h y (List.mem_cons_of_mem _ hy), List.length_cons, Nat.add_mul]
    omega
theorem prs_len : ∀ (n : Nat) (xs : List Int), xs.length = n → (prs' xs).length = cnt n
  | 0, [], _ => rfl
  | 1, [a], _ => rfl
  | n + 2, a :: b :: r, h => by
    rw [prs_cons, flat_len (c := cnt n) fun k hk => ?_]
    · have : (b :: r).length = n + 1 := by simpa using h
      rw [List.length_range, this]
      rfl
    · rw [List.length_map]
      refine prs_len n _ ?_
      have := len_er (List.mem_range.mp hk)
      have h2 : (b :: r).length = n + 1 := by simpa using h
      omega
theorem cnt_small : ∀ n : Nat, n ≤ 10 → cnt n ≤ 945 := by decide
/-! ### their order -/
def lexL : List Pr → List Pr → Bool
  | [], [] => false
  | [], _ :: _ => true
  | _ :: _, [] => false
  | p :: r, q :: s => if p = q then lexL r s else SrtO.lexB p q
theorem lexL_cons {p : Pr} {r s : List Pr} : lexL (p :: r) (p :: s) = lexL r s := by
  show (if p = p then lexL r s else _) = _
  rw [if_pos rfl]
theorem lexL_head {p q : Pr} {r s : List Pr} (h : SrtO.lexB p q = true) : lexL (p :: r) (q :: s) = true := by
  show (if p = q then lexL r s else _) = true
  by_cases e : p = q
  · subst e
    have := SrtO.lexB_iff.mp h
    omega
  · rw [if_neg e, h]
theorem prs_asc : ∀ (n : Nat) (xs : List Int), xs.length = n → xs.Pairwise (· < ·) → (prs' xs).Pairwise fun s t => lexL s t = true
  | 0, [], _, _ => List.pairwise_singleton _ _
  | n + 1, a :: r, h, hs => by
    have hl : r.length = n := by simpa using h
    have hr := (List.pairwise_cons.mp hs).2
    rw [prs_cons, List.pairwise_flatMap]
    refine ⟨fun k hk => ?_, ?_⟩
    · rw [List.pairwise_map]
      have hk := len_er (List.mem_range.mp hk)
      match n, hl with
      | 0, hl => omega
      | n + 1, hl =>
        refine (prs_asc n _ (by omega) (hr.sublist (List.eraseIdx_sublist ..))).imp fun h => ?_
        rw [lexL_cons]
        exact h
    · refine List.pairwise_lt_range.imp_of_mem fun {i j} hi hj lt => ?_
      intro x hx y hy
      obtain ⟨t, _, rfl⟩ := List.mem_map.mp hx
      obtain ⟨u, _, rfl⟩ := List.mem_map.mp hy
      have hi := List.mem_range.mp hi
      have hj := List.mem_range.mp hj
      refine lexL_head (SrtO.lexB_iff.mpr (.inr ⟨rfl, ?_⟩))
      show r.getD i 0 < r.getD j 0
      rw [List.getD_eq_getElem?_getD, List.getD_eq_getElem?_getD, List.getElem?_eq_getElem hi, List.getElem?_eq_getElem hj]
      exact List.pairwise_iff_getElem.mp hr i j hi hj lt
theorem lexL_asym : ∀ {s t : List Pr}, lexL s t = true → lexL t s = false
  | [], [], h => by cases h
  | [], _ :: _, _ => rfl
  | _ :: _, [], h => by cases h
  | p :: r, q :: s, h => by
    have h : (if p = q then lexL r s else SrtO.lexB p q) = true := h
    show (if q = p then lexL s r else SrtO.lexB q p) = false
    by_cases e : p = q
    · rw [if_pos e] at h
      rw [if_pos e.symm]
      exact lexL_asym h
    · rw [if_neg e] at h
      rw [if_neg (Ne.symm e)]
      have a := SrtO.lexB_iff.mp h
      refine SrtO.lexB_no.mpr ?_
      omega
theorem lexL_no {s t : List Pr} : lexL s t = false ↔ (lexL t s = true ∨ s = t) := by
  induction s generalizing t with
  | nil => cases t with
    | nil => simp [lexL]
    | cons q s => simp [lexL]
  | cons p r ih => cases t with
    | nil => simp [lexL]
    | cons q s =>
      by_cases e : p = q
      · subst e
        rw [lexL_cons, lexL_cons, ih]
        simp
      · have h1 : lexL (p :: r) (q :: s) = SrtO.lexB p q := if_neg e
        have h2 : lexL (q :: s) (p :: r) = SrtO.lexB q p := if_neg (Ne.symm e)
        rw [h1, h2, SrtO.lexB_no, SrtO.lexB_iff]
        have ne : ¬ (p.1 = q.1 ∧ p.2 = q.2) := fun z => e (Prod.ext z.1 z.2)
        have ne2 : (p :: r = q :: s) ↔ False := ⟨fun z => e (List.cons.inj z).1, False.elim⟩
        rw [ne2]
        constructor
        · intro z
          exact .inl (by omega)
        · rintro (z | z)
          · omega
          · exact z.elim
theorem lexL_trans : ∀ {s t u : List Pr}, lexL s t = true → lexL t u = true → lexL s u = true
  | [], [], _, h, _ => by cases h
  | [], _ :: _, [], _, h => by cases h
  | [], _ :: _, _ :: _, _, _ => rfl
  | _ :: _, [], _, h, _ => by cases h
  | _ :: _, _ :: _, [], _, h => by cases h
  | p :: r, q :: s, x :: v, h, k => by
    have h : (if p = q then lexL r s else SrtO.lexB p q) = true := h
    have k : (if q = x then lexL s v else SrtO.lexB q x) = true := k
    by_cases e : p = q
    · subst e
      rw [if_pos rfl] at h
      by_cases f : p = x
      · subst f
        rw [if_pos rfl] at k
        rw [lexL_cons]
        exact lexL_trans h k
      · rw [if_neg f] at k
        exact lexL_head k
    · rw [if_neg e] at h
      by_cases f : q = x
      · subst f
        exact lexL_head h
      · rw [if_neg f] at k
        have a := SrtO.lexB_iff.mp h
        have b := SrtO.lexB_iff.mp k
        exact lexL_head (SrtO.lexB_iff.mpr (by omega))
theorem lexL_swo : SrtO.Swo lexL := by
  refine ⟨fun x y h => lexL_asym h, fun x y z h1 h2 => ?_⟩
  rcases lexL_no.mp h1 with a | rfl
  · rcases lexL_no.mp h2 with b | rfl
    · exact lexL_asym (lexL_trans a b)
    · exact lexL_asym a
  · exact h2
/-! ### the law's way: level by level -/
abbrev Ent := List Pr × List Int
def stp (e : Ent) : List Ent := match e.2 with
  | [] => []
  | a :: r => (List.range r.length).map fun k => (e.1 ++ [(a, r.getD k 0)], r.eraseIdx k)
def itr : Nat → List Ent → List Ent
  | 0, l => l
  | s + 1, l => itr s (l.flatMap stp)
theorem itr_next : ∀ (s : Nat) (l : List Ent), itr (s + 1) l = (itr s l).flatMap stp
  | 0, _ => rfl
  | s + 1, l => itr_next s (l.flatMap stp)
theorem itr_app : ∀ (s : Nat) (l m : List Ent), itr s (l ++ m) = itr s l ++ itr s m
  | 0, _, _ => rfl
  | s + 1, l, m => by
    show itr s ((l ++ m).flatMap stp) = _
    rw [List.flatMap_append, itr_app]
    rfl
theorem itr_nil : ∀ s : Nat, itr s [] = []
  | 0 => rfl
  | s + 1 => itr_nil s
theorem itr_all (s : Nat) : ∀ l : List Ent, itr s l = l.flatMap fun e => itr s [e]
  | [] => itr_nil s
  | e :: l => by
    rw [show e :: l = [e] ++ l from rfl, itr_app, itr_all s l, List.flatMap_append]
    simp
theorem itr_prs : ∀ (m : Nat) (e : Ent), e.2.length = 2 * m → (itr m [e]).map (·.1) = (prs' e.2).map (e.1 ++ ·)
  | 0, (p, []), _ => by simp [itr, prs', ap]
  | 0, (p, _ :: _), h => by simp at h
  | m + 1, (p, []), h => by simp at h
  | m + 1, (p, a :: r), h => by
    have hl : r.length = 2 * m + 1 := by
      have : r.length + 1 = 2 * (m + 1) := h
      omega
    show (itr m ([(p, a :: r)].flatMap stp)).map (·.1) = (prs' (a :: r)).map (p ++ ·)
    rw [itr_all, prs_cons]
    have e1 : [(p, a :: r)].flatMap stp = (List.range r.length).map fun k => (p ++ [(a, r.getD k 0)], r.eraseIdx k) := by
      simp [stp]
    rw [e1, List.flatMap_map, List.map_flatMap, List.map_flatMap, List.flatMap_def, List.flatMap_def]
    congr 1
    refine List.map_congr_left fun k hk => ?_
    have hk := len_er (List.mem_range.mp hk)
    rw [itr_prs m _ (show (r.eraseIdx k).length = 2 * m by omega), List.map_map]
    refine List.map_congr_left fun t _ => ?_
    simp
def lvl (s : Nat) (xs : List Int) : List Ent := itr s [([], xs)]
theorem lvl_zero (xs : List Int) : lvl 0 xs = [([], xs)] := rfl
theorem lvl_next (s : Nat) (xs : List Int) : lvl (s + 1) xs = (lvl s xs).flatMap stp := itr_next s _
theorem lvl_prs {m : Nat} {xs : List Int} (h : xs.length = 2 * m) : (lvl m xs).map (·.1) = prs' xs := by
  unfold lvl
  rw [itr_prs m ([], xs) h]
  simp
theorem stp_of {e : Ent} {d : Ent} (h : d ∈ stp e) : d.2.length + 2 = e.2.length ∧ d.1.length = e.1.length + 1 := by
  obtain ⟨p, l⟩ := e
  cases l with
  | nil => simp [stp] at h
  | cons a r =>
    obtain ⟨k, hk, rfl⟩ := List.mem_map.mp (show d ∈ (List.range r.length).map fun k => (p ++ [(a, r.getD k 0)], r.eraseIdx k) from h)
    have hk := len_er (List.mem_range.mp hk)
    refine ⟨?_, by simp⟩
    show (r.eraseIdx k).length + 2 = r.length + 1
    omega
theorem lvl_lens : ∀ (s : Nat) (xs : List Int), ∀ e ∈ lvl s xs, e.2.length + 2 * s = xs.length ∧ e.1.length = s
  | 0, xs, e, h => by
    rw [lvl_zero, List.mem_singleton] at h
    subst h
    exact ⟨by simp, rfl⟩
  | s + 1, xs, e, h => by
    rw [lvl_next] at h
    obtain ⟨d, hd, he⟩ := List.mem_flatMap.mp h
    obtain ⟨a, b⟩ := lvl_lens s xs d hd
    obtain ⟨c, f⟩ := stp_of he
    omega
def cl (n : Nat) : Nat → Nat
  | 0 => 1
  | s + 1 => cl n s * (n - 2 * s - 1)
theorem stp_len (e : Ent) : (stp e).length = e.2.length - 1 := by
  obtain ⟨p, l⟩ := e
  cases l with
  | nil => rfl
  | cons a r => simp [stp]
theorem lvl_len : ∀ (s : Nat) (xs : List Int), (lvl s xs).length = cl xs.length s
  | 0, _ => rfl
  | s + 1, xs => by
    rw [lvl_next, flat_len (c := xs.length - 2 * s - 1) fun e he => ?_, lvl_len s xs]
    · rfl
    · rw [stp_len]
      have := (lvl_lens s xs e he).1
      omega
theorem cl_small : ∀ n : Nat, n ≤ 10 → ∀ s : Nat, s ≤ 5 → cl n s ≤ 945 := by decide
end Own

/-! sorted of tuples of pairs -/
namespace Own
open PySem PySem.Spec PyProof.Rows L2 SrtO PySem.SeqAt Ob
section
variable {prog : Program} {w : World} {A : Around} {s : Shared}
theorem pair_tup {h : Heap} {v : Value} {x y : Int} (p : Srt.IsPair h v x y) : ∃ a t u, v = .ref a ∧ h.IsTuple a #[.int x t, .int y u] := by
  obtain ⟨a, o, t, u, n, e, ho, hc, hd⟩ := p
  exact ⟨a, t, u, e, o, ho, hc, n, hd⟩
theorem tup_one {h : Heap} {a : Addr} {xs ys : Array Value} (p : h.IsTuple a xs) (q : h.IsTuple a ys) : xs = ys := by
  obtain ⟨o, ho, hc, n, hd⟩ := p
  obtain ⟨o', ho', hc', n', hd'⟩ := q
  rw [ho] at ho'
  cases ho'
  rw [hd] at hd'
  cases hd'
  rfl
theorem pair_eq {v u : Value} {x y x' y' : Int} (hu : A.units < cLine) (p : Srt.IsPair s.heap v x y) (q : Srt.IsPair s.heap u x' y') : EqAt A s v u (decide ((x, y) = (x', y'))) := by
  obtain ⟨a, t, t2, rfl, ha⟩ := pair_tup p
  obtain ⟨b, t', t2', rfl, hb⟩ := pair_tup q
  by_cases e : a = b
  · subst e
    have z := tup_one ha hb
    have z : x = x' ∧ y = y' := by
      have z := congrArg Array.toList z
      simp only [List.cons.injEq, Value.int.injEq] at z
      exact ⟨z.1.1, z.2.1.1⟩
    rw [z.1, z.2]
    rw [decide_eq_true rfl]
    exact EqAt.same _
  · have r := RcAt.tuples (e := fun j => if j = 0 then (x == x') else (y == y')) ha hb hu fun j h1 h2 => by
      match j, h1, h2 with
      | 0, _, _ => exact EqAt.int_int x t x' t'
      | 1, _, _ => exact EqAt.int_int y t2 y' t2'
    have f : ((List.range (min (#[Value.int x t, Value.int y t2] : Array Value).size (#[Value.int x' t', Value.int y' t2'] : Array Value).size)).all (fun j => if j = 0 then (x == x') else (y == y')) && (#[Value.int x t, Value.int y t2] : Array Value).size == (#[Value.int x' t', Value.int y' t2'] : Array Value).size) = decide ((x, y) = (x', y')) := by
      show ((List.range 2).all (fun j => if j = 0 then (x == x') else (y == y')) && (2 == 2)) = _
      have l2 : List.range 2 = [0, 1] := rfl
      rw [l2]
      by_cases c1 : x = x' <;> by_cases c2 : y = y' <;> simp [c1, c2]
    rw [f] at r
    exact EqAt.of_refs e r
theorem pair_lt {v u : Value} {x y x' y' : Int} (hu : A.units < cLine) (p : Srt.IsPair s.heap v x y) (q : Srt.IsPair s.heap u x' y') : RcOp .Lt A s v u (lexB (x, y) (x', y')) := by
  obtain ⟨a, t, t2, rfl, ha⟩ := pair_tup p
  obtain ⟨b, t', t2', rfl, hb⟩ := pair_tup q
  have r := RcOp.tuples_lt (e := fun j => if j = 0 then (x == x') else (y == y')) (r := fun j => if j = 0 then decide (x < x') else decide (y < y')) ha hb hu (fun j h1 h2 => by
      match j, h1, h2 with
      | 0, _, _ => exact EqAt.int_int x t x' t'
      | 1, _, _ => exact EqAt.int_int y t2 y' t2') fun j h1 h2 _ => by
      match j, h1, h2 with
      | 0, _, _ => exact RcOp.lt_int x x' t t'
      | 1, _, _ => exact RcOp.lt_int y y' t2 t2'
  have f : lexAt (fun j => if j = 0 then (x == x') else (y == y')) (fun j => if j = 0 then decide (x < x') else decide (y < y')) (decide ((#[Value.int x t, Value.int y t2] : Array Value).size < (#[Value.int x' t', Value.int y' t2'] : Array Value).size)) 0 (min (#[Value.int x t, Value.int y t2] : Array Value).size (#[Value.int x' t', Value.int y' t2'] : Array Value).size) = lexB (x, y) (x', y') := by
    show lexAt _ _ (decide (2 < 2)) 0 2 = _
    rw [lexAt_succ, lexAt_succ, lexAt_zero]
    unfold lexB
    by_cases c1 : x = x'
    · subst c1
      by_cases c2 : y = y'
      · subst c2
        simp
      · simp [c2]
    · simp [c1]
  rw [f] at r
  exact r
/-- v is a tuple of these pairs -/
def IsPP (h : Heap) (v : Value) (ps : List Pr) : Prop := ∃ a xs, v = .ref a ∧ h.IsTuple a xs ∧ xs.size = ps.length ∧ ∀ (i : Nat) (u : Value) (p : Pr), xs[i]? = some u → ps[i]? = some p → Srt.IsPair h u p.1 p.2
theorem IsPP.keeps {h h' : Heap} {v : Value} {ps : List Pr} (p : IsPP h v ps) (k : ∀ b o, h.get? b = some o → o.cls = .type "tuple" → h'.get? b = some o) : IsPP h' v ps := by
  obtain ⟨a, xs, e, ⟨o, ho, hc, hd⟩, hz, hp⟩ := p
  exact ⟨a, xs, e, ⟨o, k _ _ ho hc, hc, hd⟩, hz, fun i u p h1 h2 => (hp i u p h1 h2).keeps k⟩
/-- the items two by two -/
theorem kat_pairs {b : Bool} (hb : b = false) (hu : A.units < cLine) : ∀ (xs ys : List Value) (ps qs : List Pr) (i : Nat) (z : Bool), xs.length = ps.length → ys.length = qs.length →
    (∀ (j : Nat) (u : Value) (p : Pr), xs[j]? = some u → ps[j]? = some p → Srt.IsPair s.heap u p.1 p.2) → (∀ (j : Nat) (u : Value) (p : Pr), ys[j]? = some u → qs[j]? = some p → Srt.IsPair s.heap u p.1 p.2) → z = decide (ps.length < qs.length) →
    ps.length = qs.length → PySem.W.KatLex prog w A b z (fun r s' => s' = s ∧ r = lexL ps qs) (xs.zip ys) i s
  | [], [], [], [], i, z, _, _, _, _, hz, _ => PySem.W.kat_nil ⟨rfl, by rw [hz]; rfl⟩
  | x :: xs, y :: ys, p :: ps, q :: qs, i, z, h1, h2, hp, hq, hz, hl => by
    have px := hp 0 x p rfl rfl
    have qy := hq 0 y q rfl rfl
    refine PySem.W.kat_cons (pair_eq hu px qy prog w _ _ ?_)
    refine PySem.W.kat_go (fun e1 => ?_) (fun e1 => ?_)
    · have e : p = q := of_decide_eq_true e1
      subst e
      refine PySem.W.kat_yes ?_
      rw [lexL_cons]
      exact kat_pairs hb hu xs ys ps qs (i + 1) z (by simpa using h1) (by simpa using h2) (fun j u p' a c => hp (j + 1) u p' a c) (fun j u p' a c => hq (j + 1) u p' a c) (by rw [hz]; simp) (by simpa using hl)
    · have e : ¬ p = q := of_decide_eq_false e1
      subst hb
      refine PySem.W.kat_no ?_
      show wpAny _ A (oneLt' false x y) _ _ s
      have el : lexL (p :: ps) (q :: qs) = lexB p q := if_neg e
      rw [el]
      exact PySem.W.kat_one _ _ (pair_lt hu px qy prog w _ (PySem.W.BoolBack fun r s' => s' = s ∧ r = lexB p q) ⟨rfl, rfl⟩)
  | [], [], [], _ :: _, _, _, _, _, _, _, _, h => by simp at h
  | [], [], _ :: _, _, _, _, h, _, _, _, _, _ => by simp at h
  | [], _ :: _, _ :: _, _, _, _, h, _, _, _, _, _ => by simp at h
  | _ :: _, _, [], _, _, _, h, _, _, _, _, _ => by simp at h
  | [], _ :: _, [], [], _, _, _, h, _, _, _, _ => by simp at h
  | [], _ :: _, [], _ :: _, _, _, _, _, _, _, _, h => by simp at h
  | _ :: _, [], _ :: _, [], _, _, _, _, _, _, _, h => by simp at h
  | _ :: _, [], _ :: _, _ :: _, _, _, _, h, _, _, _, _ => by simp at h
  | _ :: _, _ :: _, _ :: _, [], _, _, _, h, _, _, _, _ => by simp at h
theorem pp_cmp {n : Nat} {vs : List Value} {k : Value → List Pr} (hu : A.units < cLine) (hp : ∀ v ∈ vs, IsPP s.heap v (k v) ∧ (k v).length = n) : Cmp prog w A s (tuples' false) (fun p => p.1 ∈ vs) (lt2 fun v u => lexL (k v) (k u)) := by
  intro p q hm hm'
  obtain ⟨h1, l1⟩ := hp _ hm
  obtain ⟨h2, l2⟩ := hp _ hm'
  show wpAny (model prog w) A (keyLt' (tuples' false) p.1 q.1) (fun r s' => s' = s ∧ r = lexL (k p.1) (k q.1)) (fun _ _ => False) s
  generalize k p.1 = ps at h1 l1 ⊢
  generalize k q.1 = qs at h2 l2 ⊢
  obtain ⟨a, xs, e, ⟨o, ho, hc, m, hd⟩, hz, hx⟩ := h1
  obtain ⟨b, ys, e', ⟨o', ho', hc', m', hd'⟩, hz', hy⟩ := h2
  rw [e, e']
  refine PySem.W.kat_lt ho hd ho' hd' ?_
  exact kat_pairs rfl hu xs.toList ys.toList ps qs 0 _ (by simpa using hz) (by simpa using hz') (fun j u p a c => hx j u p (by simpa using a) c) (fun j u p a c => hy j u p (by simpa using a) c) (by rw [hz, hz']) (l1.trans l2.symm)
theorem firsts_pp {h : Heap} {n : Nat} : ∀ {vs : List Value}, (∀ v ∈ vs, ∃ ps, IsPP h v ps ∧ ps.length = n + 1) → ∃ fs : List Value, PySem.W.KatTups h vs fs ∧ fs.length = vs.length ∧ ∀ f ∈ fs, ∃ a, f = .ref a ∧ ∃ xs, h.IsTuple a xs
  | [], _ => ⟨[], PySem.W.KatTups.nil, rfl, fun _ z => by simp at z⟩
  | v :: vs, hp => by
    obtain ⟨fs, h1, h2, h3⟩ := firsts_pp (vs := vs) fun u hu => hp u (List.mem_cons_of_mem _ hu)
    obtain ⟨ps, ⟨a, xs, rfl, ⟨o, ho, hc, m, hd⟩, hz, hx⟩, hl⟩ := hp v (List.mem_cons_self ..)
    have z0 : 0 < xs.size := by omega
    have p0 : 0 < ps.length := by omega
    have g : xs[0]? = some xs[0] := Array.getElem?_eq_getElem z0
    obtain ⟨c, t, u, e, hu⟩ := pair_tup (hx 0 _ _ g (List.getElem?_eq_getElem p0))
    refine ⟨xs[0] :: fs, PySem.W.KatTups.cons ho hc hd g h1, by simp [h2], fun f hf => ?_⟩
    rcases List.mem_cons.mp hf with rfl | hf
    · exact ⟨c, e, _, hu⟩
    · exact h3 f hf
theorem pp_sortable {n : Nat} {a : Addr} {vs : List Value} {k : Value → List Pr} (hu : A.units < cLine) (h0 : 0 < vs.length) (hp : ∀ v ∈ vs, IsPP s.heap v (k v) ∧ (k v).length = n + 1) (ha : ∀ o, s.heap.get? a = some o → o.cls ≠ .type "tuple") :
    SortableO prog w A s a vs fun v u => lexL (k v) (k u) := by
  intro h' keep
  have kt : ∀ b o, s.heap.get? b = some o → o.cls = .type "tuple" → h'.get? b = some o := fun b o e c => keep b o (fun z => by subst z; exact ha o e c) e
  have hp' : ∀ v ∈ vs, IsPP h' v (k v) ∧ (k v).length = n + 1 := fun v hm => ⟨(hp v hm).1.keeps kt, (hp v hm).2⟩
  obtain ⟨fs, h1, h2, h3⟩ := firsts_pp (n := n) fun v hm => ⟨k v, hp' v hm⟩
  refine ⟨tuples' false, fun Q E hq => ?_, pp_cmp hu hp'⟩
  refine PySem.W.kat_kind (T := .type "tuple") h1 (by omega) (fun f hm => ?_) (by rfl) ?_
  · obtain ⟨c, rfl, xs, o, ho, hc, _⟩ := h3 f hm
    intro A2 Q2 E2 s2 hs hq2
    exact wpAny_typeOf_ref (o := o) (hs _ _ ho) (by rw [hc]; exact hq2)
  · have e : (Value.type "tuple" != Value.type "tuple") = false := by first | decide +kernel | rfl | decide
    rw [e]
    exact hq
end
/-- v is a tuple of these pairs -/
def PPV (H : Hp) (v : V) (ps : List Pr) : Prop := ∃ a us, v = .ref a ∧ H a = some (.tup us) ∧ us.length = ps.length ∧ ∀ (i : Nat) (u : V) (p : Pr), us[i]? = some u → ps[i]? = some p → ∃ b, u = .ref b ∧ H b = some (.tup [.int p.1, .int p.2])
/-- a list of such -/
def PPL (H : Hp) (vs : List V) (l : List (List Pr)) : Prop := vs.length = l.length ∧ ∀ (i : Nat) (v : V) (ps : List Pr), vs[i]? = some v → l[i]? = some ps → PPV H v ps
theorem PPV.is {X : Cx} {pins : List (Addr × Obj)} {σ : L2.St} {H : Hp} {s : Shared} (I : Inv X pins σ H s) {v : V} {u : Value} {ps : List Pr} (r : RelV v u) (h : PPV H v ps) : IsPP s.heap u ps := by
  obtain ⟨a, us, rfl, ha, hl, hp⟩ := h
  obtain rfl : u = Value.ref a := r
  obtain ⟨hz, its, r2, o, ho, hc, n, hd⟩ := I.hok _ _ ha
  refine ⟨a, its.toArray, rfl, ⟨o, ho, hc, n, hd⟩, ?_, fun i u p h1 h2 => ?_⟩
  · rw [List.size_toArray, ← r2.length, hl]
  · have h1 : its[i]? = some u := by simpa using h1
    have lt : i < us.length := by
      rw [r2.length]
      exact (List.getElem?_eq_some_iff.mp h1).1
    obtain ⟨u', e1, rv⟩ := r2.get (List.getElem?_eq_getElem lt)
    rw [h1] at e1
    cases e1
    obtain ⟨b, e, hb⟩ := hp i _ p (List.getElem?_eq_getElem lt) h2
    rw [e] at rv
    obtain rfl : u = Value.ref b := rv
    obtain ⟨_, its2, r3, o2, ho2, hc2, n2, hd2⟩ := I.hok _ _ hb
    obtain ⟨u1, u2, rfl, ri, rj⟩ := vals2 r3
    obtain ⟨t1, rfl⟩ := ri
    obtain ⟨t2, rfl⟩ := rj
    exact ⟨b, o2, t1, t2, n2, rfl, ho2, hc2, hd2⟩
/-- sorted(xs), xs a list of tuples of pairs that is in order already -/
def rSortedPP (K : PySem.W.Frag) : List V → Hp → VK → Prop := fun vs H Q => ∃ (a : Addr) (xs : List V) (l : List (List Pr)) (n : Nat), vs = [V.ref a] ∧ SqL K H a xs ∧ PPL H xs l ∧ (∀ ps ∈ l, ps.length = n + 1 ∨ l.length < 2) ∧ l.Pairwise (fun s t => lexL s t = true) ∧
  ∀ p, H p = none → Q (.ref p) (upd H p (.lst xs))
section
variable {X : Cx}
/-- which pairs an address stands for -/
noncomputable def ppOf (H : Hp) (v : V) : List Pr := open Classical in if h : ∃ ps, PPV H v ps then h.choose else []
theorem PPV.one {H : Hp} {v : V} {ps qs : List Pr} (h : PPV H v ps) (k : PPV H v qs) : ps = qs := by
  obtain ⟨a, us, rfl, ha, hl, hp⟩ := h
  obtain ⟨b, us', e, hb, hl', hp'⟩ := k
  cases e
  rw [ha] at hb
  cases hb
  refine List.ext_getElem? fun i => ?_
  by_cases lt : i < us.length
  · have h1 : i < ps.length := by omega
    have h2 : i < qs.length := by omega
    rw [List.getElem?_eq_getElem h1, List.getElem?_eq_getElem h2]
    obtain ⟨b, e1, z1⟩ := hp i _ _ (List.getElem?_eq_getElem lt) (List.getElem?_eq_getElem h1)
    obtain ⟨b', e2, z2⟩ := hp' i _ _ (List.getElem?_eq_getElem lt) (List.getElem?_eq_getElem h2)
    rw [e1] at e2
    cases e2
    rw [z1] at z2
    have z := Option.some.inj z2
    simp only [HO.tup.injEq, List.cons.injEq, V.int.injEq] at z
    exact congrArg some (Prod.ext z.1 z.2.1)
  · rw [List.getElem?_eq_none (by omega), List.getElem?_eq_none (by omega)]
theorem ppOf_eq {H : Hp} {v : V} {ps : List Pr} (h : PPV H v ps) : ppOf H v = ps := by
  unfold ppOf
  have e : ∃ ps, PPV H v ps := ⟨ps, h⟩
  rw [dif_pos e]
  exact e.choose_spec.one h
theorem PPL.mem {H : Hp} {vs : List V} {l : List (List Pr)} (h : PPL H vs l) {v : V} (hv : v ∈ vs) : ∃ ps ∈ l, PPV H v ps := by
  obtain ⟨i, hi, e⟩ := List.getElem_of_mem hv
  have hl : i < l.length := by rw [← h.1]; exact hi
  exact ⟨l[i], List.getElem_mem hl, h.2 i v _ (by rw [List.getElem?_eq_getElem hi, e]) (List.getElem?_eq_getElem hl)⟩
theorem cr_sortedPP {k : Nat} (hr : Room (k + 4) X.A) : CallR X (.builtin "sorted") (rSortedPP X.K) := by
  intro pins s σ H vs us Q I r h
  obtain ⟨a, xs, l, n, rfl, hs, hx, hn, asc, q⟩ := h
  obtain ⟨its, rv, hl, hz⟩ := I.list hs
  obtain ⟨u, rfl, ru⟩ := vals1 r
  obtain rfl : u = Value.ref a := ru
  have refs : ∀ x ∈ xs, ∃ t, x = V.ref t := fun x m => by
    obtain ⟨ps, _, t, _, e, _⟩ := hx.mem m
    exact ⟨t, e⟩
  obtain ⟨e1, e2⟩ := refs_back rv refs
  have back : ∀ v ∈ its, ∃ ps ∈ l, PPV H (backV v) ps ∧ RelV (backV v) v := fun v hv => by
    have hm : backV v ∈ xs := by rw [e1]; exact List.mem_map.mpr ⟨v, hv, rfl⟩
    obtain ⟨ps, h1, h2⟩ := hx.mem hm
    obtain ⟨t, rfl⟩ := e2 v hv
    exact ⟨ps, h1, h2, rfl⟩
  have hu : X.A.in1.in1.units < cLine := (hr.in1.in1).units0
  have lits : its.length = xs.length := by rw [e1, List.length_map]
  have srt : SrtO.Srtd (fun v u : Value => lexL (ppOf H (backV v)) (ppOf H (backV u))) its := by
    refine List.pairwise_iff_getElem.mpr fun i j hi hj lt => ?_
    have at_ : ∀ (i : Nat) (hi : i < its.length), ∃ hl : i < l.length, ppOf H (backV its[i]) = l[i] := fun i hi => by
      have hxi : i < xs.length := by omega
      have hl : i < l.length := by rw [← hx.1]; exact hxi
      have ex : xs[i]? = some (backV its[i]) := by
        rw [e1, List.getElem?_map, List.getElem?_eq_getElem hi]
        rfl
      exact ⟨hl, ppOf_eq (hx.2 i _ _ ex (List.getElem?_eq_getElem hl))⟩
    obtain ⟨l1, a1⟩ := at_ i hi
    obtain ⟨l2, a2⟩ := at_ j hj
    show lexL (ppOf H (backV its[j])) (ppOf H (backV its[i])) = false
    rw [a1, a2]
    exact lexL_asym (List.pairwise_iff_getElem.mp asc i j l1 l2 lt)
  have O : SrtO.Swo (fun v u : Value => lexL (ppOf H (backV v)) (ppOf H (backV u))) := ⟨fun x y h => lexL_swo.asym _ _ h, fun x y z h1 h2 => lexL_swo.tr _ _ _ h1 h2⟩
  refine SrtO.sorted_ord O hl.isList (by rw [← rv.length]; exact hz) (fun h2 h₁ b hb kk => ?_) fun out hs2 hb => ?_
  · have kt : ∀ b o, s.heap.get? b = some o → o.cls = .type "tuple" → h₁.get? b = some o := fun b o e _ => (kk b o e).2
    refine pp_sortable (n := n) hu (by omega) (fun v hm => ?_) fun o e => ?_
    · obtain ⟨ps, h1, h2', h3⟩ := back v hm
      rw [ppOf_eq h2']
      refine ⟨(h2'.is I h3).keeps kt, ?_⟩
      rcases hn ps h1 with z | z
      · exact z
      · have := hx.1
        omega
    · have e' : some o = some (seqObj "list" its.toArray 0) := e.symm.trans hb
      cases e'
      intro c
      exact absurd (Value.type.inj c) (by decide)
  · have eo : out = its := SrtO.stb_uniq O hs2 srt hb
    subst eo
    obtain ⟨n2, hat⟩ := sortedAll_at s.heap out out.toArray
    refine ⟨.ref (s.heap.objs.size + 1), upd H (s.heap.objs.size + 1) (.lst xs), I.laid (t' := s.toks) (fun b o e => sortedAll_old e) (Nat.le_succ _) ⟨hz, out, n2, rv, hat⟩, rfl, q _ (I.hok.fresh (Nat.le_succ _))⟩
end
end Own

namespace Own
open PySem PySem.Spec PyProof.Rows L2
/-! ### what stays: tuples -/
def Tups (H H' : Hp) : Prop := ∀ b xs, H b = some (.tup xs) → H' b = some (.tup xs)
theorem Same.tups {H H' : Hp} (s : Same H H') : Tups H H' := fun b xs e => s b _ e
theorem Tups.trans {H H1 H2 : Hp} (a : Tups H H1) (b : Tups H1 H2) : Tups H H2 := fun c xs e => b c xs (a c xs e)
theorem tups_lst {H : Hp} {D : Addr} {l : List V} {o : HO} (e : H D = some (.lst l)) : Tups H (upd H D o) := fun b xs z => by
  have ne : b ≠ D := fun q => by rw [q, e] at z; cases z
  rw [upd_ne ne]
  exact z
theorem PPV.tups {H H' : Hp} {v : V} {ps : List Pr} (h : PPV H v ps) (t : Tups H H') : PPV H' v ps := by
  obtain ⟨a, us, e, ha, hl, hp⟩ := h
  refine ⟨a, us, e, t _ _ ha, hl, fun i u p h1 h2 => ?_⟩
  obtain ⟨b, e, hb⟩ := hp i u p h1 h2
  exact ⟨b, e, t _ _ hb⟩
theorem PPL.tups {H H' : Hp} {vs : List V} {l : List (List Pr)} (h : PPL H vs l) (t : Tups H H') : PPL H' vs l := ⟨h.1, fun i v ps h1 h2 => (h.2 i v ps h1 h2).tups t⟩
theorem PPL.nil {H : Hp} : PPL H [] [] := ⟨rfl, fun i v ps h => by simp at h⟩
theorem PPL.snoc {H : Hp} {vs : List V} {l : List (List Pr)} {v : V} {ps : List Pr} (h : PPL H vs l) (p : PPV H v ps) : PPL H (vs ++ [v]) (l ++ [ps]) := by
  refine ⟨by rw [List.length_append, List.length_append, h.1]; rfl, fun i u qs h1 h2 => ?_⟩
  by_cases lt : i < vs.length
  · rw [List.getElem?_append_left lt] at h1
    rw [List.getElem?_append_left (by rw [← h.1]; exact lt)] at h2
    exact h.2 i u qs h1 h2
  · rw [List.getElem?_append_right (by omega)] at h1
    rw [List.getElem?_append_right (by rw [← h.1]; omega), ← h.1] at h2
    cases e : i - vs.length with
    | zero =>
      rw [e] at h1 h2
      obtain rfl : v = u := Option.some.inj h1
      obtain rfl : ps = qs := Option.some.inj h2
      exact p
    | succ k =>
      rw [e] at h1
      simp at h1
theorem PPV.cons {H : Hp} {a b c : Addr} {us : List V} {p : Pr} {ps : List Pr} {v : V} (hb : H b = some (.tup [.int p.1, .int p.2])) (h : PPV H v ps) (hv : v = .ref a) (ha : H a = some (.tup us)) (hc : H c = some (.tup (.ref b :: us))) : PPV H (.ref c) (p :: ps) := by
  obtain ⟨a', us', e, ha', hl, hp⟩ := h
  rw [hv] at e
  cases e
  rw [ha] at ha'
  cases ha'
  refine ⟨c, .ref b :: us, rfl, hc, by simp [hl], fun i u q h1 h2 => ?_⟩
  cases i with
  | zero =>
    obtain rfl : V.ref b = u := Option.some.inj h1
    obtain rfl : p = q := Option.some.inj h2
    exact ⟨b, rfl, hb⟩
  | succ i => exact hp i u q (by simpa using h1) (by simpa using h2)
section
variable {K : PySem.W.Frag} {H : Hp}
/-- t + u, whatever is empty -/
theorem catA_by {a b : Addr} {xs ys : List V} {Q : VK} (ha : SqT K H a xs) (hb : SqT K H b ys) (hl : xs.length + ys.length ≤ sizeLine) (h : ∀ c H', Same H H' → SqT K H' c (xs ++ ys) → Q (.ref c) H') : rCatA K (.ref a) (.ref b) H Q := by
  refine ⟨a, b, xs, ys, rfl, rfl, ha, hb, hl, fun e => ?_, fun _ e => ?_, fun _ _ p np => h p _ (same_upd np) (.inl (.inl upd_same))⟩
  · subst e
    exact h b H (Same.refl H) hb
  · subst e
    exact h a H (Same.refl H) (by rw [List.append_nil]; exact ha)
end
theorem catA_tup {K : PySem.W.Frag} {H : Hp} {a b : Addr} {xs ys : List V} {Q : VK} (ha : H a = some (.tup xs)) (hb : H b = some (.tup ys)) (hl : xs.length + ys.length ≤ sizeLine) (h : ∀ c H', Same H H' → H' c = some (.tup (xs ++ ys)) → Q (.ref c) H') : rCatA K (.ref a) (.ref b) H Q := by
  refine ⟨a, b, xs, ys, rfl, rfl, .inl (.inl ha), .inl (.inl hb), hl, fun e => ?_, fun _ e => ?_, fun _ _ p np => h p _ (same_upd np) upd_same⟩
  · subst e
    exact h b H (Same.refl H) hb
  · subst e
    exact h a H (Same.refl H) (by rw [List.append_nil]; exact ha)
theorem SqT.same {K : PySem.W.Frag} {H H' : Hp} {a : Addr} {xs : List V} (s : Same H H') (h : SqT K H a xs) : SqT K H' a xs := by
  rcases h with (h | ⟨o, h⟩) | h
  · exact .inl (.inl (s _ _ h))
  · exact .inl (.inr ⟨o, s _ _ h⟩)
  · exact .inr h
/-- the inner walk of two, over a list -/
theorem in_list {K : PySem.W.Frag} {a : Addr} {xs : List V} {g1 : TG} {tt1 : TT} {te : TE} {vs1 : List Nat} {σ : L2.St} {H4 : Hp} {D : Addr} {N : Hp → Prop} (P2 : Nat → Hp → Prop) (h0 : P2 0 H4) (hl : ∀ j H, j ≤ xs.length → P2 j H → SqL K H a xs)
    (hs : ∀ j x H, xs[j]? = some x → P2 j H → g1 x (wipe σ vs1) H fun σ3 H5 => wipe σ3 vs1 = wipe σ vs1 ∧ tt1 σ3 H5 fun b H6 => if b = true then te σ3 H6 fun y H7 => ∃ acc, H7 D = some (.lst acc) ∧ acc.length < sizeLine ∧ P2 (j + 1) (upd H7 D (.lst (acc ++ [y]))) else P2 (j + 1) H6) (hd : ∀ H, P2 xs.length H → N H) :
    ∃ W1 : Nat → Nat → Hp → Prop, (∃ m, W1 0 m H4) ∧ ∀ j k H, W1 j k H →
        ((Itl K a).stop j H ∧ N H) ∨ ((Itl K a).go j H ∧ ∃ Nx1 : Hp → Prop, (∀ H', Nx1 H' → ∃ k', k' < k ∧ W1 (j + 1) k' H') ∧ ∀ x H', (Itl K a).yld j H x H' → g1 x (wipe σ vs1) H' fun σ3 H5 => wipe σ3 vs1 = wipe σ vs1 ∧ tt1 σ3 H5 fun b H6 =>
          if b = true then te σ3 H6 fun y H7 => ∃ acc, H7 D = some (.lst acc) ∧ acc.length < sizeLine ∧ Nx1 (upd H7 D (.lst (acc ++ [y]))) else Nx1 H6) := by
  refine ⟨fun i m H => m = xs.length - i ∧ i ≤ xs.length ∧ P2 i H, ⟨xs.length, by simp, Nat.zero_le _, h0⟩, ?_⟩
  rintro i m H ⟨rfl, hi, p⟩
  have q := hl i H hi p
  by_cases hlt : i < xs.length
  · refine .inr ⟨⟨xs, xs[i], q, by simp [hlt]⟩, P2 (i + 1), fun H' p' => ⟨xs.length - (i + 1), by omega, rfl, hlt, p'⟩, fun x H' y => ?_⟩
    obtain ⟨e, y⟩ := y
    subst e
    exact hs i x _ (y xs q) p
  · have e : i = xs.length := by omega
    subst e
    exact .inl ⟨⟨xs, q, Nat.le_refl _⟩, hd H p⟩
theorem six_one {n : Nat} (h : 0 < n) {d : Nat} : HT.sIx n d (some 1) = 1 := by
  have z := HT.sIx_nat n d 1
  rw [show ((1 : Nat) : Int) = 1 from rfl] at z
  rw [z]
  omega
theorem six_at {n i d : Nat} {v : Int} (e : v = (i : Int)) (h : i ≤ n) : HT.sIx n d (some v) = i := by
  rw [e, HT.sIx_nat]
  omega
theorem cut_mid {a : Int} {r : List Int} {i : Nat} (h : i ≤ r.length) : cutV ((a :: r).map V.int) (some 1) (some (1 + (i : Int))) = (r.take i).map V.int := by
  unfold cutV
  rw [six_one (by simp), six_at (i := i + 1) (by omega) (by simp; omega)]
  simp [List.map_take]
theorem cut_end {a : Int} {r : List Int} {i : Nat} (h : i < r.length) : cutV ((a :: r).map V.int) (some (1 + (i : Int) + 1)) none = (r.drop (i + 1)).map V.int := by
  unfold cutV
  rw [six_at (i := i + 2) (by omega) (by simp; omega), HT.sIx_none]
  simp only [List.map_cons, List.drop_succ_cons, List.length_cons, List.length_map]
  rw [List.take_of_length_le (by rw [List.length_drop, List.length_map]; omega), List.map_drop]
theorem prs_half : ∀ (n : Nat) (xs : List Int), xs.length = n → ∀ ps ∈ prs' xs, 2 * ps.length = n
  | 0, [], _, ps, h => by
    rw [prs_nil, List.mem_singleton] at h
    subst h
    rfl
  | 1, [a], _, ps, h => by simp [prs', ap] at h
  | n + 2, a :: r, hl, ps, h => by
    rw [prs_cons] at h
    obtain ⟨k, hk, h⟩ := List.mem_flatMap.mp h
    obtain ⟨t, ht, rfl⟩ := List.mem_map.mp h
    have hk := len_er (List.mem_range.mp hk)
    have hr : r.length = n + 1 := by simpa using hl
    have := prs_half n (r.eraseIdx k) (by omega) t ht
    simp
    omega
/-! ### the blocks of all pairings -/
def blk (a : Int) (r : List Int) (k : Nat) : List (List Pr) := (prs' (r.eraseIdx k)).map fun t => (a, r.getD k 0) :: t
def dn (a : Int) (r : List Int) (i : Nat) : List (List Pr) := (List.range i).flatMap (blk a r)
theorem dn_succ (a : Int) (r : List Int) (i : Nat) : dn a r (i + 1) = dn a r i ++ blk a r i := by
  unfold dn
  rw [List.range_succ, List.flatMap_append]
  simp
theorem dn_all (a : Int) (r : List Int) : dn a r r.length = prs' (a :: r) := (prs_cons a r).symm
theorem dn_le {a : Int} {r : List Int} {i j : Nat} (h : i ≤ j) : (dn a r i).length ≤ (dn a r j).length := by
  induction h with
  | refl => exact Nat.le_refl _
  | step _ ih =>
    rw [dn_succ, List.length_append]
    omega
theorem dn_small {a : Int} {r : List Int} {i : Nat} (h : i < r.length) (hl : (a :: r).length ≤ 10) : (dn a r i).length + (blk a r i).length ≤ 945 := by
  have h1 : (dn a r (i + 1)).length ≤ (dn a r r.length).length := dn_le h
  rw [dn_succ, List.length_append, dn_all, prs_len _ _ rfl] at h1
  exact Nat.le_trans h1 (cnt_small _ hl)
theorem er_app {r : List Int} {i : Nat} : r.eraseIdx i = r.take i ++ r.drop (i + 1) := List.eraseIdx_eq_take_drop_succ ..
end Own

namespace Own
open PySem PySem.Spec PyProof.Rows L2
def hole (H : Hp) (M : Addr) : Hp := fun c => if c = M then none else H c
theorem hole_at {H : Hp} {M : Addr} : hole H M M = none := if_pos rfl
theorem hole_ne {H : Hp} {M c : Addr} (h : c ≠ M) : hole H M c = H c := if_neg h
theorem upd_hole {H : Hp} {M : Addr} {o : HO} : upd (hole H M) M o = upd H M o := by
  funext c
  by_cases h : c = M
  · rw [h, upd_same, upd_same]
  · rw [upd_ne h, upd_ne h, hole_ne h]
theorem same_hole {H H' : Hp} {M : Addr} (n : H M = none) (s : Same H H') : Same H (hole H' M) := fun b o e => by
  rw [hole_ne fun z => by rw [z, n] at e; cases e]
  exact s b o e
theorem unhole {H H' : Hp} {L : Addr} (s : Same H (hole H' L)) : Same H H' := fun b o e => by
  have h := s b o e
  by_cases n : b = L
  · rw [n, hole_at] at h; cases h
  · rw [hole_ne n] at h; exact h
theorem hole_mono {H H' : Hp} {L : Addr} (s : Same H H') : Same (hole H L) (hole H' L) := fun b o e => by
  by_cases n : b = L
  · rw [n, hole_at] at e; cases e
  · rw [hole_ne n] at e ⊢; exact s b o e
theorem hole_upd {H : Hp} {L : Addr} {o : HO} : hole (upd H L o) L = hole H L := by
  funext c
  by_cases h : c = L
  · rw [h, hole_at, hole_at]
  · rw [hole_ne h, hole_ne h, upd_ne h]
theorem upd_self {H : Hp} {M : Addr} {o : HO} (h : H M = some o) : upd H M o = H := by
  funext c
  by_cases e : c = M
  · rw [e, upd_same, h]
  · rw [upd_ne e]
/-- within a comprehension: the list l is made at D so far -/
def LcI (H0 : Hp) (D : Addr) (l : List V) (H' : Hp) : Prop := ∃ Hc, Same H0 Hc ∧ Hc D = none ∧ H' = upd Hc D (.lst l)
theorem LcI.start {H0 : Hp} {D : Addr} (n : H0 D = none) : LcI H0 D [] (upd H0 D (.lst [])) := ⟨H0, Same.refl _, n, rfl⟩
theorem LcI.same {H0 : Hp} {D : Addr} {l : List V} {H' : Hp} (h : LcI H0 D l H') : Same H0 H' := by
  obtain ⟨Hc, s, n, rfl⟩ := h
  exact s.trans (same_upd n)
theorem LcI.at_ {H0 : Hp} {D : Addr} {l : List V} {H' : Hp} (h : LcI H0 D l H') : H' D = some (.lst l) := by
  obtain ⟨Hc, s, n, rfl⟩ := h
  exact upd_same
theorem LcI.keep {H0 : Hp} {D : Addr} {l : List V} {H' H4 : Hp} (n0 : H0 D = none) (h : LcI H0 D l H') (s : Same H' H4) : LcI H0 D l H4 := by
  have e := s _ _ h.at_
  exact ⟨hole H4 D, same_hole n0 (h.same.trans s), hole_at, by rw [upd_hole, upd_self e]⟩
theorem LcI.put {H0 : Hp} {D : Addr} {l m : List V} {H' H4 : Hp} (n0 : H0 D = none) (h : LcI H0 D l H') (s : Same H' H4) : LcI H0 D m (upd H4 D (.lst m)) :=
  ⟨hole H4 D, same_hole n0 (h.same.trans s), hole_at, by rw [upd_hole]⟩
theorem LcI.nn {H0 : Hp} {D : Addr} {l : List V} {H' : Hp} {b : Addr} (h : LcI H0 D l H') (n : H' b = none) : b ≠ D := fun z => by
  rw [z, h.at_] at n
  cases n

def spAP (K : PySem.W.Frag) (d : Nat) : Sp := fun vs H Q _ => ∃ (p : Addr) (xs : List Int), vs = [.ref p] ∧ SqT K H p (xs.map V.int) ∧ xs.length ≤ 2 * d + 1 ∧ xs.length ≤ 10 ∧ ∀ H' c us, Same H H' → H c = none → H' c = some (.lst us) → PPL H' us (prs' xs) → Q (.ref c) H'
section
variable {X : Cx}
theorem sl_tupK {K : PySem.W.Frag} (hK : X.K = K) : SlR X (rSlT K) := by
  subst hK
  exact sl_tup
theorem pi_listK {K : PySem.W.Frag} (hK : X.K = K) {tg l : Expr} {tl : TE} (hl : PE X l tl) : PI X tg l (iList K tl) := by
  subst hK
  exact pi_list hl
theorem op_catAK {K : PySem.W.Frag} (hK : X.K = K) : OpR X (binaryOp .Add) (rCatA K) := by
  subst hK
  exact op_catA
end
section
variable {P : Program} {w : World} {K : PySem.W.Frag} {mg : Str → Option Value} {base : Heap} {C : Addr}
set_option maxHeartbeats 0 in
theorem all_body {f : Addr} {fd : FuncData} {k : Nat} {sp : Sp} {d : Nat} (D_s : Df K mg "all_paired" s_all_paired ["pins"] f fd) (T : Bi mg) (G_s : FnOk P w K mg base CX0 k f fd ["pins"] sp)
    (hsp : ∀ (xs : List Int) (p : Addr) (H : Hp) (Q : VK), SqT K H p (xs.map V.int) → xs.length + 2 ≤ 2 * d + 1 → xs.length ≤ 10 → (∀ H' c us, Same H H' → H c = none → H' c = some (.lst us) → PPL H' us (prs' xs) → Q (.ref c) H') → sp [.ref p] H Q E0) :
    FnOk P w K mg base CX0 (k + 1) f fd ["pins"] (spAP K d) := by
  refine D_s.F.ok sc_all_paired (fun vs H Q E h => ?_) (fun cdv A outer s H vs Q E hr h => ?_)
  · obtain ⟨p, xs, rfl, _⟩ := h
    rfl
  · obtain ⟨p, xs, rfl, hp, hd, hl, q⟩ := h
    refine ⟨_, (pss_cons (ps_if (pt_cmpR op_eq (pe_callB call_len_seq (by rfl) T.b_len PySem.boot_len (pa_cons (pv 0) pa_nil)) pe_int (nomark _)) (pss_one (ps_ret (pe_lst (pa_cons (pe_tup pa_nil) pa_nil)))) pss_nil)
        (pss_one (ps_ret (pe_lc2 (own := [("at", 1), ("rest", 2)]) (vs1 := [2]) (g := gName 1) (tt := tYes) (g1 := gName 2) (tt1 := tYes) rfl sc_all_paired.nd (pi_range2 (by rfl) T.b_range (pa_cons pe_int (pa_cons (pe_callB call_len_seq (by rfl) T.b_len PySem.boot_len (pa_cons (pv 0) pa_nil)) pa_nil))) (blkOk_by (own := [("at", 1), ("rest", 2)]) (N := ["pins", "at", "rest"]) (sc := defScope s_all_paired) (by decide +kernel)) (by decide) (fun _ _ _ _ _ => pg_name (i := 1) sc_all_paired.nd rfl (.inl rfl)) (fun _ _ _ _ _ => pts_nil) (fun _ _ _ _ _ => (show PI _ _ _ (iList K (tCall sp [] E0 (tCons (tOp (rCatA K) (tSl (rSlT K) (tVar 0) (tPart (tC (.int 1))) (tPart (tVar 1))) (tSl (rSlT K) (tVar 0) (tPart (tOp (rI0 fun i j => .int (i + j)) (tVar 1) (tC (.int 1)))) tNoPart)) tNil))) from pi_list (pe_call G_s hr (by rfl) D_s.g D_s.F.kp D_s.b .nil pass0 (pa_cons (pe_op (r := rCatA K) (op_catAK rfl) (pe_slice (r := rSlT K) (sl_tupK rfl) (pv 0) (po_some pe_int) (po_some (pv 1))) (pe_slice (r := rSlT K) (sl_tupK rfl) (pv 0) (po_some (pe_op op_add (pv 1) pe_int)) po_none)) pa_nil)))) (fun _ _ _ _ _ => pg_name (i := 2) sc_all_paired.nd rfl (.inl rfl)) (fun _ _ _ _ _ => pts_nil) (fun _ _ _ _ _ => (pe_op (r := rCatA K) (op_catAK rfl) (pe_tup (pa_cons (pe_tup (pa_cons (pe_ix (r := rIxT K) ix_tup (pv 0) pe_int (fun _ _ => rfl)) (pa_cons (pe_ix (r := rIxT K) ix_tup (pv 0) (pv 1) (fun _ _ => rfl)) pa_nil))) pa_nil)) (pv 2))))))), ?_⟩
    refine ⟨_, rfl, p, _, rfl, .inr hp, rfl, _, rfl, ite2 (fun e => ?_) (fun e => ?_)⟩
    · have e0 : ((xs.map V.int).length : Int) = 0 := by
        have z := of_decide_eq_true e
        simpa using z
      have ex : xs = [] := by
        rw [List.length_map] at e0
        exact List.length_eq_zero_iff.mp (by omega)
      subst ex
      refine ⟨by show 0 ≤ sizeLine; decide, fun t nt => ⟨by show 1 ≤ sizeLine; decide, fun c nc => ?_⟩⟩
      have s1 := same_upd (o := .tup []) nt
      have s2 := same_upd (o := .lst [.ref t]) nc
      refine q _ c [.ref t] (s1.trans s2) ?_ upd_same ⟨rfl, fun i v ps h1 h2 => ?_⟩
      · exact s1.free nc
      · cases i with
        | succ i => simp at h1
        | zero =>
          obtain rfl : V.ref t = v := Option.some.inj h1
          obtain rfl : [] = ps := Option.some.inj h2
          exact ⟨t, [], rfl, s2 _ _ upd_same, rfl, fun i u p h => by simp at h⟩
    · have ne : xs ≠ [] := fun z => by
        subst z
        exact e (decide_eq_true rfl)
      obtain ⟨a, r, rfl⟩ : ∃ a r, xs = a :: r := by
        cases xs with
        | nil => exact absurd rfl ne
        | cons a r => exact ⟨a, r, rfl⟩
      have hl2 : r.length + 1 ≤ 10 := hl
      have lenE : (((a :: r).map V.int).length : Int) = (r.length : Int) + 1 := by simp
      refine ⟨_, rfl, p, _, rfl, .inr hp, 1, _, rfl, ⟨by decide, by decide, by rw [lenE]; omega, by rw [lenE]; omega⟩, fun D nD => ?_⟩
      rw [lenE]
      rw [show (((r.length : Int) + 1) - 1).toNat = r.length by omega]
      refine lc2_range (lo := 1) (n := r.length) (fun i H' => ∃ ws, LcI H D ws H' ∧ PPL H' ws (dn a r i)) ⟨[], LcI.start nD, PPL.nil⟩ (fun i H1 hi pv => ?_) (fun H1 pv => ?_)
      · obtain ⟨ws, L1, p1'⟩ := pv
        have hp1 : SqT K H1 p ((a :: r).map V.int) := SqT.same L1.same hp
        refine ⟨rfl, _, rfl, 1, rfl, _, rfl, _, rfl, p, _, rfl, hp1, ?_, fun p1 n1 => ?_⟩
        · intro z
          rw [six_one (by simp)] at z
          exact absurd z.1 (by decide)
        rw [cut_mid (Nat.le_of_lt hi)]
        have s1 := same_upd (o := .tup ((r.take i).map V.int)) n1
        refine ⟨_, rfl, _, rfl, _, _, rfl, rfl, _, rfl, p, _, rfl, SqT.same s1 hp1, ?_, fun p2 n2 => ?_⟩
        · intro z
          rw [six_at (i := i + 2) (by omega) (by simp; omega)] at z
          exact absurd z.1 (by omega)
        rw [cut_end hi]
        have s2 := same_upd (o := .tup ((r.drop (i + 1)).map V.int)) n2
        have lenS : ((r.take i).map V.int).length + ((r.drop (i + 1)).map V.int).length ≤ sizeLine := by
          have : 10 ≤ sizeLine := by decide
          rw [List.length_map, List.length_map, List.length_take, List.length_drop]
          omega
        refine catA_by (.inl (.inl (s2 _ _ upd_same))) (.inl (.inl upd_same)) lenS fun p3 H2 s3 hp3 => ?_
        rw [← List.map_append, ← er_app] at hp3
        have s03 := (s1.trans s2).trans s3
        have L3 := L1.keep nD s03
        have er := len_er hi
        refine hsp (r.eraseIdx i) p3 H2 _ hp3 (by have : r.length + 1 ≤ 2 * d + 1 := hd; omega) (by omega) fun H3 c us s4 nc hc hus => ?_
        have L4 := L3.keep nD s4
        have cD : c ≠ D := fun z => by
          have := L3.at_
          rw [← z, nc] at this
          cases this
        refine ⟨c, rfl, ⟨us, .inl (.inl hc)⟩, ?_⟩
        refine in_list (xs := us) (fun j H' => ∃ ws, LcI H D ws H' ∧ PPL H' ws (dn a r i ++ (blk a r i).take j) ∧ H' c = some (.lst us) ∧ PPL H' us (prs' (r.eraseIdx i))) ⟨ws, L4, ?_, hc, hus⟩ (fun j H' _ z => by obtain ⟨_, _, _, z, _⟩ := z; exact .inl (.inl z)) (fun j x H5 hx z => ?_) (fun H5 z => ?_)
        · rw [List.take_zero, List.append_nil]
          exact p1'.tups (Same.tups (s03.trans s4))
        · obtain ⟨ws, L5, p5, hc5, hus5⟩ := z
          have hj : j < (prs' (r.eraseIdx i)).length := by
            rw [← hus5.1]
            exact (List.getElem?_eq_some_iff.mp hx).1
          obtain ⟨u, vs, rfl, hu, hul, hup⟩ := hus5.2 j x _ hx (List.getElem?_eq_getElem hj)
          have hp5 : SqT K H5 p ((a :: r).map V.int) := SqT.same L5.same hp
          have g0 : ((a :: r).map V.int)[0]? = some (.int a) := rfl
          have g1 : ((a :: r).map V.int)[i + 1]? = some (.int (r.getD i 0)) := by
            rw [List.getD_eq_getElem?_getD, List.getElem?_eq_getElem hi]
            simp [List.getElem?_eq_getElem hi]
          refine ⟨rfl, _, rfl, p, _, _, _, rfl, rfl, hp5, at_of (j := 0) rfl g0, _, rfl, _, rfl, p, _, _, _, rfl, rfl, hp5, at_of (j := i + 1) (by omega) g1, by show 2 ≤ sizeLine; decide, fun q1 m1 => ⟨by show 1 ≤ sizeLine; decide, fun q2 m2 => ?_⟩⟩
          have t1 := same_upd (o := .tup [.int a, .int (r.getD i 0)]) m1
          have t2 := same_upd (o := .tup [.ref q1]) m2
          refine ⟨_, rfl, ?_⟩
          have t12 := t1.trans t2
          have lv : vs.length ≤ 945 := by
            have := prs_half _ _ rfl _ (List.getElem_mem hj)
            rw [hul]
            omega
          refine catA_tup upd_same (t12 _ _ hu) ?_ fun q3 H6 t3 hq3 => ?_
          · have : 10000 ≤ sizeLine := by decide
            show 1 + vs.length ≤ sizeLine
            omega
          have L6 := L5.keep nD (t12.trans t3)
          have hb : (blk a r i)[j]? = some ((a, r.getD i 0) :: (prs' (r.eraseIdx i))[j]) := by
            unfold blk
            rw [List.getElem?_map, List.getElem?_eq_getElem hj]
            rfl
          have wl : ws.length < sizeLine := by
            have h1 := dn_small hi hl
            have h2 := p5.1
            have : 10000 ≤ sizeLine := by decide
            rw [List.length_append, List.length_take] at h2
            omega
          have tu := tups_lst (o := .lst (ws ++ [.ref q3])) L6.at_
          have tq : Tups H5 (upd H6 D (.lst (ws ++ [.ref q3]))) := (Same.tups (t12.trans t3)).trans tu
          refine ⟨ws, L6.at_, wl, ws ++ [.ref q3], L6.put nD (Same.refl _), ?_, ?_, hus5.tups tq⟩
          · rw [List.take_add_one, hb, ← List.append_assoc]
            refine (p5.tups tq).snoc ?_
            refine PPV.cons (b := q1) (a := u) (us := vs) (v := .ref u) (p := (a, r.getD i 0)) ?_ ?_ rfl ?_ ?_
            · exact tu _ _ (t3 _ _ (t2 _ _ upd_same))
            · exact PPV.tups ⟨u, vs, rfl, hu, hul, hup⟩ tq
            · exact tq _ _ hu
            · exact tu _ _ hq3
          · rw [upd_ne cD]
            exact t3 _ _ (t12 _ _ hc5)
        · obtain ⟨ws, L5, p5, _, hus5⟩ := z
          refine ⟨ws, L5, ?_⟩
          rw [dn_succ]
          rw [List.take_of_length_le (by unfold blk; rw [List.length_map, hus5.1]; exact Nat.le_refl _)] at p5
          exact p5
      · obtain ⟨ws, L1, p1⟩ := pv
        rw [dn_all] at p1
        exact q H1 D ws L1.same nD L1.at_ p1
end
end Own

namespace Own
open PySem PySem.Spec PyProof.Rows L2 Slp
section
variable {P : Program} {w : World} {K : PySem.W.Frag} {mg : Str → Option Value} {base : Heap} {C : Addr}
def spNo : Sp := fun _ _ _ _ => False
theorem fn_no {k : Nat} {f : Addr} {fd : FuncData} {ps : List Str} : FnOk P w K mg base CX0 k f fd ps spNo := ⟨fun _ _ _ _ h => h.elim, fun _ _ _ _ _ _ _ _ _ _ _ _ _ h => h.elim⟩
theorem ok_ap {f : Addr} {fd : FuncData} (D_s : Df K mg "all_paired" s_all_paired ["pins"] f fd) (T : Bi mg) : ∀ d : Nat, FnOk P w K mg base CX0 (d + 1) f fd ["pins"] (spAP K d)
  | 0 => all_body (k := 0) D_s T fn_no fun xs p H Q _ h _ _ => by omega
  | d + 1 => all_body D_s T (ok_ap D_s T d) fun xs p H Q hp h1 h2 q => ⟨p, xs, rfl, hp, by omega, h2, q⟩
end
/-! ### the generator -/
abbrev PaS := Option (Addr × Nat)
def idx : PaS → Nat
  | none => 0
  | some (_, i) => i
def Jp (K : PySem.W.Frag) (b : Addr) (xs : List Int) : Gn where
  S := PaS
  s0 := none
  go := fun st H => match st with
    | none => SqB K H b (xs.map V.int)
    | some (l, _) => ∃ us, H l = some (.lst us) ∧ PPL H us (prs' xs)
  out := fun st H r H' => Same H H' ∧ match r with
    | none => idx st = (prs' xs).length
    | some (x, st') => ∃ l us ps, st' = some (l, idx st + 1) ∧ (match st with | none => H l = none | some (l0, _) => l = l0) ∧ H' l = some (.lst us) ∧ PPL H' us (prs' xs) ∧ (prs' xs)[idx st]? = some ps ∧ PPV H' x ps
def spPa (K : PySem.W.Frag) : SpN := fun vs H R => ∃ (b : Addr) (xs : List Int), vs = [.ref b] ∧ SqB K H b (xs.map V.int) ∧ xs.length ≤ 10 ∧ R (Jp K b xs)
section
variable {P : Program} {w : World} {K : PySem.W.Frag} {mg : Str → Option Value} {base : Heap} {C : Addr}
theorem ok_pairings {f : Addr} {fd : FuncData} (F : Fun K "pairings" "pairings" s_pairings f fd) (T : Bi mg) {f_a : Addr} {d_a : FuncData} (D_a : Df K mg "all_paired" s_all_paired ["pins"] f_a d_a) (G_a : FnOk P w K mg base CX0 6 f_a d_a ["pins"] (spAP K 5)) :
    GnOk P w K mg base 6 f fd ["pins"] (spPa K) := by
  obtain ⟨⟨oc, od, osl, kV, doc, pm, an, cdv, ct, rfl, lk, hcd⟩, kp⟩ := F
  refine gn_of (k := 6) lk hcd sc_pairings (by decide +kernel) (fun n => rfl) (fun vs H R h => ?_) (fun L => rfl) (fun outer L vs H R h => ?_) (fun env x => rfl)
  · obtain ⟨b, xs, rfl, _⟩ := h
    rfl
  · obtain ⟨b, xs, rfl, hb, hl, r⟩ := h
    refine ⟨Jp K b xs, r, iList K (tCall (spAP K 5) [] E0 (tCons (tCB (fun xs H Q => ∃ p ys, xs = [V.ref p] ∧ ((SqL K H p ys ∧ ∀ l, H l = none → Q (.ref l) (upd H l (.tup ys))) ∨ (SqT K H p ys ∧ Q (.ref p) H))) (tCons (tVar 0) tNil)) tNil)), gName 1, tVar 1, fun a go => ⟨?_, fun A s H hr => ⟨?_, ?_, ?_⟩⟩⟩
    · intro H0 h0
      have h0 : SqB K H0 b (xs.map V.int) := h0
      have main : ∀ (Qx : VK), (∀ H' c us, Same H0 H' → H0 c = none → H' c = some (.lst us) → PPL H' us (prs' xs) → Qx (.ref c) H') → ∀ p H1, Same H0 H1 → SqT K H1 p (xs.map V.int) → spAP K 5 [.ref p] H1 Qx E0 := fun Qx hQ p H1 s0 hp =>
        ⟨p, xs, rfl, hp, by omega, hl, fun H' c us s nc hc hus => hQ H' c us (s0.trans s) (s0.free nc) hc hus⟩
      have fin : ∀ (Jt : It → Hp → Prop), (∀ H' c us, Same H0 H' → H0 c = none → H' c = some (.lst us) → PPL H' us (prs' xs) → Jt (Itl K c) H') → ∀ p H1, Same H0 H1 → SqT K H1 p (xs.map V.int) → spAP K 5 ([V.ref p] ++ []) H1 (fun x H2 => ∃ a, x = .ref a ∧ (∃ xs, SqL K H2 a xs) ∧ Jt (Itl K a) H2) E0 := fun Jt hJ =>
        main _ fun H' c us s nc hc hus => ⟨c, rfl, ⟨us, .inl (.inl hc)⟩, hJ H' c us s nc hc hus⟩
      have go_ : ∀ (Jt : It → Hp → Prop), (∀ H' c us, Same H0 H' → H0 c = none → H' c = some (.lst us) → PPL H' us (prs' xs) → Jt (Itl K c) H') → iList K (tCall (spAP K 5) [] E0 (tCons (tCB (fun xs H Q => ∃ p ys, xs = [V.ref p] ∧ ((SqL K H p ys ∧ ∀ l, H l = none → Q (.ref l) (upd H l (.tup ys))) ∨ (SqT K H p ys ∧ Q (.ref p) H))) (tCons (tVar 0) tNil)) tNil)) (L2.start ["pins", "pairing"] [V.ref b]) H0 Jt := by
        intro Jt hJ
        refine ⟨_, rfl, b, xs.map V.int, rfl, ?_⟩
        rcases h0 with h0 | h0
        · exact .inl ⟨h0, fun l nl => fin Jt hJ l _ (same_upd nl) (.inl (.inl upd_same))⟩
        · exact .inr ⟨h0, fin Jt hJ b H0 (Same.refl _) h0⟩
      refine go_ _ fun H1 c us s1 nc hc hus => ?_
      refine ⟨fun j st HA σ H => j = idx st ∧ j ≤ (prs' xs).length ∧ (∃ y, σ = [some (.ref b), y]) ∧ Same HA H ∧ (∃ us, H c = some (.lst us) ∧ PPL H us (prs' xs)) ∧ (match (st : PaS) with | none => HA c = none | some (l, _) => l = c), ⟨rfl, Nat.zero_le _, ⟨none, rfl⟩, s1, ⟨us, hc, hus⟩, nc⟩, fun j st HA σ H z => ?_⟩
      obtain ⟨rfl, hj, ⟨y, rfl⟩, sA, ⟨us, hc, hus⟩, hst⟩ := z
      by_cases lt : idx st < (prs' xs).length
      · have ltu : idx st < us.length := by rw [hus.1]; exact lt
        refine .inr ⟨⟨us, us[idx st], .inl (.inl hc), by simp [ltu]⟩, fun x H2 hy => ?_⟩
        obtain ⟨e, hy⟩ := hy
        subst e
        have hx := hy us (.inl (.inl hc))
        refine ⟨_, rfl, some (c, idx st + 1), ⟨sA, c, us, _, rfl, ?_, hc, hus, List.getElem?_eq_getElem lt, hus.2 _ _ _ hx (List.getElem?_eq_getElem lt)⟩, fun HB gB => ?_⟩
        · cases st with
          | none => exact hst
          | some p => exact hst.symm
        · obtain ⟨us2, h2, h3⟩ := gB
          exact ⟨rfl, lt, ⟨_, rfl⟩, Same.refl _, ⟨us2, h2, h3⟩, rfl⟩
      · have e : idx st = (prs' xs).length := by omega
        exact .inl ⟨⟨us, .inl (.inl hc), by rw [hus.1]; omega⟩, sA, e⟩
    · exact pi_list (pe_call G_a hr (by rfl) D_a.g D_a.F.kp D_a.b .nil pass0 (pa_cons (pe_callTy call_tuple_of (by rfl) T.b_tuple (by decide +kernel) (pa_cons (pv 0) pa_nil)) pa_nil))
    · exact pg_name (i := 1) sc_pairings.nd rfl (.inl rfl)
    · exact pv 1
end
end Own

namespace Own
open PySem PySem.Spec PyProof.Rows L2
/-! ### the law: two values that are the same -/
def rIxB (K : PySem.W.Frag) : R2 := fun x y H Q => ∃ p xs i v, x = .ref p ∧ y = .int i ∧ SqB K H p xs ∧ atI xs i = some v ∧ Q v H
theorem ix_seqB {X : Cx} : IxR X (rIxB X.K) := by
  intro value slice pins s σ H x y v u Q I rx ry h hs
  obtain ⟨p, xs, i, z, rfl, rfl, hB, ha, q⟩ := h
  rcases hB with hB | hB
  · exact ix_list value slice pins s σ H _ _ v u Q I rx ry ⟨p, xs, i, z, rfl, rfl, hB, ha, q⟩ hs
  · exact ix_tup value slice pins s σ H _ _ v u Q I rx ry ⟨p, xs, i, z, rfl, rfl, hB, ha, q⟩ hs
structure BiA (mg : Str → Option Value) : Prop where
  b_all : mg "all" = none
/-- the same data, nested at most so deep: ints, tuples, lists -/
def EqD : Nat → Hp → V → V → Prop
  | 0, _, x, y => ∃ i : Int, x = .int i ∧ y = .int i
  | d + 1, H, x, y => EqD d H x y ∨ ∃ (a b : Addr) (vs us : List V), x = .ref a ∧ y = .ref b ∧ ((H a = some (.tup vs) ∧ H b = some (.tup us)) ∨ (H a = some (.lst vs) ∧ H b = some (.lst us))) ∧ vs.length = us.length ∧ us.length ≤ 1000 ∧ ∀ (i : Nat) (x y : V), vs[i]? = some x → us[i]? = some y → EqD d H x y
theorem EqD.le {d e : Nat} {H : Hp} {x y : V} (h : EqD d H x y) (l : d ≤ e) : EqD e H x y := by
  induction l with
  | refl => exact h
  | step _ ih => exact .inl ih
theorem EqD.same {d : Nat} {H H' : Hp} {x y : V} (s : Same H H') (h : EqD d H x y) : EqD d H' x y := by
  induction d generalizing x y with
  | zero => exact h
  | succ d ih =>
    rcases h with h | ⟨a, b, vs, us, e1, e2, h, l1, l2, k⟩
    · exact .inl (ih h)
    · refine .inr ⟨a, b, vs, us, e1, e2, ?_, l1, l2, fun i x y hx hy => ih (k i x y hx hy)⟩
      rcases h with ⟨h1, h2⟩ | ⟨h1, h2⟩
      · exact .inl ⟨s _ _ h1, s _ _ h2⟩
      · exact .inr ⟨s _ _ h1, s _ _ h2⟩
theorem EqD.split {d : Nat} {H : Hp} {x y : V} (h : EqD d H x y) : (∃ i : Int, x = .int i ∧ y = .int i) ∨ ∃ (e : Nat) (a b : Addr) (vs us : List V), e + 1 ≤ d ∧ x = .ref a ∧ y = .ref b ∧ ((H a = some (.tup vs) ∧ H b = some (.tup us)) ∨ (H a = some (.lst vs) ∧ H b = some (.lst us))) ∧ vs.length = us.length ∧ us.length ≤ 1000 ∧
    ∀ (i : Nat) (x y : V), vs[i]? = some x → us[i]? = some y → EqD e H x y := by
  induction d with
  | zero => exact .inl h
  | succ d ih =>
    rcases h with h | ⟨a, b, vs, us, h⟩
    · rcases ih h with h | ⟨e, a, b, vs, us, he, h⟩
      · exact .inl h
      · exact .inr ⟨e, a, b, vs, us, Nat.le_succ_of_le he, h⟩
    · exact .inr ⟨d, a, b, vs, us, Nat.le_refl _, h⟩
def spSameD (d : Nat) : Sp := fun vs H Q _ => ∃ x y : V, vs = [x, y] ∧ EqD d H x y ∧ ∀ H', Same H H' → Q (.bl true) H'
section
variable {P : Program} {w : World} {K : PySem.W.Frag} {mg : Str → Option Value} {base : Heap} {C : Addr}
set_option maxHeartbeats 0 in
theorem same_body {f : Addr} {fd : FuncData} {k : Nat} {sp : Sp} {d : Nat} (D_s : Df K mg "_law_same" s__law_same ["_law_told", "_law_due"] f fd) (T : Bi mg) (TA : BiA mg) (G_s : FnOk P w K mg base CX0 k f fd ["_law_told", "_law_due"] sp)
    (hsp : ∀ e x y H Q, e + 1 ≤ d → EqD e H x y → (∀ H', Same H H' → Q (.bl true) H') → sp [x, y] H Q E0) : FnOk P w K mg base CX0 (k + 1) f fd ["_law_told", "_law_due"] (spSameD d) := by
  refine D_s.F.ok sc__law_same (fun vs H Q E h => ?_) (fun cdv A outer s H vs Q E hr h => ?_)
  · obtain ⟨x, y, rfl, _⟩ := h
    rfl
  · obtain ⟨x, y, rfl, hxy, q⟩ := h
    refine ⟨_, (pss_cons (ps_if (pt_val (pe_callB call_isiT (by rfl) T.b_isinstance (by decide +kernel) (pa_cons (pv 1) (pa_cons (pe_tup (pa_cons (pe_bltn (v := .ty "list") (by rfl) T.b_list (by decide +kernel) rfl) (pa_cons (pe_bltn (v := .ty "tuple") (by rfl) T.b_tuple (by decide +kernel) rfl) pa_nil))) pa_nil)))) (pss_cons (ps_if (PW.pt (pw_or (pt_cmpR op_ne (pe_callB call_isi (by rfl) T.b_isinstance (by decide +kernel) (pa_cons (pv 0) (pa_cons (pe_bltn (v := .ty "list") (by rfl) T.b_list (by decide +kernel) rfl) pa_nil))) (pe_callB call_isi (by rfl) T.b_isinstance (by decide +kernel) (pa_cons (pv 1) (pa_cons (pe_bltn (v := .ty "list") (by rfl) T.b_list (by decide +kernel) rfl) pa_nil))) (nomark _)) (pw_or1 (pt_cmpR op_ne (pe_callB call_isi (by rfl) T.b_isinstance (by decide +kernel) (pa_cons (pv 0) (pa_cons (pe_bltn (v := .ty "tuple") (by rfl) T.b_tuple (by decide +kernel) rfl) pa_nil))) (pe_callB call_isi (by rfl) T.b_isinstance (by decide +kernel) (pa_cons (pv 1) (pa_cons (pe_bltn (v := .ty "tuple") (by rfl) T.b_tuple (by decide +kernel) rfl) pa_nil))) (nomark _))))) (pss_one (ps_ret pe_bl)) pss_nil)
        (pss_one (ps_ret (pe_and (pe_cmpR op_eq (pe_callB call_len_seq (by rfl) T.b_len PySem.boot_len (pa_cons (pv 0) pa_nil)) (pe_callB call_len_seq (by rfl) T.b_len PySem.boot_len (pa_cons (pv 1) pa_nil)) (nomark _)) (pe_one (pe_callB (cr_all rfl) (by rfl) TA.b_all (by decide +kernel) (pa_cons (pe_lc (own := [("_law_k", 2)]) (g := gName 2) (tt := tYes) rfl sc__law_same.nd (pi_range1 (by rfl) T.b_range (pa_cons (pe_callB call_len_seq (by rfl) T.b_len PySem.boot_len (pa_cons (pv 1) pa_nil)) pa_nil)) (blkOk_by (own := [("_law_k", 2)]) (N := ["_law_told", "_law_due", "_law_k"]) (sc := defScope s__law_same) (by decide +kernel)) (fun _ _ _ _ _ => (pg_name (i := 2) sc__law_same.nd rfl (.inl rfl))) (fun _ _ _ _ _ => pts_nil) (fun _ _ _ _ _ => (pe_call G_s hr (by rfl) D_s.g D_s.F.kp D_s.b .nil pass0 (pa_cons (pe_ix (r := rIxB K) ix_seqB (pv 0) (pv 2) (fun _ _ => rfl)) (pa_cons (pe_ix (r := rIxB K) ix_seqB (pv 1) (pv 2) (fun _ _ => rfl)) pa_nil))))) pa_nil))))))) pss_nil)
        (pss_cons (ps_if (pt_cmpR op_isN (pv 1) pe_non (nomark _)) (pss_one (ps_ret (pe_cmpR op_isN (pv 0) pe_non (nomark _)))) pss_nil)
        (pss_cons (ps_if (PW.pt (pw_or (pt_cmpR op_ne (pe_callB call_isi (by rfl) T.b_isinstance (by decide +kernel) (pa_cons (pv 0) (pa_cons (pe_bltn (v := .ty "bool") (by rfl) T.b_bool (by decide +kernel) rfl) pa_nil))) (pe_callB call_isi (by rfl) T.b_isinstance (by decide +kernel) (pa_cons (pv 1) (pa_cons (pe_bltn (v := .ty "bool") (by rfl) T.b_bool (by decide +kernel) rfl) pa_nil))) (nomark _)) (pw_or1 (pt_cmpR op_ne (pe_callB call_isi (by rfl) T.b_isinstance (by decide +kernel) (pa_cons (pv 0) (pa_cons (pe_bltn (v := .ty "str") (by rfl) T.b_str (by decide +kernel) rfl) pa_nil))) (pe_callB call_isi (by rfl) T.b_isinstance (by decide +kernel) (pa_cons (pv 1) (pa_cons (pe_bltn (v := .ty "str") (by rfl) T.b_str (by decide +kernel) rfl) pa_nil))) (nomark _))))) (pss_one (ps_ret pe_bl)) pss_nil)
        (pss_one (ps_ret (pe_and (pe_cmpR op_eq (pe_callB call_isi (by rfl) T.b_isinstance (by decide +kernel) (pa_cons (pv 0) (pa_cons (pe_bltn (v := .ty "int") (by rfl) T.b_int (by decide +kernel) rfl) pa_nil))) (pe_callB call_isi (by rfl) T.b_isinstance (by decide +kernel) (pa_cons (pv 1) (pa_cons (pe_bltn (v := .ty "int") (by rfl) T.b_int (by decide +kernel) rfl) pa_nil))) (nomark _)) (pe_one (pe_cmpR op_eq (pv 0) (pv 1) (nomark _))))))))), ?_⟩
    rcases hxy.split with ⟨i, rfl, rfl⟩ | ⟨e, a, b, vs, us, hle, rfl, rfl, hab, hlen, hl, hel⟩
    · refine ⟨_, rfl, by show 2 ≤ sizeLine; decide, fun p np => ?_⟩
      have s1 : Same H (upd H p (.tup [.ty "list", .ty "tuple"])) := same_upd np
      refine ⟨_, p, _, _, _, false, rfl, upd_same, .cons (.ty "list") (.cons (.ty "tuple") .nil), .base (.int i), kitAny_cons (b := false) (kit_ty (by decide +kernel)) (fun _ => kitAny_cons (b := false) (kit_ty (by decide +kernel)) (fun _ => rfl) (fun z => by cases z)) (fun z => by cases z), ?_⟩
      refine ⟨false, rfl, _, rfl, rfl, _, rfl, ?_⟩
      refine ⟨_, rfl, _, _, _, _, false, rfl, .ty "bool", .base (.int i), kit_ty (by decide +kernel), _, rfl, _, _, _, _, false, rfl, .ty "bool", .base (.int i), kit_ty (by decide +kernel), rfl, _, rfl, ?_⟩
      refine ⟨_, rfl, _, _, _, _, false, rfl, .ty "str", .base (.int i), kit_ty (by decide +kernel), _, rfl, _, _, _, _, false, rfl, .ty "str", .base (.int i), kit_ty (by decide +kernel), rfl, _, rfl, ?_⟩
      refine ⟨_, rfl, _, _, _, _, true, rfl, .ty "int", .base (.int i), kit_ty (by decide +kernel), _, rfl, _, _, _, _, true, rfl, .ty "int", .base (.int i), kit_ty (by decide +kernel), rfl, _, rfl, ?_⟩
      refine ⟨_, rfl, _, rfl, rfl, ?_⟩
      rw [decide_eq_true rfl]
      exact q _ s1
    · have key : ∀ (T' : String) (p : Addr) (H1 : Hp), Same H H1 → True := fun _ _ _ _ => trivial
      refine ⟨_, rfl, by show 2 ≤ sizeLine; decide, fun p np => ?_⟩
      have s1 : Same H (upd H p (.tup [.ty "list", .ty "tuple"])) := same_upd np
      have fin : ∀ (xs ys : List V), True := fun _ _ => trivial
      rcases hab with ⟨ha, hb⟩ | ⟨ha, hb⟩
      · have ha1 := s1 _ _ ha
        have hb1 := s1 _ _ hb
        refine ⟨_, p, _, _, _, true, rfl, upd_same, .cons (.ty "list") (.cons (.ty "tuple") .nil), .base (.tup hb1), kitAny_cons (b := false) (kit_ty (by decide +kernel)) (fun _ => kitAny_cons (b := true) (kit_ty (by decide +kernel)) (fun z => by cases z) (fun _ => rfl)) (fun z => by cases z), ?_⟩
        refine ⟨true, rfl, ?_⟩
        refine ⟨_, rfl, _, _, _, _, false, rfl, .ty "list", .base (.tup ha1), kit_ty (by decide +kernel), _, rfl, _, _, _, _, false, rfl, .ty "list", .base (.tup hb1), kit_ty (by decide +kernel), rfl, _, rfl, ?_⟩
        refine ⟨_, rfl, _, _, _, _, true, rfl, .ty "tuple", .base (.tup ha1), kit_ty (by decide +kernel), _, rfl, _, _, _, _, true, rfl, .ty "tuple", .base (.tup hb1), kit_ty (by decide +kernel), rfl, _, rfl, ?_⟩
        have QA : SqB K (upd H p (.tup [.ty "list", .ty "tuple"])) a vs := .inr (.inl (.inl ha1))
        have QB : SqB K (upd H p (.tup [.ty "list", .ty "tuple"])) b us := .inr (.inl (.inl hb1))
        refine ⟨_, rfl, a, _, rfl, QA, _, rfl, b, _, rfl, QB, rfl, ?_⟩
        rw [hlen, decide_eq_true rfl]
        refine ⟨true, rfl, ?_⟩
        refine ⟨_, rfl, b, _, rfl, QB, _, rfl, by omega, by omega, fun D nD => ?_⟩
        rw [show ((us.length : Nat) : Int).toNat = us.length by omega]
        refine lc_range (lo := 0) (n := us.length) (fun i H' => LcI (upd H p (.tup [.ty "list", .ty "tuple"])) D (List.replicate i (V.bl true)) H') (LcI.start nD) (fun i H2 hi L => ?_) (fun H2 L => ?_)
        · have hv : vs[i]? = some vs[i] := List.getElem?_eq_getElem (by omega)
          have hu : us[i]? = some us[i] := List.getElem?_eq_getElem hi
          refine ⟨rfl, _, rfl, _, rfl, a, _, _, _, rfl, rfl, SqB.same L.same QA, at_of (j := i) (by omega) hv, _, rfl, _, rfl, b, _, _, _, rfl, rfl, SqB.same L.same QB, at_of (j := i) (by omega) hu, ?_⟩
          refine hsp e _ _ _ _ hle ((hel i _ _ hv hu).same (s1.trans L.same)) fun H3 s3 => ?_
          have L3 := L.keep nD s3
          refine ⟨_, L3.at_, ?_, ?_⟩
          · have : 10000 ≤ sizeLine := by decide
            rw [List.length_replicate]
            omega
          · have er : List.replicate (i + 1) (V.bl true) = List.replicate i (V.bl true) ++ [V.bl true] := List.replicate_succ' ..
            show LcI _ D (List.replicate (i + 1) (V.bl true)) _
            rw [er]
            exact L3.put nD (Same.refl _)
        · have em : List.replicate us.length (V.bl true) = (List.replicate us.length true).map V.bl := by simp
          refine ⟨D, List.replicate us.length true, rfl, .inl (.inl (by rw [← em]; exact L.at_)), ?_⟩
          have ea : (List.replicate us.length true).all id = true := by simp
          rw [ea]
          exact q _ (s1.trans L.same)
      · have ha1 := s1 _ _ ha
        have hb1 := s1 _ _ hb
        refine ⟨_, p, _, _, _, true, rfl, upd_same, .cons (.ty "list") (.cons (.ty "tuple") .nil), .base (.lst hb1), kitAny_cons (b := true) (kit_ty (by decide +kernel)) (fun z => by cases z) (fun _ => rfl), ?_⟩
        refine ⟨true, rfl, ?_⟩
        refine ⟨_, rfl, _, _, _, _, true, rfl, .ty "list", .base (.lst ha1), kit_ty (by decide +kernel), _, rfl, _, _, _, _, true, rfl, .ty "list", .base (.lst hb1), kit_ty (by decide +kernel), rfl, _, rfl, ?_⟩
        refine ⟨_, rfl, _, _, _, _, false, rfl, .ty "tuple", .base (.lst ha1), kit_ty (by decide +kernel), _, rfl, _, _, _, _, false, rfl, .ty "tuple", .base (.lst hb1), kit_ty (by decide +kernel), rfl, _, rfl, ?_⟩
        have QA : SqB K (upd H p (.tup [.ty "list", .ty "tuple"])) a vs := .inl (.inl (.inl ha1))
        have QB : SqB K (upd H p (.tup [.ty "list", .ty "tuple"])) b us := .inl (.inl (.inl hb1))
        refine ⟨_, rfl, a, _, rfl, QA, _, rfl, b, _, rfl, QB, rfl, ?_⟩
        rw [hlen, decide_eq_true rfl]
        refine ⟨true, rfl, ?_⟩
        refine ⟨_, rfl, b, _, rfl, QB, _, rfl, by omega, by omega, fun D nD => ?_⟩
        rw [show ((us.length : Nat) : Int).toNat = us.length by omega]
        refine lc_range (lo := 0) (n := us.length) (fun i H' => LcI (upd H p (.tup [.ty "list", .ty "tuple"])) D (List.replicate i (V.bl true)) H') (LcI.start nD) (fun i H2 hi L => ?_) (fun H2 L => ?_)
        · have hv : vs[i]? = some vs[i] := List.getElem?_eq_getElem (by omega)
          have hu : us[i]? = some us[i] := List.getElem?_eq_getElem hi
          refine ⟨rfl, _, rfl, _, rfl, a, _, _, _, rfl, rfl, SqB.same L.same QA, at_of (j := i) (by omega) hv, _, rfl, _, rfl, b, _, _, _, rfl, rfl, SqB.same L.same QB, at_of (j := i) (by omega) hu, ?_⟩
          refine hsp e _ _ _ _ hle ((hel i _ _ hv hu).same (s1.trans L.same)) fun H3 s3 => ?_
          have L3 := L.keep nD s3
          refine ⟨_, L3.at_, ?_, ?_⟩
          · have : 10000 ≤ sizeLine := by decide
            rw [List.length_replicate]
            omega
          · have er : List.replicate (i + 1) (V.bl true) = List.replicate i (V.bl true) ++ [V.bl true] := List.replicate_succ' ..
            show LcI _ D (List.replicate (i + 1) (V.bl true)) _
            rw [er]
            exact L3.put nD (Same.refl _)
        · have em : List.replicate us.length (V.bl true) = (List.replicate us.length true).map V.bl := by simp
          refine ⟨D, List.replicate us.length true, rfl, .inl (.inl (by rw [← em]; exact L.at_)), ?_⟩
          have ea : (List.replicate us.length true).all id = true := by simp
          rw [ea]
          exact q _ (s1.trans L.same)
theorem ok_same {f : Addr} {fd : FuncData} (D_s : Df K mg "_law_same" s__law_same ["_law_told", "_law_due"] f fd) (T : Bi mg) (TA : BiA mg) : ∀ d : Nat, FnOk P w K mg base CX0 (d + 1) f fd ["_law_told", "_law_due"] (spSameD d)
  | 0 => same_body (k := 0) D_s T TA (sp := spNo) fn_no fun e x y H Q h => absurd h (by omega)
  | d + 1 => same_body (k := d + 1) D_s T TA (ok_same D_s T TA d) fun e x y H Q h h1 q => ⟨x, y, rfl, h1.le (by omega), q⟩
end
end Own

namespace Own
open PySem PySem.Spec PyProof.Rows L2
/-! ### the law: a row of numbers -/
def spRow (K : PySem.W.Frag) : Sp := fun vs H Q _ => ∃ (b : Addr) (ds : List Int), vs = [.ref b] ∧ SqL K H b (ds.map V.int) ∧ Digs ds ([16, 4] ++ List.replicate 9 8) ∧ ∀ (H' : Hp) (p : Addr) (xs : List Int), Same H H' → H p = none → H' p = some (.lst (xs.map V.int)) → xs.length ≤ 10 → xs.Pairwise (· < ·) → Q (.ref p) H'
theorem dig_at {ds szs : List Int} {i : Nat} {s : Int} (h : Digs ds szs) (e : szs[i]? = some s) : ∃ d, ds[i]? = some d ∧ 0 ≤ d ∧ d < s := by
  have hi : i < szs.length := (List.getElem?_eq_some_iff.mp e).1
  have hd : i < ds.length := by rw [h.1]; exact hi
  exact ⟨ds[i], List.getElem?_eq_getElem hd, h.2 i _ s (List.getElem?_eq_getElem hd) e⟩
theorem eights : ∀ j : Nat, j < 9 → ([16, 4] ++ List.replicate 9 (8 : Int))[2 + j]? = some 8 := by decide
theorem pick_at {l : List Int} {lo hi : Int} {i : Nat} (h : ∀ x ∈ l, lo ≤ x ∧ x ≤ hi) (hi_ : i < l.length) : ∃ c, l[i]? = some c ∧ lo ≤ c ∧ c ≤ hi :=
  ⟨l[i], List.getElem?_eq_getElem hi_, h _ (List.getElem_mem hi_)⟩
theorem map_at {ds : List Int} {i : Nat} {d : Int} (e : ds[i]? = some d) : (ds.map V.int)[i]? = some (.int d) := by
  rw [List.getElem?_map, e]
  rfl
section
variable {P : Program} {w : World} {K : PySem.W.Frag} {mg : Str → Option Value} {base : Heap} {C : Addr}
set_option maxHeartbeats 0 in
theorem ok_row {f : Addr} {fd : FuncData} (F : Fun K "_law_row" "_law_row" s__law_row f fd) (T : Bi mg) : FnOk P w K mg base CX0 1 f fd ["_law_row_here"] (spRow K) := by
  refine F.ok sc__law_row (fun vs H Q E h => ?_) (fun cdv A outer s H vs Q E hr h => ?_)
  · obtain ⟨b, ds, rfl, _⟩ := h
    rfl
  · obtain ⟨b, ds, rfl, hb, dg, q⟩ := h
    refine ⟨_, (pss_cons (ps_set (i := 1) sc__law_row.nd rfl (.inl rfl) (pe_ix (r := rIxL K) ix_list (pe_lst (pa_cons pe_int (pa_cons pe_int (pa_cons pe_int (pa_cons pe_int (pa_cons pe_int (pa_cons pe_int (pa_cons pe_int (pa_cons pe_int (pa_cons pe_int (pa_cons pe_int (pa_cons pe_int (pa_cons pe_int (pa_cons pe_int (pa_cons pe_int (pa_cons pe_int (pa_cons pe_int pa_nil))))))))))))))))) (pe_ix (r := rIxL K) ix_list (pv 0) pe_int (fun _ _ => rfl)) (fun _ _ => rfl)))
        (pss_cons (ps_set (i := 2) sc__law_row.nd rfl (.inl rfl) (pe_lst pa_nil))
        (pss_cons (ps_set (i := 3) sc__law_row.nd rfl (.inl rfl) (pe_ix (r := rIxL K) ix_list (pv 0) pe_int (fun _ _ => rfl)))
        (pss_cons (ps_for PassesOwn.never rfl (pi_range1 (by rfl) T.b_range (pa_cons (pv 1) pa_nil)) (pg_name (i := 4) sc__law_row.nd rfl (.inl rfl))
        (pss_cons (ps_expr (pe_bm PySem.F.plainAttrs_list PySem.F.slot_list_append PySem.F.type_list_append mt_append (pv 2) (pa_cons (pv 3) pa_nil)))
        (pss_one (ps_set (i := 3) sc__law_row.nd rfl (.inl rfl) (pe_op op_add (pv 3) (pe_ix (r := rIxL K) ix_list (pe_lst (pa_cons pe_int (pa_cons pe_int (pa_cons pe_int (pa_cons pe_int (pa_cons pe_int (pa_cons pe_int (pa_cons pe_int (pa_cons pe_int pa_nil))))))))) (pe_ix (r := rIxL K) ix_list (pv 0) (pe_op op_add pe_int (pe_op op_mod (pe_callTy call_int1 (by rfl) T.b_int (by decide +kernel) (pa_cons (pv 4) pa_nil)) pe_int)) (fun _ _ => rfl)) (fun _ _ => rfl)))))))
        (pss_one (ps_ret (pv 2))))))), ?_⟩
    obtain ⟨d0, e0, l0, u0⟩ := dig_at dg (i := 0) (s := 16) rfl
    obtain ⟨d1, e1, l1, u1⟩ := dig_at dg (i := 1) (s := 4) rfl
    obtain ⟨cc, hcc, c0, c1⟩ := pick_at (l := [4, 6, 2, 8, 0, 5, 4, 1, 6, 7, 3, 8, 2, 6, 9, 10]) (lo := 0) (hi := 10) (i := d0.toNat) (by decide) (by show d0.toNat < 16; omega)
    refine ⟨by show 16 ≤ sizeLine; decide, fun c nc => ?_⟩
    have s1 := same_upd (o := .lst [.int 4, .int 6, .int 2, .int 8, .int 0, .int 5, .int 4, .int 1, .int 6, .int 7, .int 3, .int 8, .int 2, .int 6, .int 9, .int 10]) nc
    refine ⟨_, rfl, b, _, _, _, rfl, rfl, s1.seq hb, at_of (j := 0) rfl (map_at e0), ?_⟩
    refine ⟨c, _, _, _, rfl, rfl, .inl (.inl upd_same), at_of (j := d0.toNat) (by omega) (map_at hcc), ?_⟩
    refine ⟨by show 0 ≤ sizeLine; decide, fun p np => ?_⟩
    generalize hH1 : upd H c _ = H1 at s1 np
    have s2 := same_upd (o := .lst []) np
    have s12 := s1.trans s2
    refine ⟨_, rfl, b, _, _, _, rfl, rfl, s12.seq hb, at_of (j := 1) rfl (map_at e1), ?_⟩
    refine ⟨_, rfl, cc, rfl, by omega, by omega, ?_⟩
    refine for_range (lo := 0) (n := cc.toNat) (fun i σ H' => ∃ (xs : List Int) (z : Int) (y4 : Option V), σ = [some (.ref b), some (.int cc), some (.ref p), some (.int z), y4] ∧ LcI H1 p (xs.map V.int) H' ∧ xs.length = i ∧ xs.Pairwise (· < ·) ∧ ∀ x ∈ xs, x < z) ⟨[], d1, none, rfl, LcI.start np, rfl, List.Pairwise.nil, by simp⟩ (fun i σ H' hi pv => ?_) (fun σ H' pv => ?_)
    · obtain ⟨xs, z, y4, rfl, L, hx, pw, lt⟩ := pv
      have is : i < 10 := by omega
      refine ⟨_, rfl, .inl ⟨rfl, _, .inl (.inl L.at_)⟩, _, rfl, p, _, _, rfl, rfl, L.at_, ?_, ?_⟩
      · have : 10000 ≤ sizeLine := by decide
        rw [List.length_map]
        omega
      have L2 := L.put (m := (xs ++ [z]).map V.int) np (Same.refl _)
      rw [show (xs.map V.int ++ [V.int z]) = (xs ++ [z]).map V.int by simp]
      generalize upd H' p _ = H2 at L2
      have h9 : i % 9 < 9 := Nat.mod_lt _ (by decide)
      obtain ⟨d, ed, ld, ud⟩ := dig_at dg (eights (i % 9) h9)
      obtain ⟨st, hst, st0, st1⟩ := pick_at (l := [1, 1, 2, 1, 3, 1, 4, 2]) (lo := 1) (hi := 4) (i := d.toNat) (by decide) (by show d.toNat < 8; omega)
      refine ⟨_, rfl, by show 8 ≤ sizeLine; decide, fun t nt => ?_⟩
      have s3 := same_upd (o := .lst [.int 1, .int 1, .int 2, .int 1, .int 3, .int 1, .int 4, .int 2]) nt
      have hb3 := s3.seq (L2.same.seq (s1.seq hb))
      refine ⟨_, rfl, _, rfl, .inl ⟨_, rfl, _, _, rfl, rfl, by show (0 : Int) < 9; decide, _, _, rfl, rfl, b, _, _, _, rfl, rfl, hb3, at_of (j := 2 + i % 9) (by omega) (map_at ed), ?_⟩⟩
      refine ⟨t, _, _, _, rfl, rfl, .inl (.inl upd_same), at_of (j := d.toNat) (by omega) (map_at hst), _, _, rfl, rfl, ?_⟩
      refine ⟨xs ++ [z], z + st, _, rfl, L2.keep np s3, by simp [hx], ?_, fun x hx => ?_⟩
      · rw [List.pairwise_append]
        exact ⟨pw, List.pairwise_singleton _ _, fun x hx y hy => by rw [List.mem_singleton.mp hy]; exact lt x hx⟩
      · rcases List.mem_append.mp hx with hx | hx
        · have := lt x hx
          omega
        · rw [List.mem_singleton.mp hx]
          omega
    · obtain ⟨xs, z, y4, rfl, L, hx, pw, lt⟩ := pv
      refine ⟨_, rfl, ?_⟩
      exact q _ p xs (s1.trans L.same) (s1.free np) L.at_ (by omega) pw
end
end Own

namespace Own
open PySem PySem.Spec PyProof.Rows L2
/-! ### the law: all pairings, level by level -/
def EntV (H : Hp) (v : V) (e : Ent) : Prop := ∃ b t l, v = .ref b ∧ H b = some (.lst [.ref t, .ref l]) ∧ PPV H (.ref t) e.1 ∧ H l = some (.lst (e.2.map V.int))
def EntL (H : Hp) (vs : List V) (es : List Ent) : Prop := vs.length = es.length ∧ ∀ (i : Nat) (v : V) (e : Ent), vs[i]? = some v → es[i]? = some e → EntV H v e
theorem EntV.same {H H' : Hp} {v : V} {e : Ent} (s : Same H H') (h : EntV H v e) : EntV H' v e := by
  obtain ⟨b, t, l, e1, h1, h2, h3⟩ := h
  exact ⟨b, t, l, e1, s _ _ h1, h2.tups (Same.tups s), s _ _ h3⟩
theorem EntL.same {H H' : Hp} {vs : List V} {es : List Ent} (s : Same H H') (h : EntL H vs es) : EntL H' vs es := ⟨h.1, fun i v e h1 h2 => (h.2 i v e h1 h2).same s⟩
theorem EntL.nil {H : Hp} : EntL H [] [] := ⟨rfl, fun i v e h => by simp at h⟩
theorem EntL.snoc {H : Hp} {vs : List V} {es : List Ent} {v : V} {e : Ent} (h : EntL H vs es) (p : EntV H v e) : EntL H (vs ++ [v]) (es ++ [e]) := by
  refine ⟨by rw [List.length_append, List.length_append, h.1]; rfl, fun i u d h1 h2 => ?_⟩
  by_cases lt : i < vs.length
  · rw [List.getElem?_append_left lt] at h1
    rw [List.getElem?_append_left (by rw [← h.1]; exact lt)] at h2
    exact h.2 i u d h1 h2
  · rw [List.getElem?_append_right (by omega)] at h1
    rw [List.getElem?_append_right (by rw [← h.1]; omega), ← h.1] at h2
    cases q : i - vs.length with
    | zero =>
      rw [q] at h1 h2
      obtain rfl : v = u := Option.some.inj h1
      obtain rfl : e = d := Option.some.inj h2
      exact p
    | succ k =>
      rw [q] at h1
      simp at h1
theorem PPV.snoc {H : Hp} {a b c : Addr} {us : List V} {p : Pr} {ps : List Pr} (hb : H b = some (.tup [.int p.1, .int p.2])) (h : PPV H (.ref a) ps) (ha : H a = some (.tup us)) (hc : H c = some (.tup (us ++ [.ref b]))) : PPV H (.ref c) (ps ++ [p]) := by
  obtain ⟨a', us', e, ha', hl, hp⟩ := h
  cases e
  rw [ha] at ha'
  cases ha'
  refine ⟨c, us ++ [.ref b], rfl, hc, by simp [hl], fun i u q h1 h2 => ?_⟩
  by_cases lt : i < us.length
  · rw [List.getElem?_append_left lt] at h1
    rw [List.getElem?_append_left (by rw [← hl]; exact lt)] at h2
    exact hp i u q h1 h2
  · rw [List.getElem?_append_right (by omega)] at h1
    rw [List.getElem?_append_right (by rw [← hl]; omega), ← hl] at h2
    cases z : i - us.length with
    | zero =>
      rw [z] at h1 h2
      obtain rfl : V.ref b = u := Option.some.inj h1
      obtain rfl : p = q := Option.some.inj h2
      exact ⟨b, rfl, hb⟩
    | succ k =>
      rw [z] at h1
      simp at h1
/-- all but c as it was, c a list of such entries -/
def LvI (H0 : Hp) (c : Addr) (es : List Ent) (H' : Hp) : Prop := ∃ Hc acc, Same H0 Hc ∧ Hc c = none ∧ H' = upd Hc c (.lst acc) ∧ EntL Hc acc es
theorem LvI.same {H0 : Hp} {c : Addr} {es : List Ent} {H' : Hp} (h : LvI H0 c es H') : Same H0 H' := by
  obtain ⟨Hc, acc, s, n, rfl, _⟩ := h
  exact s.trans (same_upd n)
theorem LvI.put {H0 : Hp} {c : Addr} {es : List Ent} {H' H2 : Hp} {acc : List V} {v : V} {e : Ent} (Hc : Hp) (s : Same H0 Hc) (n : Hc c = none) (e1 : H' = upd Hc c (.lst acc)) (el : EntL Hc acc es) (s2 : Same H' H2) (ev : EntV (hole H2 c) v e) :
    H2 c = some (.lst acc) ∧ LvI H0 c (es ++ [e]) (upd H2 c (.lst (acc ++ [v]))) := by
  have h2 : H2 c = some (.lst acc) := s2 _ _ (by rw [e1]; exact upd_same)
  have sh : Same Hc (hole H2 c) := same_hole n (by
    refine Same.trans ?_ s2
    rw [e1]
    exact same_upd n)
  refine ⟨h2, hole H2 c, acc ++ [v], s.trans sh, hole_at, upd_hole.symm, (el.same sh).snoc ev⟩
theorem cnt_odd : ∀ n : Nat, n ≤ 10 → n % 2 = 1 → cnt n = 0 := by decide
theorem prs_odd {xs : List Int} (h : xs.length ≤ 10) (o : xs.length % 2 = 1) : prs' xs = [] := by
  have := prs_len _ xs rfl
  rw [cnt_odd _ h o] at this
  exact List.length_eq_zero_iff.mp this
theorem tups_hole {H : Hp} {c : Addr} {l : List V} (e : H c = some (.lst l)) : Tups H (hole H c) := fun b xs z => by
  have ne : b ≠ c := fun q => by rw [q, e] at z; cases z
  unfold hole
  rw [if_neg ne]
  exact z
theorem flat_take {α β : Type} {f : α → List β} (l : List α) (j : Nat) : ((l.take j).flatMap f).length ≤ (l.flatMap f).length := by
  have e : l.flatMap f = (l.take j).flatMap f ++ (l.drop j).flatMap f := by rw [← List.flatMap_append, List.take_append_drop]
  rw [e, List.length_append]
  omega
theorem flat_next {α β : Type} {f : α → List β} {l : List α} {j : Nat} {x : α} (h : l[j]? = some x) : (l.take (j + 1)).flatMap f = (l.take j).flatMap f ++ f x := by
  rw [List.take_add_one, h, List.flatMap_append]
  simp
theorem stp_at {e : Ent} {a : Int} {r : List Int} {k : Nat} (h : e.2 = a :: r) (hk : k < r.length) : (stp e)[k]? = some (e.1 ++ [(a, r.getD k 0)], r.eraseIdx k) := by
  unfold stp
  rw [h]
  simp [hk]
theorem lv_small {s : Nat} {xs : List Int} (hl : xs.length ≤ 10) (hs : s < xs.length / 2) : ((lvl s xs).flatMap stp).length ≤ 945 := by
  rw [← lvl_next, lvl_len]
  exact cl_small _ hl _ (by omega)
def spAll (K : PySem.W.Frag) : Sp := fun vs H Q _ => ∃ (b : Addr) (xs : List Int), vs = [.ref b] ∧ SqL K H b (xs.map V.int) ∧ xs.length ≤ 10 ∧ xs.Pairwise (· < ·) ∧ ∀ (H' : Hp) (p : Addr) (us : List V), Same H H' → H p = none → H' p = some (.lst us) → PPL H' us (prs' xs) → Q (.ref p) H'
section
variable {P : Program} {w : World} {K : PySem.W.Frag} {mg : Str → Option Value} {base : Heap} {C : Addr}
set_option maxHeartbeats 0 in
theorem ok_all {f : Addr} {fd : FuncData} (F : Fun K "_law_all_pairings" "_law_all_pairings" s__law_all_pairings f fd) (T : Bi mg) : FnOk P w K mg base CX0 5 f fd ["_law_numbers"] (spAll K) := by
  refine F.ok sc__law_all_pairings (fun vs H Q E h => ?_) (fun cdv A outer s H vs Q E hr h => ?_)
  · obtain ⟨b, xs, rfl, _⟩ := h
    rfl
  · obtain ⟨b, xs, rfl, hb, hl, pw, q⟩ := h
    refine ⟨_, (pss_cons (ps_set (i := 1) sc__law_all_pairings.nd rfl (.inl rfl) (pe_lst (pa_cons (pe_lst (pa_cons (pe_tup pa_nil) (pa_cons (pe_callTy call_list_of (by rfl) T.b_list (by decide +kernel) (pa_cons (pv 0) pa_nil)) pa_nil))) pa_nil)))
        (pss_cons (ps_for PassesOwn.never rfl (pi_range1 (by rfl) T.b_range (pa_cons (pe_op op_fdiv (pe_callB call_len_seq (by rfl) T.b_len PySem.boot_len (pa_cons (pv 0) pa_nil)) pe_int) pa_nil)) (pg_name (i := 2) sc__law_all_pairings.nd rfl (.inl rfl))
        (pss_cons (ps_set (i := 3) sc__law_all_pairings.nd rfl (.inl rfl) (pe_lst pa_nil))
        (pss_cons (ps_for PassesOwn.never rfl (pi_list (pv 1)) (pg_name (i := 4) sc__law_all_pairings.nd rfl (.inl rfl))
        (pss_cons (ps_set (i := 5) sc__law_all_pairings.nd rfl (.inl rfl) (pe_ix (r := rIxL K) ix_list (pv 4) pe_int (fun _ _ => rfl)))
        (pss_one (ps_for PassesOwn.never rfl (pi_range2 (by rfl) T.b_range (pa_cons pe_int (pa_cons (pe_callB call_len_seq (by rfl) T.b_len PySem.boot_len (pa_cons (pv 5) pa_nil)) pa_nil))) (pg_name (i := 6) sc__law_all_pairings.nd rfl (.inl rfl))
        (pss_one (ps_expr (pe_bm PySem.F.plainAttrs_list PySem.F.slot_list_append PySem.F.type_list_append mt_append (pv 3) (pa_cons (pe_lst (pa_cons (pe_op (r := rCatA K) (op_catAK rfl) (pe_ix (r := rIxL K) ix_list (pv 4) pe_int (fun _ _ => rfl)) (pe_tup (pa_cons (pe_tup (pa_cons (pe_ix (r := rIxL K) ix_list (pv 5) pe_int (fun _ _ => rfl)) (pa_cons (pe_ix (r := rIxL K) ix_list (pv 5) (pv 6) (fun _ _ => rfl)) pa_nil))) pa_nil))) (pa_cons (pe_op op_cat (pe_slice sl_list (pv 5) (po_some pe_int) (po_some (pv 6))) (pe_slice sl_list (pv 5) (po_some (pe_op op_add (pv 6) pe_int)) po_none)) pa_nil))) pa_nil))))))))
        (pss_one (ps_set (i := 1) sc__law_all_pairings.nd rfl (.inl rfl) (pe_callTy call_list_of (by rfl) T.b_list (by decide +kernel) (pa_cons (pv 3) pa_nil)))))))
        (pss_cons (ps_if (pt_cmpR op_eq (pe_op op_mod (pe_callTy call_int1 (by rfl) T.b_int (by decide +kernel) (pa_cons (pe_callB call_len_seq (by rfl) T.b_len PySem.boot_len (pa_cons (pv 0) pa_nil)) pa_nil)) pe_int) pe_int (nomark _)) (pss_one (ps_ret (pe_lst pa_nil))) pss_nil)
        (pss_one (ps_ret (pe_callB (cr_sortedPP (k := 0) hr) (by rfl) T.b_sorted (by decide +kernel) (pa_cons (pe_lc (own := [("_law_entry", 4)]) (g := gName 4) (tt := tYes) rfl sc__law_all_pairings.nd (pi_list (pv 1)) (blkOk_by (own := [("_law_entry", 4)]) (N := ["_law_numbers", "_law_begun", "_law_step", "_law_longer", "_law_entry", "_law_left", "_law_k"]) (sc := defScope s__law_all_pairings) (by decide +kernel)) (fun _ _ _ _ _ => (pg_name (i := 4) sc__law_all_pairings.nd rfl (.inl rfl))) (fun _ _ _ _ _ => pts_nil) (fun _ _ _ _ _ => (pe_ix (r := rIxL K) ix_list (pv 4) pe_int (fun _ _ => rfl)))) pa_nil))))))), ?_⟩
    refine ⟨by show 0 ≤ sizeLine; decide, fun t nt => ?_⟩
    have s1 := same_upd (o := .tup []) nt
    refine ⟨_, rfl, b, _, rfl, .inl (s1.seq hb), fun l0 nl => ⟨by show 2 ≤ sizeLine; decide, fun e0 ne => ⟨by show 1 ≤ sizeLine; decide, fun c0 nc => ?_⟩⟩⟩
    have s2 := same_upd (o := .lst (xs.map V.int)) nl
    have s3 := same_upd (o := .lst [.ref t, .ref l0]) ne
    have s4 := same_upd (o := .lst [.ref e0]) nc
    have s14 := ((s1.trans s2).trans s3).trans s4
    have init : EntL (upd (upd (upd (upd H t (.tup [])) l0 (.lst (xs.map V.int))) e0 (.lst [.ref t, .ref l0])) c0 (.lst [.ref e0])) [.ref e0] (lvl 0 xs) := by
      refine ⟨rfl, fun i v e h1 h2 => ?_⟩
      cases i with
      | succ i => simp at h1
      | zero =>
        obtain rfl : V.ref e0 = v := Option.some.inj h1
        obtain rfl : (([] : List Pr), xs) = e := Option.some.inj h2
        exact ⟨e0, t, l0, rfl, s4 _ _ upd_same, ⟨t, [], rfl, s4 _ _ (s3 _ _ (s2 _ _ upd_same)), rfl, fun i u p h => by simp at h⟩, s4 _ _ (s3 _ _ upd_same)⟩
    have at0 : (upd (upd (upd (upd H t (.tup [])) l0 (.lst (xs.map V.int))) e0 (.lst [.ref t, .ref l0])) c0 (.lst [.ref e0])) c0 = some (.lst [.ref e0]) := upd_same
    generalize hH4 : upd (upd (upd (upd H t (.tup [])) l0 (.lst (xs.map V.int))) e0 (.lst [.ref t, .ref l0])) c0 (.lst [.ref e0]) = H4 at s14 init at0
    refine ⟨_, rfl, b, _, rfl, .inl (s14.seq hb), _, _, rfl, rfl, ⟨by decide, by decide⟩, _, rfl, ?_⟩
    have lenx : ((xs.map V.int).length : Int) = (xs.length : Int) := by rw [List.length_map]
    rw [lenx]
    have dv : ((xs.length : Int) / 2).toNat = xs.length / 2 := by omega
    refine ⟨by omega, by omega, ?_⟩
    rw [dv]
    refine for_range (lo := 0) (n := xs.length / 2) (fun s σ H' => ∃ (c : Addr) (ws : List V) (y2 y3 y4 y5 y6 : Option V), σ = [some (.ref b), some (.ref c), y2, y3, y4, y5, y6] ∧ Same H H' ∧ H' c = some (.lst ws) ∧ EntL H' ws (lvl s xs)) ⟨c0, [.ref e0], none, none, none, none, none, rfl, s14, at0, init⟩ (fun s σ H1 hs pv => ?_) (fun σ H1 pv => ?_)
    · obtain ⟨c, ws, y2, y3, y4, y5, y6, rfl, sH, hc, hws⟩ := pv
      refine ⟨by show 0 ≤ sizeLine; decide, fun p np => ?_⟩
      have init1 : LvI H1 p (((lvl s xs).take 0).flatMap stp) (upd H1 p (.lst [])) := ⟨H1, [], Same.refl _, np, rfl, EntL.nil⟩
      generalize upd H1 p (.lst []) = H2 at init1
      refine ⟨_, rfl, c, rfl, ⟨_, .inl (.inl (init1.same _ _ hc))⟩, for_list (xs := ws) (fun j σ H' => ∃ (y4 y5 y6 : Option V), σ = [some (.ref b), some (.ref c), some (.int (0 + (s : Int))), some (.ref p), y4, y5, y6] ∧ LvI H1 p (((lvl s xs).take j).flatMap stp) H') ⟨_, _, _, rfl, init1⟩ (fun j σ H' _ z => by obtain ⟨_, _, _, _, z⟩ := z; exact .inl (.inl (z.same _ _ hc))) (fun j x σ H3 hx z => ?_) (fun σ H3 z => ?_)⟩
      · obtain ⟨z4, z5, z6, rfl, L⟩ := z
        have hj : j < (lvl s xs).length := by
          rw [← hws.1]
          exact (List.getElem?_eq_some_iff.mp hx).1
        have hej : (lvl s xs)[j]? = some (lvl s xs)[j] := List.getElem?_eq_getElem hj
        generalize (lvl s xs)[j] = e at hej
        obtain ⟨eb, et, el, rfl, h1, ⟨_, us, eq1, hus, hul, hup⟩, h3⟩ := hws.2 j x e hx hej
        cases eq1
        obtain ⟨ln1, ln2⟩ := lvl_lens s xs e (List.mem_of_getElem? hej)
        obtain ⟨a, r, har⟩ : ∃ a r, e.2 = a :: r := by
          cases q2 : e.2 with
          | nil => rw [q2] at ln1; simp at ln1; omega
          | cons a r => exact ⟨a, r, rfl⟩
        rw [har] at h3
        have lr : r.length + 1 + 2 * s = xs.length := by
          rw [har] at ln1
          exact ln1
        have g0 : ((a :: r).map V.int)[0]? = some (.int a) := rfl
        refine ⟨_, rfl, eb, _, _, _, rfl, rfl, .inl (.inl (L.same _ _ h1)), at_of (j := 1) rfl rfl, ?_⟩
        have le : (((a :: r).map V.int).length : Int) = (r.length : Int) + 1 := by simp
        refine ⟨_, rfl, el, _, rfl, .inl (.inl (.inl (L.same _ _ h3))), 1, _, rfl, ⟨by decide, by decide, by rw [le]; omega, by rw [le]; omega⟩, ?_⟩
        rw [le, show ((r.length : Int) + 1 - 1).toNat = r.length by omega]
        refine for_range (lo := 1) (n := r.length) (fun k σ H' => ∃ (y6 : Option V), σ = [some (.ref b), some (.ref c), some (.int (0 + (s : Int))), some (.ref p), some (.ref eb), some (.ref el), y6] ∧ LvI H1 p (((lvl s xs).take j).flatMap stp ++ (stp e).take k) H') ⟨_, rfl, by rw [List.take_zero, List.append_nil]; exact L⟩ (fun k σ H4 hk z => ?_) (fun σ H4 z => ?_)
        · obtain ⟨y6, rfl, L4⟩ := z
          have S4 := L4.same
          obtain ⟨Hc, acc, sc, nc5, eH4, hacc⟩ := L4
          have at4 : H4 p = some (.lst acc) := by rw [eH4]; exact upd_same
          have g1 : ((a :: r).map V.int)[k + 1]? = some (.int (r.getD k 0)) := by
            rw [List.getD_eq_getElem?_getD, List.getElem?_eq_getElem hk]
            simp [List.getElem?_eq_getElem hk]
          refine ⟨_, rfl, .inl ⟨rfl, _, .inl (.inl at4)⟩, ?_⟩
          refine ⟨_, rfl, eb, _, _, _, rfl, rfl, .inl (.inl (S4 _ _ h1)), at_of (j := 0) rfl rfl, ?_⟩
          refine ⟨_, rfl, el, _, _, _, rfl, rfl, .inl (.inl (S4 _ _ h3)), at_of (j := 0) rfl g0, _, rfl, _, rfl, el, _, _, _, rfl, rfl, .inl (.inl (S4 _ _ h3)), at_of (j := k + 1) (by omega) g1, by show 2 ≤ sizeLine; decide, fun q1 m1 => ⟨by show 1 ≤ sizeLine; decide, fun q2 m2 => ?_⟩⟩
          have t1 := same_upd (o := .tup [.int a, .int (r.getD k 0)]) m1
          have t2 := same_upd (o := .tup [.ref q1]) m2
          have t12 := t1.trans t2
          have lus : us.length ≤ 945 := by omega
          refine catA_tup (t12 _ _ (S4 _ _ hus)) upd_same ?_ fun q3 H5 t3 hq3 => ?_
          · have : 10000 ≤ sizeLine := by decide
            show us.length + 1 ≤ sizeLine
            omega
          have t123 := t12.trans t3
          have at5 := t123 _ _ at4
          refine ⟨_, rfl, 1, rfl, _, rfl, _, rfl, el, _, rfl, .inl (.inl (t123 _ _ (S4 _ _ h3))), fun z1 n1 => ?_⟩
          rw [cut_mid (Nat.le_of_lt hk)]
          have u1 := same_upd (o := .lst ((r.take k).map V.int)) n1
          refine ⟨_, rfl, _, rfl, _, _, rfl, rfl, _, rfl, el, _, rfl, .inl (.inl (u1 _ _ (t123 _ _ (S4 _ _ h3)))), fun z2 n2 => ?_⟩
          rw [cut_end hk]
          have u2 := same_upd (o := .lst ((r.drop (k + 1)).map V.int)) n2
          refine ⟨z1, z2, _, _, rfl, rfl, u2 _ _ upd_same, upd_same, ?_, fun z3 n3 => ⟨by show 2 ≤ sizeLine; decide, fun z4 n4 => ?_⟩⟩
          · have : 10 ≤ sizeLine := by decide
            rw [List.length_map, List.length_map, List.length_take, List.length_drop]
            omega
          rw [← List.map_append, ← er_app] at n4 ⊢
          have u3 := same_upd (o := .lst ((r.eraseIdx k).map V.int)) n3
          have u4 := same_upd (o := .lst [.ref q3, .ref z3]) n4
          have u34 := u3.trans u4
          have tall : Same H4 _ := ((t123.trans u1).trans u2).trans u34
          have ne3 : z3 ≠ p := fun z => by
            have := u2 _ _ (u1 _ _ at5)
            rw [← z, n3] at this
            cases this
          have ne4 : z4 ≠ p := fun z => by
            have := u3 _ _ (u2 _ _ (u1 _ _ at5))
            rw [← z, n4] at this
            cases this
          have up : Same H5 _ := (u1.trans u2).trans u34
          have k2 := PPV.snoc (a := et) (b := q1) (c := q3) (us := us) (p := (a, r.getD k 0)) (up _ _ (t3 _ _ (t2 _ _ upd_same))) (PPV.tups ⟨et, us, rfl, hus, hul, hup⟩ (Same.tups (S4.trans tall))) (tall _ _ (S4 _ _ hus)) (up _ _ hq3)
          have k3 := u4 _ _ (upd_same (H := upd (upd H5 z1 (.lst ((r.take k).map V.int))) z2 (.lst ((r.drop (k + 1)).map V.int))) (a := z3) (o := .lst ((r.eraseIdx k).map V.int)))
          have k1 := upd_same (H := upd (upd (upd H5 z1 (.lst ((r.take k).map V.int))) z2 (.lst ((r.drop (k + 1)).map V.int))) z3 (.lst ((r.eraseIdx k).map V.int))) (a := z4) (o := .lst [.ref q3, .ref z3])
          generalize upd (upd (upd (upd H5 z1 (.lst ((r.take k).map V.int))) z2 (.lst ((r.drop (k + 1)).map V.int))) z3 (.lst ((r.eraseIdx k).map V.int))) z4 (.lst [.ref q3, .ref z3]) = H6 at tall k1 k2 k3 ⊢
          have at6 := tall _ _ at4
          have fin2 : EntV (hole H6 p) (.ref z4) (e.1 ++ [(a, r.getD k 0)], r.eraseIdx k) := ⟨z4, q3, z3, rfl, (hole_ne ne4).trans k1, k2.tups (tups_hole at6), (hole_ne ne3).trans k3⟩
          obtain ⟨_, nxt⟩ := LvI.put Hc sc nc5 eH4 hacc tall fin2
          refine ⟨p, acc, _, rfl, rfl, at6, ?_, ?_⟩
          · have h9 : 10000 ≤ sizeLine := by decide
            have h8 := hacc.1
            have h7 := lv_small hl hs
            have h6 := flat_take (f := stp) (lvl s xs) (j + 1)
            rw [flat_next hej, List.length_append] at h6
            rw [List.length_append, List.length_take] at h8
            omega
          · refine ⟨_, rfl, ?_⟩
            rw [List.take_add_one, stp_at har hk, ← List.append_assoc]
            exact nxt
        · obtain ⟨y6, rfl, L4⟩ := z
          refine ⟨_, _, _, rfl, ?_⟩
          rw [flat_next hej]
          have : (stp e).length ≤ r.length := by
            rw [stp_len, har]
            simp
          rw [List.take_of_length_le this] at L4
          exact L4
      · obtain ⟨z4, z5, z6, rfl, L⟩ := z
        rw [hws.1, List.take_length, ← lvl_next] at L
        have SL := L.same
        obtain ⟨Hc, acc, sc, nc5, eH3, hacc⟩ := L
        have at3 : H3 p = some (.lst acc) := by rw [eH3]; exact upd_same
        refine ⟨_, rfl, p, _, rfl, .inl (.inl (.inl at3)), fun c' nc' => ?_⟩
        have s5 := same_upd (o := .lst acc) nc'
        refine ⟨c', acc, _, _, _, _, _, rfl, (sH.trans SL).trans s5, upd_same, hacc.same ?_⟩
        refine Same.trans ?_ s5
        rw [eH3]
        exact same_upd nc5
    · obtain ⟨c, ws, y2, y3, y4, y5, y6, rfl, sH, hc, hws⟩ := pv
      refine ⟨_, rfl, b, _, rfl, .inl (sH.seq hb), .inl ⟨_, rfl, _, _, rfl, rfl, by show (0 : Int) < 2; decide, rfl, _, rfl, ite2 (fun eo => ?_) (fun eo => ?_)⟩⟩
      · have eo := of_decide_eq_true eo
        have eo : ((xs.map V.int).length : Int) % 2 = 1 := V.int.inj eo
        rw [lenx] at eo
        refine ⟨by show 0 ≤ sizeLine; decide, fun p np => ?_⟩
        refine q _ p [] (sH.trans (same_upd np)) (sH.free np) upd_same ?_
        rw [prs_odd hl (by omega)]
        exact PPL.nil
      · have ev : xs.length = 2 * (xs.length / 2) := by
          refine Classical.byContradiction fun z => eo (decide_eq_true ?_)
          have : ((xs.map V.int).length : Int) % 2 = 1 := by
            rw [lenx]
            omega
          show V.int (((xs.map V.int).length : Int) % 2) = V.int 1
          rw [this]
        have em := lvl_prs ev
        refine ⟨_, rfl, c, rfl, ⟨_, .inl (.inl hc)⟩, fun D nD => ?_⟩
        refine lc_list (K := K) (a := c) (xs := ws) (fun j H2 => ∃ us, LcI H1 D us H2 ∧ PPL H2 us (((lvl (xs.length / 2) xs).map (·.1)).take j)) ⟨[], LcI.start nD, PPL.nil⟩ (fun j H2 _ z => by obtain ⟨_, z, _⟩ := z; exact .inl (.inl (z.same _ _ hc))) (fun j x H2 hx z => ?_) (fun H2 z => ?_)
        · obtain ⟨us, L, p5⟩ := z
          have hj : j < (lvl (xs.length / 2) xs).length := by
            rw [← hws.1]
            exact (List.getElem?_eq_some_iff.mp hx).1
          have hej : (lvl (xs.length / 2) xs)[j]? = some (lvl (xs.length / 2) xs)[j] := List.getElem?_eq_getElem hj
          generalize (lvl (xs.length / 2) xs)[j] = e at hej
          obtain ⟨eb, et, el, rfl, h1, h2, h3⟩ := hws.2 j x e hx hej
          refine ⟨rfl, _, rfl, eb, _, _, _, rfl, rfl, .inl (.inl (L.same _ _ h1)), at_of (j := 0) rfl rfl, us, L.at_, ?_, us ++ [.ref et], L.put nD (Same.refl _), ?_⟩
          · have h9 : 10000 ≤ sizeLine := by decide
            have h8 := p5.1
            have h7 := congrArg List.length em
            rw [prs_len _ _ rfl] at h7
            have h6 := cnt_small _ hl
            rw [List.length_take] at h8
            omega
          · rw [List.take_add_one, List.getElem?_map, hej]
            have tq := tups_lst (o := .lst (us ++ [.ref et])) L.at_
            exact (p5.tups tq).snoc (h2.tups ((Same.tups L.same).trans tq))
        · obtain ⟨us, L, p5⟩ := z
          have el : ws.length = ((lvl (xs.length / 2) xs).map (·.1)).length := by rw [List.length_map, hws.1]
          rw [el, List.take_length, em] at p5
          refine ⟨D, us, prs' xs, xs.length / 2 - 1, rfl, .inl (.inl L.at_), p5, fun ps hps => ?_, prs_asc _ _ rfl pw, fun p np => ?_⟩
          · have h5 := prs_half _ _ rfl ps hps
            by_cases z : xs.length = 0
            · right
              rw [prs_len _ _ rfl, z]
              decide
            · left
              omega
          · refine q _ p us ((sH.trans L.same).trans (same_upd np)) ((sH.trans L.same).free np) upd_same (p5.tups (Same.tups (same_upd np)))
end
end Own

namespace Own
open PySem PySem.Spec PyProof.Rows L2 Slp
/-! ### the law: what the generator gives, item by item -/
theorem PPV.eqd {H : Hp} {v u : V} {ps : List Pr} (h : PPV H v ps) (k : PPV H u ps) (hl : ps.length ≤ 1000) : EqD 2 H v u := by
  obtain ⟨a, vs, rfl, ha, l1, p1⟩ := h
  obtain ⟨b, us, rfl, hb, l2, p2⟩ := k
  refine .inr ⟨a, b, vs, us, rfl, rfl, .inl ⟨ha, hb⟩, by rw [l1, l2], by rw [l2]; exact hl, fun i x y hx hy => ?_⟩
  have hi : i < ps.length := by
    rw [← l1]
    exact (List.getElem?_eq_some_iff.mp hx).1
  obtain ⟨c, rfl, hc⟩ := p1 i x _ hx (List.getElem?_eq_getElem hi)
  obtain ⟨d, rfl, hd⟩ := p2 i y _ hy (List.getElem?_eq_getElem hi)
  refine .inr ⟨c, d, _, _, rfl, rfl, .inl ⟨hc, hd⟩, rfl, by show 2 ≤ 1000; decide, fun j x y hx hy => ?_⟩
  rw [hx] at hy
  obtain rfl := Option.some.inj hy
  match j, hx with
  | 0, hx => exact ⟨_, (Option.some.inj hx).symm, (Option.some.inj hx).symm⟩
  | 1, hx => exact ⟨_, (Option.some.inj hx).symm, (Option.some.inj hx).symm⟩
theorem PPL.eqd {H : Hp} {a b : Addr} {vs us : List V} {l : List (List Pr)} (ha : (H a = some (.lst vs) ∧ H b = some (.lst us)) ∨ (H a = some (.tup vs) ∧ H b = some (.tup us))) (h : PPL H vs l) (k : PPL H us l) (hl : l.length ≤ 1000) (hp : ∀ ps ∈ l, ps.length ≤ 1000) : EqD 3 H (.ref a) (.ref b) := by
  refine .inr ⟨a, b, vs, us, rfl, rfl, ha.symm, by rw [h.1, k.1], by rw [k.1]; exact hl, fun i x y hx hy => ?_⟩
  have hi : i < l.length := by
    rw [← h.1]
    exact (List.getElem?_eq_some_iff.mp hx).1
  exact (h.2 i x _ hx (List.getElem?_eq_getElem hi)).eqd (k.2 i y _ hy (List.getElem?_eq_getElem hi)) (hp _ (List.getElem_mem hi))
theorem prs_sizes {xs : List Int} (h : xs.length ≤ 10) : (prs' xs).length ≤ 945 ∧ ∀ ps ∈ prs' xs, ps.length ≤ 1000 := by
  refine ⟨by rw [prs_len _ _ rfl]; exact cnt_small _ h, fun ps hp => ?_⟩
  have := prs_half _ _ rfl ps hp
  omega
def spRight (K : PySem.W.Frag) : Sp := fun vs H Q _ => ∃ (b d : Addr) (xs : List Int) (us : List V), vs = [.ref b, .ref d] ∧ SqB K H b (xs.map V.int) ∧ xs.length ≤ 10 ∧ H d = some (.lst us) ∧ PPL H us (prs' xs) ∧ ∀ H', Same H H' → Q (.bl true) H'
section
variable {P : Program} {w : World} {K : PySem.W.Frag} {mg : Str → Option Value} {base : Heap} {C : Addr}
set_option maxHeartbeats 0 in
theorem ok_right {f : Addr} {fd : FuncData} (F : Fun K "_law_right" "_law_right" s__law_right f fd) (T : Bi mg) {f_p : Addr} {d_p : FuncData} (D_p : Df K mg "pairings" s_pairings ["pins"] f_p d_p) (G_p : GnOk P w K mg base 6 f_p d_p ["pins"] (spPa K)) {f_s : Addr} {d_s : FuncData} (D_s : Df K mg "_law_same" s__law_same ["_law_told", "_law_due"] f_s d_s) (G_s : FnOk P w K mg base CX0 4 f_s d_s ["_law_told", "_law_due"] (spSameD 3)) : FnOk P w K mg base CX0 10 f fd ["_law_numbers", "_law_due"] (spRight K) := by
  refine F.ok sc__law_right (fun vs H Q E h => ?_) (fun cdv A outer s H vs Q E hr h => ?_)
  · obtain ⟨b, d, xs, us, rfl, _⟩ := h
    rfl
  · obtain ⟨b, d, xs, us, rfl, hb, hl, hd, hus, q⟩ := h
    refine ⟨_, (pss_cons (ps_set (i := 2) sc__law_right.nd rfl (.inl rfl) (pe_lst pa_nil))
        (pss_cons (ps_forG PassesOwn.never (fun _ _ _ _ _ h => h) rfl (hr.mono (by decide)) (pgn_call G_p (hr.mono (by decide)) (by rfl) D_p.g D_p.F.kp D_p.b .nil (pa_cons (pv 0) pa_nil)) (pg_name (i := 3) sc__law_right.nd rfl (.inl rfl))
        (pss_cons (ps_if (pt_cmpR op_eq (pe_callB call_len_seq (by rfl) T.b_len PySem.boot_len (pa_cons (pv 2) pa_nil)) (pe_callB call_len_seq (by rfl) T.b_len PySem.boot_len (pa_cons (pv 1) pa_nil)) (nomark _)) (pss_one (ps_ret pe_bl)) pss_nil)
        (pss_one (ps_expr (pe_bm PySem.F.plainAttrs_list PySem.F.slot_list_append PySem.F.type_list_append mt_append (pv 2) (pa_cons (pv 3) pa_nil))))))
        (pss_one (ps_ret (pe_call G_s (hr.mono (by decide)) (by rfl) D_s.g D_s.F.kp D_s.b .nil pass0 (pa_cons (pv 2) (pa_cons (pv 1) pa_nil))))))), ?_⟩
    refine ⟨by show 0 ≤ sizeLine; decide, fun c nc => ?_⟩
    obtain ⟨z1, z2⟩ := prs_sizes hl
    have L0 := LcI.start nc
    refine ⟨_, rfl, b, xs, rfl, SqB.same L0.same hb, hl, fun st m σ H' => m = (prs' xs).length - idx st ∧ idx st ≤ (prs' xs).length ∧ (∃ y, σ = [some (.ref b), some (.ref d), some (.ref c), y]) ∧ (∃ acc, LcI H c acc H' ∧ PPL H' acc ((prs' xs).take (idx st))) ∧ (match (st : PaS) with | none => True | some (l, _) => l ≠ c ∧ ∃ vs, H' l = some (.lst vs) ∧ PPL H' vs (prs' xs)), ⟨_, rfl, Nat.zero_le _, ⟨_, rfl⟩, ⟨[], L0, PPL.nil⟩, trivial⟩, fun st m σ H1 z => ?_⟩
    obtain ⟨rfl, hi, ⟨y, rfl⟩, ⟨acc, L, pa⟩, hst⟩ := z
    have la : acc.length = idx st := by
      rw [pa.1, List.length_take]
      omega
    refine ⟨?_, fun r H2 ho => ?_⟩
    · cases st with
      | none => exact SqB.same L.same hb
      | some p => exact hst.2
    · obtain ⟨s2, ho⟩ := ho
      have L2 := L.keep nc s2
      have S2 := L2.same
      match r with
      | none =>
        have ho : idx st = (prs' xs).length := ho
        rw [ho, List.take_length] at pa
        refine ⟨_, rfl, _, rfl, .ref c, .ref d, rfl, PPL.eqd (.inl ⟨L2.at_, S2 _ _ hd⟩) (pa.tups (Same.tups s2)) (hus.tups (Same.tups S2)) (by omega) z2, fun H3 s3 => q H3 (S2.trans s3)⟩
      | some (x, st') =>
        obtain ⟨l, vs, ps, rfl, hl0, hlv, hvs, hat, hx⟩ := ho
        have hlt : idx st < (prs' xs).length := (List.getElem?_eq_some_iff.mp hat).1
        have lc : l ≠ c := by
          cases st with
          | none =>
            intro z
            have := L.at_
            rw [← z, hl0] at this
            cases this
          | some p =>
            have hl0 : l = p.1 := hl0
            rw [hl0]
            exact hst.1
        refine ⟨fun σ' H' => (∃ y, σ' = [some (.ref b), some (.ref d), some (.ref c), y]) ∧ (∃ acc, LcI H c acc H' ∧ PPL H' acc ((prs' xs).take (idx st + 1))) ∧ (l ≠ c ∧ ∃ vs, H' l = some (.lst vs) ∧ PPL H' vs (prs' xs)), fun σ' H' n => ⟨(prs' xs).length - (idx st + 1), by omega, rfl, hlt, n.1, n.2.1, n.2.2⟩, ?_⟩
        have hd2 := S2 _ _ hd
        refine ⟨_, rfl, c, _, rfl, .inl (.inl (.inl L2.at_)), _, rfl, d, _, rfl, .inl (.inl (.inl hd2)), rfl, _, rfl, ite2 (fun e => ?_) (fun e => ?_)⟩
        · have e := of_decide_eq_true e
          have e : (acc.length : Int) = (us.length : Int) := V.int.inj e
          rw [la, hus.1] at e
          omega
        · refine ⟨_, rfl, .inl ⟨rfl, _, .inl (.inl L2.at_)⟩, _, rfl, c, _, _, rfl, rfl, L2.at_, ?_, ?_⟩
          · have h9 : 10000 ≤ sizeLine := by decide
            omega
          · have tq := tups_lst (o := .lst (acc ++ [x])) L2.at_
            refine ⟨⟨_, rfl⟩, ⟨acc ++ [x], L2.put nc (Same.refl _), ?_⟩, lc, vs, ?_, hvs.tups tq⟩
            · rw [List.take_add_one, hat]
              exact (pa.tups ((Same.tups s2).trans tq)).snoc (hx.tups tq)
            · rw [upd_ne lc]
              exact hlv
end
end Own

namespace Own
open PySem PySem.Spec PyProof.Rows L2 Slp
/-! ### the law -/
theorem op_neDK {X : Cx} {K : PySem.W.Frag} (hK : X.K = K) (hu : X.A.units + 64 < cLine) : OpR X (compareOp .NotEq) (rNeD K) := by
  subst hK
  exact op_neD hu
theorem dp_ints {K : PySem.W.Frag} {H : Hp} : ∀ ns : List Int, DpAll K H (ns.map V.int) (ns.map PyData.int)
  | [] => .nil
  | n :: ns => .cons (.int n) (dp_ints ns)
theorem eqv_ints : ∀ ns : List Int, PyData.eqvAll (ns.map PyData.int) (ns.map PyData.int) = true
  | [] => by simp [PyData.eqvAll]
  | n :: ns => by
    rw [List.map_cons, PyData.eqvAll, eqv_ints ns]
    simp [PyData.eqv]
theorem lay_ints : ∀ ns : List Int, PyData.canLayAll0 (ns.map PyData.int) = true ∧ PyData.depthAll (ns.map PyData.int) = 0
  | [] => ⟨rfl, rfl⟩
  | n :: ns => by
    obtain ⟨h1, h2⟩ := lay_ints ns
    refine ⟨?_, ?_⟩
    · show (PyData.canLay0 (.int n) && PyData.canLayAll0 (ns.map PyData.int)) = true
      rw [h1]
      rfl
    · show max (PyData.depth (.int n)) (PyData.depthAll (ns.map PyData.int)) = 0
      rw [h2]
      rfl
theorem shaped_ints (ns : List Int) : SeqAt.shaped (.list (ns.map PyData.int)) = true := by
  obtain ⟨h1, h2⟩ := lay_ints ns
  unfold SeqAt.shaped
  have e1 : PyData.canLay0 (.list (ns.map PyData.int)) = true := h1
  have e2 : PyData.depth (.list (ns.map PyData.int)) = 1 := by
    show PyData.depthAll (ns.map PyData.int) + 1 = 1
    rw [h2]
  rw [e1, e2]
  rfl
theorem eqv_list (ns : List Int) : PyData.eqv (.list (ns.map PyData.int)) (.list (ns.map PyData.int)) = true := by
  rw [PyData.eqv]
  exact eqv_ints ns
theorem PPL.take {H : Hp} {vs : List V} {l : List (List Pr)} (h : PPL H vs l) (n : Nat) : PPL H (vs.take n) (l.take n) := by
  refine ⟨by rw [List.length_take, List.length_take, h.1], fun i v ps h1 h2 => ?_⟩
  rw [List.getElem?_take] at h1 h2
  by_cases z : i < n
  · rw [if_pos z] at h1 h2
    exact h.2 i v ps h1 h2
  · rw [if_neg z] at h1
    cases h1
theorem cut_two (us : List V) : cutV us none (some 2) = us.take 2 := by
  unfold cutV
  rw [HT.sIx_none]
  have z : HT.sIx us.length us.length (some 2) = min 2 us.length := HT.sIx_nat us.length us.length 2
  rw [z, List.drop_zero, Nat.sub_zero]
  by_cases h : 2 ≤ us.length
  · rw [Nat.min_eq_left h]
  · rw [List.take_of_length_le (by omega), List.take_of_length_le (by omega)]
theorem forG_cut {t : Slp.TGn} {g : TG} {tb : TS} {D : Ends} {σ : L2.St} {H : Hp} (Pend : L2.St → Hp → Prop) (a : (∀ σ H, Pend σ H → D.nx σ H) → tForG t g tb D σ H) (b : ∀ σ H, Pend σ H → D.nx σ H) : tForG t g tb D σ H := a b
def spLaw (K : PySem.W.Frag) : Sp := fun vs H Q _ => ∃ (a : Addr) (ns : List Int), vs = [.ref a] ∧ SqL K H a (ns.map V.int) ∧ ns.length ≤ 1000 ∧ ∀ H', Q (.bl true) H'
section
variable {P : Program} {w : World} {K : PySem.W.Frag} {mg : Str → Option Value} {base : Heap} {C : Addr}
set_option maxHeartbeats 0 in
theorem ok_law {f : Addr} {fd : FuncData} (F : Fun K "law" "law" s_law f fd) (T : Bi mg) {f_p : Addr} {d_p : FuncData} (D_p : Df K mg "pairings" s_pairings ["pins"] f_p d_p) (G_p : GnOk P w K mg base 6 f_p d_p ["pins"] (spPa K)) {f_s : Addr} {d_s : FuncData} (D_s : Df K mg "_law_same" s__law_same ["_law_told", "_law_due"] f_s d_s) (G_s : FnOk P w K mg base CX0 4 f_s d_s ["_law_told", "_law_due"] (spSameD 3)) {f_c : Addr} {d_c : FuncData} (D_c : Df K mg "_law_cell" s__law_cell ["_law_script", "_law_k"] f_c d_c) (G_c : FnOk P w K mg base CX0 1 f_c d_c ["_law_script", "_law_k"] (spCell K)) {f_d : Addr} {d_d : FuncData} (D_d : Df K mg "_law_digits" s__law_digits ["_law_cell_here", "_law_sizes"] f_d d_d) (G_d : FnOk P w K mg base CX0 1 f_d d_d ["_law_cell_here", "_law_sizes"] (spDigs K)) {f_w : Addr} {d_w : FuncData} (D_w : Df K mg "_law_row" s__law_row ["_law_row_here"] f_w d_w) (G_w : FnOk P w K mg base CX0 1 f_w d_w ["_law_row_here"] (spRow K)) {f_a : Addr} {d_a : FuncData} (D_a : Df K mg "_law_all_pairings" s__law_all_pairings ["_law_numbers"] f_a d_a) (G_a : FnOk P w K mg base CX0 5 f_a d_a ["_law_numbers"] (spAll K)) {f_r : Addr} {d_r : FuncData} (D_r : Df K mg "_law_right" s__law_right ["_law_numbers", "_law_due"] f_r d_r) (G_r : FnOk P w K mg base CX0 10 f_r d_r ["_law_numbers", "_law_due"] (spRight K)) : FnOk P w K mg base CX0 11 f fd ["_law_script"] (spLaw K) := by
  refine F.ok sc_law (fun vs H Q E h => ?_) (fun cdv A outer s H vs Q E hr h => ?_)
  · obtain ⟨a, ns, rfl, _⟩ := h
    rfl
  · obtain ⟨a, ns, rfl, hs, hn, q⟩ := h
    have hu64 := hr.units
    refine ⟨_, (pss_cons (ps_set (i := 1) sc_law.nd rfl (.inl rfl) (pe_call G_w (hr.mono (by decide)) (by rfl) D_w.g D_w.F.kp D_w.b .nil pass0 (pa_cons (pe_call G_d (hr.mono (by decide)) (by rfl) D_d.g D_d.F.kp D_d.b .nil pass0 (pa_cons (pe_call G_c (hr.mono (by decide)) (by rfl) D_c.g D_c.F.kp D_c.b .nil pass0 (pa_cons (pv 0) (pa_cons pe_int pa_nil))) (pa_cons (pe_op op_cat (pe_lst (pa_cons pe_int (pa_cons pe_int pa_nil))) (pe_op op_rep (pe_lst (pa_cons pe_int pa_nil)) pe_int)) pa_nil))) pa_nil)))
        (pss_cons (ps_set (i := 2) sc_law.nd rfl (.inl rfl) (pe_call G_w (hr.mono (by decide)) (by rfl) D_w.g D_w.F.kp D_w.b .nil pass0 (pa_cons (pe_call G_d (hr.mono (by decide)) (by rfl) D_d.g D_d.F.kp D_d.b .nil pass0 (pa_cons (pe_call G_c (hr.mono (by decide)) (by rfl) D_c.g D_c.F.kp D_c.b .nil pass0 (pa_cons (pv 0) (pa_cons pe_int pa_nil))) (pa_cons (pe_op op_cat (pe_lst (pa_cons pe_int (pa_cons pe_int pa_nil))) (pe_op op_rep (pe_lst (pa_cons pe_int pa_nil)) pe_int)) pa_nil))) pa_nil)))
        (pss_cons (ps_set (i := 3) sc_law.nd rfl (.inl rfl) (pe_call G_a (hr.mono (by decide)) (by rfl) D_a.g D_a.F.kp D_a.b .nil pass0 (pa_cons (pv 1) pa_nil)))
        (pss_cons (ps_set (i := 4) sc_law.nd rfl (.inl rfl) (pe_call G_a (hr.mono (by decide)) (by rfl) D_a.g D_a.F.kp D_a.b .nil pass0 (pa_cons (pv 2) pa_nil)))
        (pss_cons (ps_set (i := 5) sc_law.nd rfl (.inl rfl) (pe_callTy call_list_of (by rfl) T.b_list (by decide +kernel) (pa_cons (pv 1) pa_nil)))
        (pss_cons (ps_if (PW.pt (pw_or (pt_not (pt_val (pe_call G_r (hr.mono (by decide)) (by rfl) D_r.g D_r.F.kp D_r.b .nil pass0 (pa_cons (pv 5) (pa_cons (pv 3) pa_nil))))) (pw_or1 (pt_not (pt_val (pe_call G_r (hr.mono (by decide)) (by rfl) D_r.g D_r.F.kp D_r.b .nil pass0 (pa_cons (pe_callTy call_tuple_of (by rfl) T.b_tuple (by decide +kernel) (pa_cons (pv 2) pa_nil)) (pa_cons (pv 4) pa_nil)))))))) (pss_one (ps_ret pe_bl)) pss_nil)
        (pss_cons (ps_set (i := 6) sc_law.nd rfl (.inl rfl) (pe_lst pa_nil))
        (pss_cons (ps_forG PassesOwn.never (fun _ _ _ _ _ h => h) rfl (hr.mono (by decide)) (pgn_callK0 (ks := ["pins"]) G_p (hr.mono (by decide)) (by rfl) D_p.g D_p.F.kp (kb_alone D_p.F fun _ _ _ _ _ _ ws hl => match ws, hl with | [_], _ => rfl) (pk_cons (pe_callTy call_list_of (by rfl) T.b_list (by decide +kernel) (pa_cons (pv 2) pa_nil)) pk_nil)) (pg_name (i := 7) sc_law.nd rfl (.inl rfl))
        (pss_cons (ps_expr (pe_bm PySem.F.plainAttrs_list PySem.F.slot_list_append PySem.F.type_list_append mt_append (pv 6) (pa_cons (pv 7) pa_nil)))
        (pss_one (ps_if (pt_cmpR op_eq (pe_callB call_len_seq (by rfl) T.b_len PySem.boot_len (pa_cons (pv 6) pa_nil)) pe_int (nomark _)) (pss_one ps_break) pss_nil))))
        (pss_cons (ps_if (PW.pt (pw_or (pt_cmpR op_ne (pe_callB call_len_seq (by rfl) T.b_len PySem.boot_len (pa_cons (pv 6) pa_nil)) (pe_callB (call_min2 rfl) (by rfl) T.b_min (by decide +kernel) (pa_cons pe_int (pa_cons (pe_callB call_len_seq (by rfl) T.b_len PySem.boot_len (pa_cons (pv 4) pa_nil)) pa_nil))) (nomark _)) (pw_or1 (pt_not (pt_val (pe_call G_s (hr.mono (by decide)) (by rfl) D_s.g D_s.F.kp D_s.b .nil pass0 (pa_cons (pe_callTy call_tuple_of (by rfl) T.b_tuple (by decide +kernel) (pa_cons (pv 6) pa_nil)) (pa_cons (pe_callTy call_tuple_of (by rfl) T.b_tuple (by decide +kernel) (pa_cons (pe_slice sl_list (pv 4) po_none (po_some pe_int)) pa_nil)) pa_nil)))))))) (pss_one (ps_ret pe_bl)) pss_nil)
        (pss_cons (ps_if (PW.pt (pw_or (pt_not (pt_val (pe_call G_r (hr.mono (by decide)) (by rfl) D_r.g D_r.F.kp D_r.b .nil pass0 (pa_cons (pe_callTy call_tuple_of (by rfl) T.b_tuple (by decide +kernel) (pa_cons (pv 1) pa_nil)) (pa_cons (pv 3) pa_nil))))) (pw_or (pt_not (pt_val (pe_call G_r (hr.mono (by decide)) (by rfl) D_r.g D_r.F.kp D_r.b .nil pass0 (pa_cons (pv 2) (pa_cons (pv 4) pa_nil))))) (pw_or1 (pt_cmpR (by exact op_neDK (K := K) rfl hu64) (pv 5) (pv 1) (nomark _)))))) (pss_one (ps_ret pe_bl)) pss_nil)
        (pss_cons (ps_if (pt_cmpR op_gt (pe_callB call_len_seq (by rfl) T.b_len PySem.boot_len (pa_cons (pv 5) pa_nil)) pe_int (nomark _)) (pss_one (ps_expr (pe_bm0 PySem.F.plainAttrs_list PySem.F.slot_list_pop PySem.F.type_list_pop mt_pop (pv 5)))) pss_nil)
        (pss_one (ps_ret (pe_call G_r (hr.mono (by decide)) (by rfl) D_r.g D_r.F.kp D_r.b .nil pass0 (pa_cons (pv 5) (pa_cons (pe_call G_a (hr.mono (by decide)) (by rfl) D_a.g D_a.F.kp D_a.b .nil pass0 (pa_cons (pv 5) pa_nil)) pa_nil)))))))))))))))), ?_⟩
    refine ⟨_, rfl, a, ns, 0, rfl, hs, by decide, hn, fun cA => ⟨by show 2 ≤ sizeLine; decide, fun p1A n1A => ⟨by show 1 ≤ sizeLine; decide, fun p2A n2A => ⟨p2A, 9, [.int 8], rfl, rfl, upd_same, by decide, by decide, by decide, fun p3A n3A => ⟨p1A, p3A, [.int 16, .int 4], (List.replicate 9 [V.int 8]).flatten, rfl, rfl, ?_, upd_same, by decide, fun p4A n4A => ?_⟩⟩⟩⟩⟩
    · exact (same_upd n3A) _ _ ((same_upd n2A) _ _ upd_same)
    have s1A := (((same_upd (o := .lst [.int 16, .int 4]) n1A).trans (same_upd (o := .lst [.int 8]) n2A)).trans (same_upd (o := .lst (List.replicate 9 [V.int 8]).flatten) n3A)).trans (same_upd (o := .lst ([V.int 16, V.int 4] ++ (List.replicate 9 [V.int 8]).flatten)) n4A)
    refine ⟨cA, p4A, [16, 4] ++ List.replicate 9 8, rfl, .inl (.inl upd_same), by decide, by decide, fun H1A p5A dsA s2A n5A e5A dgA => ⟨p5A, dsA, rfl, .inl (.inl e5A), dgA, fun H2A oA xsA s3A noA hoA hxA pwA => ?_⟩⟩
    have saA := (s1A.trans s2A).trans s3A
    refine ⟨_, rfl, a, ns, 1, rfl, saA.seq hs, by decide, hn, fun cB => ⟨by show 2 ≤ sizeLine; decide, fun p1B n1B => ⟨by show 1 ≤ sizeLine; decide, fun p2B n2B => ⟨p2B, 9, [.int 8], rfl, rfl, upd_same, by decide, by decide, by decide, fun p3B n3B => ⟨p1B, p3B, [.int 16, .int 4], (List.replicate 9 [V.int 8]).flatten, rfl, rfl, ?_, upd_same, by decide, fun p4B n4B => ?_⟩⟩⟩⟩⟩
    · exact (same_upd n3B) _ _ ((same_upd n2B) _ _ upd_same)
    have s1B := (((same_upd (o := .lst [.int 16, .int 4]) n1B).trans (same_upd (o := .lst [.int 8]) n2B)).trans (same_upd (o := .lst (List.replicate 9 [V.int 8]).flatten) n3B)).trans (same_upd (o := .lst ([V.int 16, V.int 4] ++ (List.replicate 9 [V.int 8]).flatten)) n4B)
    refine ⟨cB, p4B, [16, 4] ++ List.replicate 9 8, rfl, .inl (.inl upd_same), by decide, by decide, fun H1B p5B dsB s2B n5B e5B dgB => ⟨p5B, dsB, rfl, .inl (.inl e5B), dgB, fun H2B oB xsB s3B noB hoB hxB pwB => ?_⟩⟩
    have saB := (s1B.trans s2B).trans s3B
    have ho1 := saB _ _ hoA
    refine ⟨_, rfl, oA, xsA, rfl, .inl (.inl ho1), hxA, pwA, fun H3 f1 us1 s3 nf1 hf1 pp1 => ?_⟩
    refine ⟨_, rfl, oB, xsB, rfl, .inl (.inl (s3 _ _ hoB)), hxB, pwB, fun H4 f2 us2 s4 nf2 hf2 pp2 => ?_⟩
    have k1 := s4 _ _ (s3 _ _ ho1)
    have k2 := s4 _ _ (s3 _ _ hoB)
    have k3 := s4 _ _ hf1
    have pp1 := pp1.tups (Same.tups s4)
    refine ⟨_, rfl, oA, _, rfl, .inl (.inl (.inl k1)), fun h nh => ?_⟩
    have s5 := same_upd (o := .lst (xsA.map V.int)) nh
    have hh := upd_same (H := H4) (a := h) (o := .lst (xsA.map V.int))
    generalize upd H4 h _ = H5 at s5 hh ⊢
    refine ⟨_, rfl, _, rfl, h, f1, xsA, us1, rfl, .inl (.inl (.inl hh)), hxA, s5 _ _ k3, pp1.tups (Same.tups s5), fun H6 s6 => ⟨true, rfl, ?_⟩⟩
    have s56 := s5.trans s6
    refine ⟨_, rfl, oB, _, rfl, .inl ⟨.inl (.inl (s56 _ _ k2)), fun t nt => ⟨_, rfl, t, f2, xsB, us2, rfl, .inr (.inl (.inl upd_same)), hxB, ?_, ?_, fun H7 s7 => ⟨true, rfl, ?_⟩⟩⟩⟩
    · exact (same_upd nt) _ _ (s56 _ _ hf2)
    · exact pp2.tups (Same.tups (s56.trans (same_upd nt)))
    have s67 := (same_upd (o := .tup (xsB.map V.int)) nt).trans s7
    have s57 := s56.trans s67
    have hh7 := s67 _ _ (s6 _ _ hh)
    refine ⟨by show 0 ≤ sizeLine; decide, fun g ng => ?_⟩
    have L0 := LcI.start ng
    obtain ⟨zb1, zb2⟩ := prs_sizes hxB
    obtain ⟨za1, za2⟩ := prs_sizes hxA
    dsimp only [tSeq, tAsg, gName]
    refine forG_cut (fun σ H' => (∃ y, σ = [some (.ref a), some (.ref oA), some (.ref oB), some (.ref f1), some (.ref f2), some (.ref h), some (.ref g), y]) ∧ ∃ acc, LcI H7 g acc H' ∧ PPL H' acc ((prs' xsB).take 2)) (fun hend => ?_) (fun σ H8 z => ?_)
    · refine ⟨_, rfl, oB, _, rfl, .inl (.inl (.inl (L0.same _ _ (s57 _ _ k2)))), fun l nl => ⟨rfl, l, xsB, rfl, .inl (.inl (.inl upd_same)), hxB, ?_⟩⟩
      have L1 := L0.keep ng (same_upd (o := .lst (xsB.map V.int)) nl)
      refine ⟨fun st m σ H' => m = 2 - idx st ∧ idx st ≤ 1 ∧ idx st ≤ (prs' xsB).length ∧ (∃ y, σ = [some (.ref a), some (.ref oA), some (.ref oB), some (.ref f1), some (.ref f2), some (.ref h), some (.ref g), y]) ∧ (∃ acc, LcI H7 g acc H' ∧ PPL H' acc ((prs' xsB).take (idx st))) ∧ (match (st : PaS) with | none => H' l = some (.lst (xsB.map V.int)) | some (l0, _) => l0 ≠ g ∧ ∃ vs, H' l0 = some (.lst vs) ∧ PPL H' vs (prs' xsB)), ⟨_, rfl, Nat.zero_le _, Nat.zero_le _, ⟨_, rfl⟩, ⟨[], L1, PPL.nil⟩, upd_same⟩, fun st m σ H8 z => ?_⟩
      obtain ⟨rfl, hi, hi2, ⟨y, rfl⟩, ⟨acc, L, pa⟩, hst⟩ := z
      have la : acc.length = idx st := by
        rw [pa.1, List.length_take]
        omega
      refine ⟨?_, fun r H9 ho => ?_⟩
      · cases st with
        | none => exact .inl (.inl (.inl hst))
        | some p => exact hst.2
      · obtain ⟨s2, ho⟩ := ho
        have L2 := L.keep ng s2
        match r with
        | none =>
          have ho : idx st = (prs' xsB).length := ho
          refine hend _ _ ⟨⟨_, rfl⟩, acc, L2, ?_⟩
          rw [List.take_of_length_le (by omega)]
          rw [ho, List.take_length] at pa
          exact pa.tups (Same.tups s2)
        | some (x, st') =>
          obtain ⟨l1, vs, ps, rfl, hl0, hlv, hvs, hat, hx⟩ := ho
          have hlt : idx st < (prs' xsB).length := (List.getElem?_eq_some_iff.mp hat).1
          have lc : l1 ≠ g := by
            cases st with
            | none =>
              intro z
              have := L.at_
              rw [← z, hl0] at this
              cases this
            | some p =>
              have hl0 : l1 = p.1 := hl0
              rw [hl0]
              exact hst.1
          refine ⟨fun σ' H' => idx st = 0 ∧ (∃ y, σ' = [some (.ref a), some (.ref oA), some (.ref oB), some (.ref f1), some (.ref f2), some (.ref h), some (.ref g), y]) ∧ (∃ acc, LcI H7 g acc H' ∧ PPL H' acc ((prs' xsB).take (idx st + 1))) ∧ (l1 ≠ g ∧ ∃ vs, H' l1 = some (.lst vs) ∧ PPL H' vs (prs' xsB)), fun σ' H' n => ⟨2 - (idx st + 1), by omega, rfl, by have := n.1; show idx st + 1 ≤ 1; omega, hlt, n.2.1, n.2.2.1, n.2.2.2⟩, ?_⟩
          have tq := tups_lst (o := .lst (acc ++ [x])) L2.at_
          have L3 := L2.put (m := acc ++ [x]) ng (Same.refl _)
          have p3 : PPL (upd H9 g (.lst (acc ++ [x]))) (acc ++ [x]) ((prs' xsB).take (idx st + 1)) := by
            rw [List.take_add_one, hat]
            exact (pa.tups ((Same.tups s2).trans tq)).snoc (hx.tups tq)
          have lv : upd H9 g (.lst (acc ++ [x])) l1 = some (.lst vs) := by
            rw [upd_ne lc]
            exact hlv
          have hvs3 := hvs.tups tq
          refine ⟨_, rfl, .inl ⟨rfl, _, .inl (.inl L2.at_)⟩, _, rfl, g, _, _, rfl, rfl, L2.at_, Nat.lt_of_le_of_lt (show acc.length ≤ 1 by omega) (by decide), ?_⟩
          generalize upd H9 g (.lst (acc ++ [x])) = H10 at L3 p3 lv hvs3
          have la2 : (acc ++ [x]).length = idx st + 1 := by rw [List.length_append, la]; rfl
          refine ⟨_, rfl, g, _, rfl, .inl (.inl (.inl L3.at_)), rfl, _, rfl, ite2 (fun e => ?_) (fun e => ?_)⟩
          · have e := of_decide_eq_true e
            have e : ((acc ++ [x]).length : Int) = 2 := V.int.inj e
            rw [la2] at e
            have e2 : idx st + 1 = 2 := by omega
            rw [e2] at p3
            exact hend _ _ ⟨⟨_, rfl⟩, acc ++ [x], L3, p3⟩
          · have e2 : idx st ≠ 1 := fun z => e (decide_eq_true (by rw [la2, z]; rfl))
            exact ⟨by omega, ⟨_, rfl⟩, ⟨acc ++ [x], L3, p3⟩, lc, vs, lv, hvs3⟩
    · obtain ⟨⟨y, rfl⟩, acc, L, pa⟩ := z
      have S8 := L.same
      have S58 := s57.trans S8
      have kf2 := S58 _ _ hf2
      have kf1 := S58 _ _ k3
      have koA := S58 _ _ k1
      have koB := S58 _ _ k2
      have kh := S8 _ _ hh7
      have kpp1 := pp1.tups (Same.tups S58)
      have kpp2 := pp2.tups (Same.tups S58)
      have la : acc.length = min 2 us2.length := by
        rw [pa.1, List.length_take, pp2.1]
      have ne : (!decide (V.int (acc.length : Int) = V.int (if (us2.length : Int) < 2 then (us2.length : Int) else 2))) = false := by
        rw [la]
        have z : ((min 2 us2.length : Nat) : Int) = (if (us2.length : Int) < 2 then (us2.length : Int) else 2) := by
          split <;> omega
        rw [z, decide_eq_true rfl]
        rfl
      refine ⟨_, rfl, g, _, rfl, .inl (.inl (.inl L.at_)), _, rfl, f2, _, rfl, .inl (.inl (.inl kf2)), _, _, rfl, rfl, false, congrArg V.bl ne, ?_⟩
      refine ⟨_, rfl, g, _, rfl, .inl ⟨.inl (.inl L.at_), fun u1 m1 => ?_⟩⟩
      have v1 := same_upd (o := .tup acc) m1
      refine ⟨_, rfl, 2, rfl, f2, _, rfl, .inl (.inl (v1 _ _ kf2)), fun u2 m2 => ?_⟩
      rw [cut_two]
      have v2 := same_upd (o := .lst (us2.take 2)) m2
      refine ⟨u2, _, rfl, .inl ⟨.inl (.inl upd_same), fun u3 m3 => ?_⟩⟩
      have v3 := same_upd (o := .tup (us2.take 2)) m3
      have v13 := (v1.trans v2).trans v3
      refine ⟨.ref u1, .ref u3, rfl, PPL.eqd (l := (prs' xsB).take 2) (.inr ⟨v3 _ _ (v2 _ _ upd_same), upd_same⟩) (pa.tups (Same.tups v13)) ((kpp2.take 2).tups (Same.tups v13)) (by rw [List.length_take]; omega) (fun ps hp => zb2 ps (List.mem_of_mem_take hp)), fun H9 s9 => ⟨true, rfl, ?_⟩⟩
      have w1 := v13.trans s9
      refine ⟨_, rfl, oA, _, rfl, .inl ⟨.inl (.inl (w1 _ _ koA)), fun t2 nt2 => ⟨_, rfl, t2, f1, xsA, us1, rfl, .inr (.inl (.inl upd_same)), hxA, ?_, ?_, fun H10 s10 => ⟨true, rfl, ?_⟩⟩⟩⟩
      · exact (same_upd nt2) _ _ (w1 _ _ kf1)
      · exact kpp1.tups (Same.tups (w1.trans (same_upd nt2)))
      have w2 := (w1.trans (same_upd (o := .tup (xsA.map V.int)) nt2)).trans s10
      refine ⟨_, rfl, _, rfl, oB, f2, xsB, us2, rfl, .inl (.inl (.inl (w2 _ _ koB))), hxB, w2 _ _ kf2, kpp2.tups (Same.tups w2), fun H11 s11 => ⟨true, rfl, ?_⟩⟩
      have w3 := w2.trans s11
      have kh3 := w3 _ _ kh
      refine ⟨_, rfl, _, rfl, .list (xsA.map PyData.int), .list (xsA.map PyData.int), .lst (.inl (.inl kh3)) (dp_ints _), .lst (.inl (.inl (w3 _ _ koA))) (dp_ints _), shaped_ints _, shaped_ints _, false, congrArg V.bl (by rw [eqv_list]; rfl), ?_⟩
      have kl : ((xsA.map V.int).length : Int) = (xsA.length : Int) := by rw [List.length_map]
      refine ⟨_, rfl, h, _, rfl, .inl (.inl (.inl kh3)), _, _, rfl, rfl, _, rfl, ite2 (fun e => ?_) (fun e => ?_)⟩
      · have e := of_decide_eq_true e
        rw [kl] at e
        have lp : 0 < xsA.length := by omega
        have gy : (xsA.map V.int)[(xsA.map V.int).length - 1]? = some (.int xsA[xsA.length - 1]) := by
          rw [List.length_map, List.getElem?_map, List.getElem?_eq_getElem (by omega)]
          rfl
        refine ⟨_, rfl, .inl ⟨rfl, _, .inl (.inl kh3)⟩, h, _, _, rfl, rfl, kh3, gy, ?_⟩
        rw [← List.map_dropLast]
        have hd : upd H11 h (.lst (xsA.dropLast.map V.int)) h = some (.lst (xsA.dropLast.map V.int)) := upd_same
        generalize upd H11 h (.lst (xsA.dropLast.map V.int)) = H12 at hd ⊢
        have dl : xsA.dropLast.length ≤ 10 := by
          rw [List.length_dropLast]
          omega
        refine ⟨_, rfl, _, rfl, h, xsA.dropLast, rfl, .inl (.inl hd), dl, pwA.sublist (List.dropLast_sublist _), fun H13 p us s13 np hp pp => ?_⟩
        exact ⟨h, p, xsA.dropLast, us, rfl, .inl (.inl (.inl (s13 _ _ hd))), dl, hp, pp, fun H' _ => q H'⟩
      · refine ⟨_, rfl, _, rfl, h, xsA, rfl, .inl (.inl kh3), hxA, pwA, fun H13 p us s13 np hp pp => ?_⟩
        exact ⟨h, p, xsA, us, rfl, .inl (.inl (.inl (s13 _ _ kh3))), hxA, hp, pp, fun H' _ => q H'⟩
end
end Own

namespace Own
open PySem PySem.Spec PyProof.Rows L2
/-! ### what the top has left -/
theorem df_mk {K : PySem.W.Frag} {mg : Str → Option Value} {x : Str} {st : Stmt} {ps : List Str} {h : Heap} {f : Addr} {oc : Value} {od an : Option Addr} {osl : Array (Option Value)} {kV doc pm cdv ct : Value} (X : K.In h) (G : h.Ns mainGlobals mg)
    (a : PySem.W.nsIn K mainGlobals x = some (some (.ref f))) (l : K.lookup f = some ⟨oc, od, .func (PySem.W.fnOf x x (defArgs st) (defBody st) (defScope st) .none kV doc pm an cdv ct), osl⟩) (c : PySem.W.codeIn K cdv x = true) (k : PySem.W.keepIn K (.ref f) = true)
    (b : ∀ (kV doc pm : Value) (an : Option Addr) (cdv ct : Value) (us : List Value), us.length = ps.length → bindArgs (PySem.W.fnOf x x (defArgs st) (defBody st) (defScope st) .none kV doc pm an cdv ct) ⟨us, []⟩ = pure (ps.zip us)) :
    Df K mg x st ps f (PySem.W.fnOf x x (defArgs st) (defBody st) (defScope st) .none kV doc pm an cdv ct) :=
  ⟨fun_mk l c k, PySem.W.mg_of X G a, (fun_mk l c k).binds b⟩
set_option maxHeartbeats 0 in
theorem all_mk {lw : PySem.W.OpenLaw} {w : World} {K : PySem.W.Frag} {h : Heap} {mg : Str → Option Value} {fa f1 f2 f3 f4 f5 f6 f7 f8 f9 : Addr} (X : K.In h) (G : h.Ns mainGlobals mg) (hfa : mg "law" = some (.ref fa))
    {od1 an1 : Option Addr} {sl1 : Array (Option Value)} {oc1 kV1 dc1 pm1 cd1 ct1 : Value} {od2 an2 : Option Addr} {sl2 : Array (Option Value)} {oc2 kV2 dc2 pm2 cd2 ct2 : Value} {od3 an3 : Option Addr} {sl3 : Array (Option Value)} {oc3 kV3 dc3 pm3 cd3 ct3 : Value} {od4 an4 : Option Addr} {sl4 : Array (Option Value)} {oc4 kV4 dc4 pm4 cd4 ct4 : Value} {od5 an5 : Option Addr} {sl5 : Array (Option Value)} {oc5 kV5 dc5 pm5 cd5 ct5 : Value} {od6 an6 : Option Addr} {sl6 : Array (Option Value)} {oc6 kV6 dc6 pm6 cd6 ct6 : Value} {od7 an7 : Option Addr} {sl7 : Array (Option Value)} {oc7 kV7 dc7 pm7 cd7 ct7 : Value} {od8 an8 : Option Addr} {sl8 : Array (Option Value)} {oc8 kV8 dc8 pm8 cd8 ct8 : Value} {od9 an9 : Option Addr} {sl9 : Array (Option Value)} {oc9 kV9 dc9 pm9 cd9 ct9 : Value}
    (a1 : PySem.W.nsIn K mainGlobals "all_paired" = some (some (.ref f1)))
    (l1 : K.lookup f1 = some ⟨oc1, od1, .func (PySem.W.fnOf "all_paired" "all_paired" (defArgs s_all_paired) (defBody s_all_paired) (defScope s_all_paired) .none kV1 dc1 pm1 an1 cd1 ct1), sl1⟩)
    (c1 : PySem.W.codeIn K cd1 "all_paired" = true)
    (k1 : PySem.W.keepIn K (.ref f1) = true)
    (a2 : PySem.W.nsIn K mainGlobals "pairings" = some (some (.ref f2)))
    (l2 : K.lookup f2 = some ⟨oc2, od2, .func (PySem.W.fnOf "pairings" "pairings" (defArgs s_pairings) (defBody s_pairings) (defScope s_pairings) .none kV2 dc2 pm2 an2 cd2 ct2), sl2⟩)
    (c2 : PySem.W.codeIn K cd2 "pairings" = true)
    (k2 : PySem.W.keepIn K (.ref f2) = true)
    (a3 : PySem.W.nsIn K mainGlobals "_law_cell" = some (some (.ref f3)))
    (l3 : K.lookup f3 = some ⟨oc3, od3, .func (PySem.W.fnOf "_law_cell" "_law_cell" (defArgs s__law_cell) (defBody s__law_cell) (defScope s__law_cell) .none kV3 dc3 pm3 an3 cd3 ct3), sl3⟩)
    (c3 : PySem.W.codeIn K cd3 "_law_cell" = true)
    (k3 : PySem.W.keepIn K (.ref f3) = true)
    (a4 : PySem.W.nsIn K mainGlobals "_law_digits" = some (some (.ref f4)))
    (l4 : K.lookup f4 = some ⟨oc4, od4, .func (PySem.W.fnOf "_law_digits" "_law_digits" (defArgs s__law_digits) (defBody s__law_digits) (defScope s__law_digits) .none kV4 dc4 pm4 an4 cd4 ct4), sl4⟩)
    (c4 : PySem.W.codeIn K cd4 "_law_digits" = true)
    (k4 : PySem.W.keepIn K (.ref f4) = true)
    (a5 : PySem.W.nsIn K mainGlobals "_law_same" = some (some (.ref f5)))
    (l5 : K.lookup f5 = some ⟨oc5, od5, .func (PySem.W.fnOf "_law_same" "_law_same" (defArgs s__law_same) (defBody s__law_same) (defScope s__law_same) .none kV5 dc5 pm5 an5 cd5 ct5), sl5⟩)
    (c5 : PySem.W.codeIn K cd5 "_law_same" = true)
    (k5 : PySem.W.keepIn K (.ref f5) = true)
    (a6 : PySem.W.nsIn K mainGlobals "_law_all_pairings" = some (some (.ref f6)))
    (l6 : K.lookup f6 = some ⟨oc6, od6, .func (PySem.W.fnOf "_law_all_pairings" "_law_all_pairings" (defArgs s__law_all_pairings) (defBody s__law_all_pairings) (defScope s__law_all_pairings) .none kV6 dc6 pm6 an6 cd6 ct6), sl6⟩)
    (c6 : PySem.W.codeIn K cd6 "_law_all_pairings" = true)
    (k6 : PySem.W.keepIn K (.ref f6) = true)
    (a7 : PySem.W.nsIn K mainGlobals "_law_row" = some (some (.ref f7)))
    (l7 : K.lookup f7 = some ⟨oc7, od7, .func (PySem.W.fnOf "_law_row" "_law_row" (defArgs s__law_row) (defBody s__law_row) (defScope s__law_row) .none kV7 dc7 pm7 an7 cd7 ct7), sl7⟩)
    (c7 : PySem.W.codeIn K cd7 "_law_row" = true)
    (k7 : PySem.W.keepIn K (.ref f7) = true)
    (a8 : PySem.W.nsIn K mainGlobals "_law_right" = some (some (.ref f8)))
    (l8 : K.lookup f8 = some ⟨oc8, od8, .func (PySem.W.fnOf "_law_right" "_law_right" (defArgs s__law_right) (defBody s__law_right) (defScope s__law_right) .none kV8 dc8 pm8 an8 cd8 ct8), sl8⟩)
    (c8 : PySem.W.codeIn K cd8 "_law_right" = true)
    (k8 : PySem.W.keepIn K (.ref f8) = true)
    (a9 : PySem.W.nsIn K mainGlobals "law" = some (some (.ref f9)))
    (l9 : K.lookup f9 = some ⟨oc9, od9, .func (PySem.W.fnOf "law" "law" (defArgs s_law) (defBody s_law) (defScope s_law) .none kV9 dc9 pm9 an9 cd9 ct9), sl9⟩)
    (c9 : PySem.W.codeIn K cd9 "law" = true)
    (k9 : PySem.W.keepIn K (.ref f9) = true)
    (z0 : PySem.W.nsIn K mainGlobals "max" = some none)
    (z1 : PySem.W.nsIn K mainGlobals "min" = some none)
    (z2 : PySem.W.nsIn K mainGlobals "tuple" = some none)
    (z3 : PySem.W.nsIn K mainGlobals "range" = some none)
    (z4 : PySem.W.nsIn K mainGlobals "isinstance" = some none)
    (z5 : PySem.W.nsIn K mainGlobals "int" = some none)
    (z6 : PySem.W.nsIn K mainGlobals "bool" = some none)
    (z7 : PySem.W.nsIn K mainGlobals "len" = some none)
    (z8 : PySem.W.nsIn K mainGlobals "list" = some none)
    (z9 : PySem.W.nsIn K mainGlobals "str" = some none)
    (z10 : PySem.W.nsIn K mainGlobals "sorted" = some none)
    (z11 : PySem.W.nsIn K mainGlobals "sum" = some none)
    (zAl : PySem.W.nsIn K mainGlobals "all" = some none) :
    ∃ fd : FuncData, (∀ (s : Shared) (v : Value), BindsTo s fd ⟨[v], []⟩ [("_law_script", v)]) ∧ ∀ base : Heap, K.In base → base.Ns mainGlobals mg → FnOk lw.prog w K mg base CX0 11 fa fd ["_law_script"] (spLaw K) := by
  have e := hfa.symm.trans (PySem.W.mg_of X G a9)
  cases e
  have D_all_paired := df_mk (ps := ["pins"]) (st := s_all_paired) X G a1 l1 c1 k1 fun _ _ _ _ _ _ us hl => match us, hl with | [_], _ => rfl
  have D_pairings := df_mk (ps := ["pins"]) (st := s_pairings) X G a2 l2 c2 k2 fun _ _ _ _ _ _ us hl => match us, hl with | [_], _ => rfl
  have D__law_cell := df_mk (ps := ["_law_script", "_law_k"]) (st := s__law_cell) X G a3 l3 c3 k3 fun _ _ _ _ _ _ us hl => match us, hl with | [_, _], _ => rfl
  have D__law_digits := df_mk (ps := ["_law_cell_here", "_law_sizes"]) (st := s__law_digits) X G a4 l4 c4 k4 fun _ _ _ _ _ _ us hl => match us, hl with | [_, _], _ => rfl
  have D__law_same := df_mk (ps := ["_law_told", "_law_due"]) (st := s__law_same) X G a5 l5 c5 k5 fun _ _ _ _ _ _ us hl => match us, hl with | [_, _], _ => rfl
  have D__law_all_pairings := df_mk (ps := ["_law_numbers"]) (st := s__law_all_pairings) X G a6 l6 c6 k6 fun _ _ _ _ _ _ us hl => match us, hl with | [_], _ => rfl
  have D__law_row := df_mk (ps := ["_law_row_here"]) (st := s__law_row) X G a7 l7 c7 k7 fun _ _ _ _ _ _ us hl => match us, hl with | [_], _ => rfl
  have D__law_right := df_mk (ps := ["_law_numbers", "_law_due"]) (st := s__law_right) X G a8 l8 c8 k8 fun _ _ _ _ _ _ us hl => match us, hl with | [_, _], _ => rfl
  have T : Bi mg := ⟨PySem.W.mg_none_of X G z0, PySem.W.mg_none_of X G z1, PySem.W.mg_none_of X G z2, PySem.W.mg_none_of X G z3, PySem.W.mg_none_of X G z4, PySem.W.mg_none_of X G z5, PySem.W.mg_none_of X G z6, PySem.W.mg_none_of X G z7, PySem.W.mg_none_of X G z8, PySem.W.mg_none_of X G z9, PySem.W.mg_none_of X G z10, PySem.W.mg_none_of X G z11⟩
  have TA : BiA mg := ⟨(PySem.W.mg_none_of X G zAl)⟩
  refine ⟨PySem.W.fnOf "law" "law" (defArgs s_law) (defBody s_law) (defScope s_law) .none kV9 dc9 pm9 an9 cd9 ct9, fun s v => .of_eq rfl, fun base _ _ => ?_⟩
  have Gap := ok_ap (P := lw.prog) (w := w) (mg := mg) (base := base) D_all_paired T 5
  have Gpa := ok_pairings (P := lw.prog) (w := w) (mg := mg) (base := base) D_pairings.F T D_all_paired Gap
  have Gce := ok_cell (P := lw.prog) (w := w) (mg := mg) (base := base) D__law_cell.F T
  have Gdi := ok_digits (P := lw.prog) (w := w) (mg := mg) (base := base) D__law_digits.F T
  have Gsa := ok_same (P := lw.prog) (w := w) (mg := mg) (base := base) D__law_same T TA 3
  have Gal := ok_all (P := lw.prog) (w := w) (mg := mg) (base := base) D__law_all_pairings.F T
  have Gro := ok_row (P := lw.prog) (w := w) (mg := mg) (base := base) D__law_row.F T
  have Gri := ok_right (P := lw.prog) (w := w) (mg := mg) (base := base) D__law_right.F T D_pairings Gpa D__law_same Gsa
  exact ok_law (fun_mk l9 c9 k9) T D_pairings Gpa D__law_same Gsa D__law_cell Gce D__law_digits Gdi D__law_row Gro D__law_all_pairings Gal D__law_right Gri
end Own

namespace Own
open PySem PySem.Spec PyProof.Rows L2
theorem facts {w : World} {K : PySem.W.Frag} {h : Heap} {mg : Str → Option Value} {fa : Addr} (X : K.In h) (G : h.Ns mainGlobals mg) (hfa : mg ("law" : Str) = some (.ref fa)) (c : lk.obs K = lk.due w) :
    ∃ fd : FuncData, (∀ (s : Shared) (v : Value), BindsTo s fd ⟨[v], []⟩ [("_law_script", v)]) ∧ ∀ base : Heap, K.In base → base.Ns mainGlobals mg → FnOk PySem.Challenge.rw_rimcords_k51_pairings.prog w K mg base CX0 11 fa fd ["_law_script"] (spLaw K) := by
  obtain ⟨_, _, _, _, _, _, _, cd_0, _, l_0, c_0, k_0, e_0⟩ := Hx.Look.fn c 0 (d := fd_0) rfl
  obtain ⟨_, _, _, _, _, _, _, cd_1, _, l_1, c_1, k_1, e_1⟩ := Hx.Look.fn c 1 (d := fd_1) rfl
  obtain ⟨_, _, _, _, _, _, _, cd_2, _, l_2, c_2, k_2, e_2⟩ := Hx.Look.fn c 2 (d := fd_2) rfl
  obtain ⟨_, _, _, _, _, _, _, cd_3, _, l_3, c_3, k_3, e_3⟩ := Hx.Look.fn c 3 (d := fd_3) rfl
  obtain ⟨_, _, _, _, _, _, _, cd_4, _, l_4, c_4, k_4, e_4⟩ := Hx.Look.fn c 4 (d := fd_4) rfl
  obtain ⟨_, _, _, _, _, _, _, cd_5, _, l_5, c_5, k_5, e_5⟩ := Hx.Look.fn c 5 (d := fd_5) rfl
  obtain ⟨_, _, _, _, _, _, _, cd_6, _, l_6, c_6, k_6, e_6⟩ := Hx.Look.fn c 6 (d := fd_6) rfl
  obtain ⟨_, _, _, _, _, _, _, cd_7, _, l_7, c_7, k_7, e_7⟩ := Hx.Look.fn c 7 (d := fd_7) rfl
  obtain ⟨_, _, _, _, _, _, _, cd_8, _, l_8, c_8, k_8, e_8⟩ := Hx.Look.fn c 8 (d := fd_8) rfl
  exact all_mk (lw := PySem.Challenge.rw_rimcords_k51_pairings) (w := w) X G hfa
    (of_decide_eq_true (Hx.Look.fact c 0 (f := ex_0) rfl))
    l_0
    c_0
    k_0
    (of_decide_eq_true (Hx.Look.fact c 1 (f := ex_1) rfl))
    l_1
    c_1
    k_1
    (of_decide_eq_true (Hx.Look.fact c 2 (f := ex_2) rfl))
    l_2
    c_2
    k_2
    (of_decide_eq_true (Hx.Look.fact c 3 (f := ex_3) rfl))
    l_3
    c_3
    k_3
    (of_decide_eq_true (Hx.Look.fact c 4 (f := ex_4) rfl))
    l_4
    c_4
    k_4
    (of_decide_eq_true (Hx.Look.fact c 5 (f := ex_5) rfl))
    l_5
    c_5
    k_5
    (of_decide_eq_true (Hx.Look.fact c 6 (f := ex_6) rfl))
    l_6
    c_6
    k_6
    (of_decide_eq_true (Hx.Look.fact c 7 (f := ex_7) rfl))
    l_7
    c_7
    k_7
    (of_decide_eq_true (Hx.Look.fact c 8 (f := ex_8) rfl))
    l_8
    c_8
    k_8
    (of_decide_eq_true (Hx.Look.fact c 9 (f := ex_9) rfl))
    (of_decide_eq_true (Hx.Look.fact c 10 (f := ex_10) rfl))
    (of_decide_eq_true (Hx.Look.fact c 11 (f := ex_11) rfl))
    (of_decide_eq_true (Hx.Look.fact c 12 (f := ex_12) rfl))
    (of_decide_eq_true (Hx.Look.fact c 13 (f := ex_13) rfl))
    (of_decide_eq_true (Hx.Look.fact c 14 (f := ex_14) rfl))
    (of_decide_eq_true (Hx.Look.fact c 15 (f := ex_15) rfl))
    (of_decide_eq_true (Hx.Look.fact c 16 (f := ex_16) rfl))
    (of_decide_eq_true (Hx.Look.fact c 17 (f := ex_17) rfl))
    (of_decide_eq_true (Hx.Look.fact c 18 (f := ex_18) rfl))
    (of_decide_eq_true (Hx.Look.fact c 19 (f := ex_19) rfl))
    (of_decide_eq_true (Hx.Look.fact c 20 (f := ex_20) rfl))
    (of_decide_eq_true (Hx.Look.fact c 21 (f := ex_21) rfl))
end Own
open PySem PySem.W PySem.Calls PyProof.Rows
theorem PySem.Challenge.cw_rimcords_k51_pairings_holds : PySem.Challenge.rw_rimcords_k51_pairings.Holds := by
  w_on; o_law
  refine HandSHeadRun.head_any (r := Own.RR) (q := view Own.RR.prog [10]) (H := Own.lk.hook) (ob := Own.lk.ob) (M := 20000) (loose := Own.nms) (d := HandSHeadRun.topDef Own.RR.prog 10) (kwd := []) Own.lk.ob_eq
    (by kernel_rfl) (fun s => by kernel_rfl) Own.run (by kernel_rfl) (by kernel_rfl) (by kernel_rfl) (by rfl) (by first | assumption | decide +kernel) (by decide +kernel) ⟨rfl, rfl, rfl, rfl, rfl, by decide +kernel⟩ ?hw ?hc
  case hw => w_witness2
  case hc =>
    refine L2.walk_ofE (l := PySem.Challenge.rw_rimcords_k51_pairings) (n := 63) (k := 11) (x := "_law_script") (CX := L2.CX0) rfl (by decide) (by kernel_rfl) ⟨rfl, by decide, by decide⟩ ?F (fun _ _ _ _ z => z)
    intro w mg fa h Y G at_
    obtain ⟨K, KX, c⟩ := Y
    have at_ : mg ("law" : PySem.Str) = some (.ref fa) := by
      have e : (HandSHeadRun.topDef Own.RR.prog 10).name = ("law" : PySem.Str) := by kernel_rfl
      rw [← e]
      exact at_
    obtain ⟨fd, hb, hF⟩ := Own.facts KX G at_ c
    exact ⟨K, fd, Own.spLaw K, KX, hb, fun H a ns hl _ hS => ⟨a, ns, rfl, hS, Nat.le_trans hl (by decide), fun _ => rfl⟩, hF⟩
