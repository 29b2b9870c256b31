import PyProof.Rows.All
import Wide.All
import OpenK.AllK
import Wide.FinOn
import HandS.ForMost
import HandS.IsInst
import HandS.Style
import HandS.Defaults
import HandS.MakeKwOnly
import HandS.Conv
import HandS.Sort
import HandS.SortRule
import HandS.Deep
import HandS.Property
import HandS.TupSets
import HandS.Codes
import HandS.DictComp
import HandS.DeepEq
import HandS.Exc
import HandS.ExcInit
import HandS.ExcField
import HandS.ExcIs
import HandS.TryOnly
import HandS.Nested
import HandS.FStr
import KE.KExcSuper
import HandS.SetFor
import HandS.ExcOwn
import KE.KExcIs
import KE.DataFind
import HandS.ExcCtx
import HandS.HotCalls
import HandS.WordsExc
import HandS.FStrTup
import PyProof.ReprHeads
import PyProof.ReprHeadsEmpty
import PyProof.ReprNest
import PyProof.ReprDict
import HandS.NoneIn
import PyProof.StrBlock2
import HandS.Comp
import PyProof.Rows.Chain
import PyProof.WalksMore
import HandS.Small
import HandS.MakeKw
import PySem.Challenge.RW_rimcords_k05_lots_of_tables_whole
set_option Elab.async false
set_option linter.all false
set_option maxRecDepth 100000
/-! Rules of my own for the hand layer. -/
namespace Own
open PySem PySem.Spec PyProof.Rows L2
/-- the two ints of a pair that stands in the heap -/
def kOf (H : Hp) (v : V) : Int × Int := match v with
  | .ref a => match H a with
    | some (.tup [.int i, .int j]) => (i, j)
    | _ => (0, 0)
  | _ => (0, 0)
theorem kOf_at {H : Hp} {a : Addr} {i j : Int} (h : H a = some (.tup [.int i, .int j])) : kOf H (.ref a) = (i, j) := by
  show (match H a with | some (.tup [.int i, .int j]) => (i, j) | _ => (0, 0)) = (i, j)
  rw [h]
def rSortedDT : List V → Hp → VK → Prop := fun vs H Q => ∃ (d : Addr) (kvs : List (List Key × V)), vs = [V.ref d] ∧ Rd H d (.dT kvs) ∧ (∀ kv ∈ kvs, ∃ i j : Int, kv.1 = [Sum.inl i, Sum.inl j]) ∧
  ∀ (bs : List Addr) (ys : List V) (p : Addr), IsKeys H kvs bs → SrtO.Srtd (ltP (kOf H)) ys → SrtO.Stb (ltP (kOf H)) ys (bs.map V.ref) → H p = none → Q (.ref p) (upd H p (.lst ys))
section
variable {X : Cx}
theorem paired_right {α β : Type} {R : α → β → Prop} {xs : List α} {ys : List β} (h : Paired R xs ys) : ∀ y ∈ ys, ∃ x ∈ xs, R x y := by
  induction h with
  | nil => intro y hy; cases hy
  | cons h t ih =>
    intro y hy
    rcases List.mem_cons.mp hy with e | e
    · subst e
      exact ⟨_, List.mem_cons_self, h⟩
    · obtain ⟨x, hx, hr⟩ := ih y e
      exact ⟨x, List.mem_cons_of_mem _ hx, hr⟩
theorem cr_sortedDT (hc : X.calm = true) : CallR X (.builtin "sorted") rSortedDT := by
  intro pins s σ H xs us Q I r h
  obtain ⟨d, kvs, rfl, hd, hkv, q⟩ := h
  obtain ⟨u, rfl, rx⟩ := r.one
  cases rx
  obtain ⟨z, hs, ks, pr, o, es, ep, ho, hx, hdt, he, hn⟩ := (show ObjOk X.prog X.w H s.heap d (.dT kvs) from hd.ok I.hok)
  have l1 : es.size = ks.length := size_of_entries he
  have l2 : kvs.length = ks.length := Paired.length pr
  refine Calls.call_function_entry PyProof.Rows.kind_sorted PyProof.Rows.plain_sorted PyProof.Rows.entry_sorted (PyProof.Rows.args_sorted1 _) ?_
  unfold Builtin.«sorted»
  refine wpAny_bind (m := checkCount "sorted" 1 1 _) (wpAny_pure ?_)
  refine wpAny_bind (PySem.W.kdu_collect (A := X.A.in1) (kdl_raw hs hx hdt) (I.ok.hd hc) ho (by omega) fun h' tk acc' kp it => ?_)
  have ea : acc'.toList = ks.map fun x => Value.ref x.2.1 := by
    have hl : acc'.toList.length = ks.length := by rw [Array.length_toList, it.1]; exact l1
    apply List.ext_getElem?
    intro j
    rw [List.getElem?_map]
    cases hj : acc'.toList[j]? with
    | none =>
      have h1 := List.getElem?_eq_none_iff.mp hj
      rw [List.getElem?_eq_none (by omega)]
      all_goals rfl
    | some v =>
      obtain ⟨en, hen, hv⟩ := it.2 j v (by rw [← Array.getElem?_toList]; exact hj)
      have qe := entry_at he j
      rw [hen] at qe
      cases hb : ks[j]? with
      | none =>
        rw [hb] at qe
        exact nomatch (show some en = none from qe)
      | some b =>
        rw [hb] at qe
        have e2 : en = entryOfKey (tupleKind (mixKind X.prog X.w)) b := Option.some.inj qe
        rw [hv, e2]
        all_goals rfl
  have hal : acc'.toList.length ≤ sizeLine := by rw [ea, List.length_map]; omega
  have I1 : Inv X pins σ H { s with heap := h', toks := tk } := I.kept kp
  have keys := isKeys_of pr
  have hpair : ∀ v ∈ acc'.toList, ∃ t i j, v = Value.ref t ∧ H t = some (.tup [.int i, .int j]) := fun v hv => by
    rw [ea] at hv
    obtain ⟨x, hx, rfl⟩ := List.mem_map.mp hv
    obtain ⟨kv, hkm, hb⟩ := paired_right keys x.2.1 (List.mem_map.mpr ⟨x, hx, rfl⟩)
    obtain ⟨i, j, e⟩ := hkv kv hkm
    rw [e] at hb
    exact ⟨_, i, j, rfl, hb⟩
  refine wpAny_bind (wpAny_newList ?_ hal)
  have hoL : (h'.push (seqObj "list" acc'.toList.toArray 0)).get? h'.objs.size = some (seqObj "list" acc'.toList.toArray 0) := Heap.get?_push_size _ rfl
  have hp : ∀ v ∈ acc'.toList, Srt.IsPair (h'.push (seqObj "list" acc'.toList.toArray 0)) v (kOf H (backV v)).1 (kOf H (backV v)).2 := fun v hv => by
    obtain ⟨t, i, j, rfl, ht⟩ := hpair v hv
    obtain ⟨_, its2, r2, o, ho2, hc2, n2, hd2⟩ := I1.hok _ _ ht
    obtain ⟨u1, u2, rfl, ri, rj⟩ := vals2 r2
    obtain ⟨t1, rfl⟩ := ri
    obtain ⟨t2, rfl⟩ := rj
    rw [show backV (Value.ref t) = V.ref t from rfl, kOf_at ht]
    exact ⟨t, o, t1, t2, n2, rfl, Heap.get?_push_of_some _ ho2, hc2, hd2⟩
  show wpAny _ _ _ _ _ { s with heap := h'.push (seqObj "list" acc'.toList.toArray 0), toks := tk }
  refine wpAny_bind (wpAny_holding (wpAny_call_entry PyProof.Rows.slot_list_sort ⟨_, hoL, rfl⟩ PyProof.Rows.entry_list_sort
    (SrtO.list_sort_ord (s := { s with heap := h'.push (seqObj "list" acc'.toList.toArray 0), toks := tk }) (SrtO.swo_lex fun v => kOf H (backV v)) hoL hal (fun h2 => ?_) fun out hs hb => ⟨_, rfl, ?_⟩) (PyProof.Rows.args_list_sort _)))
  · refine SrtO.pairs_sortableO (s := { s with heap := h'.push (seqObj "list" acc'.toList.toArray 0), toks := tk }) (by omega) hp fun o e => ?_
    have e' : some o = some (seqObj "list" acc'.toList.toArray 0) := e.symm.trans hoL
    cases e'
    intro c
    exact absurd (Value.type.inj c) (by decide)
  · obtain ⟨e', he'⟩ := PyProof.Rows.sortedHeap_at (vs := acc'.toList) (out := out.toArray) hoL
    have hrefs : ∀ u ∈ out, ∃ a, u = Value.ref a := fun u hu => by
      obtain ⟨t, i, j, e, _⟩ := hpair u (hb.perm.mem_iff.mp hu)
      exact ⟨t, e⟩
    have hb2 : SrtO.Stb (ltP (kOf H)) (out.map backV) ((ks.map fun x => x.2.1).map V.ref) := by
      have e1 : ((ks.map fun x => x.2.1).map V.ref) = acc'.toList.map backV := by
        rw [ea, List.map_map, List.map_map]
        rfl
      rw [e1]
      exact SrtO.Stb.map (ltP_swo (kOf H)) backV hb
    have hlen : (out.map backV).length ≤ sizeLine := by
      rw [List.length_map, hb.perm.length_eq]
      exact hal
    refine wpAny_pure ⟨_, rfl, .ref h'.objs.size, upd H h'.objs.size (.lst (out.map backV)), I1.laid (t' := tk) (fun b u e => ?_) (Nat.le_refl _)
      (show ObjOk X.prog X.w _ _ _ (.lst (out.map backV)) from ⟨hlen, out, e', vals_back hrefs, by exact he'⟩), rfl, q _ _ _ keys (SrtO.srtd_map hs) hb2 (I1.hok.fresh (Nat.le_refl _))⟩
    have hbn : b < h'.objs.size := Heap.lt_size e
    rw [PyProof.Rows.sortedHeap_old (Nat.ne_of_lt hbn) (by rw [size_push']; exact Nat.lt_succ_of_lt hbn)]
    exact Heap.get?_push_of_some _ e
/-- len(o), o an instance of an own class with a __len__ -/
def rLenOwn (C : Addr) (sp : Sp) (E : XK) : List V → Hp → VK → Prop := fun vs H Q => ∃ (a dx : Addr) (fs : List (Str × V)), vs = [V.ref a] ∧ H a = some (.ins C dx fs) ∧ sp [V.ref a] H (fun v H' => ∃ n : Nat, v = .int (n : Int) ∧ n ≤ sizeLine ∧ Q (.int (n : Int)) H') E
theorem cr_lenOwn {CX : CXT} {k : Nat} {C f : Addr} {fd : FuncData} {ps : List Str} {sp : Sp} {E : XK} (hm : Meth X.K C "__len__" f) (F : FnOk X.prog X.w X.K X.mg X.base CX k f fd ps sp) (hr : Room (k + 1) X.A) (hb : Binds X.K fd ps []) (hx : Passes CX X.nox E) :
    CallR X (.builtin "len") (rLenOwn C sp E) := by
  intro pins s σ H xs us Q I r h
  obtain ⟨a, dx, fs, rfl, ea, q⟩ := h
  obtain ⟨u, rfl, rx⟩ := vals1 r
  cases rx
  obtain ⟨mA, O, _, _, _, _⟩ := ins_get I.hok ea
  obtain ⟨od, J, _⟩ := O.look
  have hl : [Value.ref a].length = ps.length := (F.len _ _ _ _ q : _)
  apply Calls.call_function_entry kind_len plain_len entry_len (args_len1 _)
  show wpAny _ _ (Builtin.«len» _) _ _ _
  unfold Builtin.«len»
  apply wpAny_bind (m := oneArg "len" _)
  apply wpAny_pure
  apply wpAny_bind (m := callSpecial? (.ref a) (Str.ofString "__len__"))
  apply PySem.W.special_fn I.kIn J hm.at_ (beq_iff_eq.mp hm.fn)
  apply wpAny_call
  refine codeAny_mono (F.run X.A.in1 X.stack s H ⟨[.ref a], []⟩ [.ref a] [V.ref a] _ E hr.in1 I.env0.in1 (hb s [.ref a] I.kIn hl) (.cons rfl .nil) q) fun r s' hq => ?_
  rcases r with e | fl
  · exact False.elim (hx pins σ H s e s' (I.wish _) hq)
  · cases fl <;> first | exact False.elim hq | skip
    rename_i u
    obtain ⟨v, H', I3, rv, n, ev, hn, q3⟩ := I.after hq
    subst ev
    obtain ⟨t, et⟩ := rv
    subst et
    have h63 : sizeLine < 2 ^ 63 := by decide
    apply wpAny_bind
    apply wpAny_holding
    apply wpAny_pure
    apply wpAny_bind
    apply wpAny_letGo
    show wpAny _ _ (if (n : Int) < 0 then _ else _) _ _ _
    rw [if_neg (by omega)]
    show wpAny _ _ (if (n : Int) ≥ 2 ^ 63 then _ else _) _ _ _
    rw [if_neg (by omega)]
    apply wpAny_bind
    apply wpAny_mkInt
    exact wpAny_pure ⟨_, rfl, .int (n : Int), H', I3.tok _, ⟨_, rfl⟩, q3⟩
/-- for x in xs, xs a list or a tuple -/
def iSeq (K : PySem.W.Frag) (ta : TE) : TI := fun σ H R => ta σ H fun x H1 => ∃ a, x = .ref a ∧ (((∃ xs, SqL K H1 a xs) ∧ R (Itl K a) H1) ∨ ((∃ xs, SqT K H1 a xs) ∧ R (Itt K a) H1))
theorem pi_seq {tg l : Expr} {tl : TE} (hl : PE X l tl) : PI X tg l (iSeq X.K tl) := by
  refine ⟨fun pins s σ H R I h => thn (hl.run pins s σ H _ I h) ?_⟩
  rintro v s1 ⟨x, H1, I1, r1, a, rfl, q | q⟩
  all_goals
    obtain ⟨⟨xs, hq⟩, q⟩ := q
    obtain rfl : v = Value.ref a := r1
    have fresh := I1.fpOk (Nat.le_refl s1.heap.objs.size) (I1.hok.fresh (Nat.le_refl _))
    have older : ∀ {u : Obj}, Inv X pins σ H1 { s1 with heap := s1.heap.push u, toks := s1.toks } := fun {u} => I1.kept (t' := s1.toks) fun b o e => Heap.get?_push_of_some _ e
  · obtain ⟨its, rv, p, hz⟩ := I1.list hq
    exact wpAny_pyIter_list p.isList ⟨_, [s1.heap.objs.size], _, _, H1, rfl, older, turn_list a _, ⟨_, Heap.get?_push_size _ rfl, rfl, rfl⟩, fun b hb => by rw [List.mem_singleton.mp hb]; exact fresh, q⟩
  · obtain ⟨its, rv, p, hz⟩ := I1.tuple hq
    exact wpAny_pyIter_tuple (show s1.heap.IsTuple a its.toArray from p) ⟨_, [s1.heap.objs.size], _, _, H1, rfl, older, turn_tuple a _, ⟨_, Heap.get?_push_size _ rfl, rfl, rfl⟩, fun b hb => by rw [List.mem_singleton.mp hb]; exact fresh, q⟩
/-- the loop's rule for both -/
def SqB (K : PySem.W.Frag) (H : Hp) (a : Addr) (xs : List V) : Prop := SqL K H a xs ∨ SqT K H a xs
end
end Own

/-! Lots of cords as plain lists. -/
namespace Own
/-- one entry: two pins and a number of cords -/
abbrev Tr := Int × Int × Int
def lo (a b : Int) : Int := if b < a then b else a
def hi (a b : Int) : Int := if b > a then b else a
theorem lo_hi (a b : Int) : (a ≤ b ∧ lo a b = a ∧ hi a b = b) ∨ (b < a ∧ lo a b = b ∧ hi a b = a) := by
  unfold lo hi
  by_cases h : b < a
  · right
    rw [if_pos h, if_neg (by omega)]
    omega
  · left
    rw [if_neg h]
    by_cases e : b > a
    · rw [if_pos e]
      omega
    · rw [if_neg e]
      omega
/-- its pins as they stand, and in order -/
def pr (t : Tr) : Int × Int := (t.1, t.2.1)
def ky (t : Tr) : Int × Int := (lo t.1 t.2.1, hi t.1 t.2.1)
def Lex (p q : Int × Int) : Prop := p.1 < q.1 ∨ (p.1 = q.1 ∧ p.2 < q.2)
/-- the cords of all entries that the test takes: by the pins as they stand, by the pins in order -/
def bs (f : Int × Int → Bool) : List Tr → Int
  | [] => 0
  | t :: r => (if f (pr t) = true then t.2.2 else 0) + bs f r
def bk (f : Int × Int → Bool) : List Tr → Int
  | [] => 0
  | t :: r => (if f (ky t) = true then t.2.2 else 0) + bk f r
def tot (p : Int × Int) (l : List Tr) : Int := bk (fun q => decide (q = p)) l
theorem bs_append (f : Int × Int → Bool) (l m : List Tr) : bs f (l ++ m) = bs f l + bs f m := by
  induction l with
  | nil => simp [bs]
  | cons t r ih =>
    rw [List.cons_append, bs, bs, ih]
    omega
theorem bk_append (f : Int × Int → Bool) (l m : List Tr) : bk f (l ++ m) = bk f l + bk f m := by
  induction l with
  | nil => simp [bk]
  | cons t r ih =>
    rw [List.cons_append, bk, bk, ih]
    omega
theorem bs_congr {f g : Int × Int → Bool} {l : List Tr} (h : ∀ t ∈ l, f (pr t) = g (pr t)) : bs f l = bs g l := by
  induction l with
  | nil => rfl
  | cons t r ih =>
    rw [bs, bs, h t List.mem_cons_self, ih fun u hu => h u (List.mem_cons_of_mem _ hu)]
/-- r is l in order: one entry for each two pins, the smaller pin first -/
structure IsNorm (l r : List Tr) : Prop where
  srt : (r.map pr).Pairwise Lex
  mem : ∀ p, p ∈ r.map pr ↔ p ∈ l.map ky
  cnt : ∀ e ∈ r, e.2.2 = tot (pr e) l
theorem lex_irr {p : Int × Int} : ¬ Lex p p := by
  unfold Lex
  omega
theorem lex_asym {p q : Int × Int} (h : Lex p q) : ¬ Lex q p := by
  unfold Lex at h ⊢
  omega
theorem sorted_uniq : ∀ {xs ys : List (Int × Int)}, xs.Pairwise Lex → ys.Pairwise Lex → (∀ p, p ∈ xs ↔ p ∈ ys) → xs = ys
  | [], [], _, _, _ => rfl
  | [], y :: ys, _, _, h => absurd ((h y).mpr List.mem_cons_self) (by simp)
  | x :: xs, [], _, _, h => absurd ((h x).mp List.mem_cons_self) (by simp)
  | x :: xs, y :: ys, hx, hy, h => by
    have hx1 := List.pairwise_cons.mp hx
    have hy1 := List.pairwise_cons.mp hy
    have e : x = y := by
      rcases List.mem_cons.mp ((h x).mp List.mem_cons_self) with e | m
      · exact e
      · rcases List.mem_cons.mp ((h y).mpr List.mem_cons_self) with e | m2
        · exact e.symm
        · exact absurd (hy1.1 x m) (lex_asym (hx1.1 y m2))
    subst e
    congr 1
    refine sorted_uniq hx1.2 hy1.2 fun p => ⟨fun m => ?_, fun m => ?_⟩
    · rcases List.mem_cons.mp ((h p).mp (List.mem_cons_of_mem _ m)) with e | m2
      · subst e
        exact absurd (hx1.1 p m) lex_irr
      · exact m2
    · rcases List.mem_cons.mp ((h p).mpr (List.mem_cons_of_mem _ m)) with e | m2
      · subst e
        exact absurd (hy1.1 p m) lex_irr
      · exact m2
theorem of_pairs {r : List Tr} {g : Int × Int → Int} (h : ∀ e ∈ r, e.2.2 = g (pr e)) : r = (r.map pr).map fun p => (p.1, p.2, g p) := by
  induction r with
  | nil => rfl
  | cons e r ih =>
    rw [List.map_cons, List.map_cons, ← ih fun u hu => h u (List.mem_cons_of_mem _ hu), ← h e List.mem_cons_self]
    rfl
theorem norm_uniq {l r s : List Tr} (h : IsNorm l r) (k : IsNorm l s) : r = s := by
  have e : r.map pr = s.map pr := sorted_uniq h.srt k.srt fun p => by rw [h.mem, k.mem]
  exact (of_pairs (g := fun p => tot p l) h.cnt).trans ((congrArg (List.map _) e).trans (of_pairs (g := fun p => tot p l) k.cnt).symm)
/-- the sum over a list of pairs, by their numbers in l -/
def ps (f : Int × Int → Bool) (l : List Tr) : List (Int × Int) → Int
  | [] => 0
  | p :: r => (if f p = true then tot p l else 0) + ps f l r
theorem ps_nil (f : Int × Int → Bool) (P : List (Int × Int)) : ps f [] P = 0 := by
  induction P with
  | nil => rfl
  | cons p r ih =>
    rw [ps, ih]
    show (if f p = true then (0 : Int) else 0) + 0 = 0
    split <;> rfl
theorem tot_cons (p : Int × Int) (t : Tr) (l : List Tr) : tot p (t :: l) = (if ky t = p then t.2.2 else 0) + tot p l := by
  unfold tot
  rw [bk]
  by_cases h : ky t = p <;> simp [h]
theorem ps_out (f : Int × Int → Bool) (t : Tr) (l : List Tr) {P : List (Int × Int)} (h : ky t ∉ P) : ps f (t :: l) P = ps f l P := by
  induction P with
  | nil => rfl
  | cons p r ih =>
    have hne : ¬ ky t = p := fun z => h (by rw [z]; exact List.mem_cons_self)
    have ht : tot p (t :: l) = tot p l := by
      rw [tot_cons, if_neg hne]
      omega
    rw [ps, ps, ih fun z => h (List.mem_cons_of_mem _ z), ht]
theorem ps_in (f : Int × Int → Bool) (t : Tr) (l : List Tr) {P : List (Int × Int)} (hn : P.Nodup) (h : ky t ∈ P) : ps f (t :: l) P = (if f (ky t) = true then t.2.2 else 0) + ps f l P := by
  induction P with
  | nil => cases h
  | cons p r ih =>
    have hc := List.nodup_cons.mp hn
    by_cases e : ky t = p
    · subst e
      rw [ps, ps, tot_cons, if_pos rfl, ps_out f t l hc.1]
      split <;> omega
    · have hr : ky t ∈ r := (List.mem_cons.mp h).resolve_left e
      rw [ps, ps, tot_cons, if_neg e, ih hc.2 hr]
      split <;> split <;> omega
theorem ps_all (f : Int × Int → Bool) {P : List (Int × Int)} (hn : P.Nodup) : ∀ {l : List Tr}, (∀ t ∈ l, ky t ∈ P) → ps f l P = bk f l
  | [], _ => ps_nil f P
  | t :: l, h => by
    rw [ps_in f t l hn (h t List.mem_cons_self), ps_all f hn fun u hu => h u (List.mem_cons_of_mem _ hu)]
    rfl
theorem srt_nodup {xs : List (Int × Int)} (h : xs.Pairwise Lex) : xs.Nodup := by
  refine List.Pairwise.imp ?_ h
  intro a b hab e
  subst e
  exact lex_irr hab
theorem bs_ps (f : Int × Int → Bool) {l r : List Tr} (h : ∀ e ∈ r, e.2.2 = tot (pr e) l) : bs f r = ps f l (r.map pr) := by
  induction r with
  | nil => rfl
  | cons e r ih =>
    rw [bs, List.map_cons, ps, ih fun u hu => h u (List.mem_cons_of_mem _ hu), h e List.mem_cons_self]
theorem bs_norm (f : Int × Int → Bool) {l r : List Tr} (h : IsNorm l r) : bs f r = bk f l := by
  rw [bs_ps f h.cnt, ps_all f (srt_nodup h.srt) fun t ht => (h.mem _).mpr (List.mem_map.mpr ⟨t, ht, rfl⟩)]
/-- an entry that may stand in a lot -/
def Vld (n : Int) (t : Tr) : Prop := 0 ≤ t.1 ∧ t.1 < n ∧ 0 ≤ t.2.1 ∧ t.2.1 < n ∧ t.1 ≠ t.2.1 ∧ 1 ≤ t.2.2
/-- a lot in order on n pins -/
structure Good (n : Int) (r : List Tr) : Prop where
  srt : (r.map pr).Pairwise Lex
  ord : ∀ e ∈ r, 0 ≤ e.1 ∧ e.1 < e.2.1 ∧ e.2.1 < n ∧ 1 ≤ e.2.2
theorem ky_ord {e : Tr} (h : e.1 < e.2.1) : ky e = pr e := by
  have := lo_hi e.1 e.2.1
  unfold ky pr
  rw [Prod.mk.injEq]
  omega
theorem Good.vld {n : Int} {r : List Tr} (g : Good n r) : ∀ e ∈ r, Vld n e := fun e h => by
  have := g.ord e h
  unfold Vld
  omega
theorem bk_bs (f : Int × Int → Bool) {r : List Tr} (h : ∀ e ∈ r, e.1 < e.2.1) : bk f r = bs f r := by
  induction r with
  | nil => rfl
  | cons e r ih => rw [bk, bs, ky_ord (h e List.mem_cons_self), ih fun u hu => h u (List.mem_cons_of_mem _ hu)]
theorem bs_none {f : Int × Int → Bool} {r : List Tr} (h : ∀ e ∈ r, f (pr e) = false) : bs f r = 0 := by
  induction r with
  | nil => rfl
  | cons e r ih =>
    rw [bs, h e List.mem_cons_self, ih fun u hu => h u (List.mem_cons_of_mem _ hu)]
    rfl
theorem self_cnt {r : List Tr} (h : (r.map pr).Nodup) : ∀ e ∈ r, e.2.2 = bs (fun q => decide (q = pr e)) r := by
  induction r with
  | nil => intro e he; cases he
  | cons t r ih =>
    have hc := List.nodup_cons.mp h
    intro e he
    rw [bs]
    rcases List.mem_cons.mp he with rfl | hr
    · rw [bs_none fun u hu => decide_eq_false fun z => hc.1 (by rw [← z]; exact List.mem_map.mpr ⟨u, hu, rfl⟩)]
      simp
    · have hne : ¬ pr t = pr e := fun z => hc.1 (by rw [z]; exact List.mem_map.mpr ⟨e, hr, rfl⟩)
      rw [← ih hc.2 e hr]
      simp [hne]
theorem Good.self {n : Int} {r : List Tr} (g : Good n r) : IsNorm r r := by
  have ho : ∀ e ∈ r, e.1 < e.2.1 := fun e h => (g.ord e h).2.1
  have hm : r.map ky = r.map pr := List.map_congr_left fun e h => ky_ord (ho e h)
  refine ⟨g.srt, fun p => by rw [hm], fun e h => ?_⟩
  unfold tot
  rw [bk_bs _ ho]
  exact self_cnt (srt_nodup g.srt) e h
theorem bk_pos {l : List Tr} (h : ∀ t ∈ l, 1 ≤ t.2.2) {p : Int × Int} (m : p ∈ l.map ky) : 1 ≤ tot p l := by
  have nn : ∀ {m : List Tr}, (∀ t ∈ m, 1 ≤ t.2.2) → 0 ≤ tot p m := by
    intro m hm
    induction m with
    | nil => exact Int.le_refl 0
    | cons t r ih =>
      have h1 := hm t List.mem_cons_self
      have h2 := ih fun u hu => hm u (List.mem_cons_of_mem _ hu)
      rw [tot_cons]
      split <;> omega
  induction l with
  | nil => cases m
  | cons t r ih =>
    have h1 := h t List.mem_cons_self
    have h2 := nn fun u hu => h u (List.mem_cons_of_mem _ hu)
    rw [tot_cons]
    rcases List.mem_cons.mp m with e | hr
    · rw [if_pos e.symm]
      omega
    · have h3 := ih (fun u hu => h u (List.mem_cons_of_mem _ hu)) hr
      split <;> omega
theorem IsNorm.good {n : Int} {l r : List Tr} (h : IsNorm l r) (v : ∀ t ∈ l, Vld n t) : Good n r := by
  refine ⟨h.srt, fun e he => ?_⟩
  have hm : pr e ∈ l.map ky := (h.mem _).mp (List.mem_map.mpr ⟨e, he, rfl⟩)
  have hp := bk_pos (fun t ht => (v t ht).2.2.2.2.2) hm
  rw [← h.cnt e he] at hp
  obtain ⟨t, ht, e1⟩ := List.mem_map.mp hm
  have hv := v t ht
  unfold Vld at hv
  have h1 := lo_hi t.1 t.2.1
  unfold ky pr at e1
  rw [Prod.mk.injEq] at e1
  omega
/-! ### renamed pins -/
def mp (g : Int → Int) (l : List Tr) : List Tr := l.map fun t => (g t.1, g t.2.1, t.2.2)
theorem bk_mp (g : Int → Int) (f : Int × Int → Bool) (l : List Tr) : bk f (mp g l) = bk (fun q => f (lo (g q.1) (g q.2), hi (g q.1) (g q.2))) l := by
  induction l with
  | nil => rfl
  | cons t r ih =>
    show (if f (ky (g t.1, g t.2.1, t.2.2)) = true then t.2.2 else 0) + bk f (mp g r) = _
    rw [ih, bk]
    have e : ky (g t.1, g t.2.1, t.2.2) = (lo (g (ky t).1) (g (ky t).2), hi (g (ky t).1) (g (ky t).2)) := by
      unfold ky
      dsimp only
      rcases lo_hi t.1 t.2.1 with h | h
      · rw [h.2.1, h.2.2]
      · rw [h.2.1, h.2.2]
        have a := lo_hi (g t.1) (g t.2.1)
        have b := lo_hi (g t.2.1) (g t.1)
        rw [Prod.mk.injEq]
        omega
    rw [e]
theorem mem_mp (g : Int → Int) {l r : List Tr} (h : ∀ p, p ∈ l.map ky ↔ p ∈ r.map ky) (p : Int × Int) : p ∈ (mp g l).map ky → p ∈ (mp g r).map ky := by
  have e : ∀ t : Tr, ky (g t.1, g t.2.1, t.2.2) = (lo (g (ky t).1) (g (ky t).2), hi (g (ky t).1) (g (ky t).2)) := fun t => by
    unfold ky
    dsimp only
    rcases lo_hi t.1 t.2.1 with h | h
    · rw [h.2.1, h.2.2]
    · rw [h.2.1, h.2.2]
      have a := lo_hi (g t.1) (g t.2.1)
      have b := lo_hi (g t.2.1) (g t.1)
      rw [Prod.mk.injEq]
      omega
  intro m
  obtain ⟨u, hu, e1⟩ := List.mem_map.mp m
  obtain ⟨t, ht, rfl⟩ := List.mem_map.mp hu
  obtain ⟨s, hs, e2⟩ := List.mem_map.mp ((h _).mp (List.mem_map.mpr ⟨t, ht, rfl⟩))
  refine List.mem_map.mpr ⟨_, List.mem_map.mpr ⟨s, hs, rfl⟩, ?_⟩
  rw [← e1, e, e, e2]
theorem norm_keys {n : Int} {l r : List Tr} (h : IsNorm l r) (g : Good n r) (p : Int × Int) : p ∈ l.map ky ↔ p ∈ r.map ky := by
  rw [← h.mem, List.map_congr_left fun e he => ky_ord (g.ord e he).2.1]
theorem norm_tot {n : Int} {l r : List Tr} (h : IsNorm l r) (g : Good n r) (f : Int × Int → Bool) : bk f r = bk f l := by
  rw [bk_bs f fun e he => (g.ord e he).2.1, bs_norm f h]
/-- renaming behind the ordering is renaming ahead of it -/
theorem norm_mp {n : Int} {l r x : List Tr} (h : IsNorm l r) (g : Good n r) (σ : Int → Int) (k : IsNorm (mp σ r) x) : IsNorm (mp σ l) x := by
  refine ⟨k.srt, fun p => (k.mem p).trans ⟨mem_mp σ (fun q => (norm_keys h g q).symm) p, mem_mp σ (norm_keys h g) p⟩, fun e he => ?_⟩
  rw [k.cnt e he]
  unfold tot
  rw [bk_mp, bk_mp, norm_tot h g]
theorem mp_mp (σ τ : Int → Int) (l : List Tr) : mp τ (mp σ l) = mp (fun x => τ (σ x)) l := by
  unfold mp
  rw [List.map_map]
  rfl
theorem mp_congr {σ τ : Int → Int} {n : Int} {l : List Tr} (v : ∀ t ∈ l, Vld n t) (h : ∀ x, 0 ≤ x → x < n → σ x = τ x) : mp σ l = mp τ l := by
  refine List.map_congr_left fun t ht => ?_
  have := v t ht
  unfold Vld at this
  rw [h t.1 (by omega) (by omega), h t.2.1 (by omega) (by omega)]
theorem mp_id {σ : Int → Int} {n : Int} {l : List Tr} (v : ∀ t ∈ l, Vld n t) (h : ∀ x, 0 ≤ x → x < n → σ x = x) : mp σ l = l := by
  rw [mp_congr (τ := fun x => x) v h]
  unfold mp
  exact List.map_id' l
theorem mp_vld {σ : Int → Int} {n : Int} {l : List Tr} (v : ∀ t ∈ l, Vld n t) (h : ∀ x, 0 ≤ x → x < n → 0 ≤ σ x ∧ σ x < n) (inj : ∀ x y, 0 ≤ x → x < n → 0 ≤ y → y < n → σ x = σ y → x = y) : ∀ t ∈ mp σ l, Vld n t := fun u hu => by
  obtain ⟨t, ht, rfl⟩ := List.mem_map.mp hu
  have hv := v t ht
  unfold Vld at hv ⊢
  have h1 := h t.1 (by omega) (by omega)
  have h2 := h t.2.1 (by omega) (by omega)
  have h3 := inj t.1 t.2.1 (by omega) (by omega) (by omega) (by omega)
  dsimp only
  refine ⟨h1.1, h1.2, h2.1, h2.2, fun z => hv.2.2.2.2.1 (h3 z), hv.2.2.2.2.2⟩
end Own

namespace Own
open PySem PySem.Spec PyProof.Rows L2
/-! ### the text by places -/
def top (i : Nat) : Stmt := PySem.Challenge.pw_rimcords_k05_lots_of_tables_whole.main.body.getD i (.Pass ⟨0, 0, 0, 0⟩)
abbrev s__wall : Stmt := top 0
theorem sc__wall : FnScope ["k"] ["k"] (defScope s__wall) := ⟨rfl, rfl, rfl, by decide +kernel, rfl, by decide +kernel, by decide +kernel⟩
abbrev s_gaps : Stmt := top 12
theorem sc_gaps : FnScope ["pins"] ["pins"] (defScope s_gaps) := ⟨rfl, rfl, rfl, by decide +kernel, rfl, by decide +kernel, by decide +kernel⟩
abbrev s_is_whole : Stmt := top 14
theorem sc_is_whole : FnScope ["value"] ["value"] (defScope s_is_whole) := ⟨rfl, rfl, rfl, by decide +kernel, rfl, by decide +kernel, by decide +kernel⟩
abbrev s_is_sequence : Stmt := top 15
theorem sc_is_sequence : FnScope ["value"] ["value"] (defScope s_is_sequence) := ⟨rfl, rfl, rfl, by decide +kernel, rfl, by decide +kernel, by decide +kernel⟩
abbrev s_is_below : Stmt := top 16
theorem sc_is_below : FnScope ["value", "bound"] ["value", "bound"] (defScope s_is_below) := ⟨rfl, rfl, rfl, by decide +kernel, rfl, by decide +kernel, by decide +kernel⟩
abbrev s_check_pins : Stmt := top 17
theorem sc_check_pins : FnScope ["pins"] ["pins"] (defScope s_check_pins) := ⟨rfl, rfl, rfl, by decide +kernel, rfl, by decide +kernel, by decide +kernel⟩
abbrev s_check_pin : Stmt := top 18
theorem sc_check_pin : FnScope ["pins", "pin"] ["pins", "pin"] (defScope s_check_pin) := ⟨rfl, rfl, rfl, by decide +kernel, rfl, by decide +kernel, by decide +kernel⟩
abbrev s_check_like : Stmt := top 19
theorem sc_check_like : FnScope ["one", "other"] ["one", "other"] (defScope s_check_like) := ⟨rfl, rfl, rfl, by decide +kernel, rfl, by decide +kernel, by decide +kernel⟩
abbrev s_check_number : Stmt := top 20
theorem sc_check_number : FnScope ["number", "least"] ["number", "least"] (defScope s_check_number) := ⟨rfl, rfl, rfl, by decide +kernel, rfl, by decide +kernel, by decide +kernel⟩
abbrev s_is_entry : Stmt := top 22
theorem sc_is_entry : FnScope ["pins", "entry", "a", "b", "many"] ["pins", "entry"] (defScope s_is_entry) := ⟨rfl, rfl, rfl, by decide +kernel, rfl, by decide +kernel, by decide +kernel⟩
abbrev s_gathered : Stmt := top 23
theorem sc_gathered : FnScope ["pins", "entries", "held", "entry", "pair", "a", "b", "many"] ["pins", "entries"] (defScope s_gathered) := ⟨rfl, rfl, rfl, by decide +kernel, rfl, by decide +kernel, by decide +kernel⟩
abbrev s_by_pair : Stmt := top 24
theorem sc_by_pair : FnScope ["cords", "a", "b", "many"] ["cords"] (defScope s_by_pair) := ⟨rfl, rfl, rfl, by decide +kernel, rfl, by decide +kernel, by decide +kernel⟩
abbrev s_entries_of : Stmt := top 25
theorem sc_entries_of : FnScope ["held", "a", "b"] ["held"] (defScope s_entries_of) := ⟨rfl, rfl, rfl, by decide +kernel, rfl, by decide +kernel, by decide +kernel⟩
abbrev s_ends_at_pins : Stmt := top 26
theorem sc_ends_at_pins : FnScope ["pins", "cords", "ends", "a", "b", "many"] ["pins", "cords"] (defScope s_ends_at_pins) := ⟨rfl, rfl, rfl, by decide +kernel, rfl, by decide +kernel, by decide +kernel⟩
abbrev s_cord_grid : Stmt := top 27
theorem sc_cord_grid : FnScope ["pins", "cords", "rows", "a", "b", "many", "_"] ["pins", "cords"] (defScope s_cord_grid) := ⟨rfl, rfl, rfl, by decide +kernel, rfl, by decide +kernel, by decide +kernel⟩
abbrev s_sums_before : Stmt := top 28
theorem sc_sums_before : FnScope ["row", "sums", "total", "number"] ["row"] (defScope s_sums_before) := ⟨rfl, rfl, rfl, by decide +kernel, rfl, by decide +kernel, by decide +kernel⟩
abbrev s_table_rows : Stmt := top 29
theorem sc_table_rows : FnScope ["pins", "cords", "sums", "size", "rows", "i", "across", "j", "row", "_"] ["pins", "cords"] (defScope s_table_rows) := ⟨rfl, rfl, rfl, by decide +kernel, rfl, by decide +kernel, by decide +kernel⟩
abbrev s_twice_between : Stmt := top 30
theorem sc_twice_between : FnScope ["pins", "table", "a", "b", "before_a", "before_b"] ["pins", "table", "a", "b"] (defScope s_twice_between) := ⟨rfl, rfl, rfl, by decide +kernel, rfl, by decide +kernel, by decide +kernel⟩
abbrev s_cords_of_table : Stmt := top 31
theorem sc_cords_of_table : FnScope ["pins", "table", "entries", "a", "b", "entry"] ["pins", "table"] (defScope s_cords_of_table) := ⟨rfl, rfl, rfl, by decide +kernel, rfl, by decide +kernel, by decide +kernel⟩
abbrev s_first_bar : Stmt := top 32
theorem sc_first_bar : FnScope ["pins", "held", "wished", "i", "j"] ["pins", "held", "wished"] (defScope s_first_bar) := ⟨rfl, rfl, rfl, by decide +kernel, rfl, by decide +kernel, by decide +kernel⟩
abbrev s_odd_pins : Stmt := top 33
theorem sc_odd_pins : FnScope ["ends", "wished", "pin", "many"] ["ends", "wished"] (defScope s_odd_pins) := ⟨rfl, rfl, rfl, by decide +kernel, rfl, by decide +kernel, by decide +kernel⟩
abbrev s_Lot_init : Stmt := inClass (top 35) 0
theorem sc_Lot_init : FnScope ["self", "pins", "cords"] ["self", "pins", "cords"] (defScope s_Lot_init) := ⟨rfl, rfl, rfl, by decide +kernel, rfl, by decide +kernel, by decide +kernel⟩
abbrev s_Lot_table : Stmt := inClass (top 35) 1
theorem sc_Lot_table : FnScope ["self"] ["self"] (defScope s_Lot_table) := ⟨rfl, rfl, rfl, by decide +kernel, rfl, by decide +kernel, by decide +kernel⟩
abbrev s_Lot_between : Stmt := inClass (top 35) 2
theorem sc_Lot_between : FnScope ["self", "one", "other"] ["self", "one", "other"] (defScope s_Lot_between) := ⟨rfl, rfl, rfl, by decide +kernel, rfl, by decide +kernel, by decide +kernel⟩
abbrev s_Lot_ends : Stmt := inClass (top 35) 3
theorem sc_Lot_ends : FnScope ["self", "pin"] ["self", "pin"] (defScope s_Lot_ends) := ⟨rfl, rfl, rfl, by decide +kernel, rfl, by decide +kernel, by decide +kernel⟩
abbrev s_Lot_total : Stmt := inClass (top 35) 4
theorem sc_Lot_total : FnScope ["self", "entry"] ["self"] (defScope s_Lot_total) := ⟨rfl, rfl, rfl, by decide +kernel, rfl, by decide +kernel, by decide +kernel⟩
abbrev s_Lot_len : Stmt := inClass (top 35) 5
theorem sc_Lot_len : FnScope ["self"] ["self"] (defScope s_Lot_len) := ⟨rfl, rfl, rfl, by decide +kernel, rfl, by decide +kernel, by decide +kernel⟩
abbrev s_Lot_iter : Stmt := inClass (top 35) 6
theorem sc_Lot_iter : FnScope ["self"] ["self"] (defScope s_Lot_iter) := ⟨rfl, rfl, rfl, by decide +kernel, rfl, by decide +kernel, by decide +kernel⟩
abbrev s_Lot_eq : Stmt := inClass (top 35) 7
theorem sc_Lot_eq : FnScope ["self", "other"] ["self", "other"] (defScope s_Lot_eq) := ⟨rfl, rfl, rfl, by decide +kernel, rfl, by decide +kernel, by decide +kernel⟩
abbrev s_Lot_add : Stmt := inClass (top 35) 8
theorem sc_Lot_add : FnScope ["self", "other"] ["self", "other"] (defScope s_Lot_add) := ⟨rfl, rfl, rfl, by decide +kernel, rfl, by decide +kernel, by decide +kernel⟩
abbrev s_Lot_sub : Stmt := inClass (top 35) 9
theorem sc_Lot_sub : FnScope ["self", "other", "left", "a", "b", "many"] ["self", "other"] (defScope s_Lot_sub) := ⟨rfl, rfl, rfl, by decide +kernel, rfl, by decide +kernel, by decide +kernel⟩
abbrev s_Lot_mul : Stmt := inClass (top 35) 10
theorem sc_Lot_mul : FnScope ["self", "number", "a", "b", "many"] ["self", "number"] (defScope s_Lot_mul) := ⟨rfl, rfl, rfl, by decide +kernel, rfl, by decide +kernel, by decide +kernel⟩
abbrev s_Lot_contains : Stmt := inClass (top 35) 11
theorem sc_Lot_contains : FnScope ["self", "wishes"] ["self", "wishes"] (defScope s_Lot_contains) := ⟨rfl, rfl, rfl, by decide +kernel, rfl, by decide +kernel, by decide +kernel⟩
abbrev s_lot_of : Stmt := top 37
theorem sc_lot_of : FnScope ["pins", "table", "a", "b", "twice"] ["pins", "table"] (defScope s_lot_of) := ⟨rfl, rfl, rfl, by decide +kernel, rfl, by decide +kernel, by decide +kernel⟩
abbrev s_check_table : Stmt := top 38
theorem sc_check_table : FnScope ["size", "table", "rows", "row", "column"] ["size", "table"] (defScope s_check_table) := ⟨rfl, rfl, rfl, by decide +kernel, rfl, by decide +kernel, by decide +kernel⟩
abbrev s_is_place_right : Stmt := top 39
theorem sc_is_place_right : FnScope ["rows", "row", "column", "number"] ["rows", "row", "column"] (defScope s_is_place_right) := ⟨rfl, rfl, rfl, by decide +kernel, rfl, by decide +kernel, by decide +kernel⟩
abbrev s__law_whole : Stmt := top 41
theorem sc__law_whole : FnScope ["_law_value"] ["_law_value"] (defScope s__law_whole) := ⟨rfl, rfl, rfl, by decide +kernel, rfl, by decide +kernel, by decide +kernel⟩
abbrev s__law_cell : Stmt := top 42
theorem sc__law_cell : FnScope ["_law_script", "_law_k", "_law_seed", "_law_cell_here"] ["_law_script", "_law_k"] (defScope s__law_cell) := ⟨rfl, rfl, rfl, by decide +kernel, rfl, by decide +kernel, by decide +kernel⟩
abbrev s__law_digits : Stmt := top 43
theorem sc__law_digits : FnScope ["_law_cell_here", "_law_sizes", "_law_row", "_law_rest", "_law_seed", "_law_k", "_law_size", "_law_twice"] ["_law_cell_here", "_law_sizes"] (defScope s__law_digits) := ⟨rfl, rfl, rfl, by decide +kernel, rfl, by decide +kernel, by decide +kernel⟩
abbrev s__law_same : Stmt := top 44
theorem sc__law_same : FnScope ["_law_value", "_law_due", "_law_k"] ["_law_value", "_law_due"] (defScope s__law_same) := ⟨rfl, rfl, rfl, by decide +kernel, rfl, by decide +kernel, by decide +kernel⟩
abbrev s__law_norm : Stmt := top 45
theorem sc__law_norm : FnScope ["_law_triples", "_law_pairs", "_law_entry", "_law_row", "_law_pair", "_law_low", "_law_high", "_law_many"] ["_law_triples"] (defScope s__law_norm) := ⟨rfl, rfl, rfl, by decide +kernel, rfl, by decide +kernel, by decide +kernel⟩
abbrev s__law_table : Stmt := top 46
theorem sc__law_table : FnScope ["_law_rim", "_law_bunch", "_law_size", "_law_grid", "_law_i", "_law_met", "_law_step", "_law_j", "_law_row", "_law_entry"] ["_law_rim", "_law_bunch"] (defScope s__law_table) := ⟨rfl, rfl, rfl, by decide +kernel, rfl, by decide +kernel, by decide +kernel⟩
abbrev s__law_lot_is : Stmt := top 47
theorem sc__law_lot_is : FnScope ["_law_lot_here", "_law_rim", "_law_bunch"] ["_law_lot_here", "_law_rim", "_law_bunch"] (defScope s__law_lot_is) := ⟨rfl, rfl, rfl, by decide +kernel, rfl, by decide +kernel, by decide +kernel⟩
abbrev s__law_pins : Stmt := top 48
theorem sc__law_pins : FnScope ["_law_cell_here", "_law_row"] ["_law_cell_here"] (defScope s__law_pins) := ⟨rfl, rfl, rfl, by decide +kernel, rfl, by decide +kernel, by decide +kernel⟩
abbrev s__law_lot : Stmt := top 49
theorem sc__law_lot : FnScope ["_law_script", "_law_rim", "_law_row", "_law_k", "_law_draw", "_law_other"] ["_law_script", "_law_rim"] (defScope s__law_lot) := ⟨rfl, rfl, rfl, by decide +kernel, rfl, by decide +kernel, by decide +kernel⟩
abbrev s__law_free : Stmt := top 50
theorem sc__law_free : FnScope ["_law_cell_here", "_law_size", "_law_times", "_law_draw", "_law_rows", "_law_i", "_law_j", "_law_k"] ["_law_cell_here", "_law_size", "_law_times"] (defScope s__law_free) := ⟨rfl, rfl, rfl, by decide +kernel, rfl, by decide +kernel, by decide +kernel⟩
abbrev s__law_strange : Stmt := top 51
theorem sc__law_strange : FnScope ["_law_value", "_law_by"] ["_law_value", "_law_by"] (defScope s__law_strange) := ⟨rfl, rfl, rfl, by decide +kernel, rfl, by decide +kernel, by decide +kernel⟩
abbrev s__law_no_row : Stmt := top 52
theorem sc__law_no_row : FnScope ["_law_size", "_law_by"] ["_law_size", "_law_by"] (defScope s__law_no_row) := ⟨rfl, rfl, rfl, by decide +kernel, rfl, by decide +kernel, by decide +kernel⟩
abbrev s__law_behind : Stmt := top 53
theorem sc__law_behind : FnScope ["_law_size", "_law_by", "_law_k"] ["_law_size", "_law_by"] (defScope s__law_behind) := ⟨rfl, rfl, rfl, by decide +kernel, rfl, by decide +kernel, by decide +kernel⟩
abbrev s__law_changed : Stmt := top 54
theorem sc__law_changed : FnScope ["_law_value", "_law_way", "_law_by", "_law_more", "_law_less"] ["_law_value", "_law_way", "_law_by"] (defScope s__law_changed) := ⟨rfl, rfl, rfl, by decide +kernel, rfl, by decide +kernel, by decide +kernel⟩
abbrev s__law_spoilt : Stmt := top 55
theorem sc__law_spoilt : FnScope ["_law_rows", "_law_kind", "_law_i", "_law_j", "_law_by", "_law_new", "_law_row", "_law_value", "_law_far", "_law_k"] ["_law_rows", "_law_kind", "_law_i", "_law_j", "_law_by"] (defScope s__law_spoilt) := ⟨rfl, rfl, rfl, by decide +kernel, rfl, by decide +kernel, by decide +kernel⟩
abbrev s__law_wrong : Stmt := top 56
theorem sc__law_wrong : FnScope ["_law_size", "_law_rows", "_law_i", "_law_j", "_law_value"] ["_law_size", "_law_rows"] (defScope s__law_wrong) := ⟨rfl, rfl, rfl, by decide +kernel, rfl, by decide +kernel, by decide +kernel⟩
abbrev s__law_none : Stmt := top 57
theorem sc__law_none : FnScope ["_law_rim", "_law_rows", "_law_a", "_law_b", "_law_before", "_law_twice"] ["_law_rim", "_law_rows"] (defScope s__law_none) := ⟨rfl, rfl, rfl, by decide +kernel, rfl, by decide +kernel, by decide +kernel⟩
abbrev s__law_passed : Stmt := top 58
theorem sc__law_passed : FnScope ["_law_rows", "_law_form", "_law_grid", "_law_k", "_law_row"] ["_law_rows", "_law_form"] (defScope s__law_passed) := ⟨rfl, rfl, rfl, by decide +kernel, rfl, by decide +kernel, by decide +kernel⟩
abbrev s__law_refused : Stmt := top 59
theorem sc__law_refused : FnScope ["_law_rim", "_law_grid", "_law_kept", "_law_place"] ["_law_rim", "_law_grid", "_law_kept", "_law_place"] (defScope s__law_refused) := ⟨rfl, rfl, rfl, by decide +kernel, rfl, by decide +kernel, by decide +kernel⟩
abbrev s__law_no_lot : Stmt := top 60
theorem sc__law_no_lot : FnScope ["_law_rim", "_law_rows", "_law_form", "_law_due", "_law_grid"] ["_law_rim", "_law_rows", "_law_form", "_law_due"] (defScope s__law_no_lot) := ⟨rfl, rfl, rfl, by decide +kernel, rfl, by decide +kernel, by decide +kernel⟩
abbrev s__law_bad_pins : Stmt := top 61
theorem sc__law_bad_pins : FnScope ["_law_rim", "_law_rows", "_law_grid"] ["_law_rim", "_law_rows"] (defScope s__law_bad_pins) := ⟨rfl, rfl, rfl, by decide +kernel, rfl, by decide +kernel, by decide +kernel⟩
abbrev s__law_normal : Stmt := top 62
theorem sc__law_normal : FnScope ["_law_lot_here", "_law_rim", "_law_before", "_law_entry"] ["_law_lot_here", "_law_rim"] (defScope s__law_normal) := ⟨rfl, rfl, rfl, by decide +kernel, rfl, by decide +kernel, by decide +kernel⟩
abbrev s__law_found : Stmt := top 63
theorem sc__law_found : FnScope ["_law_rim", "_law_rows", "_law_form", "_law_grid", "_law_due", "_law_lot_here", "_law_bunch", "_law_k", "_law_row", "_law_entry"] ["_law_rim", "_law_rows", "_law_form"] (defScope s__law_found) := ⟨rfl, rfl, rfl, by decide +kernel, rfl, by decide +kernel, by decide +kernel⟩
abbrev s__law_judged : Stmt := top 64
theorem sc__law_judged : FnScope ["_law_rim", "_law_rows", "_law_form", "_law_place", "_law_due"] ["_law_rim", "_law_rows", "_law_form"] (defScope s__law_judged) := ⟨rfl, rfl, rfl, by decide +kernel, rfl, by decide +kernel, by decide +kernel⟩
abbrev s__law_all_spoilt : Stmt := top 65
theorem sc__law_all_spoilt : FnScope ["_law_script", "_law_rim", "_law_rows", "_law_other", "_law_form", "_law_size", "_law_k", "_law_draw", "_law_spoilt_here", "_law_by", "_law_turn", "_law_i"] ["_law_script", "_law_rim", "_law_rows", "_law_other", "_law_form"] (defScope s__law_all_spoilt) := ⟨rfl, rfl, rfl, by decide +kernel, rfl, by decide +kernel, by decide +kernel⟩
abbrev s_law : Stmt := top 66
theorem sc_law : FnScope ["_law_script", "_law_rim", "_law_bunch", "_law_form", "_law_size", "_law_own", "_law_times", "_law_rows", "_law_other", "_law_kind", "_law_grid", "_law_k", "_law_thing", "_law_lower", "_law_wrong_here", "_law_row", "_law_c", "_law_value"] ["_law_script"] (defScope s_law) := ⟨rfl, rfl, rfl, by decide +kernel, rfl, by decide +kernel, by decide +kernel⟩
end Own

namespace Own
open PySem PySem.Spec PyProof.Rows L2
/-! ### heaps -/
theorem same_upd {H : Hp} {p : Addr} {o : HO} (h : H p = none) : Same H (upd H p o) := fun b x e => by
  rw [upd_ne (ne_of_none e h)]
  exact e
/-- a tuple of three ints -/
abbrev tv (t : Tr) : List V := [.int t.1, .int t.2.1, .int t.2.2]
def TrV (H : Hp) (vs : List V) (l : List Tr) : Prop := vs.length = l.length ∧ ∀ (i : Nat) (t : Tr), l[i]? = some t → ∃ b, vs[i]? = some (.ref b) ∧ H b = some (.tup (tv t))
def Trip (H : Hp) (a : Addr) (l : List Tr) : Prop := ∃ vs, H a = some (.tup vs) ∧ TrV H vs l
def TripL (H : Hp) (a : Addr) (l : List Tr) : Prop := ∃ vs, H a = some (.lst vs) ∧ TrV H vs l
theorem TrV.same {H H' : Hp} {vs : List V} {l : List Tr} (s : Same H H') (h : TrV H vs l) : TrV H' vs l := ⟨h.1, fun i t e => by
  obtain ⟨b, e1, e2⟩ := h.2 i t e
  exact ⟨b, e1, s _ _ e2⟩⟩
theorem Trip.same {H H' : Hp} {a : Addr} {l : List Tr} (s : Same H H') (h : Trip H a l) : Trip H' a l := by
  obtain ⟨vs, e, t⟩ := h
  exact ⟨vs, s _ _ e, t.same s⟩
theorem TripL.same {H H' : Hp} {a : Addr} {l : List Tr} (s : Same H H') (h : TripL H a l) : TripL H' a l := by
  obtain ⟨vs, e, t⟩ := h
  exact ⟨vs, s _ _ e, t.same s⟩
theorem TrV.nil {H : Hp} : TrV H [] [] := ⟨rfl, fun i t e => by simp at e⟩
theorem TrV.snoc {H : Hp} {vs : List V} {l : List Tr} {b : Addr} {t : Tr} (h : TrV H vs l) (e : H b = some (.tup (tv t))) : TrV H (vs ++ [.ref b]) (l ++ [t]) := by
  refine ⟨by rw [List.length_append, List.length_append, h.1]; rfl, fun i u hu => ?_⟩
  by_cases hi : i < l.length
  · rw [List.getElem?_append_left hi] at hu
    obtain ⟨c, e1, e2⟩ := h.2 i u hu
    exact ⟨c, by rw [List.getElem?_append_left (by rw [h.1]; exact hi)]; exact e1, e2⟩
  · rw [List.getElem?_append_right (by omega)] at hu
    have hi2 : i - l.length = 0 := by
      cases hk : i - l.length with
      | zero => rfl
      | succ k => rw [hk] at hu; simp at hu
    rw [hi2] at hu
    obtain rfl : t = u := Option.some.inj hu
    exact ⟨b, by rw [List.getElem?_append_right (by rw [h.1]; omega), h.1, hi2]; rfl, e⟩
theorem TrV.at_ {H : Hp} {vs : List V} {l : List Tr} (h : TrV H vs l) {i : Nat} {x : V} (e : vs[i]? = some x) : ∃ b t, x = .ref b ∧ l[i]? = some t ∧ H b = some (.tup (tv t)) := by
  have hi : i < l.length := by
    rw [← h.1]
    exact (List.getElem?_eq_some_iff.mp e).1
  obtain ⟨b, e1, e2⟩ := h.2 i l[i] (List.getElem?_eq_getElem hi)
  rw [e] at e1
  exact ⟨b, l[i], Option.some.inj e1, List.getElem?_eq_getElem hi, e2⟩
theorem SqB.same {K : PySem.W.Frag} {H H' : Hp} {a : Addr} {xs : List V} (s : Same H H') (h : SqB K H a xs) : SqB K H' a xs := by
  rcases h with h | ((h | ⟨o, h⟩) | h)
  · exact .inl (s.seq h)
  · exact .inr (.inl (.inl (s _ _ h)))
  · exact .inr (.inl (.inr ⟨o, s _ _ h⟩))
  · exact .inr (.inr h)
theorem Trip.sq {K : PySem.W.Frag} {H : Hp} {a : Addr} {l : List Tr} (h : Trip H a l) : ∃ vs, SqB K H a vs ∧ TrV H vs l := by
  obtain ⟨vs, e, t⟩ := h
  exact ⟨vs, .inr (.inl (.inl e)), t⟩
theorem TripL.sq {K : PySem.W.Frag} {H : Hp} {a : Addr} {l : List Tr} (h : TripL H a l) : ∃ vs, SqB K H a vs ∧ TrV H vs l := by
  obtain ⟨vs, e, t⟩ := h
  exact ⟨vs, .inl (.inl (.inl e)), t⟩
/-- a loop over a list or a tuple: what stood in Hb stands in each turn -/
theorem for_same {K : PySem.W.Frag} {a : Addr} {xs : List V} {g : TG} {tb : TS} {D : Ends} {σ : L2.St} {H Hb : Hp} (hB : SqB K Hb a xs) (Pv : Nat → L2.St → Hp → Prop) (h0 : Pv 0 σ H) (hk : ∀ i σ' H', Pv i σ' H' → Same Hb H')
    (hs : ∀ i x σ H, xs[i]? = some x → Pv i σ H → g x σ H fun σ2 H2 => tb { D with nx := Pv (i + 1), ct := Pv (i + 1), bk := D.nx } σ2 H2) (hd : ∀ σ H, Pv xs.length σ H → D.nx σ H) :
    ((∃ xs, SqL K H a xs) ∧ ∃ W : Nat → Nat → L2.St → Hp → Prop, (∃ m, W 0 m σ H) ∧ ∀ i m σ H, W i m σ H →
      ((Itl K a).stop i H ∧ D.nx σ H) ∨ ((Itl K a).go i H ∧ ∃ N : L2.St → Hp → Prop, (∀ σ' H', N σ' H' → ∃ m', m' < m ∧ W (i + 1) m' σ' H') ∧ ∀ x H', (Itl K a).yld i H x H' → g x σ H' fun σ2 H2 => tb { D with nx := N, ct := N, bk := D.nx } σ2 H2)) ∨
    ((∃ xs, SqT K H a xs) ∧ ∃ W : Nat → Nat → L2.St → Hp → Prop, (∃ m, W 0 m σ H) ∧ ∀ i m σ H, W i m σ H →
      ((Itt K a).stop i H ∧ D.nx σ H) ∨ ((Itt K a).go i H ∧ ∃ N : L2.St → Hp → Prop, (∀ σ' H', N σ' H' → ∃ m', m' < m ∧ W (i + 1) m' σ' H') ∧ ∀ x H', (Itt K a).yld i H x H' → g x σ H' fun σ2 H2 => tb { D with nx := N, ct := N, bk := D.nx } σ2 H2)) := by
  have tup : ∀ {H'}, SqT K Hb a xs → Same Hb H' → SqT K H' a xs := fun h s => by
    rcases h with (h | ⟨o, h⟩) | h
    · exact .inl (.inl (s _ _ h))
    · exact .inl (.inr ⟨o, s _ _ h⟩)
    · exact .inr h
  rcases hB with h | h
  · exact .inl ⟨⟨xs, (hk 0 σ H h0).seq h⟩, for_list Pv h0 (fun i σ' H' _ p => (hk i σ' H' p).seq h) hs hd⟩
  · exact .inr ⟨⟨xs, tup h (hk 0 σ H h0)⟩, for_tup Pv h0 (fun i σ' H' _ p => tup h (hk i σ' H' p)) hs hd⟩
theorem kitTrue {K : PySem.W.Frag} {t : Value} : PySem.W.kitOne K t t = some true := by
  unfold PySem.W.kitOne
  rw [if_pos (beq_self_eq_true t)]
section
variable {P : Program} {w : World} {K : PySem.W.Frag} {mg : Str → Option Value} {base : Heap}
structure Df (K : PySem.W.Frag) (mg : Str → Option Value) (x : Str) (st : Stmt) (ps : List Str) (f : Addr) (fd : FuncData) : Prop where
  F : Fun K x x st f fd
  g : mg x = some (.ref f)
  b : Binds K fd ps []
/-- the built-ins that the text calls -/
structure Bi (mg : Str → Option Value) : Prop where
  b_max : mg "max" = none
  b_min : mg "min" = none
  b_tuple : mg "tuple" = none
  b_range : mg "range" = none
  b_isinstance : mg "isinstance" = none
  b_int : mg "int" = none
  b_bool : mg "bool" = none
  b_len : mg "len" = none
  b_list : mg "list" = none
  b_str : mg "str" = none
  b_sorted : mg "sorted" = none
  b_sum : mg "sum" = none
/-! ### kinds -/
def spWhole : Sp := fun vs H Q _ => ∃ i : Int, vs = [.int i] ∧ Q (.bl true) H
theorem ok_whole {f : Addr} {fd : FuncData} (F : Fun K "is_whole" "is_whole" s_is_whole f fd) (T : Bi mg) : FnOk P w K mg base CX0 1 f fd ["value"] spWhole := by
  refine F.ok sc_is_whole (fun vs H Q E h => ?_) (fun cdv A outer s H vs Q E hr h => ?_)
  · obtain ⟨i, rfl, _⟩ := h
    rfl
  · obtain ⟨i, rfl, q⟩ := h
    refine ⟨_, (pss_one (ps_ret (pe_and (pe_callB call_isi (by rfl) T.b_isinstance (by decide +kernel) (pa_cons (pv 0) (pa_cons (pe_bltn (v := .ty "int") (by rfl) T.b_int (by decide +kernel) rfl) pa_nil))) (pe_one (pe_not (pe_callB call_isi (by rfl) T.b_isinstance (by decide +kernel) (pa_cons (pv 0) (pa_cons (pe_bltn (v := .ty "bool") (by rfl) T.b_bool (by decide +kernel) rfl) pa_nil)))))))), ?_⟩
    refine ⟨_, rfl, _, _, _, _, true, rfl, .ty "int", .base (.int i), kit_ty (by decide +kernel), true, rfl, ?_⟩
    exact ⟨_, rfl, _, _, _, _, false, rfl, .ty "bool", .base (.int i), kit_ty (by decide +kernel), false, rfl, q⟩
def spSeq : Sp := fun vs H Q _ => ∃ (a : Addr) (xs : List V), vs = [.ref a] ∧ H a = some (.tup xs) ∧ ∀ H', Same H H' → Q (.bl true) H'
theorem ok_seq {f : Addr} {fd : FuncData} (F : Fun K "is_sequence" "is_sequence" s_is_sequence f fd) (T : Bi mg) : FnOk P w K mg base CX0 1 f fd ["value"] spSeq := by
  refine F.ok sc_is_sequence (fun vs H Q E h => ?_) (fun cdv A outer s H vs Q E hr h => ?_)
  · obtain ⟨a, xs, rfl, _⟩ := h
    rfl
  · obtain ⟨a, xs, rfl, ha, q⟩ := h
    refine ⟨_, (pss_one (ps_ret (pe_callB call_isiT (by rfl) T.b_isinstance (by decide +kernel) (pa_cons (pv 0) (pa_cons (pe_tup (pa_cons (pe_bltn (v := .ty "list") (by rfl) T.b_list (by decide +kernel) rfl) (pa_cons (pe_bltn (v := .ty "tuple") (by rfl) T.b_tuple (by decide +kernel) rfl) pa_nil))) pa_nil))))), ?_⟩
    refine ⟨_, rfl, by show 2 ≤ sizeLine; decide, fun p np => ?_⟩
    have s1 : Same H (upd H p (.tup [.ty "list", .ty "tuple"])) := same_upd np
    exact ⟨_, p, _, _, _, true, rfl, upd_same, .cons (.ty "list") (.cons (.ty "tuple") .nil), .base (.tup (s1 _ _ ha)), kitAny_cons (b := false) (kit_ty (by decide +kernel)) (fun _ => kitAny_cons (b := true) (kit_ty (by decide +kernel)) (fun z => by cases z) (fun _ => rfl)) (fun z => by cases z), q _ s1⟩
def spBelow : Sp := fun vs H Q _ => ∃ x n : Int, vs = [.int x, .int n] ∧ 0 ≤ x ∧ x < n ∧ Q (.bl true) H
theorem ok_below {f : Addr} {fd : FuncData} (F : Fun K "is_below" "is_below" s_is_below f fd) (T : Bi mg) {f_w : Addr} {d_w : FuncData} (D_w : Df K mg "is_whole" s_is_whole ["value"] f_w d_w) : FnOk P w K mg base CX0 2 f fd ["value", "bound"] spBelow := by
  have G_w : FnOk P w K mg base CX0 1 f_w d_w ["value"] spWhole := ok_whole D_w.F T
  refine F.ok sc_is_below (fun vs H Q E h => ?_) (fun cdv A outer s H vs Q E hr h => ?_)
  · obtain ⟨x, n, rfl, _⟩ := h
    rfl
  · obtain ⟨x, n, rfl, h0, h1, q⟩ := h
    refine ⟨_, (pss_one (ps_ret (pe_and (pe_call G_w hr (by rfl) D_w.g D_w.F.kp D_w.b .nil pass0 (pa_cons (pv 0) pa_nil)) (pe_one (pe_chain op_le op_lt pe_int (pv 0) (pv 1)))))), ?_⟩
    refine ⟨_, rfl, x, rfl, true, rfl, ?_⟩
    refine ⟨_, rfl, 0, x, rfl, rfl, _, rfl, ?_⟩
    rw [decide_eq_true h0, if_pos rfl]
    refine ⟨_, rfl, x, n, rfl, rfl, ?_⟩
    show Q (.bl (decide (x < n))) H
    rw [decide_eq_true h1]
    exact q
def spCkPins : Sp := fun vs H Q _ => ∃ n : Int, vs = [.int n] ∧ 0 ≤ n ∧ Q .non H
theorem ok_ckpins {f : Addr} {fd : FuncData} (F : Fun K "check_pins" "check_pins" s_check_pins f fd) (T : Bi mg) {f_w : Addr} {d_w : FuncData} (D_w : Df K mg "is_whole" s_is_whole ["value"] f_w d_w) : FnOk P w K mg base CX0 2 f fd ["pins"] spCkPins := by
  have G_w : FnOk P w K mg base CX0 1 f_w d_w ["value"] spWhole := ok_whole D_w.F T
  refine F.ok sc_check_pins (fun vs H Q E h => ?_) (fun cdv A outer s H vs Q E hr h => ?_)
  · obtain ⟨n, rfl, _⟩ := h
    rfl
  · obtain ⟨n, rfl, h0, q⟩ := h
    refine ⟨_, (pss_one (ps_if (PW.pt (pw_or (pt_not (pt_val (pe_call G_w hr (by rfl) D_w.g D_w.F.kp D_w.b .nil pass0 (pa_cons (pv 0) pa_nil)))) (pw_or1 (pt_cmpR op_lt (pv 0) pe_int (nomark _))))) (pss_one ps_never) pss_nil)), ?_⟩
    refine ⟨_, rfl, n, rfl, true, rfl, ?_⟩
    refine ⟨_, rfl, n, 0, rfl, rfl, _, rfl, ?_⟩
    rw [decide_eq_false (by omega)]
    exact q
def spCkPin : Sp := fun vs H Q _ => ∃ n x : Int, vs = [.int n, .int x] ∧ 0 ≤ x ∧ x < n ∧ Q .non H
theorem ok_ckpin {f : Addr} {fd : FuncData} (F : Fun K "check_pin" "check_pin" s_check_pin f fd) (T : Bi mg) {f_w : Addr} {d_w : FuncData} (D_w : Df K mg "is_whole" s_is_whole ["value"] f_w d_w) {f_b : Addr} {d_b : FuncData} (D_b : Df K mg "is_below" s_is_below ["value", "bound"] f_b d_b) : FnOk P w K mg base CX0 3 f fd ["pins", "pin"] spCkPin := by
  have G_b : FnOk P w K mg base CX0 2 f_b d_b ["value", "bound"] spBelow := ok_below D_b.F T D_w
  refine F.ok sc_check_pin (fun vs H Q E h => ?_) (fun cdv A outer s H vs Q E hr h => ?_)
  · obtain ⟨n, x, rfl, _⟩ := h
    rfl
  · obtain ⟨n, x, rfl, h0, h1, q⟩ := h
    refine ⟨_, (pss_one (ps_if (pt_not (pt_val (pe_call G_b hr (by rfl) D_b.g D_b.F.kp D_b.b .nil pass0 (pa_cons (pv 1) (pa_cons (pv 0) pa_nil))))) (pss_one ps_never) pss_nil)), ?_⟩
    exact ⟨_, rfl, _, rfl, x, n, rfl, h0, h1, true, rfl, q⟩
def spEntry : Sp := fun vs H Q _ => ∃ (n : Int) (b : Addr) (t : Tr), vs = [.int n, .ref b] ∧ H b = some (.tup (tv t)) ∧ Vld n t ∧ ∀ H', Same H H' → Q (.bl true) H'
theorem ok_entry {f : Addr} {fd : FuncData} (F : Fun K "is_entry" "is_entry" s_is_entry f fd) (T : Bi mg) {f_w : Addr} {d_w : FuncData} (D_w : Df K mg "is_whole" s_is_whole ["value"] f_w d_w) {f_b : Addr} {d_b : FuncData} (D_b : Df K mg "is_below" s_is_below ["value", "bound"] f_b d_b) {f_q : Addr} {d_q : FuncData} (D_q : Df K mg "is_sequence" s_is_sequence ["value"] f_q d_q) : FnOk P w K mg base CX0 3 f fd ["pins", "entry"] spEntry := by
  have G_w : FnOk P w K mg base CX0 1 f_w d_w ["value"] spWhole := ok_whole D_w.F T
  have G_b : FnOk P w K mg base CX0 2 f_b d_b ["value", "bound"] spBelow := ok_below D_b.F T D_w
  have G_q : FnOk P w K mg base CX0 1 f_q d_q ["value"] spSeq := ok_seq D_q.F T
  refine F.ok sc_is_entry (fun vs H Q E h => ?_) (fun cdv A outer s H vs Q E hr h => ?_)
  · obtain ⟨n, b, t, rfl, _⟩ := h
    rfl
  · obtain ⟨n, b, t, rfl, hb, hv, q⟩ := h
    refine ⟨_, (pss_cons (ps_if (PW.pt (pw_or (pt_not (pt_val (pe_call G_q (hr.mono (by decide)) (by rfl) D_q.g D_q.F.kp D_q.b .nil pass0 (pa_cons (pv 1) pa_nil)))) (pw_or1 (pt_cmpR op_ne (pe_callB call_len_seq (by rfl) T.b_len PySem.boot_len (pa_cons (pv 1) pa_nil)) pe_int (nomark _))))) (pss_one (ps_ret pe_bl)) pss_nil)
        (pss_cons (ps_asg (pv 1) (pg_tup (by rfl) (pgs_cons (pg_name (i := 2) sc_is_entry.nd rfl (.inl rfl)) (pgs_cons (pg_name (i := 3) sc_is_entry.nd rfl (.inl rfl)) (pgs_cons (pg_name (i := 4) sc_is_entry.nd rfl (.inl rfl)) pgs_nil)))))
        (pss_one (ps_ret (pe_and (pe_call G_b hr (by rfl) D_b.g D_b.F.kp D_b.b .nil pass0 (pa_cons (pv 2) (pa_cons (pv 0) pa_nil))) (pe_and (pe_call G_b hr (by rfl) D_b.g D_b.F.kp D_b.b .nil pass0 (pa_cons (pv 3) (pa_cons (pv 0) pa_nil))) (pe_and (pe_cmpR op_ne (pv 2) (pv 3) (nomark _)) (pe_and (pe_call G_w (hr.mono (by decide)) (by rfl) D_w.g D_w.F.kp D_w.b .nil pass0 (pa_cons (pv 4) pa_nil)) (pe_one (pe_cmpR op_ge (pv 4) pe_int (nomark _))))))))))), ?_⟩
    obtain ⟨v0, v1, v2, v3, v4, v5⟩ := hv
    refine ⟨_, rfl, b, _, rfl, hb, fun H1 sm => ⟨true, rfl, ?_⟩⟩
    have hT : SqT K H1 b (tv t) := .inl (.inl (sm _ _ hb))
    refine ⟨_, rfl, b, _, rfl, .inr hT, rfl, _, rfl, iteNS rfl ?_⟩
    refine ⟨_, rfl, b, _, rfl, hT, rfl, _, _, rfl, _, _, rfl, _, _, rfl, rfl, ?_⟩
    refine ⟨_, rfl, _, rfl, t.1, n, rfl, v0, v1, true, rfl, ?_⟩
    refine ⟨_, rfl, _, rfl, t.2.1, n, rfl, v2, v3, true, rfl, ?_⟩
    refine ⟨_, rfl, _, rfl, rfl, _, rfl, ?_⟩
    rw [decide_eq_false (fun z => v4 (V.int.inj z))]
    refine ⟨_, rfl, t.2.2, rfl, true, rfl, ?_⟩
    refine ⟨_, rfl, t.2.2, 1, rfl, rfl, ?_⟩
    show Q (.bl (decide (1 ≤ t.2.2))) H1
    rw [decide_eq_true v5]
    exact q H1 sm
end
end Own

/-! The dict of a lot that is made. -/
namespace Own
open PySem PySem.Spec PyProof.Rows L2
def kk (p : Int × Int) : List Key := [.inl p.1, .inl p.2]
theorem kk_inj {p q : Int × Int} (h : kk p = kk q) : p = q := by
  unfold kk at h
  injection h with h1 h2
  injection h2 with h3 _
  injection h1 with h1
  injection h3 with h3
  exact Prod.ext h1 h3
structure DInv (kvs : List (List Key × V)) (m : List Tr) : Prop where
  val : ∀ p, valV kvs (kk p) = if p ∈ m.map ky then some (.int (tot p m)) else none
  frm : ∀ kv ∈ kvs, ∃ p, kv.1 = kk p
  nd : (kvs.map (·.1)).Nodup
theorem DInv.nil : DInv [] [] := ⟨fun p => rfl, fun kv (h : kv ∈ []) => absurd h List.not_mem_nil, List.nodup_nil⟩
theorem putK_keys {kvs : List (List Key × V)} {k : List Key} {v : V} : (∃ x, valV kvs k = some x) → (putK kvs k v).map (·.1) = kvs.map (·.1) := fun ⟨x, h⟩ => by
  unfold putK
  rw [valV_any, h]
  show (kvs.map _).map _ = _
  rw [List.map_map]
  refine List.map_congr_left fun kv _ => ?_
  show (if kv.1 = k then (kv.1, v) else kv).1 = kv.1
  split <;> rfl
theorem not_key {kvs : List (List Key × V)} {k : List Key} (h : valV kvs k = none) : k ∉ kvs.map (·.1) := fun m => by
  have a := valV_any k kvs
  rw [h] at a
  obtain ⟨kv, hm, e⟩ := List.mem_map.mp m
  have : (kvs.any fun kv => decide (kv.1 = k)) = true := List.any_eq_true.mpr ⟨kv, hm, decide_eq_true e⟩
  rw [this] at a
  cases a
theorem tot_snoc (p : Int × Int) (m : List Tr) (t : Tr) : tot p (m ++ [t]) = tot p m + (if ky t = p then t.2.2 else 0) := by
  unfold tot
  rw [bk_append]
  show _ + ((if decide (ky t = p) = true then t.2.2 else 0) + 0) = _
  by_cases h : ky t = p
  · rw [if_pos (decide_eq_true h), if_pos h]
    omega
  · rw [if_neg (by rw [decide_eq_false h]; decide), if_neg h]
    omega
theorem tot_out {p : Int × Int} {m : List Tr} (h : p ∉ m.map ky) : tot p m = 0 := by
  induction m with
  | nil => rfl
  | cons t r ih =>
    rw [tot_cons, ih fun z => h (by rw [List.map_cons]; exact List.mem_cons_of_mem _ z), if_neg fun z => h (by rw [List.map_cons, z]; exact List.mem_cons_self)]
    rfl
/-- what stands there, or 0 -/
theorem DInv.get {kvs : List (List Key × V)} {m : List Tr} (d : DInv kvs m) (p : Int × Int) : (valV kvs (kk p)).getD (.int 0) = .int (tot p m) := by
  rw [d.val]
  split
  · rfl
  · rename_i h
    rw [tot_out h]
    rfl
theorem DInv.put {kvs : List (List Key × V)} {m : List Tr} (d : DInv kvs m) (t : Tr) : DInv (putK kvs (kk (ky t)) (.int (tot (ky t) m + t.2.2))) (m ++ [t]) := by
  refine ⟨fun p => ?_, fun kv h => ?_, ?_⟩
  · rw [valV_put, d.val, tot_snoc, List.map_append]
    by_cases h : p = ky t
    · subst h
      rw [if_pos rfl, if_pos (List.mem_append_right _ (by rw [List.map_cons]; exact List.mem_cons_self)), if_pos rfl]
    · have hne : ¬ ky t = p := fun z => h z.symm
      rw [if_neg fun z : kk p = kk (ky t) => h (kk_inj z)]
      by_cases hm : p ∈ m.map ky
      · rw [if_pos hm, if_pos (List.mem_append_left _ hm), if_neg hne, Int.add_zero]
      · rw [if_neg hm, if_neg fun z => by
          rcases List.mem_append.mp z with z | z
          · exact hm z
          · exact h (List.mem_singleton.mp z)]
  · cases e : valV kvs (kk (ky t)) with
    | none =>
      rw [putK_new _ e] at h
      rcases List.mem_append.mp h with h | h
      · exact d.frm kv h
      · exact ⟨ky t, by rw [List.mem_singleton.mp h]⟩
    | some x =>
      have hk : kv.1 ∈ (putK kvs (kk (ky t)) (.int (tot (ky t) m + t.2.2))).map (·.1) := List.mem_map.mpr ⟨kv, h, rfl⟩
      rw [putK_keys ⟨x, e⟩] at hk
      obtain ⟨kv2, h2, e2⟩ := List.mem_map.mp hk
      obtain ⟨p, hp⟩ := d.frm kv2 h2
      exact ⟨p, by rw [← e2]; exact hp⟩
  · cases e : valV kvs (kk (ky t)) with
    | none =>
      rw [putK_new _ e, List.map_append]
      exact List.nodup_append.mpr ⟨d.nd, by simp, fun a ha b hb z => not_key e (by
        have hb2 : b = kk (ky t) := List.mem_singleton.mp hb
        rw [hb2] at z
        rw [← z]
        exact ha)⟩
    | some x =>
      rw [putK_keys ⟨x, e⟩]
      exact d.nd
theorem putK_len {kvs : List (List Key × V)} {k : List Key} {v : V} : (putK kvs k v).length ≤ kvs.length + 1 := by
  cases e : valV kvs k with
  | none =>
    rw [putK_new _ e, List.length_append]
    exact Nat.le_refl _
  | some x =>
    have := congrArg List.length (putK_keys (v := v) ⟨x, e⟩)
    rw [List.length_map, List.length_map] at this
    omega
theorem DInv.mem {kvs : List (List Key × V)} {m : List Tr} (d : DInv kvs m) (p : Int × Int) : kk p ∈ kvs.map (·.1) ↔ p ∈ m.map ky := by
  constructor
  · intro h
    by_cases hm : p ∈ m.map ky
    · exact hm
    · exact absurd h (not_key (by rw [d.val, if_neg hm]))
  · intro h
    have e := d.val p
    rw [if_pos h] at e
    have a := valV_any (kk p) kvs
    rw [e] at a
    obtain ⟨kv, hm, hk⟩ := List.any_eq_true.mp a
    exact List.mem_map.mpr ⟨kv, hm, of_decide_eq_true hk⟩
/-- the sorted keys, strictly in order -/
theorem sorted_lex {xs : List (Int × Int)} (hn : xs.Nodup) (hs : xs.Pairwise fun x y => SrtO.lexB y x = false) : xs.Pairwise Lex := by
  refine List.Pairwise.imp₂ (R := fun x y => SrtO.lexB y x = false) (S := fun x y => x ≠ y) ?_ hs hn
  intro a b h1 h2
  have h3 := SrtO.lexB_no.mp h1
  unfold Lex
  have h4 : ¬ (a.1 = b.1 ∧ a.2 = b.2) := fun z => h2 (Prod.ext z.1 z.2)
  omega
end Own

namespace Own
open PySem PySem.Spec PyProof.Rows L2
def SameT (H H' : Hp) : Prop := ∀ b o, H b = some (.tup o) → H' b = some (.tup o)
theorem TrV.sameT {H H' : Hp} {vs : List V} {l : List Tr} (s : SameT H H') (h : TrV H vs l) : TrV H' vs l := ⟨h.1, fun i t e => by
  obtain ⟨b, e1, e2⟩ := h.2 i t e
  exact ⟨b, e1, s _ _ e2⟩⟩
theorem sameT_put {H H' : Hp} {D : Addr} {vs ws : List V} (e : H D = some (.lst vs)) (s : Same H H') : SameT H (upd H' D (.lst ws)) := fun b o h => by
  have hb : b ≠ D := fun z => by
    rw [z, e] at h
    cases h
  rw [upd_ne hb]
  exact s _ _ h
theorem same_put {H H1 H' : Hp} {D : Addr} {o : HO} (n : H D = none) (s : Same H H') : Same H (upd H' D o) := fun b u h => by
  rw [upd_ne (ne_of_none h n)]
  exact s _ _ h
theorem keys_of {H : Hp} {kvs : List (List Key × V)} {bs : List Addr} (h : IsKeys H kvs bs) (f : ∀ kv ∈ kvs, ∃ p, kv.1 = kk p) : ((bs.map V.ref).map (kOf H)).map kk = kvs.map (·.1) ∧ ∀ b ∈ bs, ∃ p : Int × Int, H b = some (.tup [.int p.1, .int p.2]) := by
  unfold IsKeys at h
  induction h with
  | nil => exact ⟨rfl, fun b h => by cases h⟩
  | @cons kv b ks bs hb t ih =>
    obtain ⟨p, hp⟩ := f kv List.mem_cons_self
    rw [hp] at hb
    have hb2 : H b = some (.tup [.int p.1, .int p.2]) := hb
    obtain ⟨i1, i2⟩ := ih fun kv h => f kv (List.mem_cons_of_mem _ h)
    refine ⟨?_, fun c hc => ?_⟩
    · rw [List.map_cons, List.map_cons, List.map_cons, List.map_cons, i1, kOf_at hb2, hp]
    · rcases List.mem_cons.mp hc with e | e
      · exact ⟨p, by rw [e]; exact hb2⟩
      · exact i2 c e
section
variable {P : Program} {w : World} {K : PySem.W.Frag} {mg : Str → Option Value} {base : Heap}
/-! ### the entries of a lot, gathered -/
def spGathered (K : PySem.W.Frag) : Sp := fun vs H Q _ => ∃ (n : Int) (a : Addr) (xs : List V) (l : List Tr), vs = [.int n, .ref a] ∧ SqB K H a xs ∧ TrV H xs l ∧ (∀ t ∈ l, Vld n t) ∧ l.length ≤ 1000 ∧
  ∀ H' c r, Same H H' → H c = none → Trip H' c r → IsNorm l r → Q (.ref c) H'
theorem ok_gathered {f : Addr} {fd : FuncData} (F : Fun K "gathered" "gathered" s_gathered f fd) (T : Bi mg) {f_e : Addr} {d_e : FuncData} (D_e : Df K mg "is_entry" s_is_entry ["pins", "entry"] f_e d_e) (G_e : FnOk P w K mg base CX0 3 f_e d_e ["pins", "entry"] spEntry) :
    FnOk P w K mg base CX0 4 f fd ["pins", "entries"] (spGathered K) := by
  refine F.ok sc_gathered (fun vs H Q E h => ?_) (fun cdv A outer s H vs Q E hr h => ?_)
  · obtain ⟨n, a, xs, l, rfl, _⟩ := h
    rfl
  · obtain ⟨n, a, xs, l, rfl, hB, hx, hv, hl, q⟩ := h
    have hu := hu_of hr
    refine ⟨_, (pss_cons (ps_set (i := 2) sc_gathered.nd rfl (.inr rfl) pe_dnewT)
        (pss_cons (ps_for PassesOwn.never rfl (pi_seq (pv 1)) (pg_name (i := 3) sc_gathered.nd rfl (.inl rfl))
        (pss_cons (ps_if (pt_not (pt_val (pe_call G_e hr (by rfl) D_e.g D_e.F.kp D_e.b .nil pass0 (pa_cons (pv 0) (pa_cons (pv 3) pa_nil))))) (pss_one ps_never) pss_nil)
        (pss_cons (ps_asg (pv 3) (pg_tup (by rfl) (pgs_cons (pg_name (i := 5) sc_gathered.nd rfl (.inl rfl)) (pgs_cons (pg_name (i := 6) sc_gathered.nd rfl (.inl rfl)) (pgs_cons (pg_name (i := 7) sc_gathered.nd rfl (.inl rfl)) pgs_nil)))))
        (pss_cons (ps_set (i := 4) sc_gathered.nd rfl (.inl rfl) (pe_tup (pa_cons (pe_callB (call_min2 rfl) (by rfl) T.b_min (by decide +kernel) (pa_cons (pv 5) (pa_cons (pv 6) pa_nil))) (pa_cons (pe_callB (call_max2 rfl) (by rfl) T.b_max (by decide +kernel) (pa_cons (pv 5) (pa_cons (pv 6) pa_nil))) pa_nil))))
        (pss_one (ps_dput hu (pv 2) (pv 4) (pe_op op_add (pe_dget2 hu (pv 2) (pv 4) pe_int ⟨rfl, rfl, rfl, rfl⟩) (pv 7)) rfl))))))
        (pss_one (ps_ret (pe_callTy call_tuple_of (by rfl) T.b_tuple (by decide +kernel) (pa_cons (pe_lc (own := [("a", 5), ("b", 6)]) (g := gTup K 2 (gCons (gName 5) (gCons (gName 6) gNil))) (tt := tYes) rfl sc_gathered.nd (pi_list (pe_callB (cr_sortedDT rfl) (by rfl) T.b_sorted (by decide +kernel) (pa_cons (pv 2) pa_nil))) (blkOk_by (own := [("a", 5), ("b", 6)]) (N := ["pins", "entries", "held", "entry", "pair", "a", "b", "many"]) (sc := defScope s_gathered) (by decide +kernel)) (fun _ _ _ _ _ => (pg_tup (by rfl) (pgs_cons (pg_name (i := 5) sc_gathered.nd rfl (.inl rfl)) (pgs_cons (pg_name (i := 6) sc_gathered.nd rfl (.inl rfl)) pgs_nil)))) (fun _ _ _ _ _ => pts_nil) (fun _ _ _ _ _ => (pe_tup (pa_cons (pv 5) (pa_cons (pv 6) (pa_cons (pe_dget hu (pv 2) (pe_tup (pa_cons (pv 5) (pa_cons (pv 6) pa_nil))) (fun _ _ => rfl)) pa_nil)))))) pa_nil)))))), ?_⟩
    intro d hd
    refine ⟨_, rfl, a, rfl, for_same (Hb := H) hB (fun i σ H' => ∃ kvs y3 y4 y5 y6 y7, σ = [some (.int n), some (.ref a), some (.ref d), y3, y4, y5, y6, y7] ∧ H' d = some (.dT kvs) ∧ DInv kvs (l.take i) ∧ kvs.length ≤ i ∧ Same H H') ⟨[], none, none, none, none, none, rfl, upd_same, DInv.nil, Nat.le_refl _, same_upd hd⟩ (fun i σ' H' p => by obtain ⟨_, _, _, _, _, _, _, _, _, _, s⟩ := p; exact s) (fun i x σ H' hxi p => ?_) (fun σ H' p => ?_)⟩
    · obtain ⟨kvs, y3, y4, y5, y6, y7, rfl, ed, dI, klen, sm⟩ := p
      obtain ⟨b, t, rfl, hti, hb⟩ := (hx.same sm).at_ hxi
      have hil : i < l.length := (List.getElem?_eq_some_iff.mp hti).1
      have hvt : Vld n t := hv t (List.mem_of_getElem? hti)
      refine ⟨_, rfl, _, rfl, n, b, t, rfl, hb, hvt, fun H1 s1 => ⟨true, rfl, ?_⟩⟩
      refine ⟨_, rfl, b, _, rfl, .inl (.inl (s1 _ _ hb)), rfl, _, _, rfl, _, _, rfl, _, _, rfl, rfl, ?_⟩
      refine ⟨_, rfl, _, rfl, _, _, rfl, _, rfl, _, rfl, _, _, rfl, by show 2 ≤ sizeLine; decide, fun p np => ?_⟩
      have ed1 : (upd H1 p (.tup [.int (lo t.1 t.2.1), .int (hi t.1 t.2.1)])) d = some (.dT kvs) := by
        rw [upd_ne (ne_of_none (s1 _ _ ed) np)]
        exact s1 _ _ ed
      have ep : (upd H1 p (.tup [.int (lo t.1 t.2.1), .int (hi t.1 t.2.1)])) p = some (.tup ((kk (ky t)).map kV)) := upd_same
      refine ⟨_, rfl, d, rfl, .inr ⟨kvs, .inl ed1⟩, _, rfl, _, DGet.t ed1 ep, ?_⟩
      rw [dI.get]
      refine ⟨_, rfl, _, _, rfl, rfl, _, rfl, _, rfl, d, _, rfl, DPut.t ed1 ep (small1000 (by omega)), ?_⟩
      have hd1 : H1 d ≠ none := fun z => by rw [s1 _ _ ed] at z; cases z
      refine ⟨_, _, _, _, _, _, rfl, upd_same, ?_, Nat.le_trans putK_len (by omega), fun c o e => ?_⟩
      · rw [List.take_add_one, hti]
        exact dI.put t
      · rw [upd_ne (ne_of_none e hd)]
        exact same_upd np _ _ (s1 _ _ (sm _ _ e))
    · obtain ⟨kvs, y3, y4, y5, y6, y7, rfl, ed, dI, klen, sm⟩ := p
      rw [hx.1, List.take_length] at dI
      refine ⟨_, rfl, d, kvs, rfl, .inl ed, fun kv hkv => by obtain ⟨p, hp⟩ := dI.frm kv hkv; exact ⟨p.1, p.2, hp⟩, fun bs ys p0 hk hsrt hstb np0 => ?_⟩
      obtain ⟨kEq, kAt⟩ := keys_of hk dI.frm
      have hall : ∀ y ∈ ys, ∃ b, y = .ref b ∧ H' b = some (.tup [.int (kOf H' y).1, .int (kOf H' y).2]) := fun y hy => by
        obtain ⟨b, hb, rfl⟩ := List.mem_map.mp (hstb.perm.mem_iff.mp hy)
        obtain ⟨p, hp⟩ := kAt b hb
        exact ⟨b, rfl, by rw [kOf_at hp]; exact hp⟩
      have hperm : (ys.map (kOf H')).Perm ((bs.map V.ref).map (kOf H')) := hstb.perm.map _
      have hnd : (ys.map (kOf H')).Nodup := by
        refine hperm.nodup_iff.mpr ?_
        have := dI.nd
        rw [← kEq] at this
        unfold List.Nodup at this ⊢
        exact (List.pairwise_map.mp this).imp fun h e => h (congrArg kk e)
      have hmem : ∀ p, p ∈ ys.map (kOf H') ↔ p ∈ l.map ky := fun p => by
        rw [hperm.mem_iff, ← dI.mem p, ← kEq]
        exact ⟨fun m => List.mem_map.mpr ⟨p, m, rfl⟩, fun m => by
          obtain ⟨p2, m2, e2⟩ := List.mem_map.mp m
          rw [← kk_inj e2]
          exact m2⟩
      have hlex : (ys.map (kOf H')).Pairwise Lex := sorted_lex hnd (SrtO.srtd_map (lt := SrtO.lexB) (f := kOf H') hsrt)
      have hN : IsNorm l ((ys.map (kOf H')).map fun p => (p.1, p.2, tot p l)) := by
        have e1 : (((ys.map (kOf H')).map fun p => ((p.1, p.2, tot p l) : Tr))).map pr = ys.map (kOf H') := by
          rw [List.map_map]
          exact List.map_id' _
        refine ⟨by rw [e1]; exact hlex, fun p => by rw [e1]; exact hmem p, fun e he => ?_⟩
        obtain ⟨p, _, rfl⟩ := List.mem_map.mp he
        rfl
      have hylen : ys.length ≤ 1000 := by
        have h1 := hstb.perm.length_eq
        have h2 := congrArg List.length kEq
        rw [List.length_map] at h1
        rw [List.length_map, List.length_map, List.length_map, List.length_map] at h2
        rw [hx.1] at klen
        omega
      generalize hr0 : ((ys.map (kOf H')).map fun p => ((p.1, p.2, tot p l) : Tr)) = r at hN
      have hrl : r.length = ys.length := by rw [← hr0, List.length_map, List.length_map]
      have s0 : Same H' (upd H' p0 (.lst ys)) := same_upd np0
      refine ⟨p0, rfl, ⟨_, .inl (.inl upd_same)⟩, fun D hD => ?_⟩
      refine lc_list (K := K) (a := p0) (xs := ys) (fun i H2 => Same (upd H' p0 (.lst ys)) H2 ∧ ∃ vs, H2 D = some (.lst vs) ∧ TrV H2 vs (r.take i)) ⟨same_upd hD, [], upd_same, TrV.nil⟩ (fun i H2 _ p => .inl (.inl (p.1 _ _ upd_same))) (fun i x H2 hxi p => ?_) (fun H2 p => ?_)
      · obtain ⟨s2, vs, eD, tV⟩ := p
        obtain ⟨b, rfl, hb⟩ := hall x (List.mem_of_getElem? hxi)
        have hil : i < ys.length := (List.getElem?_eq_some_iff.mp hxi).1
        generalize hp : kOf H' (.ref b) = p at hb
        have hri : r[i]? = some (p.1, p.2, tot p l) := by
          rw [← hr0, List.getElem?_map, List.getElem?_map, hxi, ← hp]
          rfl
        have hpm : p ∈ l.map ky := (hmem p).mp (by rw [← hp]; exact List.mem_map.mpr ⟨_, List.mem_of_getElem? hxi, rfl⟩)
        have hval : valV kvs (kk p) = some (.int (tot p l)) := by
          rw [dI.val, if_pos hpm]
        have hb2 := s2 _ _ (s0 _ _ hb)
        have ed2 := s2 _ _ (s0 _ _ ed)
        refine ⟨b, _, rfl, .inl (.inl hb2), rfl, _, _, rfl, _, _, rfl, rfl, rfl, ?_⟩
        refine ⟨_, rfl, _, rfl, _, rfl, _, rfl, _, rfl, by show 2 ≤ sizeLine; decide, fun p1 np1 => ⟨d, .int (tot p l), rfl, ?_, ?_⟩⟩
        · have g := DGet.t (k := kk p) (b := p1) (H := upd H2 p1 (.tup [.int p.1, .int p.2])) (a := d) (kvs := kvs) (by rw [upd_ne (ne_of_none ed2 np1)]; exact ed2) upd_same
          rw [hval] at g
          exact g
        · refine ⟨by show 3 ≤ sizeLine; decide, fun p2 np2 => ?_⟩
          have s3 : Same H2 (upd (upd H2 p1 (.tup [.int p.1, .int p.2])) p2 (.tup [.int p.1, .int p.2, .int (tot p l)])) := (same_upd np1).trans (same_upd np2)
          refine ⟨vs, s3 _ _ eD, ?_, same_put (H1 := H2) hD (s2.trans s3), _, upd_same, ?_⟩
          · rw [tV.1, List.length_take]
            exact Nat.lt_of_le_of_lt (Nat.min_le_right _ _) (small1000 (by omega))
          · rw [List.take_add_one, hri]
            have nD : p2 ≠ D := fun z => by
              rw [z] at np2
              have := (same_upd (o := .tup [.int p.1, .int p.2]) np1) _ _ eD
              rw [this] at np2
              cases np2
            refine (tV.sameT (sameT_put eD s3)).snoc ?_
            rw [upd_ne nD, upd_same]
      · obtain ⟨s2, vs, eD, tV⟩ := p
        rw [← hrl, List.take_length] at tV
        refine ⟨D, vs, rfl, .inl ⟨.inl (.inl eD), fun c nc => ?_⟩⟩
        have sA : Same H (upd H2 c (.tup vs)) := ((sm.trans s0).trans s2).trans (same_upd nc)
        exact q _ c r sA (((sm.trans s0).trans s2).free nc) ⟨vs, upd_same, tV.same (same_upd nc)⟩ hN
end
end Own

namespace Own
open PySem PySem.Spec PyProof.Rows L2
/-! ### a lot as an object -/
theorem kpc : ¬ (("cords" : Str) = "pins") := by decide +kernel
theorem kpc2 : ¬ (("pins" : Str) = "cords") := by decide +kernel
def flds (n : Int) (c : Addr) : List (Str × V) := putF "cords" (.ref c) (putF "pins" (.int n) [])
theorem flds_pins (n : Int) (c : Addr) : (flds n c).lookup ("pins" : Str) = some (.int n) := by
  unfold flds
  rw [lookup_putF, if_neg kpc2, lookup_putF, if_pos rfl]
theorem flds_cords (n : Int) (c : Addr) : (flds n c).lookup ("cords" : Str) = some (.ref c) := by
  unfold flds
  rw [lookup_putF, if_pos rfl]
theorem flds_no (n : Int) (c : Addr) {m : Str} (h1 : ¬ m = "pins") (h2 : ¬ m = "cords") : (flds n c).lookup m = none := by
  unfold flds
  rw [lookup_putF, if_neg h2, lookup_putF, if_neg h1]
  all_goals rfl
/-- a lot stands at p -/
def LotAt (C : Addr) (H : Hp) (p : Addr) (n : Int) (cs : List Tr) : Prop := ∃ dx c, H p = some (.ins C dx (flds n c)) ∧ Trip H c cs
theorem LotAt.same {C : Addr} {H H' : Hp} {p : Addr} {n : Int} {cs : List Tr} (s : Same H H') (h : LotAt C H p n cs) : LotAt C H' p n cs := by
  obtain ⟨dx, c, e, t⟩ := h
  exact ⟨dx, c, s _ _ e, t.same s⟩
structure LotC (K : PySem.W.Frag) (mg : Str → Option Value) (C : Addr) : Prop where
  cl : Cls K C
  nP : NoAttr K C "pins"
  nC : NoAttr K C "cords"
  g : mg "Lot" = some (.ref C)
/-- a method of the text -/
structure Mt (K : PySem.W.Frag) (C : Addr) (m qual : Str) (st : Stmt) (ps : List Str) (f : Addr) (fd : FuncData) : Prop where
  F : Fun K m qual st f fd
  m : Meth K C m f
  b : Binds K fd ps []
abbrev FI (K : PySem.W.Frag) (z : Addr) (f : Addr) (fd : FuncData) : Prop := FunD K "__init__" "Lot.__init__" (defArgs s_Lot_init) (defBody s_Lot_init) (defScope s_Lot_init) [.ref z] [] f fd
section
variable {P : Program} {w : World} {K : PySem.W.Frag} {mg : Str → Option Value} {base : Heap} {C : Addr}
def spInit (K : PySem.W.Frag) (C : Addr) : Sp := fun vs H Q _ => ∃ (p dx : Addr) (n : Int) (a : Addr) (xs : List V) (l : List Tr), vs = [.ref p, .int n, .ref a] ∧ H p = some (.ins C dx []) ∧ 0 ≤ n ∧ SqB K H a xs ∧ TrV H xs l ∧ (∀ t ∈ l, Vld n t) ∧ l.length ≤ 1000 ∧
  ∀ H' c r, (∀ b o, H b = some o → b ≠ p → H' b = some o) → H' p = some (.ins C dx (flds n c)) → Trip H' c r → IsNorm l r → Q .non H'
theorem SqB.keep {K : PySem.W.Frag} {H H' : Hp} {a p : Addr} {xs : List V} {dx : Addr} {fs : List (Str × V)} (e : H p = some (.ins C dx fs)) (s : ∀ b o, H b = some o → b ≠ p → H' b = some o) (h : SqB K H a xs) : SqB K H' a xs := by
  have go : ∀ {o : HO}, H a = some o → (∀ D d f, o ≠ .ins D d f) → H' a = some o := fun {o} h n => s _ _ h fun z => by
    rw [z, e] at h
    exact n _ _ _ (Option.some.inj h).symm
  rcases h with ((h | ⟨o, h⟩) | h) | ((h | ⟨o, h⟩) | h)
  · exact .inl (.inl (.inl (go h fun _ _ _ z => by cases z)))
  · exact .inl (.inl (.inr ⟨o, go h fun _ _ _ z => by cases z⟩))
  · exact .inl (.inr h)
  · exact .inr (.inl (.inl (go h fun _ _ _ z => by cases z)))
  · exact .inr (.inl (.inr ⟨o, go h fun _ _ _ z => by cases z⟩))
  · exact .inr (.inr h)
theorem ok_init {z f : Addr} {fd : FuncData} (F : FI K z f fd) (T : Bi mg) (L : LotC K mg C) {f_k : Addr} {d_k : FuncData} (D_k : Df K mg "check_pins" s_check_pins ["pins"] f_k d_k) (G_k : FnOk P w K mg base CX0 2 f_k d_k ["pins"] spCkPins)
    {f_g : Addr} {d_g : FuncData} (D_g : Df K mg "gathered" s_gathered ["pins", "entries"] f_g d_g) (G_g : FnOk P w K mg base CX0 4 f_g d_g ["pins", "entries"] (spGathered K)) :
    FnOk P w K mg base CX0 5 f fd ["self", "pins", "cords"] (spInit K C) := by
  refine F.ok sc_Lot_init (fun vs H Q E h => ?_) (fun cdv A outer s H vs Q E hr h => ?_)
  · obtain ⟨p, dx, n, a, xs, l, rfl, _⟩ := h
    rfl
  · obtain ⟨p, dx, n, a, xs, l, rfl, ep, hn, hB, hx, hv, hl, q⟩ := h
    refine ⟨_, pss_cons (ps_expr (pe_call G_k (hr.mono (by decide)) (by rfl) D_k.g D_k.F.kp D_k.b .nil pass0 (pa_cons (pv 1) pa_nil)))
      (pss_cons (ps_fld (pv 0) (pv 1) rfl) (pss_one (ps_fld (pv 0) (pe_call G_g hr (by rfl) D_g.g D_g.F.kp D_g.b .nil pass0 (pa_cons (pv 1) (pa_cons (pv 2) pa_nil))) rfl))), ?_⟩
    refine ⟨_, rfl, n, rfl, hn, ?_⟩
    refine ⟨_, rfl, _, rfl, p, C, dx, [], rfl, ep, L.cl, L.nP, by show 0 < 1000; decide, ?_⟩
    have k1 : ∀ b o, H b = some o → b ≠ p → (upd H p (.ins C dx (putF "pins" (.int n) []))) b = some o := fun b o e nb => by
      rw [upd_ne nb]
      exact e
    have hx1 : TrV (upd H p (.ins C dx (putF "pins" (.int n) []))) xs l := hx.sameT fun b o e => k1 b _ e fun z => by
      rw [z, ep] at e
      cases e
    refine ⟨_, rfl, _, rfl, n, a, xs, l, rfl, hB.keep ep k1, hx1, hv, hl, fun H1 c r s1 nc tc hN => ?_⟩
    refine ⟨_, rfl, p, C, dx, _, rfl, s1 _ _ upd_same, L.cl, L.nC, by show 1 < 1000; decide, ?_⟩
    have s2 : ∀ b o, H1 b = some o → b ≠ p → (upd H1 p (.ins C dx (putF "cords" (.ref c) (putF "pins" (.int n) [])))) b = some o := fun b o e nb => by
      rw [upd_ne nb]
      exact e
    refine q _ c r (fun b o e nb => s2 b o (s1 b o (k1 b o e nb)) nb) upd_same ?_ hN
    obtain ⟨vs, e, t⟩ := tc
    have eH : H1 p = some (.ins C dx (putF "pins" (.int n) [])) := s1 _ _ upd_same
    refine ⟨vs, s2 _ _ e fun z => ?_, t.sameT fun b o h => s2 _ _ h fun z => ?_⟩
    · rw [z, eH] at e
      cases e
    · rw [z, eH] at h
      cases h
/-- Lot(n, entries) -/
theorem rd_make {n : Int} {a : Addr} {xs : List V} {l : List Tr} {H : Hp} {Q : VK} (hn : 0 ≤ n) (hB : SqB K H a xs) (hx : TrV H xs l) (hv : ∀ t ∈ l, Vld n t) (hl : l.length ≤ 1000) (q : ∀ H' x cs, Same H H' → LotAt C H' x n cs → IsNorm l cs → Q (.ref x) H') :
    ∀ x dx, H x = none → H dx = none → dx ≠ x → spInit K C (.ref x :: ([.int n, .ref a] ++ [])) (upd (upd H dx (.own x)) x (.ins C dx [])) (fun v H2 => v = .non ∧ Q (.ref x) H2) E0 := fun x dx nx nd ne => by
  have s1 : Same H (upd H dx (.own x)) := same_upd nd
  have nx1 : (upd H dx (.own x)) x = none := by
    rw [upd_ne ne.symm]
    exact nx
  have s2 : Same H (upd (upd H dx (.own x)) x (.ins C dx [])) := s1.trans (same_upd nx1)
  refine ⟨x, dx, n, a, xs, l, rfl, upd_same, hn, hB.same s2, hx.same s2, hv, hl, fun H' c r k e t hN => ⟨rfl, q H' x r (fun b o h => ?_) ⟨dx, c, e, t⟩ hN⟩⟩
  exact k b o (s2 b o h) (ne_of_none h nx)
/-! ### renamed pins -/
def gl (n : Int) (g : Int → Int) : List V := (List.range n.toNat).map fun j : Nat => V.int (g (j : Int))
theorem gl_at {n x : Int} (g : Int → Int) (h0 : 0 ≤ x) (h1 : x < n) : atI (gl n g) x = some (.int (g x)) := by
  have e : x = ((x.toNat : Nat) : Int) := by omega
  have hx : (gl n g)[x.toNat]? = some (.int (g x)) := by
    unfold gl
    rw [List.getElem?_map, List.getElem?_range (by omega)]
    show some (V.int (g ((x.toNat : Nat) : Int))) = _
    rw [← e]
  exact at_of e hx
def Inj (n : Int) (g : Int → Int) : Prop := ∀ x y, 0 ≤ x → x < n → 0 ≤ y → y < n → g x = g y → x = y
end
end Own

namespace Own
open PySem PySem.Spec PyProof.Rows L2
theorem rep_gl (v : V) (k : Nat) : (List.replicate k [v]).flatten = List.replicate k v := by
  induction k with
  | zero => rfl
  | succ k ih =>
    rw [List.replicate_succ, List.flatten_cons, ih]
    rfl
theorem gl_const (n v : Int) : List.replicate n.toNat (V.int v) = gl n fun _ => v := by
  unfold gl
  rw [List.map_const', List.length_range]
theorem gl_len (n : Int) (g : Int → Int) : (gl n g).length = n.toNat := by
  unfold gl
  rw [List.length_map, List.length_range]
theorem gl_congr {n : Int} {g h : Int → Int} (e : ∀ x, 0 ≤ x → x < n → g x = h x) : gl n g = gl n h := by
  unfold gl
  refine List.map_congr_left fun j hj => ?_
  have := List.mem_range.mp hj
  rw [e (j : Int) (by omega) (by omega)]
theorem gl_ix {n x : Int} (g : Int → Int) (h0 : 0 ≤ x) (h1 : x < n) : ixN (gl n g).length x = some x.toNat := by
  unfold ixN
  rw [gl_len, if_pos h0, if_pos (by omega)]
theorem gl_set {n x : Int} (g : Int → Int) (v : Int) (h0 : 0 ≤ x) (h1 : x < n) : (gl n g).set x.toNat (.int v) = gl n fun y => if y = x then v else g y := by
  unfold gl
  apply List.ext_getElem
  · rw [List.length_set, List.length_map, List.length_map]
  · intro j hj hj2
    rw [List.length_map, List.length_range] at hj2
    rw [List.getElem_set, List.getElem_map, List.getElem_map, List.getElem_range]
    by_cases e : x.toNat = j
    · rw [if_pos e]
      show V.int v = V.int (if ((j : Nat) : Int) = x then v else g j)
      rw [if_pos (by omega)]
    · rw [if_neg e]
      show V.int (g j) = V.int (if ((j : Nat) : Int) = x then v else g j)
      rw [if_neg (by omega)]
def endsOf (cs : List Tr) (x : Int) : Int := bs (fun q => decide (q.1 = x ∨ q.2 = x)) cs
theorem endsOf_snoc (cs : List Tr) (t : Tr) (x : Int) : endsOf (cs ++ [t]) x = endsOf cs x + (if t.1 = x ∨ t.2.1 = x then t.2.2 else 0) := by
  unfold endsOf
  rw [bs_append]
  show _ + ((if decide (t.1 = x ∨ t.2.1 = x) = true then t.2.2 else 0) + 0) = _
  by_cases h : t.1 = x ∨ t.2.1 = x
  · rw [if_pos (decide_eq_true h), if_pos h]
    omega
  · rw [if_neg (by rw [decide_eq_false h]; decide), if_neg h]
    omega
def totOf (cs : List Tr) : Int := (cs.map fun t => t.2.2).sum
theorem fmod_in (x : Int) {n : Int} (h : 0 < n) : 0 ≤ x.fmod n ∧ x.fmod n < n := by
  rw [Int.fmod_eq_emod_of_nonneg _ (Int.le_of_lt h)]
  exact ⟨Int.emod_nonneg _ (by omega), Int.emod_lt_of_pos _ h⟩
def sh (n s x : Int) : Int := (x + s).fmod n
def mi (n x : Int) : Int := n - 1 - x
theorem sh_in {n s x : Int} (h : 0 < n) : 0 ≤ sh n s x ∧ sh n s x < n := fmod_in _ h
theorem sub_mod {n a b : Int} (h : a % n = b % n) : (a - b) % n = 0 := by
  rw [Int.sub_emod, h, Int.sub_self, Int.zero_emod]
theorem sh_inj (n s : Int) : Inj n (sh n s) := fun x y x0 x1 y0 y1 e => by
  have n0 : 0 < n := by omega
  unfold sh at e
  rw [Int.fmod_eq_emod_of_nonneg _ (by omega), Int.fmod_eq_emod_of_nonneg _ (by omega)] at e
  have h1 := sub_mod e
  have h2 := sub_mod e.symm
  rw [show x + s - (y + s) = x - y by omega] at h1
  rw [show y + s - (x + s) = y - x by omega] at h2
  by_cases h : y ≤ x
  · rw [Int.emod_eq_of_lt (by omega) (by omega)] at h1
    omega
  · rw [Int.emod_eq_of_lt (by omega) (by omega)] at h2
    omega
theorem mi_inj (n : Int) : Inj n (mi n) := fun x y _ _ _ _ e => by
  unfold mi at e
  omega
theorem mi_in {n x : Int} (h0 : 0 ≤ x) (h1 : x < n) : 0 ≤ mi n x ∧ mi n x < n := by
  unfold mi
  omega
section
variable {P : Program} {w : World} {K : PySem.W.Frag} {mg : Str → Option Value} {base : Heap} {C : Addr}
/-! ### the ends at each pin -/
def spEap : Sp := fun vs H Q _ => ∃ (n : Int) (c : Addr) (cs : List Tr), vs = [.int n, .ref c] ∧ 0 ≤ n ∧ n ≤ 1000 ∧ Trip H c cs ∧ (∀ t ∈ cs, Vld n t) ∧ ∀ H' p, Same H H' → H p = none → H' p = some (.lst (gl n (endsOf cs))) → Q (.ref p) H'
theorem ok_eap {f : Addr} {fd : FuncData} (F : Fun K "ends_at_pins" "ends_at_pins" s_ends_at_pins f fd) (T : Bi mg) : FnOk P w K mg base CX0 1 f fd ["pins", "cords"] spEap := by
  refine F.ok sc_ends_at_pins (fun vs H Q E h => ?_) (fun cdv A outer s H vs Q E hr h => ?_)
  · obtain ⟨n, c, cs, rfl, _⟩ := h
    rfl
  · obtain ⟨n, c, cs, rfl, n0, n1, hc, hv, q⟩ := h
    refine ⟨_, (pss_cons (ps_set (i := 2) sc_ends_at_pins.nd rfl (.inl rfl) (pe_op op_rep (pe_lst (pa_cons pe_int pa_nil)) (pv 0)))
        (pss_cons (ps_for PassesOwn.never rfl (pi_tup (pv 1)) (pg_tup (by rfl) (pgs_cons (pg_name (i := 3) sc_ends_at_pins.nd rfl (.inl rfl)) (pgs_cons (pg_name (i := 4) sc_ends_at_pins.nd rfl (.inl rfl)) (pgs_cons (pg_name (i := 5) sc_ends_at_pins.nd rfl (.inl rfl)) pgs_nil))))
        (pss_cons (ps_asg (pe_op op_add (pe_ix (r := rIxL K) ix_list (pv 2) (pv 3) (fun _ _ => rfl)) (pv 5)) (pg_sub (pv 2) (pv 3) set_list))
        (pss_one (ps_asg (pe_op op_add (pe_ix (r := rIxL K) ix_list (pv 2) (pv 4) (fun _ _ => rfl)) (pv 5)) (pg_sub (pv 2) (pv 4) set_list)))))
        (pss_one (ps_ret (pv 2))))), ?_⟩
    obtain ⟨vs, ec, tc⟩ := id hc
    refine ⟨by show 1 ≤ sizeLine; decide, fun l hl => ⟨_, rfl, l, n, _, rfl, rfl, upd_same, by omega, by omega, ?_, fun p np => ?_⟩⟩
    · show 1 * n.toNat ≤ sizeLine
      rw [Nat.one_mul]
      exact Nat.le_of_lt (small1000 (by omega))
    have np0 : H p = none := (same_upd (o := .lst [.int 0]) hl).free np
    have sL : Same H (upd (upd H l (.lst [.int 0])) p (.lst (List.replicate n.toNat [V.int 0]).flatten)) := (same_upd hl).trans (same_upd np)
    refine ⟨_, rfl, c, rfl, ⟨vs, .inl (.inl (sL _ _ ec))⟩, for_tup (xs := vs) (fun i σ H' => (∃ y3 y4 y5, σ = [some (.int n), some (.ref c), some (.ref p), y3, y4, y5]) ∧ Same H H' ∧ H' p = some (.lst (gl n (endsOf (cs.take i))))) ⟨⟨_, _, _, rfl⟩, sL, ?_⟩ (fun i σ H' _ p => .inl (.inl (p.2.1 _ _ ec))) (fun i x σ H' hxi p => ?_) (fun σ H' p => ?_)⟩
    · rw [upd_same, rep_gl, gl_const]
      rfl
    · obtain ⟨⟨y3, y4, y5, rfl⟩, sm, ep⟩ := p
      obtain ⟨u, t, rfl, hti, hu⟩ := (tc.same sm).at_ hxi
      obtain ⟨v0, v1, v2, v3, v4, v5⟩ := hv t (List.mem_of_getElem? hti)
      refine ⟨u, _, rfl, .inl (.inl hu), rfl, _, _, rfl, _, _, rfl, _, _, rfl, rfl, ?_⟩
      refine ⟨_, rfl, _, rfl, p, _, _, _, rfl, rfl, .inl (.inl ep), gl_at _ v0 v1, _, rfl, _, _, rfl, rfl, _, rfl, _, rfl, p, _, _, _, rfl, rfl, ep, gl_ix _ v0 v1, ?_⟩
      rw [gl_set _ _ v0 v1]
      refine ⟨_, rfl, _, rfl, p, _, _, _, rfl, rfl, .inl (.inl upd_same), gl_at _ v2 v3, _, rfl, _, _, rfl, rfl, _, rfl, _, rfl, p, _, _, _, rfl, rfl, upd_same, gl_ix _ v2 v3, ?_⟩
      rw [gl_set _ _ v2 v3, upd_upd]
      refine ⟨⟨_, _, _, rfl⟩, same_put (H1 := H) np0 sm, ?_⟩
      rw [upd_same, List.take_add_one, hti]
      congr 2
      refine gl_congr fun x _ _ => ?_
      show _ = endsOf (cs.take i ++ [t]) x
      rw [endsOf_snoc]
      by_cases e1 : x = t.2.1
      · subst e1
        rw [if_pos rfl, if_neg (fun z => v4 z.symm), if_pos (.inr rfl)]
      · by_cases e2 : x = t.1
        · subst e2
          rw [if_neg e1, if_pos rfl, if_pos (.inl rfl)]
        · rw [if_neg e1, if_neg e2, if_neg fun z => by rcases z with z | z <;> omega]
          omega
    · obtain ⟨⟨y3, y4, y5, rfl⟩, sm, ep⟩ := p
      rw [tc.1, List.take_length] at ep
      exact ⟨_, rfl, q H' p sm np0 ep⟩
def spEnds (C : Addr) : Sp := fun vs H Q _ => ∃ (p : Addr) (x n : Int) (cs : List Tr), vs = [.ref p, .int x] ∧ LotAt C H p n cs ∧ 0 ≤ x ∧ x < n ∧ n ≤ 1000 ∧ (∀ t ∈ cs, Vld n t) ∧ ∀ H', Same H H' → Q (.int (endsOf cs x)) H'
theorem ok_ends {f : Addr} {fd : FuncData} (F : Fun K "ends" "Lot.ends" s_Lot_ends f fd) (T : Bi mg) (L : LotC K mg C) {f_k : Addr} {d_k : FuncData} (D_k : Df K mg "check_pin" s_check_pin ["pins", "pin"] f_k d_k) (G_k : FnOk P w K mg base CX0 3 f_k d_k ["pins", "pin"] spCkPin)
    {f_p : Addr} {d_p : FuncData} (D_p : Df K mg "ends_at_pins" s_ends_at_pins ["pins", "cords"] f_p d_p) (G_p : FnOk P w K mg base CX0 1 f_p d_p ["pins", "cords"] spEap) : FnOk P w K mg base CX0 4 f fd ["self", "pin"] (spEnds C) := by
  refine F.ok sc_Lot_ends (fun vs H Q E h => ?_) (fun cdv A outer s H vs Q E hr h => ?_)
  · obtain ⟨p, x, n, cs, rfl, _⟩ := h
    rfl
  · obtain ⟨p, x, n, cs, rfl, hL, x0, x1, n1, hv, q⟩ := h
    refine ⟨_, (pss_cons (ps_expr (pe_call G_k hr (by rfl) D_k.g D_k.F.kp D_k.b .nil pass0 (pa_cons (pe_fld (pv 0) rfl) (pa_cons (pv 1) pa_nil))))
        (pss_one (ps_ret (pe_ix (r := rIxL K) ix_list (pe_call G_p (hr.mono (by decide)) (by rfl) D_p.g D_p.F.kp D_p.b .nil pass0 (pa_cons (pe_fld (pv 0) rfl) (pa_cons (pe_fld (pv 0) rfl) pa_nil))) (pv 1) (fun _ _ => rfl))))), ?_⟩
    obtain ⟨dx, c, e, t⟩ := hL
    refine ⟨_, rfl, p, C, dx, _, _, rfl, e, L.cl, L.nP, flds_pins _ _, _, rfl, n, x, rfl, x0, x1, ?_⟩
    refine ⟨_, rfl, p, C, dx, _, _, rfl, e, L.cl, L.nP, flds_pins _ _, _, rfl, p, C, dx, _, _, rfl, e, L.cl, L.nC, flds_cords _ _, n, c, cs, rfl, by omega, n1, t, hv, fun H1 u s1 nu eu => ?_⟩
    exact ⟨_, rfl, u, _, x, _, rfl, rfl, .inl (.inl eu), gl_at _ x0 x1, q H1 s1⟩
def spTotal (C : Addr) : Sp := fun vs H Q _ => ∃ (p : Addr) (n : Int) (cs : List Tr), vs = [.ref p] ∧ LotAt C H p n cs ∧ cs.length ≤ 1000 ∧ ∀ H', Same H H' → Q (.int (totOf cs)) H'
theorem ok_total {f : Addr} {fd : FuncData} (F : Fun K "total" "Lot.total" s_Lot_total f fd) (T : Bi mg) (L : LotC K mg C) : FnOk P w K mg base CX0 1 f fd ["self"] (spTotal C) := by
  refine F.ok sc_Lot_total (fun vs H Q E h => ?_) (fun cdv A outer s H vs Q E hr h => ?_)
  · obtain ⟨p, n, cs, rfl, _⟩ := h
    rfl
  · obtain ⟨p, n, cs, rfl, hL, hl, q⟩ := h
    refine ⟨_, (pss_one (ps_ret (pe_callB (cr_sum rfl) (by rfl) T.b_sum (by decide +kernel) (pa_cons (pe_lc (own := [("entry", 1)]) (g := gName 1) (tt := tYes) rfl sc_Lot_total.nd (pi_tup (pe_fld (pv 0) rfl)) (blkOk_by (own := [("entry", 1)]) (N := ["self", "entry"]) (sc := defScope s_Lot_total) (by decide +kernel)) (fun _ _ _ _ _ => (pg_name (i := 1) sc_Lot_total.nd rfl (.inl rfl))) (fun _ _ _ _ _ => pts_nil) (fun _ _ _ _ _ => (pe_ix (r := rIxT K) ix_tup (pv 1) pe_int (fun _ _ => rfl)))) pa_nil)))), ?_⟩
    obtain ⟨dx, c, e, vs, ec, tc⟩ := hL
    refine ⟨_, rfl, p, C, dx, _, _, rfl, e, L.cl, L.nC, flds_cords _ _, c, rfl, ⟨vs, .inl (.inl ec)⟩, fun D hD => ?_⟩
    refine lc_tup (K := K) (a := c) (xs := vs) (fun i H2 => H2 = upd H D (.lst (((cs.map fun t => t.2.2).take i).map V.int))) rfl (fun i H2 _ p => by subst p; exact .inl (.inl (same_upd hD _ _ ec))) (fun i x H2 hxi p => ?_) (fun H2 p => ?_)
    · subst p
      obtain ⟨u, t, rfl, hti, hu⟩ := tc.at_ hxi
      refine ⟨rfl, ?_⟩
      refine ⟨_, rfl, u, _, 2, _, rfl, rfl, .inl (.inl (same_upd hD _ _ hu)), atI_nat (j := 2) rfl, _, upd_same, ?_, ?_⟩
      · rw [List.length_map, List.length_take, List.length_map]
        exact Nat.lt_of_le_of_lt (Nat.min_le_right _ _) (small1000 hl)
      · rw [upd_upd, List.take_add_one, List.getElem?_map, hti, List.map_append]
        rfl
    · subst p
      rw [show vs.length = (cs.map fun t => t.2.2).length by rw [List.length_map]; exact tc.1, List.take_length]
      exact ⟨D, _, rfl, .inl (.inl upd_same), q _ (same_upd hD)⟩
def spLen (C : Addr) : Sp := fun vs H Q _ => ∃ (p : Addr) (n : Int) (cs : List Tr), vs = [.ref p] ∧ LotAt C H p n cs ∧ Q (.int (cs.length : Int)) H
theorem ok_len {f : Addr} {fd : FuncData} (F : Fun K "__len__" "Lot.__len__" s_Lot_len f fd) (T : Bi mg) (L : LotC K mg C) : FnOk P w K mg base CX0 1 f fd ["self"] (spLen C) := by
  refine F.ok sc_Lot_len (fun vs H Q E h => ?_) (fun cdv A outer s H vs Q E hr h => ?_)
  · obtain ⟨p, n, cs, rfl, _⟩ := h
    rfl
  · obtain ⟨p, n, cs, rfl, hL, q⟩ := h
    refine ⟨_, (pss_one (ps_ret (pe_callB call_len_seq (by rfl) T.b_len PySem.boot_len (pa_cons (pe_fld (pv 0) rfl) pa_nil)))), ?_⟩
    obtain ⟨dx, c, e, vs, ec, tc⟩ := hL
    refine ⟨_, rfl, p, C, dx, _, _, rfl, e, L.cl, L.nC, flds_cords _ _, c, vs, rfl, .inr (.inl (.inl ec)), ?_⟩
    rw [tc.1]
    exact q
/-! ### turned and mirrored -/
abbrev GI (P : Program) (w : World) (K : PySem.W.Frag) (mg : Str → Option Value) (base : Heap) (C f : Addr) (d : FuncData) : Prop := FnOk P w K mg base CX0 5 f d ["self", "pins", "cords"] (spInit K C)
end
end Own

/-! Tables of lots. -/
namespace Own
open PySem PySem.Spec PyProof.Rows L2
def gr (cs : List Tr) (a b : Int) : Int := bs (fun q => decide ((q.1 = a ∧ q.2 = b) ∨ (q.1 = b ∧ q.2 = a))) cs
theorem gr_snoc (cs : List Tr) (t : Tr) (a b : Int) : gr (cs ++ [t]) a b = gr cs a b + (if (t.1 = a ∧ t.2.1 = b) ∨ (t.1 = b ∧ t.2.1 = a) then t.2.2 else 0) := by
  unfold gr
  rw [bs_append]
  show _ + ((if decide ((t.1 = a ∧ t.2.1 = b) ∨ (t.1 = b ∧ t.2.1 = a)) = true then t.2.2 else 0) + 0) = _
  by_cases h : (t.1 = a ∧ t.2.1 = b) ∨ (t.1 = b ∧ t.2.1 = a)
  · rw [if_pos (decide_eq_true h), if_pos h]
    omega
  · rw [if_neg (by rw [decide_eq_false h]; decide), if_neg h]
    omega
theorem gr_new {n : Int} {cs : List Tr} (g : Good n cs) {i : Nat} {t : Tr} (h : cs[i]? = some t) : gr (cs.take i) t.1 t.2.1 = 0 ∧ gr (cs.take i) t.2.1 t.1 = 0 := by
  have hnd := srt_nodup g.srt
  have hi : i < cs.length := (List.getElem?_eq_some_iff.mp h).1
  have ht := g.ord t (List.mem_of_getElem? h)
  have hne : ∀ e ∈ cs.take i, ¬ (e.1 = t.1 ∧ e.2.1 = t.2.1) ∧ ¬ (e.1 = t.2.1 ∧ e.2.1 = t.1) := fun e he => by
    obtain ⟨j, hj, e1⟩ := List.mem_iff_getElem.mp he
    rw [List.length_take] at hj
    rw [List.getElem_take] at e1
    have ho := g.ord e (List.mem_of_mem_take he)
    refine ⟨fun z => ?_, fun z => by omega⟩
    have h1 : (cs.map pr)[j]? = (cs.map pr)[i]? := by
      rw [List.getElem?_map, List.getElem?_map, h, List.getElem?_eq_getElem (by omega), e1]
      show some (e.1, e.2.1) = some (t.1, t.2.1)
      rw [z.1, z.2]
    have h2 := (List.getElem?_inj (by rw [List.length_map]; omega) hnd).mp h1
    omega
  constructor
  · exact bs_none fun e he => decide_eq_false fun z => by
      have := hne e he
      unfold pr at z
      rcases z with z | z
      · exact this.1 z
      · exact this.2 z
  · exact bs_none fun e he => decide_eq_false fun z => by
      have := hne e he
      unfold pr at z
      rcases z with z | z
      · exact this.2 z
      · exact this.1 z
/-- the sum of the first k -/
def pre (f : Int → Int) : Nat → Int
  | 0 => 0
  | k + 1 => pre f k + f (k : Int)
def ite0 (b : Bool) (c : Int) : Int := if b = true then c else 0
theorem bs_add {f g h : Int × Int → Bool} {cs : List Tr} (H : ∀ t ∈ cs, ∀ c, ite0 (f (pr t)) c = ite0 (g (pr t)) c + ite0 (h (pr t)) c) : bs f cs = bs g cs + bs h cs := by
  induction cs with
  | nil => rfl
  | cons t r ih =>
    have h1 := H t List.mem_cons_self t.2.2
    have h2 := ih fun u hu => H u (List.mem_cons_of_mem _ hu)
    unfold ite0 at h1
    rw [bs, bs, bs]
    omega
theorem bs_four {f g h k m : Int × Int → Bool} {cs : List Tr} (H : ∀ t ∈ cs, ∀ c, ite0 (f (pr t)) c = ite0 (g (pr t)) c + ite0 (h (pr t)) c - 2 * (ite0 (k (pr t)) c - ite0 (m (pr t)) c)) : bs f cs = bs g cs + bs h cs - 2 * (bs k cs - bs m cs) := by
  induction cs with
  | nil => rfl
  | cons t r ih =>
    have h1 := H t List.mem_cons_self t.2.2
    have h2 := ih fun u hu => H u (List.mem_cons_of_mem _ hu)
    unfold ite0 at h1
    rw [bs, bs, bs, bs, bs]
    omega
theorem ite0_dec (p : Prop) [Decidable p] (c : Int) : ite0 (decide p) c = if p then c else 0 := by
  unfold ite0
  by_cases h : p
  · rw [if_pos (decide_eq_true h), if_pos h]
  · rw [if_neg (by rw [decide_eq_false h]; decide), if_neg h]
def upTo (j m : Int) (q : Int × Int) : Bool := decide ((q.1 = j ∧ q.2 < m) ∨ (q.2 = j ∧ q.1 < m))
theorem pre_gr {n : Int} {cs : List Tr} (g : Good n cs) (j : Int) (m : Nat) : pre (gr cs j) m = bs (upTo j m) cs := by
  induction m with
  | zero =>
    rw [bs_none]
    · rfl
    · intro e he
      have ho := g.ord e he
      refine decide_eq_false fun z => ?_
      unfold pr at z
      dsimp only at z
      omega
  | succ m ih =>
    rw [pre, ih]
    unfold gr
    symm
    refine bs_add fun e he c => ?_
    have ho := g.ord e he
    unfold upTo pr
    rw [ite0_dec, ite0_dec, ite0_dec]
    dsimp only
    split <;> split <;> split <;> omega
/-- does x lie between the gaps i and j? -/
def sepB (i j x : Int) : Bool := decide (lo i j < x ∧ x ≤ hi i j)
def tabE (cs : List Tr) (i j : Int) : Int := bs (fun q => sepB i j q.1 != sepB i j q.2) cs
theorem bne_dec (p q : Prop) [Decidable p] [Decidable q] : (decide p != decide q) = decide (¬ (p ↔ q)) := by
  by_cases h : p <;> by_cases k : q <;> simp [h, k]
theorem tabE_comm (cs : List Tr) (i j : Int) : tabE cs i j = tabE cs j i := by
  have e : ∀ x, sepB i j x = sepB j i x := fun x => by
    unfold sepB
    have h1 := lo_hi i j
    have h2 := lo_hi j i
    exact decide_eq_decide.mpr (by omega)
  unfold tabE
  refine bs_congr fun t _ => ?_
  rw [e, e]
theorem tabE_same (cs : List Tr) (i : Int) : tabE cs i i = 0 := by
  refine bs_none fun t _ => ?_
  have h : ∀ x, sepB i i x = false := fun x => decide_eq_false fun z => by
    have := lo_hi i i
    omega
  rw [h, h]
  rfl
/-- one gap further -/
theorem tabE_step {n : Int} {cs : List Tr} (g : Good n cs) {i j : Int} (h0 : 0 ≤ i) (h1 : i < j) (h2 : j < n) :
    tabE cs i j = tabE cs i (j - 1) + bs (upTo j n) cs - 2 * (bs (upTo j j) cs - bs (upTo j (i + 1)) cs) := by
  unfold tabE
  refine bs_four fun e he c => ?_
  have ho := g.ord e he
  have a := lo_hi i j
  have b := lo_hi i (j - 1)
  unfold sepB upTo pr
  rw [bne_dec, bne_dec, ite0_dec, ite0_dec, ite0_dec, ite0_dec, ite0_dec]
  dsimp only
  split <;> split <;> split <;> split <;> split <;> omega
end Own

namespace Own
open PySem PySem.Spec PyProof.Rows L2
/-! ### a list of lists of ints -/
structure Grid (H : Hp) (p : Addr) (rs : List Addr) (n m : Int) (f : Int → Int → Int) : Prop where
  at_ : H p = some (.lst (rs.map V.ref))
  len : rs.length = n.toNat
  nd : rs.Nodup
  out : p ∉ rs
  row : ∀ (j : Nat) (r : Addr), rs[j]? = some r → H r = some (.lst (gl m (f j)))
theorem Grid.same {H H' : Hp} {p : Addr} {rs : List Addr} {n m : Int} {f : Int → Int → Int} (s : Same H H') (g : Grid H p rs n m f) : Grid H' p rs n m f :=
  ⟨s _ _ g.at_, g.len, g.nd, g.out, fun j r e => s _ _ (g.row j r e)⟩
theorem Grid.get {H : Hp} {p : Addr} {rs : List Addr} {n m : Int} {f : Int → Int → Int} (g : Grid H p rs n m f) {a : Int} (h0 : 0 ≤ a) (h1 : a < n) : ∃ r, rs[a.toNat]? = some r ∧ atI (rs.map V.ref) a = some (.ref r) ∧ H r = some (.lst (gl m (f a))) := by
  have hl := g.len
  have hi : a.toNat < rs.length := by omega
  refine ⟨rs[a.toNat], List.getElem?_eq_getElem hi, ?_, ?_⟩
  · refine at_of (j := a.toNat) (by omega) ?_
    rw [List.getElem?_map, List.getElem?_eq_getElem hi]
    rfl
  · have := g.row a.toNat _ (List.getElem?_eq_getElem hi)
    rw [show ((a.toNat : Nat) : Int) = a by omega] at this
    exact this
theorem Grid.set {H : Hp} {p r : Addr} {rs : List Addr} {n m a b v : Int} {f : Int → Int → Int} (g : Grid H p rs n m f) (a0 : 0 ≤ a) (b0 : 0 ≤ b) (b1 : b < m) (hr : rs[a.toNat]? = some r) :
    Grid (upd H r (.lst ((gl m (f a)).set b.toNat (.int v)))) p rs n m (fun x y => if x = a ∧ y = b then v else f x y) := by
  have hm : r ∈ rs := List.mem_of_getElem? hr
  have hpr : p ≠ r := fun z => g.out (by rw [z]; exact hm)
  refine ⟨by rw [upd_ne hpr]; exact g.at_, g.len, g.nd, g.out, fun j u e => ?_⟩
  rw [gl_set _ _ b0 b1]
  by_cases h : u = r
  · subst h
    have ej : j = a.toNat := nd_ix g.nd e hr
    rw [upd_same]
    congr 2
    refine gl_congr fun y _ _ => ?_
    have ej2 : ((j : Nat) : Int) = a := by omega
    by_cases hy : y = b
    · rw [if_pos hy, if_pos ⟨ej2, hy⟩]
    · rw [if_neg hy, if_neg fun z => hy z.2, ej2]
  · rw [upd_ne h, g.row j u e]
    congr 2
    refine gl_congr fun y _ _ => ?_
    have : ¬ (((j : Nat) : Int) = a ∧ y = b) := fun z => h (by
      have : j = a.toNat := by omega
      rw [this, hr] at e
      exact (Option.some.inj e).symm)
    rw [if_neg this]
theorem Grid.congr {H : Hp} {p : Addr} {rs : List Addr} {n m : Int} {f h : Int → Int → Int} (g : Grid H p rs n m f) (e : ∀ x y, 0 ≤ x → x < n → 0 ≤ y → y < m → f x y = h x y) : Grid H p rs n m h :=
  ⟨g.at_, g.len, g.nd, g.out, fun j r hr => by
    have hj : j < n.toNat := by
      rw [← g.len]
      exact (List.getElem?_eq_some_iff.mp hr).1
    rw [g.row j r hr]
    congr 2
    exact gl_congr fun y y0 y1 => e _ y (by omega) (by omega) y0 y1⟩
/-- nothing of a base is among the rows -/
def Fresh (Hb : Hp) (p : Addr) (rs : List Addr) : Prop := Hb p = none ∧ ∀ r ∈ rs, Hb r = none
theorem Fresh.row {Hb H : Hp} {p r : Addr} {rs : List Addr} {o : HO} (f : Fresh Hb p rs) (s : Same Hb H) (h : r ∈ rs) : Same Hb (upd H r o) := same_put (H1 := Hb) (f.2 r h) s
section
variable {P : Program} {w : World} {K : PySem.W.Frag} {mg : Str → Option Value} {base : Heap} {C : Addr}
def spGaps : Sp := fun vs H Q _ => ∃ n : Int, vs = [.int n] ∧ Q (.int (hi n 1)) H
theorem ok_gaps {f : Addr} {fd : FuncData} (F : Fun K "gaps" "gaps" s_gaps f fd) (T : Bi mg) : FnOk P w K mg base CX0 1 f fd ["pins"] spGaps := by
  refine F.ok sc_gaps (fun vs H Q E h => ?_) (fun cdv A outer s H vs Q E hr h => ?_)
  · obtain ⟨n, rfl, _⟩ := h
    rfl
  · obtain ⟨n, rfl, q⟩ := h
    refine ⟨_, (pss_one (ps_ret (pe_callB (call_max2 rfl) (by rfl) T.b_max (by decide +kernel) (pa_cons (pv 0) (pa_cons pe_int pa_nil))))), ?_⟩
    exact ⟨_, rfl, n, 1, rfl, q⟩
/-! ### the sums before each place -/
def spSums (K : PySem.W.Frag) : Sp := fun vs H Q _ => ∃ (r : Addr) (n : Int) (f : Int → Int), vs = [.ref r] ∧ H r = some (.lst (gl n f)) ∧ 0 ≤ n ∧ n ≤ 1000 ∧ ∀ H' p, Same H H' → H p = none → H' p = some (.lst (gl (n + 1) fun x => pre f x.toNat)) → Q (.ref p) H'
theorem ok_sums {f : Addr} {fd : FuncData} (F : Fun K "sums_before" "sums_before" s_sums_before f fd) (T : Bi mg) : FnOk P w K mg base CX0 1 f fd ["row"] (spSums K) := by
  refine F.ok sc_sums_before (fun vs H Q E h => ?_) (fun cdv A outer s H vs Q E hr h => ?_)
  · obtain ⟨r, n, f, rfl, _⟩ := h
    rfl
  · obtain ⟨r, n, f, rfl, er, n0, n1, q⟩ := h
    refine ⟨_, (pss_cons (ps_set (i := 1) sc_sums_before.nd rfl (.inl rfl) (pe_lst (pa_cons pe_int pa_nil)))
        (pss_cons (ps_set (i := 2) sc_sums_before.nd rfl (.inl rfl) pe_int)
        (pss_cons (ps_for PassesOwn.never rfl (pi_list (pv 0)) (pg_name (i := 3) sc_sums_before.nd rfl (.inl rfl))
        (pss_cons (ps_set (i := 2) sc_sums_before.nd rfl (.inl rfl) (pe_op op_add (pv 2) (pv 3)))
        (pss_one (ps_expr (pe_bm PySem.F.plainAttrs_list PySem.F.slot_list_append PySem.F.type_list_append mt_append (pv 1) (pa_cons (pv 2) pa_nil))))))
        (pss_one (ps_ret (pv 1)))))), ?_⟩
    refine ⟨by show 1 ≤ sizeLine; decide, fun p np => ?_⟩
    refine ⟨_, rfl, r, rfl, ⟨_, .inl (.inl (same_upd np _ _ er))⟩, for_list (xs := gl n f) (fun i σ H' => (∃ y, σ = [some (.ref r), some (.ref p), some (.int (pre f i)), y]) ∧ H' = upd H p (.lst ((List.range (i + 1)).map fun j : Nat => V.int (pre f j)))) ⟨⟨_, rfl⟩, rfl⟩ (fun i σ H' _ pv => by obtain ⟨_, rfl⟩ := pv; exact .inl (.inl (same_upd np _ _ er))) (fun i x σ H' hx pv => ?_) (fun σ H' pv => ?_)⟩
    · obtain ⟨⟨y, rfl⟩, rfl⟩ := pv
      have hi : i < n.toNat := by
        have := (List.getElem?_eq_some_iff.mp hx).1
        rw [gl_len] at this
        exact this
      obtain rfl : x = .int (f (i : Int)) := by
        unfold gl at hx
        rw [List.getElem?_map, List.getElem?_range hi] at hx
        exact (Option.some.inj hx).symm
      refine ⟨_, rfl, _, rfl, _, _, rfl, rfl, ?_⟩
      refine ⟨_, rfl, .inl ⟨rfl, _, .inl (.inl upd_same)⟩, _, rfl, p, _, _, rfl, rfl, upd_same, ?_, ⟨_, rfl⟩, ?_⟩
      · rw [List.length_map, List.length_range]
        exact small1000 (by omega)
      · rw [upd_upd, List.range_succ (n := i + 1), List.map_append]
        rfl
    · obtain ⟨⟨y, rfl⟩, rfl⟩ := pv
      refine ⟨_, rfl, q _ p (same_upd np) np ?_⟩
      rw [upd_same, gl_len]
      unfold gl
      rw [show (n + 1).toNat = n.toNat + 1 by omega]
      rfl
/-! ### the cords between each two pins -/
def spGrid : Sp := fun vs H Q _ => ∃ (n : Int) (c : Addr) (cs : List Tr), vs = [.int n, .ref c] ∧ 0 ≤ n ∧ n ≤ 1000 ∧ Trip H c cs ∧ Good n cs ∧ ∀ H' p rs, Same H H' → Fresh H p rs → Grid H' p rs n n (gr cs) → Q (.ref p) H'
theorem ok_grid {f : Addr} {fd : FuncData} (F : Fun K "cord_grid" "cord_grid" s_cord_grid f fd) (T : Bi mg) : FnOk P w K mg base CX0 1 f fd ["pins", "cords"] spGrid := by
  refine F.ok sc_cord_grid (fun vs H Q E h => ?_) (fun cdv A outer s H vs Q E hr h => ?_)
  · obtain ⟨n, c, cs, rfl, _⟩ := h
    rfl
  · obtain ⟨n, c, cs, rfl, n0, n1, hc, hG, q⟩ := h
    refine ⟨_, (pss_cons (ps_setLc (i := 2) (own := [("_", 6)]) (g := gName 6) (tt := tYes) rfl sc_cord_grid.nd rfl rfl (sw_true rfl rfl rfl (by decide +kernel)) (pi_range1 (by rfl) T.b_range (pa_cons (pv 0) pa_nil)) (blkOk_by (own := [("_", 6)]) (N := ["pins", "cords", "rows", "a", "b", "many", "_"]) (sc := defScope s_cord_grid) (by decide +kernel)) (fun _ _ _ _ _ => (pg_name (i := 6) sc_cord_grid.nd rfl (.inl rfl))) (fun _ _ _ _ _ => pts_nil) (fun _ _ _ _ _ => (pe_op op_rep (pe_lst (pa_cons pe_int pa_nil)) (pv 0))))
        (pss_cons (ps_for PassesOwn.never rfl (pi_tup (pv 1)) (pg_tup (by rfl) (pgs_cons (pg_name (i := 3) sc_cord_grid.nd rfl (.inl rfl)) (pgs_cons (pg_name (i := 4) sc_cord_grid.nd rfl (.inl rfl)) (pgs_cons (pg_name (i := 5) sc_cord_grid.nd rfl (.inl rfl)) pgs_nil))))
        (pss_cons (ps_asg (pv 5) (pg_sub (pe_ix (r := rIxL K) ix_list (pv 2) (pv 3) (fun _ _ => rfl)) (pv 4) set_list))
        (pss_one (ps_asg (pv 5) (pg_sub (pe_ix (r := rIxL K) ix_list (pv 2) (pv 4) (fun _ _ => rfl)) (pv 3) set_list)))))
        (pss_one (ps_ret (pv 2))))), ?_⟩
    obtain ⟨vs, ec, tc⟩ := id hc
    refine ⟨_, rfl, n, rfl, by omega, by omega, fun D hD => ?_⟩
    refine lc_range (lo := 0) (n := n.toNat) (fun i H' => Same H H' ∧ ∃ rs, H' D = some (.lst (rs.map V.ref)) ∧ rs.length = i ∧ rs.Nodup ∧ D ∉ rs ∧ (∀ r ∈ rs, H r = none) ∧ ∀ (j : Nat) (r : Addr), rs[j]? = some r → H' r = some (.lst (gl n fun _ => 0))) ⟨same_upd hD, [], upd_same, rfl, List.nodup_nil, by simp, by simp, by simp⟩ (fun i H' hi pv => ?_) (fun H' pv => ?_)
    · obtain ⟨sm, rs, eD, hlen, hnd, hout, hfr, hrow⟩ := pv
      refine ⟨rfl, ?_⟩
      refine ⟨by show 1 ≤ sizeLine; decide, fun l hl => ⟨_, rfl, l, n, _, rfl, rfl, upd_same, by omega, by omega, ?_, fun r nr => ?_⟩⟩
      · show 1 * n.toNat ≤ sizeLine
        rw [Nat.one_mul]
        exact Nat.le_of_lt (small1000 (by omega))
      have s1 : Same H' (upd (upd H' l (.lst [.int 0])) r (.lst (List.replicate n.toNat [V.int 0]).flatten)) := (same_upd hl).trans (same_upd nr)
      have nr0 : H' r = none := (same_upd (o := .lst [.int 0]) hl).free nr
      have nrD : r ≠ D := fun z => by
        rw [z, eD] at nr0
        cases nr0
      have nin : r ∉ rs := fun m => by
        obtain ⟨j, hj, ej⟩ := List.mem_iff_getElem.mp m
        rw [hrow j r (by rw [List.getElem?_eq_getElem hj, ej])] at nr0
        cases nr0
      refine ⟨_, s1 _ _ eD, ?_, same_put (H1 := H) hD (sm.trans s1), rs ++ [r], ?_, ?_, ?_, ?_, ?_, ?_⟩
      · rw [List.length_map, hlen]
        exact small1000 (by omega)
      · rw [upd_same, List.map_append]
        rfl
      · rw [List.length_append, hlen]
        rfl
      · exact List.nodup_append.mpr ⟨hnd, by simp, fun a ha b hb z => nin (by rw [List.mem_singleton.mp hb] at z; rw [← z]; exact ha)⟩
      · intro m
        rcases List.mem_append.mp m with m | m
        · exact hout m
        · exact nrD (List.mem_singleton.mp m).symm
      · intro u m
        rcases List.mem_append.mp m with m | m
        · exact hfr u m
        · rw [List.mem_singleton.mp m]
          exact sm.free nr0
      · intro j u e
        have hu : u ≠ D := fun z => by
          have m := List.mem_of_getElem? e
          rcases List.mem_append.mp m with m | m
          · exact hout (z ▸ m)
          · exact nrD ((List.mem_singleton.mp m).symm.trans z)
        rw [upd_ne hu]
        by_cases hj : j < rs.length
        · rw [List.getElem?_append_left hj] at e
          exact s1 _ _ (hrow j u e)
        · rw [List.getElem?_append_right (by omega)] at e
          obtain rfl : r = u := by
            cases hk : j - rs.length with
            | zero =>
              rw [hk] at e
              exact Option.some.inj e
            | succ k =>
              rw [hk] at e
              simp at e
          rw [upd_same, rep_gl, gl_const]
    · obtain ⟨sm, rs, eD, hlen, hnd, hout, hfr, hrow⟩ := pv
      have g0 : Grid H' D rs n n (gr []) := ⟨eD, hlen, hnd, hout, fun j r e => hrow j r e⟩
      refine ⟨_, rfl, c, rfl, ⟨vs, .inl (.inl (sm _ _ ec))⟩, for_tup (xs := vs) (fun i σ H2 => (∃ y3 y4 y5 y6, σ = [some (.int n), some (.ref c), some (.ref D), y3, y4, y5, y6]) ∧ Same H H2 ∧ Grid H2 D rs n n (gr (cs.take i))) ⟨⟨_, _, _, _, rfl⟩, sm, g0⟩ (fun i σ H2 _ p => .inl (.inl (p.2.1 _ _ ec))) (fun i x σ H2 hxi p => ?_) (fun σ H2 p => ?_)⟩
      · obtain ⟨⟨y3, y4, y5, y6, rfl⟩, s2, g2⟩ := p
        obtain ⟨u, t, rfl, hti, hu⟩ := (tc.same s2).at_ hxi
        have ho := hG.ord t (List.mem_of_getElem? hti)
        have hnew := gr_new hG hti
        refine ⟨u, _, rfl, .inl (.inl hu), rfl, _, _, rfl, _, _, rfl, _, _, rfl, rfl, ?_⟩
        obtain ⟨r1, e1, a1, h1⟩ := g2.get (a := t.1) (by omega) (by omega)
        refine ⟨_, rfl, _, rfl, _, rfl, D, _, _, _, rfl, rfl, .inl (.inl g2.at_), a1, _, rfl, r1, _, _, _, rfl, rfl, h1, gl_ix _ (by omega) (by omega), ?_⟩
        have g3 := g2.set (v := t.2.2) (by omega) (show 0 ≤ t.2.1 by omega) (by omega) e1
        have s3 : Same H (upd H2 r1 (.lst ((gl n (gr (cs.take i) t.1)).set t.2.1.toNat (.int t.2.2)))) := same_put (H1 := H) (hfr r1 (List.mem_of_getElem? e1)) s2
        obtain ⟨r2, e2, a2, h2⟩ := g3.get (a := t.2.1) (by omega) (by omega)
        refine ⟨_, rfl, _, rfl, _, rfl, D, _, _, _, rfl, rfl, .inl (.inl g3.at_), a2, _, rfl, r2, _, _, _, rfl, rfl, h2, gl_ix _ (by omega) (by omega), ?_⟩
        have g4 := g3.set (v := t.2.2) (by omega) (show 0 ≤ t.1 by omega) (by omega) e2
        refine ⟨⟨_, _, _, _, rfl⟩, same_put (H1 := H) (hfr r2 (List.mem_of_getElem? e2)) s3, ?_⟩
        rw [List.take_add_one, hti]
        refine g4.congr fun x y _ _ _ _ => ?_
        show (if x = t.2.1 ∧ y = t.1 then t.2.2 else if x = t.1 ∧ y = t.2.1 then t.2.2 else gr (cs.take i) x y) = gr (cs.take i ++ [t]) x y
        rw [gr_snoc]
        by_cases q1 : x = t.2.1 ∧ y = t.1
        · rw [if_pos q1, if_pos (by omega), q1.1, q1.2, hnew.2]
          omega
        · by_cases q2 : x = t.1 ∧ y = t.2.1
          · rw [if_neg q1, if_pos q2, if_pos (by omega), q2.1, q2.2, hnew.1]
            omega
          · rw [if_neg q1, if_neg q2, if_neg (by omega)]
            omega
      · obtain ⟨⟨y3, y4, y5, y6, rfl⟩, s2, g2⟩ := p
        rw [tc.1, List.take_length] at g2
        exact ⟨_, rfl, q H2 D rs s2 ⟨hD, hfr⟩ g2⟩
end
end Own

namespace Own
open PySem PySem.Spec PyProof.Rows L2
def rTupOf (K : PySem.W.Frag) : List V → Hp → VK → Prop := fun xs H Q => ∃ p ys, xs = [V.ref p] ∧ ((SqL K H p ys ∧ ∀ l, H l = none → Q (.ref l) (upd H l (.tup ys))) ∨ (SqT K H p ys ∧ Q (.ref p) H))
theorem cr_tupOf {X : Cx} : CallR X (.type "tuple") (rTupOf X.K) := call_tuple_of
/-- rows of zeros, being made -/
structure ZInv (Hb : Hp) (D : Addr) (m : Int) (i : Nat) (rs : List Addr) (H : Hp) : Prop where
  sm : Same Hb H
  at_ : H D = some (.lst (rs.map V.ref))
  len : rs.length = i
  nd : rs.Nodup
  out : D ∉ rs
  fr : ∀ r ∈ rs, Hb r = none
  row : ∀ (j : Nat) (r : Addr), rs[j]? = some r → H r = some (.lst (gl m fun _ => 0))
theorem ZInv.step {Hb H H1 : Hp} {D r : Addr} {m : Int} {i : Nat} {rs : List Addr} (z : ZInv Hb D m i rs H) (nD : Hb D = none) (s1 : Same H H1) (nr : H r = none) (er : H1 r = some (.lst (gl m fun _ => 0))) : ZInv Hb D m (i + 1) (rs ++ [r]) (upd H1 D (.lst (rs.map V.ref ++ [.ref r]))) := by
  have nrD : r ≠ D := fun e => by
    rw [e, z.at_] at nr
    cases nr
  have nin : r ∉ rs := fun mm => by
    obtain ⟨j, hj, ej⟩ := List.mem_iff_getElem.mp mm
    rw [z.row j r (by rw [List.getElem?_eq_getElem hj, ej])] at nr
    cases nr
  refine ⟨same_put (H1 := Hb) nD (z.sm.trans s1), ?_, ?_, ?_, ?_, ?_, ?_⟩
  · rw [upd_same, List.map_append]
    rfl
  · rw [List.length_append, z.len]
    rfl
  · exact List.nodup_append.mpr ⟨z.nd, by simp, fun a ha b hb e => nin (by rw [List.mem_singleton.mp hb] at e; rw [← e]; exact ha)⟩
  · intro mm
    rcases List.mem_append.mp mm with mm | mm
    · exact z.out mm
    · exact nrD (List.mem_singleton.mp mm).symm
  · intro u mm
    rcases List.mem_append.mp mm with mm | mm
    · exact z.fr u mm
    · rw [List.mem_singleton.mp mm]
      exact z.sm.free nr
  · intro j u e
    have hu : u ≠ D := fun e2 => by
      rcases List.mem_append.mp (List.mem_of_getElem? e) with mm | mm
      · exact z.out (by rw [← e2]; exact mm)
      · exact nrD ((List.mem_singleton.mp mm).symm.trans e2)
    rw [upd_ne hu]
    by_cases hj : j < rs.length
    · rw [List.getElem?_append_left hj] at e
      exact s1 _ _ (z.row j u e)
    · rw [List.getElem?_append_right (by omega)] at e
      obtain rfl : r = u := by
        cases hk : j - rs.length with
        | zero =>
          rw [hk] at e
          exact Option.some.inj e
        | succ k =>
          rw [hk] at e
          simp at e
      exact er
/-- a table: a tuple of tuples of ints -/
def TabAt (H : Hp) (a : Addr) (sz : Int) (f : Int → Int → Int) : Prop := ∃ vs, H a = some (.tup vs) ∧ vs.length = sz.toNat ∧ ∀ j : Nat, j < sz.toNat → ∃ r, vs[j]? = some (.ref r) ∧ H r = some (.tup (gl sz (f j)))
theorem TabAt.same {H H' : Hp} {a : Addr} {sz : Int} {f : Int → Int → Int} (s : Same H H') (h : TabAt H a sz f) : TabAt H' a sz f := by
  obtain ⟨vs, e, l, r⟩ := h
  refine ⟨vs, s _ _ e, l, fun j hj => ?_⟩
  obtain ⟨u, e1, e2⟩ := r j hj
  exact ⟨u, e1, s _ _ e2⟩
section
variable {P : Program} {w : World} {K : PySem.W.Frag} {mg : Str → Option Value} {base : Heap} {C : Addr}
def spTable : Sp := fun vs H Q _ => ∃ (n : Int) (c : Addr) (cs : List Tr), vs = [.int n, .ref c] ∧ 0 ≤ n ∧ n ≤ 1000 ∧ Trip H c cs ∧ Good n cs ∧ ∀ H' p, Same H H' → TabAt H' p (hi n 1) (tabE cs) → Q (.ref p) H'
theorem ok_table {f : Addr} {fd : FuncData} (F : Fun K "table_rows" "table_rows" s_table_rows f fd) (T : Bi mg) {f_c : Addr} {d_c : FuncData} (D_c : Df K mg "cord_grid" s_cord_grid ["pins", "cords"] f_c d_c) (G_c : FnOk P w K mg base CX0 1 f_c d_c ["pins", "cords"] spGrid)
    {f_z : Addr} {d_z : FuncData} (D_z : Df K mg "gaps" s_gaps ["pins"] f_z d_z) (G_z : FnOk P w K mg base CX0 1 f_z d_z ["pins"] spGaps) {f_s : Addr} {d_s : FuncData} (D_s : Df K mg "sums_before" s_sums_before ["row"] f_s d_s) (G_s : FnOk P w K mg base CX0 1 f_s d_s ["row"] (spSums K)) :
    FnOk P w K mg base CX0 2 f fd ["pins", "cords"] spTable := by
  refine F.ok sc_table_rows (fun vs H Q E h => ?_) (fun cdv A outer s H vs Q E hr h => ?_)
  · obtain ⟨n, c, cs, rfl, _⟩ := h
    rfl
  · obtain ⟨n, c, cs, rfl, n0, n1, hc, hG, q⟩ := h
    refine ⟨_, (pss_cons (ps_setLc (i := 2) (own := [("row", 8)]) (g := gName 8) (tt := tYes) rfl sc_table_rows.nd rfl rfl (sw_true rfl rfl rfl (by decide +kernel)) (pi_list (pe_call G_c hr (by rfl) D_c.g D_c.F.kp D_c.b .nil pass0 (pa_cons (pv 0) (pa_cons (pv 1) pa_nil)))) (blkOk_by (own := [("row", 8)]) (N := ["pins", "cords", "sums", "size", "rows", "i", "across", "j", "row", "_"]) (sc := defScope s_table_rows) (by decide +kernel)) (fun _ _ _ _ _ => (pg_name (i := 8) sc_table_rows.nd rfl (.inl rfl))) (fun _ _ _ _ _ => pts_nil) (fun _ _ _ _ _ => (show PE _ _ (tCall (spSums K) [] E0 (tCons (tVar 8) tNil)) from pe_call G_s (hr.mono (by decide)) (by rfl) D_s.g D_s.F.kp D_s.b .nil pass0 (pa_cons (pv 8) pa_nil))))
        (pss_cons (ps_set (i := 3) sc_table_rows.nd rfl (.inr rfl) (pe_call G_z hr (by rfl) D_z.g D_z.F.kp D_z.b .nil pass0 (pa_cons (pv 0) pa_nil)))
        (pss_cons (ps_setLc (i := 4) (own := [("_", 9)]) (g := gName 9) (tt := tYes) rfl sc_table_rows.nd rfl rfl (sw_true rfl rfl rfl (by decide +kernel)) (pi_range1 (by rfl) T.b_range (pa_cons (pv 3) pa_nil)) (blkOk_by (own := [("_", 9)]) (N := ["pins", "cords", "sums", "size", "rows", "i", "across", "j", "row", "_"]) (sc := defScope s_table_rows) (by decide +kernel)) (fun _ _ _ _ _ => (pg_name (i := 9) sc_table_rows.nd rfl (.inl rfl))) (fun _ _ _ _ _ => pts_nil) (fun _ _ _ _ _ => (pe_op op_rep (pe_lst (pa_cons pe_int pa_nil)) (pv 3))))
        (pss_cons (ps_for PassesOwn.never rfl (pi_range1 (by rfl) T.b_range (pa_cons (pv 3) pa_nil)) (pg_name (i := 5) sc_table_rows.nd rfl (.inl rfl))
        (pss_cons (ps_set (i := 6) sc_table_rows.nd rfl (.inl rfl) pe_int)
        (pss_one (ps_for PassesOwn.never rfl (pi_range2 (by rfl) T.b_range (pa_cons (pe_op op_add (pv 5) pe_int) (pa_cons (pv 3) pa_nil))) (pg_name (i := 7) sc_table_rows.nd rfl (.inl rfl))
        (pss_cons (ps_set (i := 6) sc_table_rows.nd rfl (.inl rfl) (pe_op op_sub (pe_op op_add (pv 6) (pe_ix (r := rIxL K) ix_list (pe_ix (r := rIxL K) ix_list (pv 2) (pv 7) (fun _ _ => rfl)) (pv 0) (fun _ _ => rfl))) (pe_op op_mul pe_int (pe_op op_sub (pe_ix (r := rIxL K) ix_list (pe_ix (r := rIxL K) ix_list (pv 2) (pv 7) (fun _ _ => rfl)) (pv 7) (fun _ _ => rfl)) (pe_ix (r := rIxL K) ix_list (pe_ix (r := rIxL K) ix_list (pv 2) (pv 7) (fun _ _ => rfl)) (pe_op op_add (pv 5) pe_int) (fun _ _ => rfl))))))
        (pss_cons (ps_asg (pv 6) (pg_sub (pe_ix (r := rIxL K) ix_list (pv 4) (pv 5) (fun _ _ => rfl)) (pv 7) set_list))
        (pss_one (ps_asg (pv 6) (pg_sub (pe_ix (r := rIxL K) ix_list (pv 4) (pv 7) (fun _ _ => rfl)) (pv 5) set_list)))))))))
        (pss_one (ps_ret (pe_callTy call_tuple_of (by rfl) T.b_tuple (by decide +kernel) (pa_cons (pe_lc (own := [("row", 8)]) (g := gName 8) (tt := tYes) rfl sc_table_rows.nd (pi_list (pv 4)) (blkOk_by (own := [("row", 8)]) (N := ["pins", "cords", "sums", "size", "rows", "i", "across", "j", "row", "_"]) (sc := defScope s_table_rows) (by decide +kernel)) (fun _ _ _ _ _ => (pg_name (i := 8) sc_table_rows.nd rfl (.inl rfl))) (fun _ _ _ _ _ => pts_nil) (fun _ _ _ _ _ => (pe_callTy (r := rTupOf K) cr_tupOf (by rfl) T.b_tuple (by decide +kernel) (pa_cons (pv 8) pa_nil)))) pa_nil)))))))), ?_⟩
    refine ⟨_, rfl, _, rfl, n, c, cs, rfl, n0, n1, hc, hG, fun H1 p0 rs0 s1 _ g1 => ⟨p0, rfl, ⟨_, .inl (.inl g1.at_)⟩, fun D hD => ?_⟩⟩
    -- sums
    refine lc_list (K := K) (a := p0) (xs := rs0.map V.ref) (fun i H2 => Same H1 H2 ∧ ∃ ss : List Addr, H2 D = some (.lst (ss.map V.ref)) ∧ ss.length = i ∧ D ∉ ss ∧ ∀ (j : Nat) (u : Addr), ss[j]? = some u → H2 u = some (.lst (gl (n + 1) fun x => pre (gr cs j) x.toNat))) ⟨same_upd hD, [], upd_same, rfl, by simp, by simp⟩ (fun i H2 _ p => .inl (.inl (p.1 _ _ g1.at_))) (fun i x H2 hxi p => ?_) (fun H2 p => ?_)
    · obtain ⟨s2, ss, eD, hlen, hout, hss⟩ := p
      obtain ⟨r, hri, rfl⟩ : ∃ r, rs0[i]? = some r ∧ x = .ref r := by
        rw [List.getElem?_map] at hxi
        cases e : rs0[i]? with
        | none => rw [e] at hxi; cases hxi
        | some r =>
          rw [e] at hxi
          exact ⟨r, rfl, (Option.some.inj hxi).symm⟩
      have hi0 : i < n.toNat := by
        rw [← g1.len]
        exact (List.getElem?_eq_some_iff.mp hri).1
      refine ⟨rfl, ?_⟩
      refine ⟨_, rfl, r, n, gr cs i, rfl, s2 _ _ (g1.row i r hri), n0, n1, fun H3 u s3 nu eu => ?_⟩
      have nuD : u ≠ D := fun z => by
        rw [z, eD] at nu
        cases nu
      refine ⟨_, s3 _ _ eD, ?_, same_put (H1 := H1) hD (s2.trans s3), ss ++ [u], ?_, ?_, ?_, ?_⟩
      · rw [List.length_map, hlen]
        exact small1000 (by omega)
      · rw [upd_same, List.map_append]
        rfl
      · rw [List.length_append, hlen]
        rfl
      · intro m
        rcases List.mem_append.mp m with m | m
        · exact hout m
        · exact nuD (List.mem_singleton.mp m).symm
      · intro j v e
        have hv : v ≠ D := fun e2 => by
          rcases List.mem_append.mp (List.mem_of_getElem? e) with m | m
          · exact hout (by rw [← e2]; exact m)
          · exact nuD ((List.mem_singleton.mp m).symm.trans e2)
        rw [upd_ne hv]
        by_cases hj : j < ss.length
        · rw [List.getElem?_append_left hj] at e
          exact s3 _ _ (hss j v e)
        · rw [List.getElem?_append_right (by omega)] at e
          have hk : j - ss.length = 0 := by
            cases hk : j - ss.length with
            | zero => rfl
            | succ k =>
              rw [hk] at e
              simp at e
          rw [hk] at e
          obtain rfl : u = v := Option.some.inj e
          have ej : j = i := by omega
          subst ej
          exact eu
    obtain ⟨s2, ss, eD, hlen, hout, hss⟩ := p
    rw [List.length_map, g1.len] at hlen
    -- size, rows
    refine ⟨_, rfl, n, rfl, ?_⟩
    have hsz := lo_hi n 1
    have hz0 : 1 ≤ hi n 1 ∧ hi n 1 ≤ 1000 ∧ (2 ≤ hi n 1 → hi n 1 = n) := by omega
    refine ⟨_, rfl, hi n 1, rfl, by omega, by omega, fun R hR => ?_⟩
    refine lc_range (lo := 0) (n := (hi n 1).toNat) (fun i H3 => ∃ rr, ZInv H2 R (hi n 1) i rr H3) ⟨[], same_upd hR, upd_same, rfl, List.nodup_nil, by simp, by simp, by simp⟩ (fun i H3 hi3 pv => ?_) (fun H3 pv => ?_)
    · obtain ⟨rr, z⟩ := pv
      refine ⟨rfl, ?_⟩
      refine ⟨by show 1 ≤ sizeLine; decide, fun l hl => ⟨_, rfl, l, hi n 1, _, rfl, rfl, upd_same, by omega, by omega, ?_, fun r nr => ?_⟩⟩
      · show 1 * (hi n 1).toNat ≤ sizeLine
        rw [Nat.one_mul]
        exact Nat.le_of_lt (small1000 (by omega))
      have sA : Same H3 (upd (upd H3 l (.lst [.int 0])) r (.lst (List.replicate (hi n 1).toNat [V.int 0]).flatten)) := (same_upd hl).trans (same_upd nr)
      refine ⟨_, sA _ _ z.at_, ?_, _, z.step hR sA ((same_upd (o := .lst [.int 0]) hl).free nr) ?_⟩
      · rw [List.length_map, z.len]
        exact small1000 (by omega)
      · rw [upd_same, rep_gl, gl_const]
    obtain ⟨rr, z⟩ := pv
    have gz : Grid H3 R rr (hi n 1) (hi n 1) (fun x y => if x ≠ y ∧ lo x y < 0 then tabE cs x y else 0) := by
      refine Grid.congr (f := fun _ _ => 0) ⟨z.at_, z.len, z.nd, z.out, fun j r e => z.row j r e⟩ fun x y x0 x1 y0 y1 => ?_
      have := lo_hi x y
      rw [if_neg (by omega)]
    generalize hsz2 : hi n 1 = sz at hz0 gz
    -- the places
    refine ⟨_, rfl, sz, rfl, by omega, by omega, for_range (lo := 0) (n := sz.toNat) (fun i σ H4 => (∃ y5 y6 y7 y8 y9, σ = [some (.int n), some (.ref c), some (.ref D), some (.int sz), some (.ref R), y5, y6, y7, y8, y9]) ∧ Same H2 H4 ∧ Grid H4 R rr sz sz (fun x y => if x ≠ y ∧ lo x y < (i : Int) then tabE cs x y else 0)) ⟨⟨none, none, none, none, none, rfl⟩, z.sm, gz⟩ (fun i σ H4 hi4 pv => ?_) (fun σ H4 pv => ?_)⟩
    · obtain ⟨⟨y5, y6, y7, y8, y9, rfl⟩, s4, g4⟩ := pv
      rw [Int.zero_add]
      refine ⟨_, rfl, _, _, rfl, rfl, _, rfl, (i : Int) + 1, sz, rfl, ⟨by omega, by omega, by omega, by omega⟩, for_range (lo := (i : Int) + 1) (n := (sz - ((i : Int) + 1)).toNat) (fun k σ H5 => (∃ y7, σ = [some (.int n), some (.ref c), some (.ref D), some (.int sz), some (.ref R), some (.int (i : Int)), some (.int (tabE cs i ((i : Int) + k))), y7, y8, y9]) ∧ Same H2 H5 ∧ Grid H5 R rr sz sz (fun x y => if x ≠ y ∧ (lo x y < (i : Int) ∨ (lo x y = (i : Int) ∧ hi x y < (i : Int) + 1 + k)) then tabE cs x y else 0)) ⟨⟨y7, ?_⟩, s4, ?_⟩ (fun k σ H5 hk pv => ?_) (fun σ H5 pv => ?_)⟩
      · rw [show ((i : Int) + ((0 : Nat) : Int)) = (i : Int) by omega, tabE_same]
        rfl
      · refine g4.congr fun x y x0 x1 y0 y1 => ?_
        have := lo_hi x y
        by_cases h : x ≠ y ∧ lo x y < (i : Int)
        · rw [if_pos h, if_pos ⟨h.1, .inl h.2⟩]
        · rw [if_neg h, if_neg (by omega)]
      · obtain ⟨⟨y7, rfl⟩, s5, g5⟩ := pv
        have hn : sz = n := hz0.2.2 (by omega)
        generalize hj : (i : Int) + 1 + (k : Int) = j
        have j0 : (i : Int) < j ∧ j < n := by omega
        have hsj : ∃ u, atI (ss.map V.ref) j = some (.ref u) ∧ H2 u = some (.lst (gl (n + 1) fun x => pre (gr cs j) x.toNat)) := by
          have hl2 : j.toNat < ss.length := by omega
          refine ⟨ss[j.toNat], at_of (j := j.toNat) (by omega) ?_, ?_⟩
          · rw [List.getElem?_map, List.getElem?_eq_getElem hl2]
            rfl
          · have := hss j.toNat _ (List.getElem?_eq_getElem hl2)
            rw [show ((j.toNat : Nat) : Int) = j by omega] at this
            exact this
        obtain ⟨u, au, hu⟩ := hsj
        have eD5 : SqL K H5 D (ss.map V.ref) := .inl (.inl (s5 _ _ eD))
        have eu5 : SqL K H5 u (gl (n + 1) fun x => pre (gr cs j) x.toNat) := .inl (.inl (s5 _ _ hu))
        refine ⟨_, rfl, _, rfl, _, rfl, D, _, j, _, rfl, rfl, eD5, au, _, rfl, u, _, n, _, rfl, rfl, eu5, gl_at _ (by omega) (by omega), _, _, rfl, rfl, ?_⟩
        refine ⟨_, rfl, _, rfl, D, _, j, _, rfl, rfl, eD5, au, _, rfl, u, _, j, _, rfl, rfl, eu5, gl_at _ (by omega) (by omega), ?_⟩
        refine ⟨_, rfl, _, rfl, D, _, j, _, rfl, rfl, eD5, au, _, rfl, _, _, rfl, rfl, u, _, _, _, rfl, rfl, eu5, gl_at _ (by omega) (by omega), _, _, rfl, rfl, _, _, rfl, rfl, .inl ⟨by decide, by decide⟩, _, _, rfl, rfl, ?_⟩
        have hval : tabE cs i ((i : Int) + k) + pre (gr cs j) n.toNat - 2 * (pre (gr cs j) j.toNat - pre (gr cs j) ((i : Int) + 1).toNat) = tabE cs i j := by
          rw [pre_gr hG, pre_gr hG, pre_gr hG, show ((n.toNat : Nat) : Int) = n by omega, show ((j.toNat : Nat) : Int) = j by omega, show ((((i : Int) + 1).toNat : Nat) : Int) = (i : Int) + 1 by omega,
            tabE_step hG (by omega) j0.1 j0.2, show (i : Int) + (k : Int) = j - 1 by omega]
        show (tSeq _ _) _ ([some (.int n), some (.ref c), some (.ref D), some (.int sz), some (.ref R), some (.int (i : Int)), some (.int (tabE cs i ((i : Int) + k) + pre (gr cs j) n.toNat - 2 * (pre (gr cs j) j.toNat - pre (gr cs j) ((i : Int) + 1).toNat))), some (.int j), y8, y9]) _
        rw [hval]
        obtain ⟨r1, e1, a1, h1⟩ := g5.get (a := (i : Int)) (by omega) (by omega)
        refine ⟨_, rfl, _, rfl, _, rfl, R, _, _, _, rfl, rfl, .inl (.inl g5.at_), a1, _, rfl, r1, _, _, _, rfl, rfl, h1, gl_ix _ (by omega) (by omega), ?_⟩
        have g6 := g5.set (v := tabE cs i j) (by omega) (show 0 ≤ j by omega) (by omega) e1
        have s6 := same_put (H1 := H2) (o := .lst ((gl sz (fun y => if (i : Int) ≠ y ∧ (lo i y < (i : Int) ∨ (lo i y = (i : Int) ∧ hi i y < (i : Int) + 1 + k)) then tabE cs i y else 0)).set j.toNat (.int (tabE cs i j)))) (z.fr r1 (List.mem_of_getElem? e1)) s5
        obtain ⟨r2, e2, a2, h2⟩ := g6.get (a := j) (by omega) (by omega)
        refine ⟨_, rfl, _, rfl, _, rfl, R, _, _, _, rfl, rfl, .inl (.inl g6.at_), a2, _, rfl, r2, _, _, _, rfl, rfl, h2, gl_ix _ (by omega) (by omega), ?_⟩
        have g7 := g6.set (v := tabE cs i j) (by omega) (show 0 ≤ (i : Int) by omega) (by omega) e2
        refine ⟨⟨some (.int j), ?_⟩, same_put (H1 := H2) (z.fr r2 (List.mem_of_getElem? e2)) s6, g7.congr fun x y x0 x1 y0 y1 => ?_⟩
        · rw [show (i : Int) + ((k + 1 : Nat) : Int) = j by omega]
        · have hxy := lo_hi x y
          by_cases q1 : x = j ∧ y = (i : Int)
          · rw [if_pos q1, if_pos (by omega), q1.1, q1.2, tabE_comm]
          · rw [if_neg q1]
            by_cases q2 : x = (i : Int) ∧ y = j
            · rw [if_pos q2, if_pos (by omega), q2.1, q2.2]
            · rw [if_neg q2]
              by_cases q3 : x ≠ y ∧ (lo x y < (i : Int) ∨ (lo x y = (i : Int) ∧ hi x y < (i : Int) + 1 + k))
              · rw [if_pos q3, if_pos (by omega)]
              · rw [if_neg q3, if_neg (by omega)]
      · obtain ⟨⟨y7, rfl⟩, s5, g5⟩ := pv
        refine ⟨⟨_, _, _, _, _, rfl⟩, s5, g5.congr fun x y x0 x1 y0 y1 => ?_⟩
        have hxy := lo_hi x y
        by_cases q3 : x ≠ y ∧ lo x y < ((i + 1 : Nat) : Int)
        · rw [if_pos q3, if_pos (by omega)]
        · rw [if_neg q3, if_neg (by omega)]
    -- the tuples
    obtain ⟨⟨y5, y6, y7, y8, y9, rfl⟩, s4, g4⟩ := pv
    have g5 : Grid H4 R rr sz sz (tabE cs) := g4.congr fun x y x0 x1 y0 y1 => by
      have hxy := lo_hi x y
      by_cases h : x = y
      · rw [if_neg (by omega), h, tabE_same]
      · rw [if_pos (by omega)]
    refine ⟨_, rfl, R, rfl, ⟨_, .inl (.inl g5.at_)⟩, fun O hO => ?_⟩
    refine lc_list (K := K) (a := R) (xs := rr.map V.ref) (fun i H5 => Same H4 H5 ∧ ∃ us : List Addr, H5 O = some (.lst (us.map V.ref)) ∧ us.length = i ∧ ∀ (j : Nat) (u : Addr), us[j]? = some u → H5 u = some (.tup (gl sz (tabE cs j)))) ⟨same_upd hO, [], upd_same, rfl, by simp⟩ (fun i H5 _ p => .inl (.inl (p.1 _ _ g5.at_))) (fun i x H5 hxi p => ?_) (fun H5 p => ?_)
    · obtain ⟨s5, us, eO, hul, hus⟩ := p
      obtain ⟨r, hri, rfl⟩ : ∃ r, rr[i]? = some r ∧ x = .ref r := by
        rw [List.getElem?_map] at hxi
        cases e : rr[i]? with
        | none => rw [e] at hxi; cases hxi
        | some r =>
          rw [e] at hxi
          exact ⟨r, rfl, (Option.some.inj hxi).symm⟩
      have hi0 : i < sz.toNat := by
        rw [← g5.len]
        exact (List.getElem?_eq_some_iff.mp hri).1
      refine ⟨rfl, ?_⟩
      refine ⟨_, rfl, r, _, rfl, .inl ⟨.inl (.inl (s5 _ _ (g5.row i r hri))), fun u nu => ?_⟩⟩
      have nuO : u ≠ O := fun z => by
        rw [z, eO] at nu
        cases nu
      refine ⟨_, same_upd nu _ _ eO, ?_, same_put (H1 := H4) hO (s5.trans (same_upd nu)), us ++ [u], ?_, ?_, ?_⟩
      · rw [List.length_map, hul]
        exact small1000 (by omega)
      · rw [upd_same, List.map_append]
        rfl
      · rw [List.length_append, hul]
        rfl
      · intro j v e
        by_cases hj : j < us.length
        · rw [List.getElem?_append_left hj] at e
          have h5 := hus j v e
          have hv : v ≠ O := fun z => by
            rw [z, eO] at h5
            cases h5
          rw [upd_ne hv]
          exact same_upd nu _ _ h5
        · rw [List.getElem?_append_right (by omega)] at e
          have hk : j - us.length = 0 := by
            cases hk : j - us.length with
            | zero => rfl
            | succ k =>
              rw [hk] at e
              simp at e
          rw [hk] at e
          obtain rfl : u = v := Option.some.inj e
          have ej : j = i := by omega
          subst ej
          rw [upd_ne nuO, upd_same]
    · obtain ⟨s5, us, eO, hul, hus⟩ := p
      rw [List.length_map, g5.len] at hul
      refine ⟨O, _, rfl, .inl ⟨.inl (.inl eO), fun a na => ?_⟩⟩
      refine q _ a ((((s1.trans s2).trans s4).trans s5).trans (same_upd na)) ⟨_, upd_same, ?_, fun j hj => ?_⟩
      · rw [List.length_map, hul, hsz2]
      · rw [hsz2] at hj
        have hj2 : j < us.length := by omega
        refine ⟨us[j], ?_, ?_⟩
        · rw [List.getElem?_map, List.getElem?_eq_getElem hj2]
          rfl
        · rw [hsz2]
          exact same_upd na _ _ (hus j _ (List.getElem?_eq_getElem hj2))
def spTab (C : Addr) : Sp := fun vs H Q _ => ∃ (p : Addr) (n : Int) (cs : List Tr), vs = [.ref p] ∧ LotAt C H p n cs ∧ 0 ≤ n ∧ n ≤ 1000 ∧ Good n cs ∧ ∀ H' u, Same H H' → TabAt H' u (hi n 1) (tabE cs) → Q (.ref u) H'
theorem ok_tab {f : Addr} {fd : FuncData} (F : Fun K "table" "Lot.table" s_Lot_table f fd) (T : Bi mg) (L : LotC K mg C) {f_t : Addr} {d_t : FuncData} (D_t : Df K mg "table_rows" s_table_rows ["pins", "cords"] f_t d_t) (G_t : FnOk P w K mg base CX0 2 f_t d_t ["pins", "cords"] spTable) : FnOk P w K mg base CX0 3 f fd ["self"] (spTab C) := by
  refine F.ok sc_Lot_table (fun vs H Q E h => ?_) (fun cdv A outer s H vs Q E hr h => ?_)
  · obtain ⟨p, n, cs, rfl, _⟩ := h
    rfl
  · obtain ⟨p, n, cs, rfl, hL, n0, n1, hG, q⟩ := h
    refine ⟨_, (pss_one (ps_ret (pe_call G_t hr (by rfl) D_t.g D_t.F.kp D_t.b .nil pass0 (pa_cons (pe_fld (pv 0) rfl) (pa_cons (pe_fld (pv 0) rfl) pa_nil))))), ?_⟩
    obtain ⟨dx, c, e, t⟩ := hL
    exact ⟨_, rfl, p, C, dx, _, _, rfl, e, L.cl, L.nP, flds_pins _ _, _, rfl, p, C, dx, _, _, rfl, e, L.cl, L.nC, flds_cords _ _, n, c, cs, rfl, n0, n1, t, hG, q⟩
end
end Own

namespace Own
open PySem PySem.Spec PyProof.Rows L2
section
variable {P : Program} {w : World} {K : PySem.W.Frag} {mg : Str → Option Value} {base : Heap} {C : Addr}
/-! ### the law's helpers: kinds, cells, digits -/
theorem ok_lwhole {f : Addr} {fd : FuncData} (F : Fun K "_law_whole" "_law_whole" s__law_whole f fd) (T : Bi mg) : FnOk P w K mg base CX0 1 f fd ["_law_value"] spWhole := by
  refine F.ok sc__law_whole (fun vs H Q E h => ?_) (fun cdv A outer s H vs Q E hr h => ?_)
  · obtain ⟨i, rfl, _⟩ := h
    rfl
  · obtain ⟨i, rfl, q⟩ := h
    refine ⟨_, (pss_one (ps_ret (pe_and (pe_callB call_isi (by rfl) T.b_isinstance (by decide +kernel) (pa_cons (pv 0) (pa_cons (pe_bltn (v := .ty "int") (by rfl) T.b_int (by decide +kernel) rfl) pa_nil))) (pe_one (pe_not (pe_callB call_isi (by rfl) T.b_isinstance (by decide +kernel) (pa_cons (pv 0) (pa_cons (pe_bltn (v := .ty "bool") (by rfl) T.b_bool (by decide +kernel) rfl) pa_nil)))))))), ?_⟩
    refine ⟨_, rfl, _, _, _, _, true, rfl, .ty "int", .base (.int i), kit_ty (by decide +kernel), true, rfl, ?_⟩
    exact ⟨_, rfl, _, _, _, _, false, rfl, .ty "bool", .base (.int i), kit_ty (by decide +kernel), false, rfl, q⟩
def spCell (K : PySem.W.Frag) : Sp := fun vs H Q _ => ∃ (l : Addr) (ns : List Int) (j : Nat), vs = [.ref l, .int (j : Int)] ∧ SqL K H l (ns.map V.int) ∧ j ≤ 100000 ∧ ns.length ≤ 1000 ∧ ∀ c : Int, Q (.int c) H
theorem ok_cell {f : Addr} {fd : FuncData} (F : Fun K "_law_cell" "_law_cell" s__law_cell f fd) (T : Bi mg) : FnOk P w K mg base CX0 1 f fd ["_law_script", "_law_k"] (spCell K) := by
  refine F.ok sc__law_cell (fun vs H Q E h => ?_) (fun cdv A outer s H vs Q E hr h => ?_)
  · obtain ⟨l, ns, j, rfl, _⟩ := h
    rfl
  · obtain ⟨l, ns, j, rfl, hs, hj, hn, q⟩ := h
    refine ⟨_, (pss_cons (ps_if (pt_cmpR op_lt (pv 1) (pe_callB call_len_seq (by rfl) T.b_len PySem.boot_len (pa_cons (pv 0) pa_nil)) (nomark _)) (pss_one (ps_ret (pe_ix (r := rIxL K) ix_list (pv 0) (pv 1) (fun _ _ => rfl)))) pss_nil)
        (pss_cons (ps_set (i := 2) sc__law_cell.nd rfl (.inl rfl) pe_int)
        (pss_cons (ps_for PassesOwn.never rfl (pi_list (pv 0)) (pg_name (i := 3) sc__law_cell.nd rfl (.inl rfl))
        (pss_one (ps_set (i := 2) sc__law_cell.nd rfl (.inl rfl) (pe_op op_mod (pe_callTy call_int1 (by rfl) T.b_int (by decide +kernel) (pa_cons (pe_op op_add (pe_op op_mul (pv 2) pe_int) (pe_op op_mod (pe_callTy call_int1 (by rfl) T.b_int (by decide +kernel) (pa_cons (pv 3) pa_nil)) pe_int)) pa_nil)) pe_int))))
        (pss_one (ps_ret (pe_op op_mod (pe_callTy call_int1 (by rfl) T.b_int (by decide +kernel) (pa_cons (pe_op op_mul (pe_op op_mul (pe_op op_add (pv 2) pe_int) (pe_op op_add (pv 1) pe_int)) pe_int) pa_nil)) pe_int)))))), ?_⟩
    refine ⟨_, rfl, _, rfl, l, _, rfl, .inl hs, _, _, rfl, rfl, _, rfl, ite2 (fun e => ?_) (fun e => ?_)⟩
    · have e1 : (j : Int) < ((ns.map V.int).length : Int) := of_decide_eq_true e
      rw [List.length_map] at e1
      have hj2 : j < ns.length := by omega
      have g : (ns.map V.int)[j]? = some (.int ns[j]) := by
        rw [List.getElem?_map, List.getElem?_eq_getElem hj2]
        rfl
      exact ⟨_, rfl, _, rfl, _, _, _, _, rfl, rfl, hs, atI_nat g, q _⟩
    · refine ⟨_, rfl, l, rfl, ⟨_, hs⟩, for_list (xs := ns.map V.int) (fun i σ H' => (∃ (z : Int) (y : Option V), 0 ≤ z ∧ z < 1000003 ∧ σ = [some (.ref l), some (.int (j : Int)), some (.int z), y]) ∧ H' = H) ⟨⟨17, none, by decide, by decide, rfl⟩, rfl⟩ (fun i σ H' _ p => by rw [p.2]; exact hs) (fun i x σ H' hx p => ?_) (fun σ H' p => ?_)⟩
      · obtain ⟨⟨z, y, z0, z1, rfl⟩, rfl⟩ := p
        obtain ⟨c, rfl⟩ : ∃ c, x = .int c := by
          rw [List.getElem?_map] at hx
          cases e2 : ns[i]? with
          | none => rw [e2] at hx; cases hx
          | some c =>
            rw [e2] at hx
            exact ⟨c, (Option.some.inj hx).symm⟩
        refine ⟨_, rfl, _, _, rfl, rfl, .inl ⟨by omega, by omega⟩, _, rfl, .inl ⟨_, rfl, _, _, rfl, rfl, by show (0 : Int) < 1000003; decide, _, _, rfl, rfl, .inl ⟨_, rfl, _, _, rfl, rfl, by show (0 : Int) < 1000003; decide, ?_⟩⟩⟩
        exact ⟨⟨_, _, Int.emod_nonneg _ (by decide), Int.emod_lt_of_pos _ (by decide), rfl⟩, rfl⟩
      · obtain ⟨⟨z, y, z0, z1, rfl⟩, rfl⟩ := p
        have hp : (z + 7) * ((j : Int) + 3) < 2 ^ 64 ∧ -(2 ^ 64) < (z + 7) * ((j : Int) + 3) := by
          have a1 : 0 ≤ z + 7 := by omega
          have a2 : z + 7 ≤ 1000010 := by omega
          have b1 : 0 ≤ (j : Int) + 3 := by omega
          have b2 : (j : Int) + 3 ≤ 100003 := by omega
          have c1 : (z + 7) * ((j : Int) + 3) ≤ 1000010 * 100003 := Int.mul_le_mul a2 b2 b1 (by decide)
          have c2 : 0 ≤ (z + 7) * ((j : Int) + 3) := Int.mul_nonneg a1 b1
          omega
        exact ⟨_, rfl, _, _, rfl, rfl, _, rfl, _, _, rfl, rfl, _, _, rfl, rfl, .inl ⟨by omega, by omega⟩, _, _, rfl, rfl, .inl ⟨hp.2, hp.1⟩, .inl ⟨_, rfl, _, _, rfl, rfl, by show (0 : Int) < 2147483647; decide, q _⟩⟩
/-- each digit lies below its size -/
def Digs (ds szs : List Int) : Prop := ds.length = szs.length ∧ ∀ (i : Nat) (d s : Int), ds[i]? = some d → szs[i]? = some s → 0 ≤ d ∧ d < s
theorem Digs.snoc {ds szs : List Int} {i : Nat} {d s : Int} (h : Digs ds (szs.take i)) (e : szs[i]? = some s) (h0 : 0 ≤ d) (h1 : d < s) : Digs (ds ++ [d]) (szs.take (i + 1)) := by
  have hi : i < szs.length := (List.getElem?_eq_some_iff.mp e).1
  have hl : ds.length = i := by
    rw [h.1, List.length_take]
    omega
  rw [List.take_add_one, e]
  refine ⟨by rw [List.length_append, List.length_append, h.1]; rfl, fun j x y hx hy => ?_⟩
  by_cases hj : j < i
  · rw [List.getElem?_append_left (by omega)] at hx
    rw [List.getElem?_append_left (by rw [List.length_take]; omega)] at hy
    exact h.2 j x y hx hy
  · rw [List.getElem?_append_right (by omega)] at hx
    rw [List.getElem?_append_right (by rw [List.length_take]; omega), List.length_take] at hy
    have hk : j - ds.length = 0 := by
      cases hk : j - ds.length with
      | zero => rfl
      | succ k =>
        rw [hk] at hx
        simp at hx
    rw [hk] at hx
    rw [show j - min i szs.length = 0 by omega] at hy
    obtain rfl : d = x := Option.some.inj hx
    obtain rfl : s = y := Option.some.inj hy
    exact ⟨h0, h1⟩
def spDigs (K : PySem.W.Frag) : Sp := fun vs H Q _ => ∃ (c : Int) (b : Addr) (szs : List Int), vs = [.int c, .ref b] ∧ SqL K H b (szs.map V.int) ∧ szs.length ≤ 1000 ∧ (∀ s ∈ szs, 0 < s ∧ s < 1073741824) ∧ ∀ H' p ds, Same H H' → H p = none → H' p = some (.lst (ds.map V.int)) → Digs ds szs → Q (.ref p) H'
theorem int_at {ns : List Int} {i : Nat} {x : V} (h : (ns.map V.int)[i]? = some x) : ∃ c, x = .int c ∧ ns[i]? = some c := by
  rw [List.getElem?_map] at h
  cases e : ns[i]? with
  | none => rw [e] at h; cases h
  | some c =>
    rw [e] at h
    exact ⟨c, (Option.some.inj h).symm, rfl⟩
theorem ok_digits {f : Addr} {fd : FuncData} (F : Fun K "_law_digits" "_law_digits" s__law_digits f fd) (T : Bi mg) : FnOk P w K mg base CX0 1 f fd ["_law_cell_here", "_law_sizes"] (spDigs K) := by
  refine F.ok sc__law_digits (fun vs H Q E h => ?_) (fun cdv A outer s H vs Q E hr h => ?_)
  · obtain ⟨c, b, szs, rfl, _⟩ := h
    rfl
  · obtain ⟨c, b, szs, rfl, hb, hl, hsz, q⟩ := h
    refine ⟨_, (pss_cons (ps_set (i := 2) sc__law_digits.nd rfl (.inl rfl) (pe_lst pa_nil))
        (pss_cons (ps_set (i := 3) sc__law_digits.nd rfl (.inl rfl) (pe_callTy call_int1 (by rfl) T.b_int (by decide +kernel) (pa_cons (pv 0) pa_nil)))
        (pss_cons (ps_if (pt_cmpR op_ge (pv 3) (pe_op op_pow pe_int pe_int) (nomark _)) (pss_cons (ps_set (i := 3) sc__law_digits.nd rfl (.inl rfl) (pe_op op_sub (pv 3) (pe_op op_pow pe_int pe_int)))
        (pss_cons (ps_for PassesOwn.never rfl (pi_list (pv 1)) (pg_name (i := 6) sc__law_digits.nd rfl (.inl rfl))
        (pss_cons (ps_expr (pe_bm PySem.F.plainAttrs_list PySem.F.slot_list_append PySem.F.type_list_append mt_append (pv 2) (pa_cons (pe_op op_modN (pe_callTy call_int1 (by rfl) T.b_int (by decide +kernel) (pa_cons (pv 3) pa_nil)) (pv 6)) pa_nil)))
        (pss_one (ps_set (i := 3) sc__law_digits.nd rfl (.inl rfl) (pe_op op_fdivN (pe_callTy call_int1 (by rfl) T.b_int (by decide +kernel) (pa_cons (pv 3) pa_nil)) (pv 6))))))
        (pss_one (ps_ret (pv 2))))) pss_nil)
        (pss_cons (ps_set (i := 4) sc__law_digits.nd rfl (.inl rfl) (pe_op op_mod (pe_callTy call_int1 (by rfl) T.b_int (by decide +kernel) (pa_cons (pv 3) pa_nil)) pe_int))
        (pss_cons (ps_for PassesOwn.never rfl (pi_range1 (by rfl) T.b_range (pa_cons (pe_callB call_len_seq (by rfl) T.b_len PySem.boot_len (pa_cons (pv 1) pa_nil)) pa_nil)) (pg_name (i := 5) sc__law_digits.nd rfl (.inl rfl))
        (pss_cons (ps_set (i := 4) sc__law_digits.nd rfl (.inl rfl) (pe_op op_mod (pe_callTy call_int1 (by rfl) T.b_int (by decide +kernel) (pa_cons (pe_op op_add (pe_op op_add (pe_op op_mul (pv 4) pe_int) (pe_op op_mul pe_int (pv 5))) pe_int) pa_nil)) pe_int))
        (pss_cons (ps_set (i := 7) sc__law_digits.nd rfl (.inl rfl) (pe_op op_mod (pe_callTy call_int1 (by rfl) T.b_int (by decide +kernel) (pa_cons (pe_op op_mul (pv 4) (pe_op op_add (pe_op op_fdiv (pv 4) pe_int) pe_int)) pa_nil)) pe_int))
        (pss_one (ps_expr (pe_bm PySem.F.plainAttrs_list PySem.F.slot_list_append PySem.F.type_list_append mt_append (pv 2) (pa_cons (pe_op op_modN (pe_op op_fdiv (pv 7) pe_int) (pe_ix (r := rIxL K) ix_list (pv 1) (pv 5) (fun _ _ => rfl))) pa_nil)))))))
        (pss_one (ps_ret (pv 2)))))))), ?_⟩
    refine ⟨Nat.zero_le _, fun p np => ?_⟩
    have sp : Same H (upd H p (.lst [])) := same_upd np
    refine ⟨_, rfl, .inl ⟨_, rfl, ?_⟩⟩
    refine ⟨_, rfl, _, _, rfl, rfl, ⟨by decide, by decide, by decide⟩, _, _, rfl, rfl, _, rfl, ite2 (fun e => ?_) (fun e => ?_)⟩
    · refine ⟨_, rfl, _, _, rfl, rfl, ⟨by decide, by decide, by decide⟩, _, _, rfl, rfl, ?_⟩
      refine ⟨_, rfl, b, rfl, ⟨_, sp.seq hb⟩, for_list (xs := szs.map V.int) (fun i σ H' => (∃ (z : Int) (ds : List Int) (y4 y5 y6 y7 : Option V), σ = [some (.int c), some (.ref b), some (.ref p), some (.int z), y4, y5, y6, y7] ∧ H' = upd H p (.lst (ds.map V.int)) ∧ Digs ds (szs.take i))) ⟨_, [], _, _, _, _, rfl, rfl, rfl, fun j d s h => by simp at h⟩ (fun i σ H' _ p => by obtain ⟨_, _, _, _, _, _, _, rfl, _⟩ := p; exact (same_upd np).seq hb) (fun i x σ H' hx pv => ?_) (fun σ H' pv => ?_)⟩
      · obtain ⟨z, ds, y4, y5, y6, y7, rfl, rfl, dg⟩ := pv
        obtain ⟨sz, rfl, hsi⟩ := int_at hx
        have hs := hsz sz (List.mem_of_getElem? hsi)
        have hi : i < szs.length := (List.getElem?_eq_some_iff.mp hsi).1
        refine ⟨_, rfl, .inl ⟨rfl, _, .inl (.inl upd_same)⟩, _, rfl, .inl ⟨_, rfl, _, rfl, _, _, rfl, rfl, by omega, p, _, _, rfl, rfl, upd_same, ?_, ?_⟩⟩
        · rw [List.length_map, dg.1, List.length_take]
          exact Nat.lt_of_le_of_lt (Nat.min_le_right _ _) (small1000 hl)
        refine ⟨_, rfl, .inl ⟨_, rfl, _, rfl, _, _, rfl, rfl, ⟨by omega, by omega⟩, ?_⟩⟩
        have hm := fmod_in z hs.1
        refine ⟨_, ds ++ [z.fmod sz], _, _, _, _, rfl, ?_, dg.snoc hsi hm.1 hm.2⟩
        rw [upd_upd, List.map_append]
        rfl
      · obtain ⟨z, ds, y4, y5, y6, y7, rfl, rfl, dg⟩ := pv
        rw [List.length_map, List.take_length] at dg
        exact ⟨_, rfl, q _ p ds (same_upd np) np upd_same dg⟩
    · refine ⟨_, rfl, .inl ⟨_, rfl, _, _, rfl, rfl, by show (0 : Int) < 2147483629; decide, ?_⟩⟩
      refine ⟨_, rfl, b, _, rfl, .inl (sp.seq hb), _, rfl, by omega, by rw [List.length_map]; omega, ?_⟩
      rw [show ((szs.map V.int).length : Int).toNat = szs.length by rw [List.length_map]; omega]
      refine for_range (lo := 0) (n := szs.length) (fun i σ H' => (∃ (z : Int) (ds : List Int) (y3 y4 y6 y7 : Option V), 0 ≤ z ∧ z < 2147483647 ∧ σ = [some (.int c), some (.ref b), some (.ref p), y3, some (.int z), y4, y6, y7] ∧ H' = upd H p (.lst (ds.map V.int)) ∧ Digs ds (szs.take i))) ⟨_, [], _, _, _, _, Int.emod_nonneg _ (by decide), Int.lt_of_lt_of_le (Int.emod_lt_of_pos _ (by decide)) (by decide), rfl, rfl, rfl, fun j d s h => by simp at h⟩ (fun i σ H' hi pv => ?_) (fun σ H' pv => ?_)
      · obtain ⟨z, ds, y3, y4, y6, y7, z0, z1, rfl, rfl, dg⟩ := pv
        have hsi : szs[i]? = some szs[i] := List.getElem?_eq_getElem hi
        have hs := hsz szs[i] (List.mem_of_getElem? hsi)
        generalize szs[i] = sz at hsi hs
        refine ⟨_, rfl, _, _, rfl, rfl, .inl ⟨by omega, by omega⟩, _, rfl, _, _, rfl, rfl, .inl ⟨by decide, by decide⟩, _, _, rfl, rfl, _, _, rfl, rfl, .inl ⟨_, rfl, _, _, rfl, rfl, by show (0 : Int) < 2147483647; decide, ?_⟩⟩
        generalize hz : (z * 48271 + 974711 * (0 + (i : Int)) + 12345) % 2147483647 = z2
        have z20 : 0 ≤ z2 := by rw [← hz]; exact Int.emod_nonneg _ (by decide)
        have z21 : z2 < 2147483647 := by rw [← hz]; exact Int.emod_lt_of_pos _ (by decide)
        refine ⟨_, rfl, _, rfl, _, _, rfl, rfl, ⟨by decide, by decide⟩, _, _, rfl, rfl, _, _, rfl, rfl, .inl ⟨?_, ?_⟩, .inl ⟨_, rfl, _, _, rfl, rfl, by show (0 : Int) < 2147483629; decide, ?_⟩⟩
        · show -(2 ^ 64) < (z * 48271 + 974711 * (0 + (i : Int)) + 12345) % 2147483647
          rw [hz]
          omega
        · show (z * 48271 + 974711 * (0 + (i : Int)) + 12345) % 2147483647 < 2 ^ 64
          rw [hz]
          omega
        refine ⟨_, rfl, .inl ⟨rfl, _, .inl (.inl upd_same)⟩, _, rfl, _, _, rfl, rfl, ⟨by decide, by decide⟩, _, rfl, _, rfl, b, _, _, _, rfl, rfl, (same_upd np).seq hb, at_of (j := i) (by omega) (by rw [List.getElem?_map, hsi]; rfl), _, _, rfl, rfl, by omega, p, _, _, rfl, rfl, upd_same, ?_, ?_⟩
        · rw [List.length_map, dg.1, List.length_take]
          exact Nat.lt_of_le_of_lt (Nat.min_le_right _ _) (small1000 hl)
        have hm := fun x : Int => fmod_in x hs.1
        refine ⟨_, ds ++ [((((z * 48271 + 974711 * (0 + (i : Int)) + 12345) % 2147483647) * (((z * 48271 + 974711 * (0 + (i : Int)) + 12345) % 2147483647) / 65537 + 3)) % 2147483629 / 19).fmod sz], _, _, _, _, ?_, ?_, rfl, ?_, dg.snoc hsi (hm _).1 (hm _).2⟩
        · exact Int.emod_nonneg _ (by decide)
        · exact Int.emod_lt_of_pos _ (by decide)
        · rw [upd_upd, List.map_append]
          rfl
      · obtain ⟨z, ds, y3, y4, y6, y7, z0, z1, rfl, rfl, dg⟩ := pv
        rw [List.take_length] at dg
        exact ⟨_, rfl, q _ p ds (same_upd np) np upd_same dg⟩
end
end Own

namespace Own
open PySem PySem.Spec PyProof.Rows L2
/-- an item of a list or of a tuple -/
def rIxB (K : PySem.W.Frag) : R2 := fun x y H Q => ∃ p xs i v, x = .ref p ∧ y = .int i ∧ SqB K H p xs ∧ atI xs i = some v ∧ Q v H
theorem ix_seqB {X : Cx} : IxR X (rIxB X.K) := by
  intro value slice pins s σ H x y v u Q I rx ry h hs
  obtain ⟨p, xs, i, z, rfl, rfl, hB, ha, q⟩ := h
  rcases hB with hB | hB
  · exact ix_list value slice pins s σ H _ _ v u Q I rx ry ⟨p, xs, i, z, rfl, rfl, hB, ha, q⟩ hs
  · exact ix_tup value slice pins s σ H _ _ v u Q I rx ry ⟨p, xs, i, z, rfl, rfl, hB, ha, q⟩ hs
def DOk (kvs : List (Key × V)) : Prop := ∀ p ∈ kvs, valV kvs p.1 = some p.2 ∧ (flatB p.2 = true ∨ ∃ a, p.2 = .ref a)
theorem dk_eqv {K : PySem.W.Frag} {H : Hp} {v : V} (h : flatB v = true ∨ ∃ a, v = .ref a) : L2.EqV K H 1 v v := h.elim (fun f => .inl ⟨rfl, f⟩) fun ⟨a, e⟩ => .inr (.inl ⟨a, e, e⟩)
/-- the same data, nested at most so deep: ints, truth values, None, tuples and lists -/
def EqV : Nat → Hp → V → V → Prop
  | 0, H, x, y => (∃ i : Int, x = .int i ∧ y = .int i) ∨ (∃ b : Bool, x = .bl b ∧ y = .bl b) ∨ (x = .non ∧ y = .non) ∨ (∃ z : Str, x = .str z ∧ y = .str z) ∨ ∃ (p : Addr) (kvs : List (Key × V)), x = .ref p ∧ y = .ref p ∧ H p = some (.dK kvs) ∧ DOk kvs
  | d + 1, H, x, y => EqV d H x y ∨ ∃ (a b : Addr) (vs us : List V), x = .ref a ∧ y = .ref b ∧ ((H a = some (.tup vs) ∧ H b = some (.tup us)) ∨ (H a = some (.lst vs) ∧ H b = some (.lst us))) ∧ vs.length = us.length ∧ us.length ≤ 1000 ∧ ∀ (i : Nat) (x y : V), vs[i]? = some x → us[i]? = some y → EqV d H x y
theorem EqV.up {d : Nat} {H : Hp} {x y : V} (h : EqV d H x y) : EqV (d + 1) H x y := .inl h
theorem EqV.le {d e : Nat} {H : Hp} {x y : V} (h : EqV d H x y) (l : d ≤ e) : EqV e H x y := by
  induction l with
  | refl => exact h
  | step _ ih => exact .inl ih
theorem EqV.int {d : Nat} {H : Hp} (i : Int) : EqV d H (.int i) (.int i) := EqV.le (d := 0) (.inl ⟨i, rfl, rfl⟩) (Nat.zero_le _)
theorem EqV.bl {d : Nat} {H : Hp} (b : Bool) : EqV d H (.bl b) (.bl b) := EqV.le (d := 0) (.inr (.inl ⟨b, rfl, rfl⟩)) (Nat.zero_le _)
theorem EqV.non {d : Nat} {H : Hp} : EqV d H .non .non := EqV.le (d := 0) (.inr (.inr (.inl ⟨rfl, rfl⟩))) (Nat.zero_le _)
theorem EqV.str {d : Nat} {H : Hp} (z : Str) : EqV d H (.str z) (.str z) := EqV.le (d := 0) (.inr (.inr (.inr (.inl ⟨z, rfl, rfl⟩)))) (Nat.zero_le _)
theorem EqV.cases' {d : Nat} {H : Hp} {x y : V} (h : EqV d H x y) : EqV 0 H x y ∨ ∃ (e : Nat) (a b : Addr) (vs us : List V), e + 1 ≤ d ∧ x = .ref a ∧ y = .ref b ∧ ((H a = some (.tup vs) ∧ H b = some (.tup us)) ∨ (H a = some (.lst vs) ∧ H b = some (.lst us))) ∧ vs.length = us.length ∧ us.length ≤ 1000 ∧ ∀ (i : Nat) (x y : V), vs[i]? = some x → us[i]? = some y → EqV e H x y := by
  induction d with
  | zero => exact .inl h
  | succ d ih =>
    rcases h with h | ⟨a, b, vs, us, h⟩
    · rcases ih h with h | ⟨e, a, b, vs, us, he, h⟩
      · exact .inl h
      · exact .inr ⟨e, a, b, vs, us, Nat.le_succ_of_le he, h⟩
    · exact .inr ⟨d, a, b, vs, us, Nat.le_refl _, h⟩
/-- tuples of ints -/
theorem EqV.ints {H : Hp} {a b : Addr} {ns : List Int} (ha : H a = some (.tup (ns.map V.int))) (hb : H b = some (.tup (ns.map V.int))) (hl : ns.length ≤ 1000) : EqV 1 H (.ref a) (.ref b) := by
  refine .inr ⟨a, b, _, _, rfl, rfl, .inl ⟨ha, hb⟩, rfl, by rw [List.length_map]; exact hl, fun i x y hx hy => ?_⟩
  rw [hx] at hy
  obtain rfl : x = y := Option.some.inj hy
  rw [List.getElem?_map] at hx
  cases e : ns[i]? with
  | none => rw [e] at hx; cases hx
  | some n =>
    rw [e] at hx
    cases hx
    exact EqV.int n
theorem EqV.tr {H : Hp} {a b : Addr} {t : Tr} (ha : H a = some (.tup (tv t))) (hb : H b = some (.tup (tv t))) : EqV 1 H (.ref a) (.ref b) := EqV.ints (ns := [t.1, t.2.1, t.2.2]) ha hb (by show 3 ≤ 1000; decide)
theorem EqV.trip {H : Hp} {a b : Addr} {l : List Tr} (ha : Trip H a l) (hb : Trip H b l) (hl : l.length ≤ 1000) : EqV 2 H (.ref a) (.ref b) := by
  obtain ⟨vs, e1, t1⟩ := ha
  obtain ⟨us, e2, t2⟩ := hb
  refine .inr ⟨a, b, vs, us, rfl, rfl, .inl ⟨e1, e2⟩, by rw [t1.1, t2.1], by rw [t2.1]; exact hl, fun i x y hx hy => ?_⟩
  obtain ⟨p, t, rfl, h1, h2⟩ := t1.at_ hx
  obtain ⟨q, u, rfl, h3, h4⟩ := t2.at_ hy
  rw [h1] at h3
  obtain rfl : t = u := Option.some.inj h3
  exact EqV.tr h2 h4
section
variable {P : Program} {w : World} {K : PySem.W.Frag} {mg : Str → Option Value} {base : Heap} {C : Addr}
def spSame (d : Nat) : Sp := fun vs H Q _ => ∃ x y : V, vs = [x, y] ∧ EqV d H x y ∧ Q (.bl true) H
def spNo : Sp := fun _ _ _ _ => False
theorem fn_no {k : Nat} {f : Addr} {fd : FuncData} {ps : List Str} : FnOk P w K mg base CX0 k f fd ps spNo := ⟨fun _ _ _ _ h => h.elim, fun _ _ _ _ _ _ _ _ _ _ _ _ _ h => h.elim⟩
/-- its body, with any promise for the call within -/
theorem same_body {f : Addr} {fd : FuncData} {k : Nat} {sp : Sp} {d : Nat} (D_s : Df K mg "_law_same" s__law_same ["_law_value", "_law_due"] f fd) (T : Bi mg) (T_di : mg "dict" = none) {f_w : Addr} {d_w : FuncData} (D_w : Df K mg "_law_whole" s__law_whole ["_law_value"] f_w d_w) (G_w : FnOk P w K mg base CX0 1 f_w d_w ["_law_value"] spWhole)
    (G_s : FnOk P w K mg base CX0 (k + 1) f fd ["_law_value", "_law_due"] sp) (hsp : ∀ e x y H Q, e + 1 ≤ d → EqV e H x y → Q (.bl true) H → sp [x, y] H Q E0) : FnOk P w K mg base CX0 (k + 2) f fd ["_law_value", "_law_due"] (spSame d) := by
  refine D_s.F.ok sc__law_same (fun vs H Q E h => ?_) (fun cdv A outer s H vs Q E hr h => ?_)
  · obtain ⟨x, y, rfl, _⟩ := h
    rfl
  · obtain ⟨x, y, rfl, hxy, q⟩ := h
    have hu1 := hr.units
    refine ⟨_, (pss_cons (ps_if (pt_cmpR op_isN (pv 1) pe_non (nomark _)) (pss_one (ps_ret (pe_cmpR op_isN (pv 0) pe_non (nomark _)))) pss_nil)
        (pss_cons (ps_if (pt_val (pe_callB call_isi (by rfl) T.b_isinstance (by decide +kernel) (pa_cons (pv 1) (pa_cons (pe_bltn (v := .ty "bool") (by rfl) T.b_bool (by decide +kernel) rfl) pa_nil)))) (pss_one (ps_ret (pe_and (pe_callB call_isi (by rfl) T.b_isinstance (by decide +kernel) (pa_cons (pv 0) (pa_cons (pe_bltn (v := .ty "bool") (by rfl) T.b_bool (by decide +kernel) rfl) pa_nil))) (pe_one (pe_cmpR op_eq (pv 0) (pv 1) (nomark _)))))) pss_nil)
        (pss_cons (ps_if (pt_val (pe_callB call_isi (by rfl) T.b_isinstance (by decide +kernel) (pa_cons (pv 1) (pa_cons (pe_bltn (v := .ty "int") (by rfl) T.b_int (by decide +kernel) rfl) pa_nil)))) (pss_one (ps_ret (pe_and (pe_call G_w (hr.mono (by omega)) (by rfl) D_w.g D_w.F.kp D_w.b .nil pass0 (pa_cons (pv 0) pa_nil)) (pe_one (pe_cmpR op_eq (pv 0) (pv 1) (nomark _)))))) pss_nil)
        (pss_cons (ps_if (pt_val (pe_callB call_isi (by rfl) T.b_isinstance (by decide +kernel) (pa_cons (pv 1) (pa_cons (pe_bltn (v := .ty "str") (by rfl) T.b_str (by decide +kernel) rfl) pa_nil)))) (pss_one (ps_ret (pe_and (pe_callB call_isi (by rfl) T.b_isinstance (by decide +kernel) (pa_cons (pv 0) (pa_cons (pe_bltn (v := .ty "str") (by rfl) T.b_str (by decide +kernel) rfl) pa_nil))) (pe_one (pe_cmpR op_eq (pv 0) (pv 1) (nomark _)))))) pss_nil)
        (pss_cons (ps_if (pt_val (pe_callB call_isi (by rfl) T.b_isinstance (by decide +kernel) (pa_cons (pv 1) (pa_cons (pe_bltn (v := .ty "dict") (by rfl) T_di (by decide +kernel) rfl) pa_nil)))) (pss_one (ps_ret (pe_and (pe_callB call_isi (by rfl) T.b_isinstance (by decide +kernel) (pa_cons (pv 0) (pa_cons (pe_bltn (v := .ty "dict") (by rfl) T_di (by decide +kernel) rfl) pa_nil))) (pe_one (pe_cmpR (op_eqV hu1) (pv 0) (pv 1) (nomark _)))))) pss_nil)
        (pss_cons (ps_if (PW.pt (pw_and (pt_val (pe_callB call_isi (by rfl) T.b_isinstance (by decide +kernel) (pa_cons (pv 1) (pa_cons (pe_bltn (v := .ty "list") (by rfl) T.b_list (by decide +kernel) rfl) pa_nil)))) (pw_and1 (pt_not (pt_val (pe_callB call_isi (by rfl) T.b_isinstance (by decide +kernel) (pa_cons (pv 0) (pa_cons (pe_bltn (v := .ty "list") (by rfl) T.b_list (by decide +kernel) rfl) pa_nil)))))))) (pss_one (ps_ret pe_bl)) pss_nil)
        (pss_cons (ps_if (PW.pt (pw_and (pt_val (pe_callB call_isi (by rfl) T.b_isinstance (by decide +kernel) (pa_cons (pv 1) (pa_cons (pe_bltn (v := .ty "tuple") (by rfl) T.b_tuple (by decide +kernel) rfl) pa_nil)))) (pw_and1 (pt_not (pt_val (pe_callB call_isi (by rfl) T.b_isinstance (by decide +kernel) (pa_cons (pv 0) (pa_cons (pe_bltn (v := .ty "tuple") (by rfl) T.b_tuple (by decide +kernel) rfl) pa_nil)))))))) (pss_one (ps_ret pe_bl)) pss_nil)
        (pss_cons (ps_if (pt_cmpR op_ne (pe_callB call_len_seq (by rfl) T.b_len PySem.boot_len (pa_cons (pv 0) pa_nil)) (pe_callB call_len_seq (by rfl) T.b_len PySem.boot_len (pa_cons (pv 1) pa_nil)) (nomark _)) (pss_one (ps_ret pe_bl)) pss_nil)
        (pss_cons (ps_for PassesOwn.never rfl (pi_range1 (by rfl) T.b_range (pa_cons (pe_callB call_len_seq (by rfl) T.b_len PySem.boot_len (pa_cons (pv 1) pa_nil)) pa_nil)) (pg_name (i := 2) sc__law_same.nd rfl (.inl rfl))
        (pss_one (ps_if (pt_not (pt_val (pe_call G_s hr (by rfl) D_s.g D_s.F.kp D_s.b .nil pass0 (pa_cons (pe_ix (r := rIxB K) ix_seqB (pv 0) (pv 2) (fun _ _ => rfl)) (pa_cons (pe_ix (r := rIxB K) ix_seqB (pv 1) (pv 2) (fun _ _ => rfl)) pa_nil))))) (pss_one (ps_ret pe_bl)) pss_nil)))
        (pss_one (ps_ret pe_bl))))))))))), ?_⟩
    rcases hxy.cases' with (⟨i, rfl, rfl⟩ | ⟨b, rfl, rfl⟩ | ⟨rfl, rfl⟩ | ⟨z, rfl, rfl⟩ | ⟨p_, kvs, rfl, rfl, hd, dk⟩) | ⟨e, a, b, vs, us, hle, rfl, rfl, hab, hlen, hl, hel⟩
    · refine ⟨_, rfl, rfl, _, rfl, ?_⟩
      refine ⟨_, rfl, _, _, _, _, false, rfl, .ty "bool", .base (.int i), kit_ty (by decide +kernel), false, rfl, ?_⟩
      refine ⟨_, rfl, _, _, _, _, true, rfl, .ty "int", .base (.int i), kit_ty (by decide +kernel), true, rfl, ?_⟩
      refine ⟨_, rfl, i, rfl, true, rfl, ?_⟩
      refine ⟨_, rfl, _, rfl, rfl, ?_⟩
      rw [decide_eq_true rfl]
      exact q
    · refine ⟨_, rfl, rfl, _, rfl, ?_⟩
      refine ⟨_, rfl, _, _, _, _, true, rfl, .ty "bool", .base (.bl b), kit_ty (by decide +kernel), true, rfl, ?_⟩
      refine ⟨_, rfl, _, _, _, _, true, rfl, .ty "bool", .base (.bl b), kit_ty (by decide +kernel), true, rfl, ?_⟩
      refine ⟨_, rfl, _, rfl, rfl, ?_⟩
      rw [decide_eq_true rfl]
      exact q
    · refine ⟨_, rfl, rfl, _, rfl, ?_⟩
      exact ⟨_, rfl, rfl, q⟩
    · refine ⟨_, rfl, rfl, _, rfl, ?_⟩
      refine ⟨_, rfl, _, _, _, _, false, rfl, .ty "bool", .base (.str z), kit_ty (by decide +kernel), false, rfl, ?_⟩
      refine ⟨_, rfl, _, _, _, _, false, rfl, .ty "int", .base (.str z), kit_ty (by decide +kernel), false, rfl, ?_⟩
      refine ⟨_, rfl, _, _, _, _, true, rfl, .ty "str", .base (.str z), kit_ty (by decide +kernel), true, rfl, ?_⟩
      refine ⟨_, rfl, _, _, _, _, true, rfl, .ty "str", .base (.str z), kit_ty (by decide +kernel), true, rfl, ?_⟩
      refine ⟨_, rfl, _, rfl, rfl, ?_⟩
      rw [decide_eq_true rfl]
      exact q
    · have tB : TyX K H (.ref p_) (.type "dict") := .base (.dK hd)
      refine ⟨_, rfl, rfl, _, rfl, ?_⟩
      refine ⟨_, rfl, _, _, _, _, false, rfl, .ty "bool", tB, kit_ty (by decide +kernel), false, rfl, ?_⟩
      refine ⟨_, rfl, _, _, _, _, false, rfl, .ty "int", tB, kit_ty (by decide +kernel), false, rfl, ?_⟩
      refine ⟨_, rfl, _, _, _, _, false, rfl, .ty "str", tB, kit_ty (by decide +kernel), false, rfl, ?_⟩
      refine ⟨_, rfl, _, _, _, _, true, rfl, .ty "dict", tB, kit_ty (by decide +kernel), true, rfl, ?_⟩
      refine ⟨_, rfl, _, _, _, _, true, rfl, .ty "dict", tB, kit_ty (by decide +kernel), true, rfl, ?_⟩
      exact ⟨_, rfl, _, rfl, 1, by decide, .inr ⟨p_, p_, kvs, kvs, rfl, rfl, hd, hd, rfl, fun p hp => ⟨p.2, (dk p hp).1, dk_eqv (dk p hp).2⟩⟩, q⟩
    · rcases hab with ⟨ha, hb⟩ | ⟨ha, hb⟩
      · have tA : TyX K H (.ref a) (.type "tuple") := .base (.tup ha)
        have tB : TyX K H (.ref b) (.type "tuple") := .base (.tup hb)
        have qA : SqB K H a vs := .inr (.inl (.inl ha))
        have qB : SqB K H b us := .inr (.inl (.inl hb))
        refine ⟨_, rfl, rfl, _, rfl, ?_⟩
        refine ⟨_, rfl, _, _, _, _, false, rfl, .ty "bool", tB, kit_ty (by decide +kernel), false, rfl, ?_⟩
        refine ⟨_, rfl, _, _, _, _, false, rfl, .ty "int", tB, kit_ty (by decide +kernel), false, rfl, ?_⟩
        refine ⟨_, rfl, _, _, _, _, false, rfl, .ty "str", tB, kit_ty (by decide +kernel), false, rfl, ?_⟩
        refine ⟨_, rfl, _, _, _, _, false, rfl, .ty "dict", tB, kit_ty (by decide +kernel), false, rfl, ?_⟩
        refine ⟨_, rfl, _, _, _, _, false, rfl, .ty "list", tB, kit_ty (by decide +kernel), false, rfl, ?_⟩
        refine ⟨_, rfl, _, _, _, _, true, rfl, .ty "tuple", tB, kit_ty (by decide +kernel), true, rfl, ?_⟩
        refine ⟨_, rfl, _, _, _, _, true, rfl, .ty "tuple", tA, kit_ty (by decide +kernel), true, rfl, ?_⟩
        refine ⟨_, rfl, a, _, rfl, qA, _, rfl, b, _, rfl, qB, rfl, _, rfl, ?_⟩
        rw [hlen]
        refine iteNS rfl ?_
        refine ⟨_, rfl, b, _, rfl, qB, _, rfl, by omega, by omega, ?_⟩
        rw [show ((us.length : Int)).toNat = us.length by omega]
        refine for_range (lo := 0) (n := us.length) (fun i σ H' => (∃ y2, σ = [some (.ref a), some (.ref b), y2]) ∧ H' = H) ⟨⟨_, rfl⟩, rfl⟩ (fun i σ H' hi p => ?_) (fun σ H' p => ?_)
        · obtain ⟨⟨y2, rfl⟩, rfl⟩ := p
          have hv : vs[i]? = some vs[i] := List.getElem?_eq_getElem (by omega)
          have hu : us[i]? = some us[i] := List.getElem?_eq_getElem hi
          refine ⟨_, rfl, _, rfl, a, _, _, _, rfl, rfl, qA, at_of (j := i) (by omega) hv, _, rfl, _, rfl, b, _, _, _, rfl, rfl, qB, at_of (j := i) (by omega) hu, ?_⟩
          exact hsp e _ _ _ _ hle (hel i _ _ hv hu) ⟨true, rfl, ⟨_, rfl⟩, rfl⟩
        · obtain ⟨_, rfl⟩ := p
          exact q
      · have tA : TyX K H (.ref a) (.type "list") := .base (.lst ha)
        have tB : TyX K H (.ref b) (.type "list") := .base (.lst hb)
        have qA : SqB K H a vs := .inl (.inl (.inl ha))
        have qB : SqB K H b us := .inl (.inl (.inl hb))
        refine ⟨_, rfl, rfl, _, rfl, ?_⟩
        refine ⟨_, rfl, _, _, _, _, false, rfl, .ty "bool", tB, kit_ty (by decide +kernel), false, rfl, ?_⟩
        refine ⟨_, rfl, _, _, _, _, false, rfl, .ty "int", tB, kit_ty (by decide +kernel), false, rfl, ?_⟩
        refine ⟨_, rfl, _, _, _, _, false, rfl, .ty "str", tB, kit_ty (by decide +kernel), false, rfl, ?_⟩
        refine ⟨_, rfl, _, _, _, _, false, rfl, .ty "dict", tB, kit_ty (by decide +kernel), false, rfl, ?_⟩
        refine ⟨_, rfl, _, _, _, _, true, rfl, .ty "list", tB, kit_ty (by decide +kernel), true, rfl, ?_⟩
        refine ⟨_, rfl, _, _, _, _, true, rfl, .ty "list", tA, kit_ty (by decide +kernel), true, rfl, ?_⟩
        refine ⟨_, rfl, _, _, _, _, false, rfl, .ty "tuple", tB, kit_ty (by decide +kernel), false, rfl, ?_⟩
        refine ⟨_, rfl, a, _, rfl, qA, _, rfl, b, _, rfl, qB, rfl, _, rfl, ?_⟩
        rw [hlen]
        refine iteNS rfl ?_
        refine ⟨_, rfl, b, _, rfl, qB, _, rfl, by omega, by omega, ?_⟩
        rw [show ((us.length : Int)).toNat = us.length by omega]
        refine for_range (lo := 0) (n := us.length) (fun i σ H' => (∃ y2, σ = [some (.ref a), some (.ref b), y2]) ∧ H' = H) ⟨⟨_, rfl⟩, rfl⟩ (fun i σ H' hi p => ?_) (fun σ H' p => ?_)
        · obtain ⟨⟨y2, rfl⟩, rfl⟩ := p
          have hv : vs[i]? = some vs[i] := List.getElem?_eq_getElem (by omega)
          have hu : us[i]? = some us[i] := List.getElem?_eq_getElem hi
          refine ⟨_, rfl, _, rfl, a, _, _, _, rfl, rfl, qA, at_of (j := i) (by omega) hv, _, rfl, _, rfl, b, _, _, _, rfl, rfl, qB, at_of (j := i) (by omega) hu, ?_⟩
          exact hsp e _ _ _ _ hle (hel i _ _ hv hu) ⟨true, rfl, ⟨_, rfl⟩, rfl⟩
        · obtain ⟨_, rfl⟩ := p
          exact q
theorem ok_same {f : Addr} {fd : FuncData} (D_s : Df K mg "_law_same" s__law_same ["_law_value", "_law_due"] f fd) (T : Bi mg) (T_di : mg "dict" = none) {f_w : Addr} {d_w : FuncData} (D_w : Df K mg "_law_whole" s__law_whole ["_law_value"] f_w d_w) (G_w : FnOk P w K mg base CX0 1 f_w d_w ["_law_value"] spWhole) :
    ∀ d : Nat, FnOk P w K mg base CX0 (d + 2) f fd ["_law_value", "_law_due"] (spSame d)
  | 0 => same_body (k := 0) D_s T T_di D_w G_w (sp := spNo) fn_no fun e x y H Q h => absurd h (by omega)
  | d + 1 => same_body (k := d + 1) D_s T T_di D_w G_w (ok_same D_s T T_di D_w G_w d) fun e x y H Q h h1 q => ⟨x, y, rfl, h1.le (by omega), q⟩
/-! ### drawn pins -/
def spPins (K : PySem.W.Frag) : Sp := fun vs H Q _ => ∃ c : Int, vs = [.int c] ∧ ∀ H' n, Same H H' → 0 ≤ n → n ≤ 40 → Q (.int n) H'
theorem ok_pins {f : Addr} {fd : FuncData} (F : Fun K "_law_pins" "_law_pins" s__law_pins f fd) (T : Bi mg) {f_d : Addr} {d_d : FuncData} (D_d : Df K mg "_law_digits" s__law_digits ["_law_cell_here", "_law_sizes"] f_d d_d) (G_d : FnOk P w K mg base CX0 1 f_d d_d ["_law_cell_here", "_law_sizes"] (spDigs K)) : FnOk P w K mg base CX0 2 f fd ["_law_cell_here"] (spPins K) := by
  refine F.ok sc__law_pins (fun vs H Q E h => ?_) (fun cdv A outer s H vs Q E hr h => ?_)
  · obtain ⟨c, rfl, _⟩ := h
    rfl
  · obtain ⟨c, rfl, q⟩ := h
    refine ⟨_, (pss_cons (ps_set (i := 1) sc__law_pins.nd rfl (.inl rfl) (pe_call G_d hr (by rfl) D_d.g D_d.F.kp D_d.b .nil pass0 (pa_cons (pv 0) (pa_cons (pe_lst (pa_cons pe_int (pa_cons pe_int (pa_cons pe_int pa_nil)))) pa_nil))))
        (pss_cons (ps_if (pt_cmpR op_lt (pe_ix (r := rIxL K) ix_list (pv 1) pe_int (fun _ _ => rfl)) pe_int (nomark _)) (pss_one (ps_ret (pe_op op_add pe_int (pe_op op_mod (pe_callTy call_int1 (by rfl) T.b_int (by decide +kernel) (pa_cons (pe_ix (r := rIxL K) ix_list (pv 1) pe_int (fun _ _ => rfl)) pa_nil)) pe_int)))) pss_nil)
        (pss_cons (ps_if (pt_cmpR op_eq (pe_ix (r := rIxL K) ix_list (pv 1) pe_int (fun _ _ => rfl)) pe_int (nomark _)) (pss_one (ps_ret (pe_op op_mod (pe_callTy call_int1 (by rfl) T.b_int (by decide +kernel) (pa_cons (pe_ix (r := rIxL K) ix_list (pv 1) pe_int (fun _ _ => rfl)) pa_nil)) pe_int))) pss_nil)
        (pss_one (ps_ret (pe_ix (r := rIxL K) ix_list (pv 1) pe_int (fun _ _ => rfl))))))), ?_⟩
    refine ⟨_, rfl, by show 3 ≤ sizeLine; decide, fun b nb => ⟨c, b, [8, 30, 41], rfl, .inl (.inl upd_same), by decide, by decide, fun H1 p ds s1 np ep dg => ?_⟩⟩
    have sm : Same H H1 := (same_upd nb).trans s1
    obtain ⟨x0, x1, x2, rfl⟩ : ∃ x0 x1 x2, ds = [x0, x1, x2] := by
      have hl := dg.1
      match ds, hl with
      | [x0, x1, x2], _ => exact ⟨x0, x1, x2, rfl⟩
    have b0 := dg.2 0 x0 8 rfl rfl
    have b1 := dg.2 1 x1 30 rfl rfl
    have b2 := dg.2 2 x2 41 rfl rfl
    have hS : SqL K H1 p [.int x0, .int x1, .int x2] := .inl (.inl ep)
    have a0 : atI [V.int x0, .int x1, .int x2] 0 = some (.int x0) := atI_nat (j := 0) rfl
    have a1 : atI [V.int x0, .int x1, .int x2] 1 = some (.int x1) := atI_nat (j := 1) rfl
    have a2 : atI [V.int x0, .int x1, .int x2] 2 = some (.int x2) := atI_nat (j := 2) rfl
    have m5 := Int.emod_nonneg x1 (show (5 : Int) ≠ 0 by decide)
    have m5' := Int.emod_lt_of_pos x1 (show (0 : Int) < 5 by decide)
    have m6 := Int.emod_nonneg x1 (show (6 : Int) ≠ 0 by decide)
    have m6' := Int.emod_lt_of_pos x1 (show (0 : Int) < 6 by decide)
    have m2 := Int.emod_nonneg x1 (show (2 : Int) ≠ 0 by decide)
    have m2' := Int.emod_lt_of_pos x1 (show (0 : Int) < 2 by decide)
    refine ⟨_, rfl, p, _, 0, _, rfl, rfl, hS, a0, x0, 6, rfl, rfl, _, rfl, ite2 (fun e => ?_) (fun e => ?_)⟩
    · refine ⟨_, rfl, p, _, 1, _, rfl, rfl, hS, a1, .inl ⟨_, rfl, _, _, rfl, rfl, by show (0 : Int) < 5; decide, _, _, rfl, rfl, q H1 _ sm (by omega) (by omega)⟩⟩
    · refine ⟨_, rfl, p, _, 0, _, rfl, rfl, hS, a0, rfl, _, rfl, ite2 (fun e3 => ?_) (fun e3 => ?_)⟩
      · exact ⟨_, rfl, p, _, 1, _, rfl, rfl, hS, a1, .inl ⟨_, rfl, _, _, rfl, rfl, by show (0 : Int) < 2; decide, q H1 _ sm (by omega) (by omega)⟩⟩
      · exact ⟨_, rfl, p, _, 2, _, rfl, rfl, hS, a2, q H1 _ sm (by omega) (by omega)⟩
end
end Own

namespace Own
open PySem PySem.Spec PyProof.Rows L2
/-- a list of pairs, each a tuple -/
def PairsV (H : Hp) (bs : List Addr) (ps : List (Int × Int)) : Prop := bs.length = ps.length ∧ ∀ (i : Nat) (b : Addr) (p : Int × Int), bs[i]? = some b → ps[i]? = some p → H b = some (.tup [.int p.1, .int p.2])
theorem PairsV.sameT {H H' : Hp} {bs : List Addr} {ps : List (Int × Int)} (s : SameT H H') (h : PairsV H bs ps) : PairsV H' bs ps := ⟨h.1, fun i b p e1 e2 => s _ _ (h.2 i b p e1 e2)⟩
theorem PairsV.snoc {H : Hp} {bs : List Addr} {ps : List (Int × Int)} {b : Addr} {p : Int × Int} (h : PairsV H bs ps) (e : H b = some (.tup [.int p.1, .int p.2])) : PairsV H (bs ++ [b]) (ps ++ [p]) := by
  refine ⟨by rw [List.length_append, List.length_append, h.1]; rfl, fun i c q h1 h2 => ?_⟩
  by_cases hi : i < bs.length
  · rw [List.getElem?_append_left hi] at h1
    rw [List.getElem?_append_left (by rw [← h.1]; exact hi)] at h2
    exact h.2 i c q h1 h2
  · rw [List.getElem?_append_right (by omega)] at h1
    rw [List.getElem?_append_right (by rw [← h.1]; omega), ← h.1] at h2
    have hk : i - bs.length = 0 := by
      cases hk : i - bs.length with
      | zero => rfl
      | succ k =>
        rw [hk] at h1
        simp at h1
    rw [hk] at h1 h2
    obtain rfl : b = c := Option.some.inj h1
    obtain rfl : p = q := Option.some.inj h2
    exact e
theorem PairsV.at_ {H : Hp} {bs : List Addr} {ps : List (Int × Int)} (h : PairsV H bs ps) {b : Addr} (m : b ∈ bs) : ∃ p ∈ ps, H b = some (.tup [.int p.1, .int p.2]) := by
  obtain ⟨i, hi, e⟩ := List.mem_iff_getElem.mp m
  have hp : i < ps.length := by
    rw [← h.1]
    exact hi
  exact ⟨ps[i], List.getElem_mem hp, h.2 i b ps[i] (by rw [List.getElem?_eq_getElem hi, e]) (List.getElem?_eq_getElem hp)⟩
/-- as data -/
def pd (p : Int × Int) : PyData := .tuple [.int p.1, .int p.2]
theorem PairsV.dp {K : PySem.W.Frag} {H : Hp} : ∀ {bs : List Addr} {ps : List (Int × Int)}, PairsV H bs ps → DpAll K H (bs.map V.ref) (ps.map pd)
  | [], [], _ => .nil
  | [], _ :: _, h => by have := h.1; simp at this
  | _ :: _, [], h => by have := h.1; simp at this
  | b :: bs, p :: ps, h => .cons (.tup (.inl (.inl (h.2 0 b p rfl rfl))) (.cons (.int _) (.cons (.int _) .nil))) (PairsV.dp ⟨by have := h.1; simpa using this, fun i c q h1 h2 => h.2 (i + 1) c q h1 h2⟩)
theorem pd_eqv (p q : Int × Int) : PyData.eqv (pd p) (pd q) = decide (p = q) := by
  unfold pd
  simp only [PyData.eqv, PyData.eqvAll, Bool.and_true]
  by_cases h : p = q
  · subst h
    simp
  · rw [decide_eq_false h]
    by_cases h1 : p.1 = q.1
    · have h2 : ¬ p.2 = q.2 := fun z => h (Prod.ext h1 z)
      simp [h1, h2]
    · simp [h1]
theorem any_pd (p : Int × Int) (ps : List (Int × Int)) : ((ps.map pd).any fun z => PyData.eqv z (pd p)) = decide (p ∈ ps) := by
  rw [List.any_map]
  induction ps with
  | nil => rfl
  | cons q r ih =>
    rw [List.any_cons, ih]
    show (PyData.eqv (pd q) (pd p) || decide (p ∈ r)) = _
    rw [pd_eqv]
    by_cases h : q = p
    · subst h
      simp
    · have h2 : ¬ p = q := fun z => h z.symm
      simp [h, h2]
theorem shaped_pd (p : Int × Int) : SeqAt.shaped (pd p) = true := by
  unfold SeqAt.shaped pd
  simp [PyData.canLay0, PyData.canLayAll0, PyData.depth, PyData.depthAll]
theorem lay_pds : ∀ ps : List (Int × Int), PyData.canLayAll0 (ps.map pd) = true ∧ PyData.depthAll (ps.map pd) ≤ 1
  | [] => ⟨rfl, Nat.zero_le _⟩
  | p :: r => by
    obtain ⟨h1, h2⟩ := lay_pds r
    refine ⟨?_, ?_⟩
    · show (PyData.canLay0 (pd p) && PyData.canLayAll0 (r.map pd)) = true
      rw [h1]
      rfl
    · show max (PyData.depth (pd p)) (PyData.depthAll (r.map pd)) ≤ 1
      have : PyData.depth (pd p) = 1 := rfl
      omega
theorem shaped_pds (ps : List (Int × Int)) : SeqAt.shaped (.list (ps.map pd)) = true := by
  obtain ⟨h1, h2⟩ := lay_pds ps
  unfold SeqAt.shaped
  have e1 : PyData.canLay0 (.list (ps.map pd)) = true := h1
  have e2 : PyData.depth (.list (ps.map pd)) ≤ 64 := by
    show PyData.depthAll (ps.map pd) + 1 ≤ 64
    omega
  rw [e1, decide_eq_true e2]
  rfl
section
variable {P : Program} {w : World} {K : PySem.W.Frag} {mg : Str → Option Value} {base : Heap} {C : Addr}
def pos (l : List Tr) : List Tr := l.filter fun t => decide (0 < t.2.2)
theorem pos_snoc (l : List Tr) (t : Tr) : pos (l ++ [t]) = if 0 < t.2.2 then pos l ++ [t] else pos l := by
  unfold pos
  rw [List.filter_append]
  by_cases h : 0 < t.2.2
  · rw [if_pos h, List.filter_cons, if_pos (decide_eq_true h)]
    rfl
  · rw [if_neg h, List.filter_cons, if_neg (by rw [decide_eq_false h]; decide)]
    exact List.append_nil _
theorem pos_all {l : List Tr} (h : ∀ t ∈ l, 1 ≤ t.2.2) : pos l = l := List.filter_eq_self.mpr fun t ht => decide_eq_true (by have := h t ht; omega)
/-- as IsNorm, entries without cords left out -/
structure GN (l r : List Tr) : Prop where
  srt : (r.map pr).Pairwise Lex
  mem : ∀ p, p ∈ r.map pr ↔ p ∈ (pos l).map ky
  cnt : ∀ e ∈ r, e.2.2 = tot (pr e) l
theorem GN.norm {l r : List Tr} (h : GN l r) (v : ∀ t ∈ l, 1 ≤ t.2.2) : IsNorm l r := ⟨h.srt, fun p => by rw [h.mem, pos_all v], h.cnt⟩
def spNorm (K : PySem.W.Frag) : Sp := fun vs H Q _ => ∃ (a : Addr) (xs : List V) (l : List Tr), vs = [.ref a] ∧ SqB K H a xs ∧ TrV H xs l ∧ l.length ≤ 1000 ∧ ∀ H' c r, Same H H' → Trip H' c r → GN l r → Q (.ref c) H'
theorem ok_norm {f : Addr} {fd : FuncData} (F : Fun K "_law_norm" "_law_norm" s__law_norm f fd) (T : Bi mg) : FnOk P w K mg base CX0 1 f fd ["_law_triples"] (spNorm K) := by
  refine F.ok sc__law_norm (fun vs H Q E h => ?_) (fun cdv A outer s H vs Q E hr h => ?_)
  · obtain ⟨a, xs, l, rfl, _⟩ := h
    rfl
  · obtain ⟨a, xs, l, rfl, hB, hx, hl, q⟩ := h
    have hu65 : (A.deeper (envOfC "_law_norm" (defScope s__law_norm) s.heap.objs.size f cdv)).units + 65 < cLine := by
      have := hr.un
      omega
    refine ⟨_, (pss_cons (ps_set (i := 1) sc__law_norm.nd rfl (.inl rfl) (pe_lst pa_nil))
        (pss_cons (ps_for PassesOwn.never rfl (pi_seq (pv 0)) (pg_name (i := 2) sc__law_norm.nd rfl (.inl rfl))
        (pss_cons (ps_set (i := 5) sc__law_norm.nd rfl (.inl rfl) (pe_callB (call_min2 rfl) (by rfl) T.b_min (by decide +kernel) (pa_cons (pe_ix (r := rIxT K) ix_tup (pv 2) pe_int (fun _ _ => rfl)) (pa_cons (pe_ix (r := rIxT K) ix_tup (pv 2) pe_int (fun _ _ => rfl)) pa_nil))))
        (pss_cons (ps_set (i := 6) sc__law_norm.nd rfl (.inl rfl) (pe_callB (call_max2 rfl) (by rfl) T.b_max (by decide +kernel) (pa_cons (pe_ix (r := rIxT K) ix_tup (pv 2) pe_int (fun _ _ => rfl)) (pa_cons (pe_ix (r := rIxT K) ix_tup (pv 2) pe_int (fun _ _ => rfl)) pa_nil))))
        (pss_one (ps_if (PW.pt (pw_and (pt_cmpR op_gt (pe_ix (r := rIxT K) ix_tup (pv 2) pe_int (fun _ _ => rfl)) pe_int (nomark _)) (pw_and1 (pt_cmpR (op_notInD hu65) (pe_tup (pa_cons (pv 5) (pa_cons (pv 6) pa_nil))) (pv 1) (by rfl))))) (pss_one (ps_expr (pe_bm PySem.F.plainAttrs_list PySem.F.slot_list_append PySem.F.type_list_append mt_append (pv 1) (pa_cons (pe_tup (pa_cons (pv 5) (pa_cons (pv 6) pa_nil))) pa_nil)))) pss_nil)))))
        (pss_cons (ps_set (i := 3) sc__law_norm.nd rfl (.inl rfl) (pe_lst pa_nil))
        (pss_cons (ps_for PassesOwn.never rfl (pi_list (pe_callB cr_sortedPO (by rfl) T.b_sorted (by decide +kernel) (pa_cons (pv 1) pa_nil))) (pg_name (i := 4) sc__law_norm.nd rfl (.inl rfl))
        (pss_cons (ps_set (i := 7) sc__law_norm.nd rfl (.inl rfl) pe_int)
        (pss_cons (ps_for PassesOwn.never rfl (pi_seq (pv 0)) (pg_name (i := 2) sc__law_norm.nd rfl (.inl rfl))
        (pss_one (ps_if (PW.pt (pw_and (pt_cmpR op_eq (pe_callB (call_min2 rfl) (by rfl) T.b_min (by decide +kernel) (pa_cons (pe_ix (r := rIxT K) ix_tup (pv 2) pe_int (fun _ _ => rfl)) (pa_cons (pe_ix (r := rIxT K) ix_tup (pv 2) pe_int (fun _ _ => rfl)) pa_nil))) (pe_ix (r := rIxT K) ix_tup (pv 4) pe_int (fun _ _ => rfl)) (nomark _)) (pw_and1 (pt_cmpR op_eq (pe_callB (call_max2 rfl) (by rfl) T.b_max (by decide +kernel) (pa_cons (pe_ix (r := rIxT K) ix_tup (pv 2) pe_int (fun _ _ => rfl)) (pa_cons (pe_ix (r := rIxT K) ix_tup (pv 2) pe_int (fun _ _ => rfl)) pa_nil))) (pe_ix (r := rIxT K) ix_tup (pv 4) pe_int (fun _ _ => rfl)) (nomark _))))) (pss_one (ps_set (i := 7) sc__law_norm.nd rfl (.inl rfl) (pe_op op_add (pv 7) (pe_ix (r := rIxT K) ix_tup (pv 2) pe_int (fun _ _ => rfl))))) pss_nil)))
        (pss_one (ps_expr (pe_bm PySem.F.plainAttrs_list PySem.F.slot_list_append PySem.F.type_list_append mt_append (pv 3) (pa_cons (pe_tup (pa_cons (pe_ix (r := rIxT K) ix_tup (pv 4) pe_int (fun _ _ => rfl)) (pa_cons (pe_ix (r := rIxT K) ix_tup (pv 4) pe_int (fun _ _ => rfl)) (pa_cons (pv 7) pa_nil)))) pa_nil)))))))
        (pss_one (ps_ret (pe_callTy call_tuple_of (by rfl) T.b_tuple (by decide +kernel) (pa_cons (pv 3) pa_nil)))))))), ?_⟩
    refine ⟨Nat.zero_le _, fun p np => ?_⟩
    have sp : Same H (upd H p (.lst [])) := same_upd np
    refine ⟨_, rfl, a, rfl, for_same (Hb := H) hB (fun i σ H' => ∃ (bs : List Addr) (ps : List (Int × Int)) (y2 y5 y6 : Option V), σ = [some (.ref a), some (.ref p), y2, none, none, y5, y6, none] ∧ H' p = some (.lst (bs.map V.ref)) ∧ PairsV H' bs ps ∧ ps.Nodup ∧ (∀ x, x ∈ ps ↔ x ∈ (pos (l.take i)).map ky) ∧ Same H H' ∧ ps.length ≤ i) ⟨[], [], none, none, none, rfl, upd_same, ⟨rfl, fun i b q h => by simp at h⟩, List.nodup_nil, fun x => by simp [pos], sp, Nat.le_refl _⟩ (fun i σ' H' pv => by obtain ⟨_, _, _, _, _, _, _, _, _, _, s, _⟩ := pv; exact s) (fun i x σ H' hxi pv => ?_) (fun σ H' pv => ?_)⟩
    · obtain ⟨bs, ps, y2, y5, y6, rfl, ep, pV, hnd, hmem, sm, hlen⟩ := pv
      obtain ⟨b, t, rfl, hti, hb⟩ := (hx.same sm).at_ hxi
      have hil : i < l.length := (List.getElem?_eq_some_iff.mp hti).1
      have etk : l.take (i + 1) = l.take i ++ [t] := by rw [List.take_add_one, hti]; rfl
      have qb : SqT K H' b (tv t) := .inl (.inl hb)
      have i0 : atI (tv t) 0 = some (.int t.1) := atI_nat (j := 0) rfl
      have i1 : atI (tv t) 1 = some (.int t.2.1) := atI_nat (j := 1) rfl
      have i2 : atI (tv t) 2 = some (.int t.2.2) := atI_nat (j := 2) rfl
      refine ⟨_, rfl, b, _, 0, _, rfl, rfl, qb, i0, _, rfl, b, _, 1, _, rfl, rfl, qb, i1, _, _, rfl, ?_⟩
      refine ⟨_, rfl, b, _, 0, _, rfl, rfl, qb, i0, _, rfl, b, _, 1, _, rfl, rfl, qb, i1, _, _, rfl, ?_⟩
      refine ⟨_, rfl, b, _, 2, _, rfl, rfl, qb, i2, _, _, rfl, rfl, _, rfl, ?_⟩
      by_cases hv : 0 < t.2.2
      · rw [decide_eq_true hv]
        refine ⟨_, rfl, _, rfl, by show 2 ≤ sizeLine; decide, fun u nu => ?_⟩
        have su : Same H' (upd H' u (.tup [.int (lo t.1 t.2.1), .int (hi t.1 t.2.1)])) := same_upd nu
        have pV1 := pV.sameT fun b o h => su _ _ h
        have ep1 := su _ _ ep
        refine ⟨_, rfl, pd (ky t), ps.map pd, .tup (.inl (.inl upd_same)) (.cons (.int _) (.cons (.int _) .nil)), .lst (.inl (.inl ep1)) pV1.dp, shaped_pd _, shaped_pds _, _, rfl, ?_⟩
        rw [any_pd]
        by_cases hk : ky t ∈ ps
        · rw [decide_eq_true hk]
          refine ⟨bs, ps, _, _, _, rfl, ep1, pV1, hnd, fun x => ?_, sm.trans su, by omega⟩
          rw [etk, pos_snoc, if_pos hv, List.map_append, List.mem_append, ← hmem]
          constructor
          · exact .inl
          · rintro (h | h)
            · exact h
            · rw [List.mem_singleton.mp h]
              exact hk
        · rw [decide_eq_false hk]
          refine ⟨_, rfl, .inl ⟨rfl, _, .inl (.inl ep1)⟩, _, rfl, _, rfl, by show 2 ≤ sizeLine; decide, fun v nv => ?_⟩
          have sv := same_upd (o := .tup [.int (lo t.1 t.2.1), .int (hi t.1 t.2.1)]) nv
          have ep2 := sv _ _ ep1
          refine ⟨p, _, _, rfl, rfl, ep2, ?_, ?_⟩
          · rw [List.length_map, pV.1]
            exact small1000 (by omega)
          have nvp : v ≠ p := fun z => by
            rw [z] at nv
            exact nomatch (ep1.symm.trans nv)
          refine ⟨bs ++ [v], ps ++ [ky t], _, _, _, rfl, ?_, ?_, ?_, fun x => ?_, same_put (H1 := H) np ((sm.trans su).trans sv), ?_⟩
          · rw [upd_same, List.map_append]
            rfl
          · refine (pV1.sameT (sameT_put ep1 sv)).snoc ?_
            rw [upd_ne nvp, upd_same]
            rfl
          · exact List.nodup_append.mpr ⟨hnd, by simp, fun x hx2 y hy z => hk (by rw [List.mem_singleton.mp hy] at z; rw [← z]; exact hx2)⟩
          · rw [etk, pos_snoc, if_pos hv, List.map_append, List.mem_append, List.mem_append, ← hmem]
            exact Iff.rfl
          · rw [List.length_append]
            show ps.length + 1 ≤ i + 1
            omega
      · rw [decide_eq_false hv]
        refine ⟨bs, ps, _, _, _, rfl, ep, pV, hnd, fun x => ?_, sm, by omega⟩
        rw [etk, pos_snoc, if_neg hv]
        exact hmem x
    · obtain ⟨bs, ps, y2, y5, y6, rfl, ep, pV, hnd, hmem, sm, hlen⟩ := pv
      rw [hx.1] at hlen
      rw [hx.1, List.take_length] at hmem
      refine ⟨Nat.zero_le _, fun rw_ nrw => ?_⟩
      have s1 : Same H' (upd H' rw_ (.lst [])) := same_upd nrw
      have pV1 := pV.sameT fun b o h => s1 _ _ h
      refine ⟨_, rfl, p, _, kOf (upd H' rw_ (.lst [])), rfl, .inl (.inl (s1 _ _ ep)), fun x hx2 => ?_, fun ys p0 hsrt hstb np0 => ?_⟩
      · obtain ⟨b, hb, rfl⟩ := List.mem_map.mp hx2
        obtain ⟨pp, _, hp⟩ := pV1.at_ hb
        exact ⟨b, rfl, by rw [kOf_at hp]; exact hp⟩
      generalize hH1 : upd H' rw_ (.lst []) = H1 at s1 pV1 hsrt hstb np0
      have erw : H1 rw_ = some (.lst []) := by rw [← hH1]; exact upd_same
      have hks : (bs.map V.ref).map (kOf H1) = ps := by
        apply List.ext_getElem
        · rw [List.length_map, List.length_map]
          exact pV1.1
        · intro j h1 h2
          rw [List.getElem_map, List.getElem_map]
          rw [List.length_map, List.length_map] at h1
          exact kOf_at (pV1.2 j bs[j] ps[j] (List.getElem?_eq_getElem h1) (List.getElem?_eq_getElem h2))
      have hperm : (ys.map (kOf H1)).Perm ps := by
        have := hstb.perm.map (kOf H1)
        rw [hks] at this
        exact this
      have hall : ∀ y ∈ ys, ∃ b, y = .ref b ∧ H1 b = some (.tup [.int (kOf H1 y).1, .int (kOf H1 y).2]) := fun y hy => by
        obtain ⟨b, hb, rfl⟩ := List.mem_map.mp (hstb.perm.mem_iff.mp hy)
        obtain ⟨pp, _, hp⟩ := pV1.at_ hb
        exact ⟨b, rfl, by rw [kOf_at hp]; exact hp⟩
      have hlex : (ys.map (kOf H1)).Pairwise Lex := sorted_lex (hperm.nodup_iff.mpr hnd) (SrtO.srtd_map (lt := SrtO.lexB) (f := kOf H1) hsrt)
      have hN : GN l ((ys.map (kOf H1)).map fun p => (p.1, p.2, tot p l)) := by
        have e1 : (((ys.map (kOf H1)).map fun p => ((p.1, p.2, tot p l) : Tr))).map pr = ys.map (kOf H1) := by
          rw [List.map_map]
          exact List.map_id' _
        refine ⟨by rw [e1]; exact hlex, fun x => by rw [e1, hperm.mem_iff]; exact hmem x, fun e he => ?_⟩
        obtain ⟨x, _, rfl⟩ := List.mem_map.mp he
        rfl
      have hylen : ys.length ≤ 1000 := by
        have h1 := hperm.length_eq
        rw [List.length_map] at h1
        omega
      generalize hr0 : ((ys.map (kOf H1)).map fun p => ((p.1, p.2, tot p l) : Tr)) = r at hN
      have hrl : r.length = ys.length := by rw [← hr0, List.length_map, List.length_map]
      have s0 : Same H1 (upd H1 p0 (.lst ys)) := same_upd np0
      have n0rw : p0 ≠ rw_ := fun z => by
        rw [z, erw] at np0
        cases np0
      have nrwH : H rw_ = none := sm.free nrw
      refine ⟨p0, rfl, ⟨_, .inl (.inl upd_same)⟩, for_list (xs := ys) (fun j σ H2 => ∃ (vs : List V) (y2 y4 y5 y6 y7 : Option V), σ = [some (.ref a), some (.ref p), y2, some (.ref rw_), y4, y5, y6, y7] ∧ Same H H2 ∧ SameT H1 H2 ∧ H2 p0 = some (.lst ys) ∧ H2 rw_ = some (.lst vs) ∧ TrV H2 vs (r.take j)) ⟨[], _, _, _, _, _, rfl, ?_, fun b o h => s0 _ _ h, upd_same, s0 _ _ erw, TrV.nil⟩ (fun j σ H2 _ pv => by obtain ⟨_, _, _, _, _, _, _, _, _, e, _⟩ := pv; exact .inl (.inl e)) (fun j x σ H2 hxj pv => ?_) (fun σ H2 pv => ?_)⟩
      · exact (sm.trans s1).trans s0
      · obtain ⟨vs, y2, y4, y5, y6, y7, rfl, sH, sT, e0, eR, tV⟩ := pv
        obtain ⟨b, rfl, hb⟩ := hall x (List.mem_of_getElem? hxj)
        have hjl : j < ys.length := (List.getElem?_eq_some_iff.mp hxj).1
        generalize hp : kOf H1 (.ref b) = pq at hb
        have hb2 : SqT K H2 b [.int pq.1, .int pq.2] := .inl (.inl (sT _ _ hb))
        have j0 : atI [V.int pq.1, .int pq.2] 0 = some (.int pq.1) := atI_nat (j := 0) rfl
        have j1 : atI [V.int pq.1, .int pq.2] 1 = some (.int pq.2) := atI_nat (j := 1) rfl
        have hrj : r[j]? = some (pq.1, pq.2, tot pq l) := by
          rw [← hr0, List.getElem?_map, List.getElem?_map, hxj, ← hp]
          rfl
        refine ⟨_, rfl, a, rfl, for_same (Hb := H) hB (fun i σ H3 => (∃ y2, σ = [some (.ref a), some (.ref p), y2, some (.ref rw_), some (.ref b), y5, y6, some (.int (tot pq (l.take i)))]) ∧ H3 = H2) ⟨⟨y2, rfl⟩, rfl⟩ (fun i σ' H3 pv => by rw [pv.2]; exact sH) (fun i x σ H3 hxi pv => ?_) (fun σ H3 pv => ?_)⟩
        · obtain ⟨⟨y2, rfl⟩, rfl⟩ := pv
          obtain ⟨u, t, rfl, hti, hu⟩ := (hx.same sH).at_ hxi
          have qb : SqT K H3 u (tv t) := .inl (.inl hu)
          have i0 : atI (tv t) 0 = some (.int t.1) := atI_nat (j := 0) rfl
          have i1 : atI (tv t) 1 = some (.int t.2.1) := atI_nat (j := 1) rfl
          have i2 : atI (tv t) 2 = some (.int t.2.2) := atI_nat (j := 2) rfl
          have et : tot pq (l.take (i + 1)) = tot pq (l.take i) + (if ky t = pq then t.2.2 else 0) := by
            rw [List.take_add_one, hti]
            exact tot_snoc pq (l.take i) t
          refine ⟨_, rfl, u, _, 0, _, rfl, rfl, qb, i0, _, rfl, u, _, 1, _, rfl, rfl, qb, i1, _, _, rfl, ?_⟩
          refine ⟨_, rfl, b, _, 0, _, rfl, rfl, hb2, j0, rfl, _, rfl, ite2 (fun e1 => ?_) (fun e1 => ?_)⟩
          · have f1 : lo t.1 t.2.1 = pq.1 := V.int.inj (of_decide_eq_true e1)
            refine ⟨_, rfl, u, _, 0, _, rfl, rfl, qb, i0, _, rfl, u, _, 1, _, rfl, rfl, qb, i1, _, _, rfl, ?_⟩
            refine ⟨_, rfl, b, _, 1, _, rfl, rfl, hb2, j1, rfl, _, rfl, ite2 (fun e2 => ?_) (fun e2 => ?_)⟩
            · have f2 : hi t.1 t.2.1 = pq.2 := V.int.inj (of_decide_eq_true e2)
              refine ⟨_, rfl, _, rfl, u, _, 2, _, rfl, rfl, qb, i2, _, _, rfl, rfl, ⟨some (.ref u), ?_⟩, rfl⟩
              rw [et, if_pos (show ky t = pq from Prod.ext f1 f2)]
              rfl
            · have f2 : ¬ hi t.1 t.2.1 = pq.2 := fun z => e2 (decide_eq_true (congrArg V.int z))
              refine ⟨⟨some (.ref u), ?_⟩, rfl⟩
              rw [et, if_neg (fun z : ky t = pq => f2 (congrArg Prod.snd z)), Int.add_zero]
              rfl
          · have f1 : ¬ lo t.1 t.2.1 = pq.1 := fun z => e1 (decide_eq_true (congrArg V.int z))
            refine ⟨⟨some (.ref u), ?_⟩, rfl⟩
            rw [et, if_neg (fun z : ky t = pq => f1 (congrArg Prod.fst z)), Int.add_zero]
            rfl
        · obtain ⟨⟨y2, rfl⟩, rfl⟩ := pv
          rw [hx.1, List.take_length]
          refine ⟨_, rfl, .inl ⟨rfl, _, .inl (.inl eR)⟩, _, rfl, b, _, 0, _, rfl, rfl, hb2, j0, _, rfl, b, _, 1, _, rfl, rfl, hb2, j1, _, rfl, by show 3 ≤ sizeLine; decide, fun u nu => ?_⟩
          have su := same_upd (o := .tup [.int pq.1, .int pq.2, .int (tot pq l)]) nu
          refine ⟨rw_, _, _, rfl, rfl, su _ _ eR, ?_, ?_⟩
          · rw [tV.1, List.length_take]
            exact Nat.lt_of_le_of_lt (Nat.min_le_right _ _) (small1000 (by omega))
          have nur : u ≠ rw_ := fun z => by
            rw [z, eR] at nu
            cases nu
          refine ⟨_, _, _, _, _, _, rfl, same_put (H1 := H) nrwH (sH.trans su), fun c o h => ?_, ?_, upd_same, ?_⟩
          · exact sameT_put (H := H3) eR su _ _ (sT _ _ h)
          · rw [upd_ne n0rw]
            exact su _ _ e0
          · rw [List.take_add_one, hrj]
            refine (tV.sameT (sameT_put eR su)).snoc ?_
            rw [upd_ne nur, upd_same]
      · obtain ⟨vs, y2, y4, y5, y6, y7, rfl, sH, sT, e0, eR, tV⟩ := pv
        rw [← hrl, List.take_length] at tV
        refine ⟨_, rfl, rw_, _, rfl, .inl ⟨.inl (.inl eR), fun c nc => ?_⟩⟩
        exact q _ c r (sH.trans (same_upd nc)) ⟨vs, upd_same, tV.same (same_upd nc)⟩ hN
end
end Own

namespace Own
open PySem PySem.Spec PyProof.Rows L2
theorem fmod_lo {y n : Int} (h0 : 0 ≤ y) (h1 : y < n) : y.fmod n = y := by
  rw [Int.fmod_eq_emod_of_nonneg _ (by omega)]
  exact Int.emod_eq_of_lt h0 h1
theorem fmod_hi {y n : Int} (h0 : n ≤ y) (h1 : y < n + n) : y.fmod n = y - n := by
  rw [Int.fmod_eq_emod_of_nonneg _ (by omega), show y = (y - n) + n * 1 by omega, Int.add_mul_emod_self_left, Int.emod_eq_of_lt (by omega) (by omega)]
  omega
theorem fmod_neg {y n : Int} (h0 : -n ≤ y) (h1 : y < 0) : y.fmod n = y + n := by
  rw [Int.fmod_eq_emod_of_nonneg _ (by omega), show y = (y + n) + n * (-1) by omega, Int.add_mul_emod_self_left, Int.emod_eq_of_lt (by omega) (by omega)]
  omega
/-- the numbers of the entries that the test takes -/
def fl (f : Int × Int → Bool) (cs : List Tr) : List Int := (cs.filter fun t => f (pr t)).map fun t => t.2.2
theorem fl_sum (f : Int × Int → Bool) (cs : List Tr) : (fl f cs).sum = bs f cs := by
  unfold fl
  induction cs with
  | nil => rfl
  | cons t r ih =>
    rw [bs, List.filter_cons]
    by_cases h : f (pr t) = true
    · rw [if_pos h, if_pos h, List.map_cons, List.sum_cons, ih]
    · rw [if_neg h, if_neg h, ih]
      omega
theorem fl_snoc (f : Int × Int → Bool) (cs : List Tr) (t : Tr) : fl f (cs ++ [t]) = if f (pr t) = true then fl f cs ++ [t.2.2] else fl f cs := by
  unfold fl
  rw [List.filter_append, List.map_append]
  by_cases h : f (pr t) = true
  · rw [if_pos h, List.filter_cons, if_pos h]
    rfl
  · rw [if_neg h, List.filter_cons, if_neg h]
    exact List.append_nil _
theorem fl_len (f : Int × Int → Bool) (cs : List Tr) : (fl f cs).length ≤ cs.length := by
  unfold fl
  rw [List.length_map]
  exact List.length_filter_le _ _
/-- met on the walk of k steps from gap i -/
def mt (n i : Int) (k : Nat) (x : Int) : Bool := decide (0 < (x - i).fmod n ∧ (x - i).fmod n ≤ (k : Int))
theorem mt_val {n i x : Int} (i0 : 0 ≤ i) (i1 : i < n) (x0 : 0 ≤ x) (x1 : x < n) : (i ≤ x ∧ (x - i).fmod n = x - i) ∨ (x < i ∧ (x - i).fmod n = x - i + n) := by
  by_cases h : i ≤ x
  · exact .inl ⟨h, fmod_lo (by omega) (by omega)⟩
  · exact .inr ⟨by omega, fmod_neg (by omega) (by omega)⟩
theorem mt_step {n i x : Int} {k : Nat} (i0 : 0 ≤ i) (i1 : i < n) (x0 : 0 ≤ x) (x1 : x < n) (hk : (k : Int) + 1 < n) : mt n i (k + 1) x = if x = (i + (1 + (k : Int))).fmod n then true else mt n i k x := by
  have hv := mt_val i0 i1 x0 x1
  have hj : (i + (1 + (k : Int)) < n ∧ (i + (1 + (k : Int))).fmod n = i + (1 + (k : Int))) ∨ (n ≤ i + (1 + (k : Int)) ∧ (i + (1 + (k : Int))).fmod n = i + (1 + (k : Int)) - n) := by
    by_cases h : i + (1 + (k : Int)) < n
    · exact .inl ⟨h, fmod_lo (by omega) h⟩
    · exact .inr ⟨by omega, fmod_hi (by omega) (by omega)⟩
  unfold mt
  by_cases e : x = (i + (1 + (k : Int))).fmod n
  · rw [if_pos e]
    exact decide_eq_true (by omega)
  · rw [if_neg e]
    exact decide_eq_decide.mpr (by omega)
theorem mt_zero (n i x : Int) : mt n i 0 x = false := decide_eq_false (by omega)
theorem mt_all {n i x : Int} (i0 : 0 ≤ i) (i1 : i < n) (x0 : 0 ≤ x) (x1 : x < n) {k : Nat} (hk : (k : Int) + 1 = n) : mt n i k x = decide (x ≠ i) := by
  have hv := mt_val i0 i1 x0 x1
  exact decide_eq_decide.mpr (by omega)
theorem bne_not (p q : Bool) : ((!p) != (!q)) = (p != q) := by
  cases p <;> cases q <;> rfl
/-- the walk parts pins as the gaps do -/
theorem mt_sep {n i a b : Int} {k : Nat} (i0 : 0 ≤ i) (i1 : i < n) (hk : (k : Int) + 1 < n) (a0 : 0 ≤ a) (a1 : a < n) (b0 : 0 ≤ b) (b1 : b < n) :
    (mt n i (k + 1) a != mt n i (k + 1) b) = (sepB i ((i + (1 + (k : Int))).fmod n) a != sepB i ((i + (1 + (k : Int))).fmod n) b) := by
  by_cases h : i + (1 + (k : Int)) < n
  · have ej := fmod_lo (n := n) (show 0 ≤ i + (1 + (k : Int)) by omega) h
    rw [ej]
    have hl := lo_hi i (i + (1 + (k : Int)))
    have e : ∀ x, 0 ≤ x → x < n → mt n i (k + 1) x = sepB i (i + (1 + (k : Int))) x := fun x x0 x1 => by
      have hv := mt_val i0 i1 x0 x1
      exact decide_eq_decide.mpr (by omega)
    rw [e a a0 a1, e b b0 b1]
  · have ej := fmod_hi (n := n) (show n ≤ i + (1 + (k : Int)) by omega) (by omega)
    rw [ej]
    have hl := lo_hi i (i + (1 + (k : Int)) - n)
    have e : ∀ x, 0 ≤ x → x < n → mt n i (k + 1) x = !sepB i (i + (1 + (k : Int)) - n) x := fun x x0 x1 => by
      have hv := mt_val i0 i1 x0 x1
      unfold mt sepB
      rw [← decide_not]
      exact decide_eq_decide.mpr (by omega)
    rw [e a a0 a1, e b b0 b1, bne_not]
/-- a list of truth values -/
def bl (n : Int) (g : Int → Bool) : List V := (List.range n.toNat).map fun j : Nat => V.bl (g (j : Int))
theorem bl_at {n x : Int} (g : Int → Bool) (h0 : 0 ≤ x) (h1 : x < n) : atI (bl n g) x = some (.bl (g x)) := by
  have e : x = ((x.toNat : Nat) : Int) := by omega
  have hx : (bl n g)[x.toNat]? = some (.bl (g x)) := by
    unfold bl
    rw [List.getElem?_map, List.getElem?_range (by omega)]
    show some (V.bl (g ((x.toNat : Nat) : Int))) = _
    rw [← e]
  exact at_of e hx
theorem bl_len (n : Int) (g : Int → Bool) : (bl n g).length = n.toNat := by
  unfold bl
  rw [List.length_map, List.length_range]
theorem bl_ix {n x : Int} (g : Int → Bool) (h0 : 0 ≤ x) (h1 : x < n) : ixN (bl n g).length x = some x.toNat := by
  unfold ixN
  rw [bl_len, if_pos h0, if_pos (by omega)]
theorem bl_congr {n : Int} {g h : Int → Bool} (e : ∀ x, 0 ≤ x → x < n → g x = h x) : bl n g = bl n h := by
  unfold bl
  refine List.map_congr_left fun j hj => ?_
  have := List.mem_range.mp hj
  rw [e (j : Int) (by omega) (by omega)]
theorem bl_set {n x : Int} (g : Int → Bool) (v : Bool) (h0 : 0 ≤ x) (h1 : x < n) : (bl n g).set x.toNat (.bl v) = bl n fun y => if y = x then v else g y := by
  unfold bl
  apply List.ext_getElem
  · rw [List.length_set, List.length_map, List.length_map]
  · intro j hj hj2
    rw [List.length_map, List.length_range] at hj2
    rw [List.getElem_set, List.getElem_map, List.getElem_map, List.getElem_range]
    by_cases e : x.toNat = j
    · rw [if_pos e]
      show V.bl v = V.bl (if ((j : Nat) : Int) = x then v else g j)
      rw [if_pos (by omega)]
    · rw [if_neg e]
      show V.bl (g j) = V.bl (if ((j : Nat) : Int) = x then v else g j)
      rw [if_neg (by omega)]
theorem ne_bl (p q : Bool) : (!decide (V.bl p = V.bl q)) = (p != q) := by
  cases p <;> cases q <;> rfl
/-- as many keys as entries at most -/
theorem nodup_le : ∀ {P L : List (Int × Int)}, P.Nodup → (∀ p ∈ P, p ∈ L) → P.length ≤ L.length
  | [], _, _, _ => Nat.zero_le _
  | p :: P, L, hn, h => by
    have hc := List.nodup_cons.mp hn
    have hp : p ∈ L := h p List.mem_cons_self
    have ih := nodup_le (P := P) (L := L.erase p) hc.2 fun q hq => (List.mem_erase_of_ne (fun z => hc.1 (by rw [← z]; exact hq))).mpr (h q (List.mem_cons_of_mem _ hq))
    rw [List.length_erase_of_mem hp] at ih
    have := List.length_pos_of_mem hp
    rw [List.length_cons]
    omega
theorem IsNorm.len {l r : List Tr} (h : IsNorm l r) : r.length ≤ l.length := by
  have := nodup_le (srt_nodup h.srt) fun p m => (h.mem p).mp m
  rw [List.length_map, List.length_map] at this
  exact this
end Own

/-! An own error class whose __init__ begins with super().__init__(text) and then stores its fields. -/
namespace Own
open PySem PySem.Spec PyProof.Rows L2 NdefX
abbrev supS (p0 p1 p2 p3 p4 : Pos) (e : Expr) (es : List Expr) : Stmt := .Expr (.Call (.Attribute (.Call (.Name "super" p0) [] [] p1) "__init__" p2) (e :: es) [] p3) p4
abbrev supF (name qual : Str) (params : Arguments) (body : List Stmt) (scope : Scope) (cc cda : Addr) : NF := ⟨name, qual, params, body, scope, [("__class__", cc)], cda⟩
section
variable {CX : CXT} {P : Program} {w : World} {K : PySem.W.Frag} {mg : Str → Option Value} {base : Heap} {k : Nat} {f cc cda D : Addr}
/-- what is known of the class, of its cell and of the code -/
structure ErrK (P : Program) (K : PySem.W.Frag) (mg : Str → Option Value) (D cc cda : Addr) : Prop where
  oex : OexC K D
  cell : ∃ cl cld csl, K.lookup cc = some ⟨cl, cld, .cell (some (.ref D)), csl⟩
  code : ∃ ccl cdd vs ccs file tf, K.lookup cda = some ⟨ccl, cdd, .fields vs, ccs⟩ ∧ vs[2]? = some (.str file tf) ∧ ((P.main.file : Str) == file) = true
  sup : PySem.W.ks_superIn K D D "__init__" = some (some (.builtin "ValueError.__init__"))
  ve : PySem.W.subIn K (.ref D) (.type "ValueError") = some true
  self : PySem.W.mroIn K D (.ref D) = some true
  opq : PySem.W.nsIn K cStatics "thirdparty.any" = some none
  mgs : mg "super" = none
  top : (P.main.scope.names.lookup ("super" : Str)).isSome = false
theorem one_look {cc c : Addr} {y : Str} (hy : List.lookup y [(("__class__" : Str), cc)] = some c) : y = "__class__" ∧ c = cc := by
  simp only [List.lookup] at hy
  split at hy
  · rename_i q
    exact ⟨eq_of_beq q, (Option.some.inj hy).symm⟩
  · cases hy
theorem exo_self {H : Hp} {a D : Addr} (e : H a = some (exo a D none)) : upd H a (exo a D none) = H := by
  funext b
  by_cases hb : b = a
  · rw [hb, upd_same, e]
  · rw [upd_ne hb]
theorem fn_err {N ps : List Str} {sp : Sp} {name qual : Str} {params : Arguments} {scope : Scope} {rest : List Stmt} {p0 p1 p2 p3 p4 : Pos} {e : Expr} {es : List Expr} {ar : Arg} {dV kV doc pm ct oc : Value} {an od : Option Addr} {osl : Array (Option Value)} (T : ErrK P K mg D cc cda)
    (lk : K.lookup f = some ⟨oc, od, .func (PySem.W.fnX name qual params (supS p0 p1 p2 p3 p4 e es :: rest) scope [("__class__", cc)] dV kV doc pm an (.ref cda) ct), osl⟩) (hcd : PySem.W.codeIn K (.ref cda) qual = true)
    (S : NScope N ps ["__class__"] scope) (hp : (params.posonlyargs ++ params.args).head? = some ar) (hps : ps[0]? = some ar.arg) (hks : scope.names.lookup ("super" : Str) = some .globalImplicit)
    (len : ∀ vs H Q E, sp vs H Q E → vs.length = ps.length)
    (hbody : ∀ (A : Around) (outer : List Env) (s : Shared) (H : Hp) (vs : List V) (Q : VK) (E : XK), Room k (A.deeper (envF (supF name qual params (supS p0 p1 p2 p3 p4 e es :: rest) scope cc cda) f s.heap.objs.size)) → sp vs H Q E →
      ∃ (a : Addr) (ta : TA) (t : TS), vs[0]? = some (.ref a) ∧ H a = some (exo a D none) ∧
        PA (ncx CX P w K mg base N (supF name qual params (supS p0 p1 p2 p3 p4 e es :: rest) scope cc cda) f A outer s H E) (e :: es) ta ∧
        PSs (ncx CX P w K mg base N (supF name qual params (supS p0 p1 p2 p3 p4 e es :: rest) scope cc cda) f A outer s H E) rest t ∧
        ta (startF N vs [none]) H fun ws H1 => ws.length ≤ 1000 ∧ H1 a = some (exo a D none) ∧ t { nx := fun _ H' => Q .non H', rt := Q } (startF N vs [none]) H1)
    (he : ∀ env : Env, starEach (e :: es) env = (false, eval e env) :: starEach es env := by intro _; rfl) (hpl : ∀ env : Env, (backTo p3 (starEach es env)).any (·.1) = false := by intro _; rfl) {pl : Sem Bool}
    (hev : ∀ env : Env, eval (.Call (.Attribute (.Call (.Name "super" p0) [] [] p1) "__init__" p2) (e :: es) [] p3) env = (do
      let ov ← attributeBase (.Call (.Name "super" p0) [] [] p1) "__init__" env (eval (.Call (.Name "super" p0) [] [] p1) env)
      standAt p2.atName
      let (f, first) ← holding [ov] (getMethod ov "__init__" pl)
      callWith p3 f first (backTo p3 (starEach (e :: es) env)) []) := by intro _; rfl) :
    FnOk P w K mg base CX (k + 1) f (PySem.W.fnX name qual params (supS p0 p1 p2 p3 p4 e es :: rest) scope [("__class__", cc)] dV kV doc pm an (.ref cda) ct) ps sp := by
  refine ⟨len, fun A outer s H args us vs Q E hr e0 hb r hsp => ?_⟩
  have hl := len _ _ _ _ hsp
  have kpb : ∀ b o, base.get? b = some o → s.heap.get? b = some o := fun b o e => (e0.bs b o e).1
  have KX : K.In s.heap := e0.mod.kin.keeps kpb
  have lim : s.heap.NoLimit := e0.mod.nolimit.keeps kpb
  obtain ⟨cl, cld, csl, hcell⟩ := T.cell
  obtain ⟨ccl, cdd, cvs, ccs, file, tf, hcode, hvs, hfile⟩ := T.code
  have hcc : H cc = none := (e0.bs _ _ (e0.mod.kin _ _ hcell)).2
  refine PySem.ks_codeAny_call_defAt (binds := ps.zip us) hr.depth (KX _ _ lk) rfl lim (PySem.W.codeRec_of KX hcd) rfl hb S.nocell (fun ⟨n, _⟩ hy => S.par n (List.of_mem_zip hy).1) (fun h₁ hns kp => ?_) S.co S.gen S.kind
  show PySem.wpAt (model P w) (A.deeper (envF (supF name qual params (supS p0 p1 p2 p3 p4 e es :: rest) scope cc cda) f s.heap.objs.size)) (.func (supS p0 p1 p2 p3 p4 e es :: rest) (envF (supF name qual params (supS p0 p1 p2 p3 p4 e es :: rest) scope cc cda) f s.heap.objs.size)) (execs (supS p0 p1 p2 p3 p4 e es :: rest) (envF (supF name qual params (supS p0 p1 p2 p3 p4 e es :: rest) scope cc cda) f s.heap.objs.size)) _ _ _
  obtain ⟨a, ta, t, ea, eHa, ha, ht, hq⟩ := hbody A outer s H vs Q E (hr.deeper _) hsp
  have C : CellsAt [(("__class__" : Str), cc)] ["__class__"] [none] s.heap H := by
    refine ⟨rfl, fun y c hy => ?_, fun x y c h1 h2 => ?_, fun i y hi => ?_⟩
    · obtain ⟨rfl, rfl⟩ := one_look hy
      exact ⟨hcc, _, ⟨_, KX _ _ hcell, rfl⟩⟩
    · rw [(one_look h1).1, (one_look h2).1]
    · have : y = "__class__" ∧ i = 0 := by
        cases i with
        | zero => exact ⟨(Option.some.inj hi).symm, rfl⟩
        | succ i => simp at hi
      obtain ⟨rfl, rfl⟩ := this
      exact ⟨cc, by simp [List.lookup], fun v hv => by cases hv⟩
  have I := inv_startN (CX := CX) (E := E) (F := supF name qual params (supS p0 p1 p2 p3 p4 e es :: rest) scope cc cda) (f := f) (tk := s.toks + (ps.zip us).length) S hr.hd e0 hl r C hns kp
  have kc : (envF (supF name qual params (supS p0 p1 p2 p3 p4 e es :: rest) scope cc cda) f s.heap.objs.size).kindOf "__class__" = some .free := S.frk _ List.mem_cons_self
  obtain ⟨nm, qq, NN, bs, bm, sn, sub, ab, col, dd, k0, k1, k2, k3, k5, hC, hbm⟩ := T.oex.cls
  have hcl : PySem.W.clsIn K D = some { name := nm, bases := bs, mro := .ref D :: bm, ns := NN, qualname := qq, hasDict := true, slotNames := sn, subclasses := sub, abstract := ab, collection := col, hasDel := false } := by unfold PySem.W.clsIn; rw [hC] <;> rfl
  have K1 : K.In h₁ := KX.keeps kp
  obtain ⟨t1, hoa⟩ := exo_at I.hok eHa
  have hoa : h₁.get? a = some ({ cls := .ref D, dict := none, data := .fields #[.ref t1, .none, .none, .none, .bool false, .none] } : Obj) := hoa
  have IA : PySem.W.InstAt h₁ a { cls := .ref D, dict := none, data := .fields #[.ref t1, .none, .none, .none, .bool false, .none] } D none := ⟨hoa, rfl, rfl, trivial⟩
  have u0 : us[0]? = some (.ref a) := by
    obtain ⟨u, hu, ru⟩ := r.get ea
    rw [hu]
    exact congrArg some ru
  have ndP : ps.Nodup := by
    have q := S.nd.sublist (List.take_sublist (ps.length + (["__class__"] : List Str).length) N)
    rw [S.pre] at q
    exact (List.nodup_append.mp q).1
  have hself : (fun y => (ps.zip us).reverse.lookup y) ar.arg = some (.ref a) := zip_look ndP hps u0
  refine PySem.ks_wpAt_execs_cons (PySem.ks_wpAt_Expr_any (PySem.ks_wpAt_MethodCall (pl := pl) ?_ (hev _)) ?hi)
  case hi =>
    unfold interactive
    simp [S.kind]
  refine PySem.ks_wpAt_super_base hks kc (by decide) rfl (kp _ _ (KX _ _ lk)) rfl hp rfl (kp _ _ (KX _ _ hcode)) rfl hvs hfile T.top ?_
  obtain ⟨mb, b1, b2⟩ := I.mod.blt
  refine PySem.W.ks_loadName_global S.kind hks (Calls.loadGlobal_builtin (show Heap.Ns _ mainGlobals mg from I.mod.glob.keeps I.bk) T.mgs (show Heap.Ns _ builtinsNs mb from b1.keeps I.bk) ((b2 "super" (by decide)).trans PyProof.Rows.Boot.«super») ⟨rfl, ?_⟩)
  refine wpAny_loadName_free S.kind kc rfl ⟨_, kp _ _ (KX _ _ hcell), rfl⟩ ?_
  refine wpAny_loadName_local S.kind (S.par _ (List.mem_of_getElem? hps)) hns hself ?_
  refine PySem.ks_wpAny_isType_cls (K1 _ _ hC) rfl ⟨rfl, ?_⟩
  refine PySem.ks_wpAny_call_super (K1 _ _ hC) rfl hoa rfl (fun c z => nomatch z) (PySem.W.looks_mroIn K1 T.self) (fun h2 e2 kk2 => ?_)
  have K2 : K.In h2 := K1.keeps kk2
  have hm := T.sup
  unfold PySem.W.ks_superIn at hm
  rw [hcl] at hm
  have IA2 : PySem.W.InstAt h2 a { cls := .ref D, dict := none, data := .fields #[.ref t1, .none, .none, .none, .bool false, .none] } D none := ⟨kk2 _ _ hoa, rfl, rfl, trivial⟩
  refine PySem.W.kxs_getMethod PySem.W.kxs_ValueError e2 (PySem.W.looks_opaque K2 T.opq) (l₀ := .ref D :: bm) (fun A Q E s k q => wpAny_bind ((PySem.W.looks_clsIn K2 hcl) A _ E s k (wpAny_pure q))) rfl K2 hm (IA2.type.andThen (PySem.W.looks_subIn K2 T.ve)) (PySem.W.ks_ne K2 IA2 hcl) (by decide) ?_
  have nu : H h2.objs.size = none := (I.kept (h' := h2) (t' := s.toks + (ps.zip us).length) kk2).hok.fresh (Nat.le_refl _)
  have I2 : Inv (ncx CX P w K mg base N (supF name qual params (supS p0 p1 p2 p3 p4 e es :: rest) scope cc cda) f A outer s H E) [] (startF N vs [none]) H { heap := h2, gens := s.gens, drawn := s.drawn, toks := s.toks + (ps.zip us).length, os := s.os } := I.kept kk2
  have hmw : (h2.push (PySem.W.kxs_mw "ValueError.__init__" a)).get? h2.objs.size = some (PySem.W.kxs_mw "ValueError.__init__" a) := Heap.get?_push_at rfl rfl
  have I3 : Inv (ncx CX P w K mg base N (supF name qual params (supS p0 p1 p2 p3 p4 e es :: rest) scope cc cda) f A outer s H E) [] (startF N vs [none]) H { heap := h2.push (PySem.W.kxs_mw "ValueError.__init__" a), gens := s.gens, drawn := s.drawn, toks := s.toks + (ps.zip us).length + 1, os := s.os } := I2.kept fun _ _ z => Heap.get?_push_of_some _ z
  have F2 := I2.fpOk (Nat.le_refl _) nu
  have I4 := I3.pinned (fp := [h2.objs.size]) (fun b hb => by rw [List.mem_singleton.mp hb]; exact F2) (fun b hb => by rw [List.mem_singleton.mp hb]; exact ⟨_, hmw, fun v z => nomatch z⟩)
  show wpAny _ _ (callWith p3 (.ref h2.objs.size) [] (backTo p3 (starEach (e :: es) _)) []) _ _ _
  refine PySem.W.kxs_callWith (i := "ValueError.__init__") (x := a) (by rw [he]; show (false || (backTo p3 (starEach es _)).any (·.1)) = false; rw [hpl]; rfl) ?_
  have run := ha.run p3 _ _ (startF N vs [none]) H _ I4 hq
  rw [he] at run ⊢
  refine Calls.evalArgs_plain (thn run fun ws s5 ⟨zs, H5, I5, r5, lz, e5, q5⟩ => ?_)
  have hu5 : s5.heap.get? h2.objs.size = some (PySem.W.kxs_mw "ValueError.__init__" a) := (I5.pin (h2.objs.size, PySem.W.kxs_mw "ValueError.__init__" a) (List.mem_append_right _ (List.mem_append_right _ (mem_pinsAt List.mem_cons_self hmw)))).1
  refine ⟨hu5, ?_⟩
  obtain ⟨t5, ho5⟩ := exo_at I5.hok e5
  have K5 := I5.kIn
  have lw : ws.length ≤ sizeLine := by
    rw [← Paired.length r5]
    exact Nat.le_of_lt (small1000 lz)
  refine wpAny_call (codeAny_of_tree ?_)
  show wpAny _ _ (callAny (.ref h2.objs.size) ⟨ws, []⟩) _ _ _
  simp only [callAny]
  obtain ⟨hh, g5, d5, tk5, os5⟩ := s5
  refine wpAny_bind (wpAny_load hu5 ?_)
  simp only [PySem.W.kxs_mw, show (Value.type "method-wrapper" == Value.type "method" || Value.type "method-wrapper" == Value.type "builtin_function_or_method" || Value.type "method-wrapper" == Value.type "method-wrapper") = true by decide, if_true]
  refine PySem.W.KFB.if_so (by decide) ?_
  refine wpAny_bind (PySem.W.check_bound_init F.excBase_ValueError.toExcCallFacts (K5 _ _ hC) ho5 rfl ?_)
  refine wpAny_bind (wpAny_pure (wpAny_pure ?_))
  refine ⟨plainId_quiet F.excBase_ValueError.init.plain _, codeAny_builtin F.excBase_ValueError.initEntry ?_⟩
  refine PySem.W.exc_init_tree (cls := .ref D) (t0 := t5) (dv := none) (c2 := .none) (c3 := .none) (b4 := .bool false) ho5 lw (fun h6 k6 e6 _ => ?_)
  have J := I5.write (t' := tk5) (h' := h6) (x := a) (e := a) (o := exo a D none) (by rw [e5]; exact True.intro) (.inl rfl) k6 ⟨_, e6⟩ (exo_ok e6)
  rw [exo_self e5] at J
  have J := J.unpinned
  refine PySem.wpAt_of_wpAny ?_
  refine wpAny_mono (ht.run [] _ (startF N vs [none]) H5 _ J q5) (fun fl s' hs => ?_) fun e s' hs => hs
  have fin : ∀ {σ' : L2.St} {H' : Hp} {v : V} {u : Value}, Inv (ncx CX P w K mg base N (supF name qual params (supS p0 p1 p2 p3 p4 e es :: rest) scope cc cda) f A outer s H E) [] σ' H' s' → L2.RelV v u → Q v H' → CE outer P w H s Q u s' :=
    fun {σ' H' v u} J rv q => ⟨v, H', J.os, J.bare, J.base, J.hok, rv, q⟩
  cases fl with
  | ret u =>
    obtain ⟨v, σ', H', J, rv, q⟩ := hs
    exact fin J rv q
  | next =>
    obtain ⟨σ', H', J, q⟩ := hs
    exact fin (v := V.non) (u := Value.none) J rfl q
  | brk =>
    obtain ⟨_, _, _, q⟩ := hs
    exact False.elim q
  | cont =>
    obtain ⟨_, _, _, q⟩ := hs
    exact False.elim q
end
end Own

/-! The promise of an own error's __init__; raising it. -/
namespace Own
open PySem PySem.Spec PyProof.Rows L2 NdefX
/-- an int that is written in a text -/
def Shw (v : V) : Prop := ∃ i : Int, v = .int i ∧ i.natAbs.log2 < 1000
theorem log_lt {i : Int} {k : Nat} (hk : 0 < k) (h : i.natAbs < 2 ^ k) : i.natAbs.log2 < k := by
  by_cases h0 : i.natAbs = 0
  · rw [h0, Nat.log2_zero]
    exact hk
  · exact (Nat.log2_lt h0).mpr h
theorem Shw.of {i : Int} (h0 : -(2 ^ 64) < i) (h1 : i < 2 ^ 64) : Shw (.int i) := ⟨i, rfl, Nat.lt_of_lt_of_le (log_lt (k := 64) (by decide) (by omega)) (by decide)⟩
theorem txt_len {i : Int} (h : i.natAbs.log2 < 1000) : (Str.ofString (toString i)).length ≤ 1001 := by
  rw [PySem.ofString_length]
  exact int_text_length_le (by decide) h
/-- the error's own dict by its fields -/
def flE (nm : List Str) (ys : List V) : List (Str × V) := (nm.zip ys).reverse
def spErr (D : Addr) (nm : List Str) : Sp := fun vs H Q _ => ∃ (a : Addr) (ys : List V), vs = .ref a :: ys ∧ ys.length = nm.length ∧ (∀ y ∈ ys, Shw y) ∧ H a = some (exo a D none) ∧
  ∀ d H', H d = none → d ≠ a → (∀ b, H' b = if b = d then some (exd d (flE nm ys)) else if b = a then some (exo a D (some d)) else H b) → Q .non H'
/-- what the class must say besides, that its instances can be raised -/
structure ErrT (K : PySem.W.Frag) (mg : Str → Option Value) (x : Str) (D f : Addr) : Prop where
  g : mg x = some (.ref D)
  i : PySem.W.findIn K (.ref D) "__init__" = some (some (.ref f))
  t : PySem.W.typeIn K (.ref f) = some (.type "function")
section
variable {P : Program} {w : World} {K : PySem.W.Frag} {mg : Str → Option Value} {base : Heap} {X : Cx}
/-- the reading of X(..) that is raised -/
theorem rd_err {D : Addr} {nm : List Str} {ys : List V} {H : Hp} {Q : XK} (hl : ys.length = nm.length) (hz : nm.length ≤ 1000) (hs : ∀ y ∈ ys, Shw y) (q : ∀ d, H d = none → Q (.ref D) (some d) (upd H d (.xd (flE nm ys)))) :
    ys.length ≤ 1000 ∧ ∀ a, H a = none → spErr D nm (.ref a :: (ys ++ [])) (upd H a (exo a D none)) (fun v H2 => v = .non ∧ ∃ (d : Addr) (fs : List (Str × V)), H2 a = some (exo a D (some d)) ∧ H2 d = some (exd d fs) ∧ H d = none ∧ Q (.ref D) (some d) (upd (del H2 a) d (.xd fs))) (fun _ _ _ => False) := by
  refine ⟨by omega, fun a na => ⟨a, ys, by rw [List.append_nil], hl, hs, upd_same, fun d H' nd ne h => ⟨rfl, d, flE nm ys, ?_, ?_, ?_, ?_⟩⟩⟩
  · rw [h, if_neg ne.symm, if_pos rfl]
  · rw [h, if_pos rfl]
  · rw [upd_ne ne] at nd
    exact nd
  · have : upd (del H' a) d (.xd (flE nm ys)) = upd H d (.xd (flE nm ys)) := by
      funext b
      by_cases hb : b = d
      · rw [hb, upd_same, upd_same]
      · rw [upd_ne hb, upd_ne hb]
        by_cases ha : b = a
        · rw [ha, del_same, na]
        · rw [del_ne ha, h, if_neg hb, if_neg ha, upd_ne ha]
    rw [this]
    rw [upd_ne ne] at nd
    exact q d nd
/-- raise X(e, ..) -/
theorem ps_err {W : WX} {x : Str} {D f : Addr} {k : Nat} {fd : FuncData} {ps nm : List Str} {e : Expr} {es : List Expr} {ta : TA} {p pos pos' : Pos} (hc : X.calm = true) (tk : Takes X W) (T : OexC X.K D) (R : ErrT X.K X.mg x D f) (F1 : FnOk X.prog X.w X.K X.mg X.base CX0 k f fd ps (spErr D nm)) (hr : Room (k + 1) X.A)
    (hb : Binds X.K fd ps []) (hg : Gl X x) (ha : PA X (e :: es) ta) (hdb : (x == ("__debug__" : Str)) = false := by decide) (he : starEach (e :: es) X.env = (false, eval e X.env) :: starEach es X.env := by rfl) (hpl : (backTo pos (starEach es X.env)).any (·.1) = false := by rfl) :
    PS X (.Raise (some (.Call (.Name x p) (e :: es) [] pos)) none pos') (fun _ σ H => tMkO D (spErr D nm) [] ta σ H fun cls d H' => W cls d σ H') :=
  ps_raise hc tk (pmk_oex T R.i R.t F1 hr hb .nil pass0 hg R.g ha hdb he hpl)
end
/-- the text of an error's __init__ -/
abbrev inErr (st : Stmt) : Stmt := inClass st 0
section
variable {P : Program} {w : World} {K : PySem.W.Frag} {mg : Str → Option Value} {base : Heap} {D cc cda f : Addr}
theorem upd2 {H : Hp} {a d : Addr} {o u : HO} (b : Addr) (ne : d ≠ a) : (upd (upd H d o) a u) b = if b = d then some o else if b = a then some u else H b := by
  by_cases hb : b = d
  · rw [if_pos hb, hb, upd_ne ne, upd_same]
  · rw [if_neg hb]
    by_cases ha : b = a
    · rw [if_pos ha, ha, upd_same]
    · rw [if_neg ha, upd_ne ha, upd_ne hb]
end
end Own

/-! More rules: list.count of data, the operator in by an own class, isinstance of a caught error that has fields. -/
namespace Own
open PySem PySem.Spec PyProof.Rows L2
section
variable {X : Cx}
/-- xs.count(x), items that are plain data: some number -/
def rCntD (K : PySem.W.Frag) : V → List V → Hp → VK → Prop := fun x xs H Q => ∃ (a : Addr) (y : V) (d : PyData) (ds : List PyData), x = V.ref a ∧ xs = [y] ∧ Dp K H (V.ref a) (.list ds) ∧ Dp K H y d ∧ PyData.plainAll ds = true ∧ d.plain = true ∧ d.depth ≤ 60 ∧ ∀ n : Nat, Q (.int (n : Int)) H
theorem mt_lcountD (room : X.A.units + 65 < cLine) : MtR X "list.count" (rCntD X.K) := by
  intro pins s σ H whole args u us Q inv rw_ ra ask
  obtain ⟨a, y, d, ds, rfl, rfl, lis, one, pl, pd, few, q⟩ := ask
  cases rw_
  obtain ⟨w, rfl, rw1⟩ := vals1 ra
  obtain ⟨bs, rd⟩ := Dp.reads inv d y w one rw1
  cases lis with
  | lst seq all =>
    obtain ⟨its, vals, obj, _⟩ := inv.list seq
    obtain ⟨as, rds⟩ := Dp.readsAll inv ds _ its all vals
    refine PySem.SeqAt.count_list_data obj.isList rds rd pl pd (by omega) ?_
    exact ⟨.int (_ : Nat), H, inv.tok _, ⟨_, rfl⟩, q _⟩
/-- x in o, o of an own class with its own rule for it -/
def tOwnIn (C : Addr) (sp : Sp) (E : L2.St → XK) (ta tb : TE) : TE := fun σ H Q => ta σ H fun x H1 => tb σ H1 fun y H2 => ∃ a dx fs, y = .ref a ∧ H2 a = some (.ins C dx fs) ∧ sp [.ref a, x] H2 (fun v H3 => ∃ b, v = .bl b ∧ Q (.bl b) H3) (E σ)
theorem pe_ownIn {CX : CXT} {k : Nat} {C g : Addr} {fd : FuncData} {ps : List Str} {sp : Sp} {E : L2.St → XK} {a b : Expr} {ta tb : TE} {pos : Pos} (hs : PySem.W.findIn X.K (.ref C) "__contains__" = some (some (.ref g))) (hf : PySem.W.isFn X.K (.ref g) = true)
    (F : FnOk X.prog X.w X.K X.mg X.base CX k g fd ps sp) (hr : Room k X.A) (hb : Binds X.K fd ps []) (hx : ∀ σ, PassesAt CX X σ (E σ)) (ha : PE X a ta) (hb' : PE X b tb) (hm : behindInMarks .In b = false := by rfl) : PE X (.Compare a [.In] [b] pos) (tOwnIn C sp E ta tb) := by
  refine ⟨fun pins s σ H Q I h => ?_⟩
  refine wpAny_Compare1 (binT (R := fun x y H2 => ∃ a dx fs, y = .ref a ∧ H2 a = some (.ins C dx fs) ∧ sp [.ref a, x] H2 (fun v H3 => ∃ b, v = .bl b ∧ Q (.bl b) H3) (E σ)) ha hb' I h fun v u s2 x y H2 I2 rx ry q => ?_) hm
  obtain ⟨p, dx, fs, rfl, hp, q⟩ := q
  cases (show u = Value.ref p from ry)
  obtain ⟨mA, O, _, _, _, _⟩ := ins_get I2.hok hp
  obtain ⟨od, J, _⟩ := O.look
  obtain ⟨m, hF⟩ := I2.fr
  refine PySem.W.in_K hF I2.ok.mod.kin J hs hf ?_
  refine wpAny_mono (run_fnS (us := [.ref p, v]) (vs := [.ref p, x]) F hr hb (hx σ) I2 (.cons rfl (.cons rx .nil)) q) (fun w s' z => ?_) fun _ _ x => x
  obtain ⟨z', H', I', rz, b, rfl, qz⟩ := z
  cases rz
  exact wpAny_truthy_bool ⟨.bl b, H', I', rfl, qz⟩
end
end Own
namespace Own
open PySem PySem.Spec PyProof.Rows L2
/-- isinstance(e, c), e the caught error of the class D, its dict at d -/
def rIsD (K : PySem.W.Frag) (D a d : Addr) : List V → Hp → VK → Prop := fun xs H Q => ∃ (c : V) (cv : Value) (b : Bool) (fs : List (Str × V)), xs = [.ref a, c] ∧ H d = some (.xd fs) ∧ (∀ u, RelV c u → u = cv) ∧ PySem.W.kitOne K (.ref D) cv = some b ∧ Q (.bl b) H
theorem call_isD {X : Cx} {a D d : Addr} {oe : Obj} {pn : List (Addr × Obj)} (C : ExcC X.K D) (hz : Zc (.ref D) (some d) oe) (hf : ∃ vs, oe.data = .fields vs) : CallR (X.suite a ((a, oe) :: pn)) (.builtin "isinstance") (rIsD X.K D a d) := by
  intro pins s σ H xs us Q I r h
  obtain ⟨c, cv, b, fs, rfl, hd, hcv, e, q⟩ := h
  cases r with
  | cons rx rr =>
    cases rr with
    | cons rt rr =>
      cases rr
      cases rx
      have ec := hcv _ rt
      subst ec
      obtain ⟨hget, _⟩ := I.pin (a, oe) (List.mem_append.mpr (.inl List.mem_cons_self))
      obtain ⟨vs, hv⟩ := hf
      have hx : ObjOk X.prog X.w H s.heap d (.xd fs) := I.hok d _ hd
      obtain ⟨mA, hns, _⟩ := hx
      obtain ⟨od, ho, _⟩ := lookIn_ns hns
      have J : PySem.W.InstAt s.heap a oe D (some od) := ⟨hget, hz.1, by unfold PySem.W.notCls; rw [hv] <;> rfl, by rw [hz.2]; exact ho⟩
      exact PySem.W.kia_one (PySem.W.kitx_exc (ox := oe) (od := some od) (by obtain ⟨cd, hc, _⟩ := PySem.W.any_some C.hd; rw [hc]; rfl) C.hg C.hk C.hs C.ha C.hn C.ht C.hm) I.kIn J e (fun z => nomatch z) fun tk => ⟨.bl b, H, I.kept (t' := tk) fun _ _ z => z, rfl, q⟩
end Own

/-! Own errors raised where nothing is handled (their context is None), so that defs may be called where they are caught. -/
namespace Own
open PySem PySem.Spec PyProof.Rows L2 NdefX
section
variable {X : Cx} {pins : List (Addr × Obj)} {σ : L2.St} {H : Hp} {s : Shared} {Q : XK} {D f : Addr} {k : Nat} {fd : FuncData} {ps nm : List Str} {ys : List V} {us : List Value} {x : Str}
/-- the call of the class -/
theorem err_made (T : OexC X.K D) (R : ErrT X.K X.mg x D f) (F1 : FnOk X.prog X.w X.K X.mg X.base CX0 k f fd ps (spErr D nm)) (hr : Room (k + 1) X.A) (hb : Binds X.K fd ps []) (I : Inv X pins σ H s) (r : Vals ys us) (hl : ys.length = nm.length) (hz : nm.length ≤ 1000)
    (hs : ∀ y ∈ ys, Shw y) (q : ∀ d, H d = none → Q (.ref D) (some d) (upd H d (.xd (flE nm ys)))) : wpAny (model X.prog X.w) X.A (call (.ref D) us) (L2N.MkP X pins σ Q) X.xe s := by
  obtain ⟨nn, qq, N, bs, bm, sn, sub, ab, col, dd, k0, k1, k2, k3, k5, hC, hbm⟩ := T.cls
  obtain ⟨hp, g, dr, tk, os⟩ := s
  -- where the error comes to stand
  have far : hp.objs.size ≤ hp.objs.size + 1 := Nat.le_succ _
  have free : H (hp.objs.size + 1) = none := I.hok.fresh far
  obtain ⟨_, ask⟩ := rd_err (D := D) hl hz hs q
  have ask := ask _ free
  rw [List.append_nil] at ask
  have old : ∀ b o, hp.get? b = some o → ((hp.push (PySem.W.kdv_tup us)).push (PySem.HandSPX.excO D hp.objs.size)).get? b = some o := fun b o e => Heap.get?_push_of_some _ (Heap.get?_push_of_some _ e)
  have here : ((hp.push (PySem.W.kdv_tup us)).push (PySem.HandSPX.excO D hp.objs.size)).get? (hp.objs.size + 1) = some (PySem.HandSPX.excO D hp.objs.size) := by heap_get
  have J : Inv X pins σ (upd H (hp.objs.size + 1) (exo (hp.objs.size + 1) D none)) ⟨(hp.push (PySem.W.kdv_tup us)).push (PySem.HandSPX.excO D hp.objs.size), g, dr, tk, os⟩ := I.laid (t' := tk) (a := hp.objs.size + 1) (o := exo (hp.objs.size + 1) D none) old far (exo_ok here)
  have vals : Vals (V.ref (hp.objs.size + 1) :: ys) (Value.ref (hp.objs.size + 1) :: us) := .cons rfl r
  have len : (Value.ref (hp.objs.size + 1) :: us).length = ps.length := by
    rw [← vals.length]
    exact F1.len _ _ _ _ ask
  have few : us.length ≤ sizeLine := by
    rw [← Paired.length r, hl]
    exact Nat.le_trans hz (by decide)
  have bind := hb _ (Value.ref (hp.objs.size + 1) :: us) J.kIn (by rw [List.append_nil]; exact len)
  rw [List.append_nil] at bind
  have run := F1.run _ X.stack _ _ ⟨Value.ref (hp.objs.size + 1) :: us, []⟩ _ _ _ (fun _ _ _ => False) (hr.make D us []) (J.env0.make D us []) bind vals ask
  refine wpAny_call (PySem.HandSPX.call_own F.excBase_ValueError (fun Y => PySem.HandSPX.refsVE_contains Y bm hbm) (I.kIn _ _ hC) (PySem.W.looks_findIn I.kIn R.i) (fun self => PySem.W.bind_fn I.kIn self R.t) few (codeAny_mono run fun res s' back => ?_))
  cases res with
  | error er => exact back.elim
  | ok fl =>
    cases fl with
    | ret u =>
      obtain ⟨v, H2, os2, bare2, un2, hok2, rv, ev, d, fs, ea, ed, hd1, q2⟩ := back
      subst ev
      obtain ⟨h2, g2, d2, t2, os'⟩ := s'
      obtain ⟨t0, G, K1, kG, ge, hoe, na⟩ := mk_end0 (d2 := d2) (t2 := t2) I far old un2 hok2 os2 bare2 ea ed hd1
      exact ⟨rv, hp.objs.size + 1, _, _, ⟨G, g2, d2, t2, os'⟩, _, .ref D, some d, rfl, K1, kG, ge, hoe, ⟨rfl, rfl, fun vs e => by cases e; rfl⟩, rfl, rfl, na, rfl, bare2, raises_own T.exC T.tyC, q2⟩
    | next => exact back.elim
    | brk => exact back.elim
    | cont => exact back.elim
end
/-- raise X(e, ..): the fields are shown -/
def tErr (D : Addr) (nm : List Str) (ta : TA) : L2.St → Hp → XK → Prop := fun σ H Q => ta σ H fun ys H1 => ys.length = nm.length ∧ nm.length ≤ 1000 ∧ (∀ y ∈ ys, Shw y) ∧ ∀ d, H1 d = none → Q (.ref D) (some d) (upd H1 d (.xd (flE nm ys)))
section
variable {X : Cx} {W : WX} {x : Str} {D f : Addr} {k : Nat} {fd : FuncData} {ps nm : List Str} {e : Expr} {es : List Expr} {ta : TA} {p pos pos' : Pos}
theorem pmk_err (T : OexC X.K D) (R : ErrT X.K X.mg x D f) (F1 : FnOk X.prog X.w X.K X.mg X.base CX0 k f fd ps (spErr D nm)) (hr : Room (k + 1) X.A) (hb : Binds X.K fd ps []) (hg : Gl X x) (ha : PA X (e :: es) ta)
    (hdb : (x == ("__debug__" : Str)) = false := by decide)
    (he : starEach (e :: es) X.env = (false, eval e X.env) :: starEach es X.env := by rfl)
    (hpl : (backTo pos (starEach es X.env)).any (·.1) = false := by rfl) :
    L2N.PMk X (.Call (.Name x p) (e :: es) [] pos) (tErr D nm ta) := by
  intro pins s σ H Q I h
  refine wpAny_Call_Name_kw (ld_glob I hg R.g ?_ hdb)
  refine PySem.W.callWith_K (h₀ := X.base) I.ok.mod.kin T.kC (thn (ha.run pos pins s σ H _ I h) fun us s1 ⟨ys, H1, I1, r, hl, hz, hs, q⟩ => ⟨I1.kIn, ?_⟩) he hpl
  exact err_made T R F1 hr hb I1 r hl hz hs q
theorem ps_errN (hc : X.calm = true) (tk : L2N.Takes X W) (T : OexC X.K D) (R : ErrT X.K X.mg x D f) (F1 : FnOk X.prog X.w X.K X.mg X.base CX0 k f fd ps (spErr D nm)) (hr : Room (k + 1) X.A) (hb : Binds X.K fd ps []) (hg : Gl X x) (ha : PA X (e :: es) ta)
    (hdb : (x == ("__debug__" : Str)) = false := by decide)
    (he : starEach (e :: es) X.env = (false, eval e X.env) :: starEach es X.env := by rfl)
    (hpl : (backTo pos (starEach es X.env)).any (·.1) = false := by rfl) :
    PS X (.Raise (some (.Call (.Name x p) (e :: es) [] pos)) none pos') (fun _ σ H => tErr D nm ta σ H fun cls d H' => W cls d σ H') :=
  L2N.ps_raise hc tk (pmk_err T R F1 hr hb hg ha hdb he hpl)
/-- nothing is let out -/
theorem passN : Passes (L2N.CX X.prog X.w) X E0 := fun _ _ _ _ _ _ _ ⟨_, _, _, _, _, _, _, _, _, _, _, _, z⟩ => z.elim
theorem takesN : L2N.Takes X (fun _ _ _ _ => False) := fun _ _ ⟨_, _, _, _, _, _, _, _, _, _, _, _, _, _, _, _, z⟩ => z.elim
theorem pass0A {σ : L2.St} : PassesAt CX0 X σ E0 := fun pins H s e s' I h => pass0 pins σ H s e s' I h
end
section
variable {P : Program} {w : World} {K : PySem.W.Frag} {mg : Str → Option Value} {base : Heap}
/-- a def that may raise, by its body -/
theorem okN {x qual : Str} {st : Stmt} {f : Addr} {fd : FuncData} {N ps : List Str} {k : Nat} {sp : Sp} (F : Fun K x qual st f fd) (S : FnScope N ps (defScope st)) (len : ∀ vs H Q E, sp vs H Q E → vs.length = ps.length)
    (hbody : ∀ (cdv : Value) (A : Around) (outer : List Env) (s : Shared) (H : Hp) (vs : List V) (Q : VK) (E : XK), Room k (A.deeper (envOfC qual (defScope st) s.heap.objs.size f cdv)) → sp vs H Q E →
      ∃ t, PSs (cxOf (L2N.CX P w) P w K mg base N qual (defScope st) f cdv A outer s H E) (defBody st) t ∧ t { nx := fun _ H' => Q .non H', rt := Q } (start N vs) H) : FnOk P w K mg base (L2N.CX P w) (k + 1) f fd ps sp := by
  obtain ⟨_, _, _, _, _, _, cdv, _, _, rfl, lk, hcd⟩ := F.ex
  exact fn_of lk hcd S len (hbody cdv)
/-- a def called where an error is handled, by its body; it raises nothing -/
theorem okH {x qual : Str} {st : Stmt} {f : Addr} {fd : FuncData} {N ps : List Str} {k : Nat} {sp : Sp} (F : Fun K x qual st f fd) (S : FnScope N ps (defScope st)) (len : ∀ vs H Q E, sp vs H Q E → vs.length = ps.length)
    (hbody : ∀ (cdv : Value) (A : Around) (outer : List Env) (s : Shared) (H : Hp) (vs : List V) (Q : VK) (E : XK) (p : Addr × Obj), L2H.HotC (L2H.cxH CX0 P w K mg base N qual (defScope st) f cdv A outer s H E p).nox → L2H.RoomH k (A.deeper (envOfC qual (defScope st) s.heap.objs.size f cdv)) → sp vs H Q E →
      ∃ t, PSs (L2H.cxH CX0 P w K mg base N qual (defScope st) f cdv A outer s H E p).nox (defBody st) t ∧ t { nx := fun _ H' => Q .non H', rt := Q } (start N vs) H) : L2H.FnH P w K mg base CX0 (k + 1) f fd ps sp := by
  obtain ⟨_, _, _, _, _, _, cdv, _, _, rfl, lk, hcd⟩ := F.ex
  refine L2H.fn_ofH lk hcd S len fun A outer s H vs Q E p hot hr h => ?_
  obtain ⟨t, ht, q⟩ := hbody cdv A outer s H vs Q E p ⟨p, hot, List.mem_cons_self⟩ hr h
  exact ⟨t, ht.nox, q⟩
end
/-- isinstance(e, c), e the caught error -/
def rIsX (K : PySem.W.Frag) (D a : Addr) (cls : Value) (d : Option Addr) : List V → Hp → VK → Prop := fun xs H Q => cls = .ref D ∧ ∃ (dd : Addr) (c : V) (cv : Value) (b : Bool) (fs : List (Str × V)), d = some dd ∧ xs = [.ref a, c] ∧ H dd = some (.xd fs) ∧ (∀ u, RelV c u → u = cv) ∧ PySem.W.kitOne K (.ref D) cv = some b ∧ Q (.bl b) H
theorem call_isX {X : Cx} {a D : Addr} {oe : Obj} {cls : Value} {d : Option Addr} {pn : List (Addr × Obj)} (C : ExcC X.K D) (hz : Zc cls d oe) (hf : ∃ vs, oe.data = .fields vs) : CallR (X.suite a ((a, oe) :: pn)) (.builtin "isinstance") (rIsX X.K D a cls d) := by
  intro pins s σ H xs us Q I r h
  obtain ⟨ec, dd, c, cv, b, fs, ed, ex, hd, hcv, e, q⟩ := h
  subst ec ed
  exact call_isD C hz hf pins s σ H xs us Q I r ⟨c, cv, b, fs, ex, hd, hcv, e, q⟩
/-- the suite's context bears the handled error -/
theorem hotS {X : Cx} {a : Addr} {oe : Obj} {cls : Value} {d : Option Addr} {pn : List (Addr × Obj)} (hz : L2N.Zn cls d oe) (hf : ∃ vs, oe.data = .fields vs) : L2H.HotC (X.suite a ((a, oe) :: pn)) := by
  obtain ⟨vs, e⟩ := hf
  exact ⟨(a, oe), ⟨rfl, vs, e, hz.2.2 vs e⟩, List.mem_cons_self⟩
end Own

/-! What a value looks like in an error's text, whatever is under way: some text of bounded length. -/
namespace Own
open PySem PySem.Spec PyProof.Rows L2
section
variable {prog : Program} {w : World} {A : Around} {E : Value → Shared → Prop} {s : Shared} {a : Addr} {oa : Obj} {x : Value} {l : List Value} {na : Nat} {ts : List Str}
/-- repr of a list of plain things -/
theorem shown_list {Q : Value → Shared → Prop} (hTy : s.TypeIs (.ref a) "list") (ha : s.heap.get? a = some oa) (hda : oa.data = .seq (x :: l).toArray na) (hlen : ts.length = (x :: l).toArray.size)
    (hT : ∀ (i : Nat) (y : Value), (x :: l).toArray[i]? = some y → ∃ t, ts[i]? = some t ∧ ReprIs prog w y t) (hsz : (listText ts).length ≤ sizeLine)
    (hQ : ∀ h' m u tk, (∀ b o, s.heap.get? b = some o → h'.get? b = some o) → m.length ≤ (listText ts).length + 5 → Q (.str m u) { s with heap := h', toks := tk }) : wpAny (model prog w) A (call (.builtin "list.__repr__") [.ref a]) Q E s := by
  refine wpAny_call (codeAny_call_builtin F.slot_list_repr.plain F.entry_list_repr (F.slot_list_repr.check _ _ _ _ _ _ _ _ hTy (F.args_list_repr_1 _) ?_))
  show wpAny _ _ (Builtin.listReprAt 0 ⟨[.ref a], []⟩) _ _ s
  unfold Builtin.listReprAt
  refine wpAny_bind (wpAny_of_eq (a := ((Value.ref a : Value), ([] : List Value))) (by first | rfl | (simp only [slotArgs]; rfl)) ?_)
  refine wpAny_bind (wpAny_listItems ha hda ?_)
  rw [if_neg (by simp)]
  refine wpAny_bind (wpAny_stack_any fun st => ?_)
  generalize (st.tail.any fun x => match x with
    | (.builtin "list.__repr__.loop" ⟨v :: _, _⟩, _) => Builtin.List.listSameRef v (.ref a)
    | _ => false) = running
  show wpAny _ _ (if running = true then _ else _) _ _ _
  cases running with
  | true =>
    refine PySem.W.KFB.if_so rfl ?_
    refine wpAny_bind (wpAny_rule ?_)
    refine wpAny_bind (wpAny_mkStr (wpAny_pure ?_) (by decide +kernel))
    exact hQ s.heap _ _ _ (fun _ _ e => e) (Nat.le_trans (show ("[...]" : Str).length ≤ 5 by decide +kernel) (Nat.le_add_left _ _))
  | false =>
    refine PySem.W.KFB.if_not rfl ?_
    refine wpAny_bind (m := newList []) (wpAny_newObj_type ?_)
    refine wpAny_pure ⟨F.quiet_list_repr_loop _, ?_⟩
    refine codeAny_list_repr_start (P := s.heap.objs.size) (b := 0) (Nat.ne_of_lt (Heap.lt_size ha)) hlen hT (Heap.get?_push_of_some _ ha) hda (Heap.get?_push_size _ rfl) (fun h' u tk hk => ?_) (by omega)
    exact hQ h' _ u tk (fun b o e => hk b o (Nat.ne_of_lt (Heap.lt_size e)) (Heap.get?_push_of_some _ e)) (Nat.le_add_right _ _)
/-- .. as an object's text -/
theorem obj_list {Q : Value → Shared → Prop} (hu : A.units < cLine) (hTy : s.TypeIs (.ref a) "list") (ha : s.heap.get? a = some oa) (hda : oa.data = .seq (x :: l).toArray na) (hlen : ts.length = (x :: l).toArray.size)
    (hT : ∀ (i : Nat) (y : Value), (x :: l).toArray[i]? = some y → ∃ t, ts[i]? = some t ∧ ReprIs prog w y t) (hsz : (listText ts).length ≤ sizeLine)
    (hQ : ∀ h' m u tk, (∀ b o, s.heap.get? b = some o → h'.get? b = some o) → m.length ≤ (listText ts).length + 5 → Q (.str m u) { s with heap := h', toks := tk }) : wpAny (model prog w) A (pyReprObj (.ref a)) Q E s :=
  wpAny_pyReprObj_slot hu hTy F.slot_list_repr.toG (shown_list hTy ha hda hlen hT hsz fun h' m u tk k hm => ⟨m, u, rfl, hQ h' m u tk k hm⟩)
theorem obj_tuple {Q : Value → Shared → Prop} (hu : A.units < cLine) (ha : s.heap.get? a = some oa) (hc : oa.cls = .type "tuple") (hda : oa.data = .seq (x :: l).toArray na) (hT : ReprAll prog w (x :: l) ts) (hsz : (tupleText ts).length ≤ sizeLine)
    (hQ : ∀ m u tk, m.length ≤ (tupleText ts).length + 5 → Q (.str m u) { s with toks := tk }) : wpAny (model prog w) A (pyReprObj (.ref a)) Q E s :=
  wpAny_pyReprObj_slot hu ⟨oa, ha, hc⟩ F.slot_tuple_repr (fmt_tuple_repr ha hc hda hT hsz fun m u tk hm => ⟨m, u, rfl, hQ m u tk hm⟩)
end
/-- what can be written in an error's text -/
def ShoV (K : PySem.W.Frag) (H : Hp) (v : V) : Prop :=
  (∃ i : Int, v = .int i ∧ i.natAbs.log2 < 1000) ∨ (∃ b : Bool, v = .bl b) ∨ v = .non ∨ (∃ y : Str, v = .str y ∧ (reprText y).length ≤ 1000) ∨
  (∃ (p : Addr) (i : Int), v = .ref p ∧ (SqL K H p [.int i] ∨ SqT K H p [.int i]) ∧ i.natAbs.log2 < 1000)
section
variable {X : Cx}
/-- {x!r}: some text -/
def tFmtS (K : PySem.W.Frag) (te : TE) : TE := fun σ H Q => te σ H fun x H1 => ShoV K H1 x ∧ ∀ y : Str, y.length ≤ 2000 → Q (.str y) H1
theorem len_list1 (t : Str) : (listText [t]).length ≤ t.length + 2 := by
  show ((((("[" : Str) ++ (("" : String) : Str)) ++ t) ++ ("]" : Str)) : Str).length ≤ _
  rw [strLen_append, strLen_append, strLen_append]
  have h1 : ("[" : Str).length = 1 := by decide +kernel
  have h2 : ("]" : Str).length = 1 := by decide +kernel
  have h3 : ((("" : String) : Str)).length = 0 := by decide +kernel
  omega
theorem len_tuple1 (t : Str) : (tupleText [t]).length ≤ t.length + 3 := by
  show (((("(" : Str) ++ Str.join ", " [t]) ++ ((",)" : String) : Str)) : Str).length ≤ _
  rw [strLen_append, strLen_append]
  have h1 : ("(" : Str).length = 1 := by decide +kernel
  have h2 : ((",)" : String) : Str).length = 2 := by decide +kernel
  have h3 := join_length_add [t] (by simp)
  have h4 : piled [t] = t.length + 2 := by simp [piled]
  omega
theorem pe_fmtS {k : Nat} {e : Expr} {te : TE} {pos : Pos} (room : Room k X.A) (he : PE X e te) : PE X (.FormattedValue e 114 none pos) (tFmtS X.K te) := by
  refine ⟨fun pins s σ H Q inv ask => ?_⟩
  refine wpAny_FormattedValue_repr (thn (he.run pins s σ H _ inv ask) fun v s1 hv => ?_)
  obtain ⟨x, H1, I1, r1, sho, q⟩ := hv
  have room0 := room.units0
  have put : ∀ (m : Str) (t : Tok) (s2 : Shared), m.length ≤ 2000 → Inv X pins σ H1 s2 → wpAny (model X.prog X.w) X.A (formatField (.str m t) Str.empty) (EP X pins σ Q) X.xe s2 := fun m t s2 hm J =>
    wpAny_formatField_str ⟨.str m, H1, J, ⟨_, rfl⟩, q m hm⟩ ⟨.str m, H1, J.tok _, ⟨_, rfl⟩, q m hm⟩ (Nat.le_trans hm (by decide))
  rcases sho with ⟨i, rfl, hi⟩ | ⟨b, rfl⟩ | rfl | ⟨y, rfl, hy⟩ | ⟨p, i, rfl, hp, hi⟩
  · obtain ⟨t, rfl⟩ := r1
    exact pyReprObj_int (by omega) (put _ _ _ (Nat.le_trans (txt_len hi) (by decide)) (I1.tok _))
  · cases (show v = Value.bool b from r1)
    exact pyReprObj_bool (put _ _ _ (by cases b <;> decide +kernel) (I1.tok _))
  · cases (show v = Value.none from r1)
    exact pyReprObj_none (put _ _ _ (by decide +kernel) (I1.tok _))
  · obtain ⟨t, rfl⟩ := r1
    exact pyReprObj_str (put _ _ _ (by omega) (I1.tok _)) (Nat.le_trans hy (by decide))
  · cases (show v = Value.ref p from r1)
    have hl := txt_len hi
    rcases hp with hp | hp
    · obtain ⟨its, rv, obj, _⟩ := I1.list hp
      obtain ⟨u, rfl, t, rfl⟩ := vals1 rv
      obtain ⟨⟨oc, od, dt, sl⟩, ho, hc, n, hd⟩ := obj.isList
      have h2 := len_list1 (Str.ofString (toString i))
      refine obj_list (ts := [Str.ofString (toString i)]) room0 ⟨_, ho, hc⟩ ho hd rfl (fun j y hj => ?_) (Nat.le_trans (show _ ≤ 1100 by omega) (by decide)) fun h' m u tk kp hm => put m u _ (by omega) (I1.kept (t' := tk) kp)
      match j, hj with
      | 0, hj =>
        cases hj
        exact ⟨_, rfl, ReprIs.int t (by omega)⟩
    · obtain ⟨its, rv, ⟨o, ho, hc, n, hd⟩, _⟩ := I1.tuple hp
      obtain ⟨u, rfl, t, rfl⟩ := vals1 rv
      have h2 := len_tuple1 (Str.ofString (toString i))
      exact obj_tuple (ts := [Str.ofString (toString i)]) room0 ho hc hd (.cons (ReprIs.int t (by omega)) .nil) (Nat.le_trans (show _ ≤ 1100 by omega) (by decide)) fun m u tk hm => put m u _ (by omega) (I1.tok _)
end
end Own

/-! Own errors whose fields are values of many kinds. -/
namespace Own
open PySem PySem.Spec PyProof.Rows L2 NdefX
theorem ShoV.keep {K : PySem.W.Frag} {H H' : Hp} {v : V} (s : ∀ b o, H b = some o → H' b = some o) (h : ShoV K H v) : ShoV K H' v := by
  rcases h with h | h | h | h | ⟨p, i, rfl, h, hi⟩
  · exact .inl h
  · exact .inr (.inl h)
  · exact .inr (.inr (.inl h))
  · exact .inr (.inr (.inr (.inl h)))
  · refine .inr (.inr (.inr (.inr ⟨p, i, rfl, ?_, hi⟩)))
    rcases h with ((h | ⟨o, h⟩) | h) | ((h | ⟨o, h⟩) | h)
    · exact .inl (.inl (.inl (s _ _ h)))
    · exact .inl (.inl (.inr ⟨o, s _ _ h⟩))
    · exact .inl (.inr h)
    · exact .inr (.inl (.inl (s _ _ h)))
    · exact .inr (.inl (.inr ⟨o, s _ _ h⟩))
    · exact .inr (.inr h)
theorem ShoV.int {K : PySem.W.Frag} {H : Hp} {i : Int} (h0 : -(2 ^ 64) < i) (h1 : i < 2 ^ 64) : ShoV K H (.int i) := by
  obtain ⟨j, e, h⟩ := Shw.of h0 h1
  cases e
  exact .inl ⟨i, rfl, h⟩
theorem ShoV.bl {K : PySem.W.Frag} {H : Hp} (b : Bool) : ShoV K H (.bl b) := .inr (.inl ⟨b, rfl⟩)
theorem ShoV.non {K : PySem.W.Frag} {H : Hp} : ShoV K H .non := .inr (.inr (.inl rfl))
/-- the promise of its __init__ -/
def spErrV (K : PySem.W.Frag) (D : Addr) (nm : List Str) : Sp := fun vs H Q _ => ∃ (a : Addr) (ys : List V), vs = .ref a :: ys ∧ ys.length = nm.length ∧ (∀ y ∈ ys, ShoV K H y) ∧ H a = some (exo a D none) ∧
  ∀ d H', H d = none → d ≠ a → (∀ b, H' b = if b = d then some (exd d (flE nm ys)) else if b = a then some (exo a D (some d)) else H b) → Q .non H'
section
variable {X : Cx} {pins : List (Addr × Obj)} {σ : L2.St} {H : Hp} {s : Shared} {Q : XK} {D f : Addr} {k : Nat} {fd : FuncData} {ps nm : List Str} {ys : List V} {us : List Value} {x : Str}
/-- what is asked of the class when it is called -/
theorem ask_err {K : PySem.W.Frag} (hl : ys.length = nm.length) (hs : ∀ y ∈ ys, ShoV K H y) (q : ∀ d, H d = none → Q (.ref D) (some d) (upd H d (.xd (flE nm ys)))) {a : Addr} (na : H a = none) :
    spErrV K D nm (.ref a :: ys) (upd H a (exo a D none)) (fun v H2 => v = .non ∧ ∃ (d : Addr) (fs : List (Str × V)), H2 a = some (exo a D (some d)) ∧ H2 d = some (exd d fs) ∧ H d = none ∧ Q (.ref D) (some d) (upd (del H2 a) d (.xd fs))) (fun _ _ _ => False) := by
  refine ⟨a, ys, rfl, hl, fun y hy => (hs y hy).keep fun b o e => ?_, upd_same, fun d H' nd ne h => ⟨rfl, d, flE nm ys, ?_, ?_, ?_, ?_⟩⟩
  · by_cases hb : b = a
    · rw [hb, na] at e
      cases e
    · rw [upd_ne hb]
      exact e
  · rw [h, if_neg ne.symm, if_pos rfl]
  · rw [h, if_pos rfl]
  · rw [upd_ne ne] at nd
    exact nd
  · have : upd (del H' a) d (.xd (flE nm ys)) = upd H d (.xd (flE nm ys)) := by
      funext b
      by_cases hb : b = d
      · rw [hb, upd_same, upd_same]
      · rw [upd_ne hb, upd_ne hb]
        by_cases ha : b = a
        · rw [ha, del_same, na]
        · rw [del_ne ha, h, if_neg hb, if_neg ha, upd_ne ha]
    rw [this]
    rw [upd_ne ne] at nd
    exact q d nd
/-- the call of the class -/
theorem err_madeV (T : OexC X.K D) (R : ErrT X.K X.mg x D f) (F1 : FnOk X.prog X.w X.K X.mg X.base CX0 k f fd ps (spErrV X.K D nm)) (hr : Room (k + 1) X.A) (hb : Binds X.K fd ps []) (I : Inv X pins σ H s) (r : Vals ys us) (hl : ys.length = nm.length) (hz : nm.length ≤ 1000)
    (hs : ∀ y ∈ ys, ShoV X.K H y) (q : ∀ d, H d = none → Q (.ref D) (some d) (upd H d (.xd (flE nm ys)))) : wpAny (model X.prog X.w) X.A (call (.ref D) us) (L2N.MkP X pins σ Q) X.xe s := by
  obtain ⟨nn, qq, N, bs, bm, sn, sub, ab, col, dd, k0, k1, k2, k3, k5, hC, hbm⟩ := T.cls
  obtain ⟨hp, g, dr, tk, os⟩ := s
  have far : hp.objs.size ≤ hp.objs.size + 1 := Nat.le_succ _
  have free : H (hp.objs.size + 1) = none := I.hok.fresh far
  have ask := ask_err (D := D) hl hs q free
  have old : ∀ b o, hp.get? b = some o → ((hp.push (PySem.W.kdv_tup us)).push (PySem.HandSPX.excO D hp.objs.size)).get? b = some o := fun b o e => Heap.get?_push_of_some _ (Heap.get?_push_of_some _ e)
  have here : ((hp.push (PySem.W.kdv_tup us)).push (PySem.HandSPX.excO D hp.objs.size)).get? (hp.objs.size + 1) = some (PySem.HandSPX.excO D hp.objs.size) := by heap_get
  have J : Inv X pins σ (upd H (hp.objs.size + 1) (exo (hp.objs.size + 1) D none)) ⟨(hp.push (PySem.W.kdv_tup us)).push (PySem.HandSPX.excO D hp.objs.size), g, dr, tk, os⟩ := I.laid (t' := tk) (a := hp.objs.size + 1) (o := exo (hp.objs.size + 1) D none) old far (exo_ok here)
  have vals : Vals (V.ref (hp.objs.size + 1) :: ys) (Value.ref (hp.objs.size + 1) :: us) := .cons rfl r
  have len : (Value.ref (hp.objs.size + 1) :: us).length = ps.length := by
    rw [← vals.length]
    exact F1.len _ _ _ _ ask
  have few : us.length ≤ sizeLine := by
    rw [← Paired.length r, hl]
    exact Nat.le_trans hz (by decide)
  have bind := hb _ (Value.ref (hp.objs.size + 1) :: us) J.kIn (by rw [List.append_nil]; exact len)
  rw [List.append_nil] at bind
  have run := F1.run _ X.stack _ _ ⟨Value.ref (hp.objs.size + 1) :: us, []⟩ _ _ _ (fun _ _ _ => False) (hr.make D us []) (J.env0.make D us []) bind vals ask
  refine wpAny_call (PySem.HandSPX.call_own F.excBase_ValueError (fun Y => PySem.HandSPX.refsVE_contains Y bm hbm) (I.kIn _ _ hC) (PySem.W.looks_findIn I.kIn R.i) (fun self => PySem.W.bind_fn I.kIn self R.t) few (codeAny_mono run fun res s' back => ?_))
  cases res with
  | error er => exact back.elim
  | ok fl =>
    cases fl with
    | ret u =>
      obtain ⟨v, H2, os2, bare2, un2, hok2, rv, ev, d, fs, ea, ed, hd1, q2⟩ := back
      subst ev
      obtain ⟨h2, g2, d2, t2, os'⟩ := s'
      obtain ⟨t0, G, K1, kG, ge, hoe, na⟩ := mk_end0 (d2 := d2) (t2 := t2) I far old un2 hok2 os2 bare2 ea ed hd1
      exact ⟨rv, hp.objs.size + 1, _, _, ⟨G, g2, d2, t2, os'⟩, _, .ref D, some d, rfl, K1, kG, ge, hoe, ⟨rfl, rfl, fun vs e => by cases e; rfl⟩, rfl, rfl, na, rfl, bare2, raises_own T.exC T.tyC, q2⟩
    | next => exact back.elim
    | brk => exact back.elim
    | cont => exact back.elim
end
/-- raise X(e, ..) -/
def tErrV (K : PySem.W.Frag) (D : Addr) (nm : List Str) (ta : TA) : L2.St → Hp → XK → Prop := fun σ H Q => ta σ H fun ys H1 => ys.length = nm.length ∧ nm.length ≤ 1000 ∧ (∀ y ∈ ys, ShoV K H1 y) ∧ ∀ d, H1 d = none → Q (.ref D) (some d) (upd H1 d (.xd (flE nm ys)))
section
variable {X : Cx} {W : WX} {x : Str} {D f : Addr} {k : Nat} {fd : FuncData} {ps nm : List Str} {e : Expr} {es : List Expr} {ta : TA} {p pos pos' : Pos}
theorem ps_errV (hc : X.calm = true) (tk : L2N.Takes X W) (T : OexC X.K D) (R : ErrT X.K X.mg x D f) (F1 : FnOk X.prog X.w X.K X.mg X.base CX0 k f fd ps (spErrV X.K D nm)) (hr : Room (k + 1) X.A) (hb : Binds X.K fd ps []) (hg : Gl X x) (ha : PA X (e :: es) ta)
    (hdb : (x == ("__debug__" : Str)) = false := by decide)
    (he : starEach (e :: es) X.env = (false, eval e X.env) :: starEach es X.env := by rfl)
    (hpl : (backTo pos (starEach es X.env)).any (·.1) = false := by rfl) :
    PS X (.Raise (some (.Call (.Name x p) (e :: es) [] pos)) none pos') (fun _ σ H => tErrV X.K D nm ta σ H fun cls d H' => W cls d σ H') := by
  refine L2N.ps_raise hc tk fun pins s σ H Q I h => ?_
  refine wpAny_Call_Name_kw (ld_glob I hg R.g ?_ hdb)
  refine PySem.W.callWith_K (h₀ := X.base) I.ok.mod.kin T.kC (thn (ha.run pos pins s σ H _ I h) fun us s1 ⟨ys, H1, I1, r, hl, hz, hs, q⟩ => ⟨I1.kIn, ?_⟩) he hpl
  exact err_madeV T R F1 hr hb I1 r hl hz hs q
end
end Own

/-! What any plain value looks like in an error's text: lists, tuples and dicts within one another, whatever is under way. -/
namespace Own
open PySem PySem.Spec PyProof.Rows L2
def pil (Bs : List Nat) : Nat := (Bs.map fun b => b + 2).sum
theorem pil_cons (b : Nat) (Bs : List Nat) : pil (b :: Bs) = (b + 2) + pil Bs := by simp [pil]
theorem pil_drop {Bs : List Nat} {i b : Nat} (h : Bs[i]? = some b) : pil (Bs.drop i) = (b + 2) + pil (Bs.drop (i + 1)) := by
  obtain ⟨hi, e⟩ := List.getElem?_eq_some_iff.mp h
  rw [List.drop_eq_getElem_cons hi, pil_cons, e]
theorem listText_le (ts : List Str) : (listText ts).length ≤ piled ts + 2 := by
  have e : (listText ts).length = (textFrom 0 "[" ts).length + 1 := by
    show (textFrom 0 "[" ts ++ "]").length = _
    rw [strLen_append]
    rfl
  rw [e]
  cases ts with
  | nil => decide +kernel
  | cons t r =>
    show (textFrom 1 _ r).length + 1 ≤ _
    rw [textFrom_length_pos r 1 _ (by decide), strLen_append, strLen_append, piled_cons]
    have h1 : ("[" : Str).length = 1 := by decide +kernel
    have h2 : ((if 0 > 0 then ", " else "" : String) : Str).length = 0 := by decide +kernel
    omega
theorem tupleText_le (ts : List Str) : (tupleText ts).length ≤ piled ts + 3 := by
  unfold tupleText
  rw [strLen_append, strLen_append]
  have e1 : ((("(" : String) : Str)).length = 1 := rfl
  have e3 : (((if ts.length == 1 then ",)" else ")" : String) : Str)).length ≤ 2 := by split <;> decide +kernel
  rw [e1]
  by_cases h : ts = []
  · subst h
    have : (Str.join ", " []).length = 0 := by decide +kernel
    omega
  · have := join_length_add ts h
    omega
/-- some text, at most so long -/
def ReprS (prog : Program) (w : World) (h₀ : Heap) (d B : Nat) (x : Value) : Prop :=
  ∀ (base : Nat), base + B ≤ sizeLine → ∀ (A : Around) (E : Value → Shared → Prop) (s : Shared) (Q : Str → Shared → Prop), A.units + d < cLine → (∀ b o, h₀.get? b = some o → s.heap.get? b = some o) →
    (∀ t h' tk, t.length ≤ B → (∀ b o, s.heap.get? b = some o → h'.get? b = some o) → Q t { s with heap := h', toks := tk }) → wpAny (model prog w) A (pyReprUnder base x) Q E s
theorem ReprS.of_is {prog : Program} {w : World} {h₀ : Heap} {d B : Nat} {x : Value} {t : Str} (h : ReprIs prog w x t) (hB : t.length ≤ B) : ReprS prog w h₀ d B x :=
  fun base hb A E s Q _ _ hQ => h base (by omega) A E s Q fun tk => hQ t s.heap tk hB fun _ _ e => e
theorem ReprS.le {prog : Program} {w : World} {h₀ : Heap} {d d' B B' : Nat} {x : Value} (h : ReprS prog w h₀ d B x) (hd : d ≤ d') (hB : B ≤ B') : ReprS prog w h₀ d' B' x :=
  fun base hb A E s Q hu hk hQ => h base (by omega) A E s Q (by omega) hk fun t h' tk ht => hQ t h' tk (Nat.le_trans ht hB)
section
variable {prog : Program} {w : World} {A : Around} {R : Result → Shared → Prop}
theorem loopS {a P : Addr} (hne : a ≠ P) {items : Array Value} {Bs : List Nat} {h₀ : Heap} {d M : Nat} (hu : A.units + (d + 1) < cLine) (hPf : h₀.get? P = none) (hlen : Bs.length = items.size) (hsz : items.size ≤ sizeLine) (hM : M ≤ sizeLine)
    (hT : ∀ (i : Nat) (x : Value), items[i]? = some x → ∃ B, Bs[i]? = some B ∧ ReprS prog w h₀ d B x) :
    ∀ (k i : Nat) (s : Shared) (oa : Obj) (na : Nat) (acc : Array Value) (c : Nat) (done : List (Str × Tok)) (n : Nat), items.size - i = k → i ≤ items.size → (∀ b o, h₀.get? b = some o → s.heap.get? b = some o) →
    s.heap.get? a = some oa → oa.data = .seq items na →
    s.heap.get? P = some { cls := .type "list", dict := none, data := .seq acc c, slots := #[] } → acc.toList = strValues done → done.length = i → n + pil (Bs.drop i) + 1 ≤ sizeLine → piled (done.map (·.1)) + pil (Bs.drop i) + 2 ≤ M →
    (∀ t h' u tk, t.length ≤ M → (∀ b o, b ≠ P → s.heap.get? b = some o → h'.get? b = some o) → R (.ok (.ret (.str t u))) { s with heap := h', toks := tk }) →
    codeAny (model prog w) A (.builtin "list.__repr__.loop" ⟨[.ref a, rawInt i, .ref P, rawInt (n : Int)], []⟩) R s := by
  intro k
  induction k with
  | zero =>
    intro i s oa na acc c done n hk hi hk0 ha hda hP hacc hdone hn hp hR
    have hin : i = items.size := by omega
    refine codeAny_builtin F.entry_list_repr_loop ?_
    show wpAny _ _ (Builtin.«list.__repr__.loop» ⟨[.ref a, .int i 0, .ref P, .int (n : Int) 0], []⟩) _ _ s
    rw [repr_loop_tree]
    refine wpAny_bind (wpAny_listItems ha hda ?_)
    have hnone : items[(i : Int).toNat]? = none := by simp [hin]
    simp only [hnone]
    unfold reprEnd
    refine wpAny_bind (wpAny_listItems hP rfl ?_)
    rw [hacc, repr_fold]
    refine wpAny_bind (wpAny_pure ?_)
    have hl := listText_le (done.map (·.1))
    refine wpAny_bind (wpAny_mkStr (wpAny_pure ?_) (show (listText (done.map (·.1))).length ≤ sizeLine by omega))
    exact hR (listText (done.map (·.1))) s.heap _ _ (by omega) (fun _ _ _ e => e)
  | succ k ih =>
    intro i s oa na acc c done n hk hi hk0 ha hda hP hacc hdone hn hp hR
    have hlt : i < items.size := by omega
    obtain ⟨B, hB, hrep⟩ := hT i items[i] (by simp [hlt])
    have hp1 := pil_drop hB
    refine codeAny_builtin F.entry_list_repr_loop ?_
    show wpAny _ _ (Builtin.«list.__repr__.loop» ⟨[.ref a, .int i 0, .ref P, .int (n : Int) 0], []⟩) _ _ s
    rw [repr_loop_tree]
    refine wpAny_bind (wpAny_listItems ha hda ?_)
    have hsome : items[(i : Int).toNat]? = some items[i] := by simp [hlt]
    simp only [hsome]
    rw [Int.toNat_natCast]
    refine wpAny_bind (wpAny_holding (hrep (n + 1) (by omega) _ _ _ _ (by rw [units_under_list_loop]; omega) hk0 fun t h' tk ht hkp => ?_))
    refine wpAny_bind (wpAny_mkStr ?_ (show t.length ≤ sizeLine by omega))
    refine wpAny_bind ?_
    show wpAny _ _ (updateSeq P _) _ _ _
    have hasz : acc.size ≤ sizeLine := by
      have e1 : acc.toList.length = acc.size := by simp
      have e2 : (strValues done).length = done.length := by simp [strValues]
      rw [hacc] at e1
      omega
    refine wpAny_updateSeq (hkp _ _ hP) rfl (wpAny_pure ⟨F.quiet_list_repr_loop _, ?_⟩) hasz
    have e1 : ((i : Int) + 1) = ((i + 1 : Nat) : Int) := by omega
    rw [e1]
    have e3 : piled ((done ++ [(t, tk)]).map (·.1)) = piled (done.map (·.1)) + (t.length + 2) := by
      rw [List.map_append, piled_append]
      simp [piled]
    refine ih (i + 1) _ oa na (acc.push (.str t tk)) _ (done ++ [(t, tk)]) (n + (t.length + 2)) (by omega) hlt (fun b o e => (Heap.get?_update_other _ _ (fun h : P = b => by rw [← h, hPf] at e; cases e)).trans (hkp _ _ (hk0 _ _ e))) ((Heap.get?_update_other _ _ (fun h : P = a => hne h.symm)).trans (hkp _ _ ha)) hda (Heap.get?_update_self _ (hkp _ _ hP) rfl) (by simp [hacc, strValues]) (by rw [List.length_append, hdone]; rfl) (by omega) (by rw [e3]; omega) fun u' h'' u tk' hl hh => ?_
    exact hR u' h'' u tk' hl fun b o hb e => hh b o hb ((Heap.get?_update_other _ _ (fun h : P = b => hb h.symm)).trans (hkp _ _ e))
theorem list_atS {h₀ : Heap} {d M : Nat} {a : Addr} {oa : Obj} {x : Value} {l : List Value} {na : Nat} {Bs : List Nat} (ha : h₀.get? a = some oa) (hda : oa.data = .seq (x :: l).toArray na) (hlen : Bs.length = (x :: l).toArray.size) (hsz : (x :: l).toArray.size ≤ sizeLine)
    (hT : ∀ (i : Nat) (y : Value), (x :: l).toArray[i]? = some y → ∃ B, Bs[i]? = some B ∧ ReprS prog w h₀ d B y) {s : Shared} {base : Nat} (hu : A.units + (d + 1) < cLine) (hk0 : ∀ b o, h₀.get? b = some o → s.heap.get? b = some o) (hM : M ≤ sizeLine) (hp : pil Bs + 5 ≤ M) (hb : base + M ≤ sizeLine)
    (hR : ∀ t h' u tk, t.length ≤ M → (∀ b o, s.heap.get? b = some o → h'.get? b = some o) → R (.ok (.ret (.str t u))) { s with heap := h', toks := tk }) :
    wpAny (model prog w) A.in1 (Builtin.listReprAt base ⟨[.ref a], []⟩) (fun fin s' => match fin with | .done f => R (.ok f) s' | .again c' => c'.quiet = true ∧ codeAny (model prog w) A c' R s') (fun e s' => R (.error e) s') s := by
  have ha' := hk0 _ _ ha
  have hPf : h₀.get? s.heap.objs.size = none := by
    cases e : h₀.get? s.heap.objs.size with
    | none => rfl
    | some o => exact absurd (Heap.lt_size (hk0 _ _ e)) (Nat.lt_irrefl _)
  unfold Builtin.listReprAt
  refine wpAny_bind (wpAny_of_eq (a := ((Value.ref a : Value), ([] : List Value))) (by first | rfl | (simp only [slotArgs]; rfl)) ?_)
  refine wpAny_bind (wpAny_listItems ha' hda ?_)
  rw [if_neg (by simp)]
  refine wpAny_bind (wpAny_stack_any fun st => ?_)
  generalize (st.tail.any fun x => match x with
    | (.builtin "list.__repr__.loop" ⟨v :: _, _⟩, _) => Builtin.List.listSameRef v (.ref a)
    | _ => false) = running
  show wpAny _ _ (if running = true then _ else _) _ _ _
  cases running with
  | true =>
    refine PySem.W.KFB.if_so rfl ?_
    refine wpAny_bind (wpAny_rule ?_)
    refine wpAny_bind (wpAny_mkStr (wpAny_pure ?_) (by decide +kernel))
    exact hR _ s.heap _ _ (Nat.le_trans (show ("[...]" : Str).length ≤ 5 by decide +kernel) (by omega)) (fun _ _ e => e)
  | false =>
    refine PySem.W.KFB.if_not rfl ?_
    refine wpAny_bind (m := newList []) (wpAny_newObj_type ?_)
    refine wpAny_pure ⟨F.quiet_list_repr_loop _, ?_⟩
    refine loopS (P := s.heap.objs.size) (M := M) (Nat.ne_of_lt (Heap.lt_size ha')) hu hPf hlen hsz hM hT _ 0 _ oa na #[] _ [] base rfl (Nat.zero_le _) (fun b o e => Heap.get?_push_of_some _ (hk0 _ _ e)) (Heap.get?_push_of_some _ ha') hda (Heap.get?_push_size _ rfl) rfl rfl (by rw [List.drop_zero]; omega) (by rw [List.drop_zero]; show 0 + _ + 2 ≤ M; omega) fun t h' u tk ht hk => ?_
    exact hR t h' u tk ht fun b o e => hk b o (Nat.ne_of_lt (Heap.lt_size e)) (Heap.get?_push_of_some _ e)
end
end Own

namespace Own
open PySem PySem.Spec PyProof.Rows L2
inductive AllS (prog : Program) (w : World) (h₀ : Heap) (d : Nat) : List Value → List Nat → Prop
  | nil : AllS prog w h₀ d [] []
  | cons {x : Value} {B : Nat} {l : List Value} {Bs : List Nat} : ReprS prog w h₀ d B x → AllS prog w h₀ d l Bs → AllS prog w h₀ d (x :: l) (B :: Bs)
theorem AllS.len {prog : Program} {w : World} {h₀ : Heap} {d : Nat} : ∀ {l : List Value} {Bs : List Nat}, AllS prog w h₀ d l Bs → Bs.length = l.length
  | _, _, .nil => rfl
  | _, _, .cons _ h => by simp [h.len]
theorem AllS.at_ {prog : Program} {w : World} {h₀ : Heap} {d : Nat} : ∀ {l : List Value} {Bs : List Nat}, AllS prog w h₀ d l Bs → ∀ (i : Nat) (x : Value), l[i]? = some x → ∃ B, Bs[i]? = some B ∧ ReprS prog w h₀ d B x
  | _, _, .nil, _, _, e => by simp at e
  | _, _, .cons h _, 0, _, e => by
    simp at e
    subst e
    exact ⟨_, rfl, h⟩
  | _, _, .cons _ h, i + 1, x, e => by
    obtain ⟨B, e1, r⟩ := h.at_ i x (by simpa using e)
    exact ⟨B, by simpa using e1, r⟩
section
variable {prog : Program} {w : World} {A : Around} {E : Value → Shared → Prop}
theorem foldS {h₀ : Heap} {d : Nat} (hu : A.units + d < cLine) : ∀ (l : List Value) (Bs : List Nat) (acc : Array Str) (n : Nat) (s : Shared) (Q : (Array Str × Nat) → Shared → Prop), AllS prog w h₀ d l Bs → n + pil Bs + 1 ≤ sizeLine →
    (∀ b o, h₀.get? b = some o → s.heap.get? b = some o) → (∀ ts h' tk m, ts.length = l.length → piled ts ≤ pil Bs → (∀ b o, s.heap.get? b = some o → h'.get? b = some o) → Q ⟨acc ++ ts.toArray, m⟩ { s with heap := h', toks := tk }) →
    wpAny (model prog w) A (forIn l (⟨acc, n⟩ : (Array Str × Nat)) tupBody) Q E s := by
  intro l
  induction l with
  | nil =>
    intro Bs acc n s Q hT _ _ h
    cases hT
    have h0 := h [] s.heap s.toks n rfl (Nat.le_refl _) fun _ _ e => e
    simp only [List.forIn_nil]
    exact wpAny_pure (by simpa using h0)
  | cons x l ih =>
    intro Bs acc n s Q hT hn hk0 h
    cases hT with
    | cons hx hl =>
      rename_i B Bs'
      rw [pil_cons] at hn
      rw [List.forIn_cons]
      refine wpAny_bind (wpAny_bind (hx (n + 1) (by omega) _ _ _ _ hu hk0 fun t h' tk ht hkp => wpAny_pure ?_))
      refine ih Bs' (acc.push t) (n + (t.length + 2)) _ Q hl (by omega) (fun b o e => hkp _ _ (hk0 _ _ e)) fun ts h'' tk' m hlen hp hk2 => ?_
      have h1 := h (t :: ts) h'' tk' m (by simp [hlen]) (by rw [piled_cons, pil_cons]; omega) fun b o e => hk2 _ _ (hkp _ _ e)
      simpa using h1
theorem tup_atS {h₀ : Heap} {d M : Nat} {a : Addr} {o : Obj} {items : Array Value} {n : Nat} {Bs : List Nat} {s : Shared} {Qf : Fin → Shared → Prop} {base : Nat} (ha : h₀.get? a = some o) (hd : o.data = .seq items n) (hT : AllS prog w h₀ d items.toList Bs)
    (hu : A.units + d < cLine) (hk0 : ∀ b o, h₀.get? b = some o → s.heap.get? b = some o) (hM : M ≤ sizeLine) (hp : pil Bs + 5 ≤ M) (hb : base + M ≤ sizeLine)
    (hR : ∀ t h' u tk, t.length ≤ M → (∀ b o, s.heap.get? b = some o → h'.get? b = some o) → Qf (.done (.ret (.str t u))) { s with heap := h', toks := tk }) :
    wpAny (model prog w) A (Builtin.tupleReprAt base ⟨[.ref a], []⟩) Qf E s := by
  rw [tuple_repr_tree]
  refine wpAny_bind (fmt_underWay fun b => ?_)
  cases b with
  | true =>
    refine PySem.W.KFB.if_so rfl ?_
    refine wpAny_bind (wpAny_rule ?_)
    refine wpAny_bind (wpAny_mkStr (wpAny_pure ?_) (by decide +kernel))
    exact hR "(...)" s.heap _ _ (Nat.le_trans fmt_way (by omega)) fun _ _ e => e
  | false =>
    refine PySem.W.KFB.if_not rfl ?_
    unfold tupleReprRest Builtin.Tuple.tupleItemsOf
    refine wpAny_bind (wpAny_bind (wpAny_seqItems (hk0 _ _ ha) hd (wpAny_pure ?_)))
    rw [← Array.forIn_toList]
    refine wpAny_bind (foldS hu _ Bs _ _ _ _ hT (by omega) hk0 fun ts h' tk m hlen hpl hkp => ?_)
    have hl := tupleText_le ts
    have e : ts.length = items.size := by simpa using hlen
    have hl2 : (tupleText ts).length ≤ sizeLine := by omega
    refine wpAny_bind (wpAny_mkStr (wpAny_pure ?_) (by simpa [tupleText, e] using hl2))
    have h1 := hR (tupleText ts) h' tk (tk + 1) (by omega) hkp
    simpa [tupleText, e] using h1
end
section
variable {prog : Program} {w : World}
theorem ReprS.list {h₀ : Heap} {d M : Nat} {a : Addr} {oa : Obj} {l : List Value} {na : Nat} {Bs : List Nat} (ha : h₀.get? a = some oa) (hc : oa.cls = .type "list") (hda : oa.data = .seq l.toArray na) (hsz : l.length ≤ 1000)
    (hT : AllS prog w h₀ d l Bs) (hp : pil Bs + 5 ≤ M) : ReprS prog w h₀ (d + 1) M (.ref a) := by
  intro base hb A E s Q hu hk0 hQ
  cases l with
  | nil => exact wpAny_pyReprUnder_ref (by omega) (wpAny_pyReprObjUnder_list_empty ⟨oa, hk0 _ _ ha, hc⟩ (by omega) (hk0 _ _ ha) hda ⟨_, _, rfl, hQ _ s.heap _ (Nat.le_trans (show ("[]" : Str).length ≤ 5 by decide +kernel) (by omega)) fun _ _ e => e⟩)
  | cons x l =>
    refine wpAny_pyReprUnder_ref (by omega) (wpAny_pyReprObjUnder_twin (twin := "list.__repr__.under") ⟨oa, hk0 _ _ ha, hc⟩ F.slot_list_repr.toG rfl (by omega) ?_)
    refine call_twin_plain F.plain_list_repr_under F.entry_list_repr_under F.check_list_repr_under ⟨oa, hk0 _ _ ha, hc⟩ F.slot_list_repr.toG (F.args_list_repr_1 _) ?_
    refine list_atS (M := M) (R := callEnd _ E) ha hda (by simpa using hT.len) (Nat.le_trans (show (x :: l).toArray.size ≤ 1000 by simpa using hsz) (by decide)) (fun i y e => hT.at_ i y (by simpa using e)) hu hk0 (by omega) hp hb fun t h' u tk ht hk => ⟨⟨_, _, rfl⟩, _, _, rfl, hQ t h' tk ht hk⟩
theorem ReprS.tuple {h₀ : Heap} {d M : Nat} {a : Addr} {oa : Obj} {items : Array Value} {na : Nat} {Bs : List Nat} (ha : h₀.get? a = some oa) (hc : oa.cls = .type "tuple") (hda : oa.data = .seq items na)
    (hT : AllS prog w h₀ d items.toList Bs) (hp : pil Bs + 5 ≤ M) : ReprS prog w h₀ (d + 1) M (.ref a) := by
  intro base hb A E s Q hu hk0 hQ
  refine wpAny_pyReprUnder_ref (by omega) (wpAny_pyReprObjUnder_twin (twin := "tuple.__repr__.under") ⟨oa, hk0 _ _ ha, hc⟩ F.slot_tuple_repr rfl (by omega) ?_)
  refine call_twin_own (F.quiet_tuple_repr_under _) F.entry_tuple_repr_under F.check_tuple_repr_under ⟨oa, hk0 _ _ ha, hc⟩ F.slot_tuple_repr (F.args_tuple_repr_1 _) (wpOwn_of_wpAny ?_)
  refine tup_atS (A := A.under (.builtin "tuple.__repr__.under" ⟨[.ref a, rawInt base], []⟩)) (M := M) ha hda hT (by rw [units_under_tuple_repr_under]; omega) hk0 (by omega) hp hb fun t h' u tk ht hk => ⟨⟨_, _, rfl⟩, _, _, rfl, hQ t h' tk ht hk⟩
end
end Own

namespace Own
open PySem PySem.Spec PyProof.Rows L2
inductive EntS (prog : Program) (w : World) (h₀ : Heap) (d : Nat) : List DictEntry → List Nat → Prop
  | nil : EntS prog w h₀ d [] []
  | cons {e : DictEntry} {B C : Nat} {es : List DictEntry} {Bs : List Nat} : ReprS prog w h₀ d B e.key → ReprS prog w h₀ d C e.val → EntS prog w h₀ d es Bs → EntS prog w h₀ d (e :: es) ((B + C + 2) :: Bs)
theorem EntS.len {prog : Program} {w : World} {h₀ : Heap} {d : Nat} : ∀ {l : List DictEntry} {Bs : List Nat}, EntS prog w h₀ d l Bs → Bs.length = l.length
  | _, _, .nil => rfl
  | _, _, .cons _ _ h => by simp [h.len]
theorem EntS.at_ {prog : Program} {w : World} {h₀ : Heap} {d : Nat} : ∀ {l : List DictEntry} {Bs : List Nat}, EntS prog w h₀ d l Bs → ∀ (i : Nat) (e : DictEntry), l[i]? = some e → ∃ B C, Bs[i]? = some (B + C + 2) ∧ ReprS prog w h₀ d B e.key ∧ ReprS prog w h₀ d C e.val
  | _, _, .nil, _, _, e => by simp at e
  | _, _, .cons h k _, 0, _, e => by
    simp at e
    subst e
    exact ⟨_, _, rfl, h, k⟩
  | _, _, .cons _ _ h, i + 1, x, e => by
    obtain ⟨B, C, e1, r⟩ := h.at_ i x (by simpa using e)
    exact ⟨B, C, by simpa using e1, r⟩
theorem dictText_le (ts : List Str) : (dictText ts).length ≤ piled ts + 3 := by
  have e : (dictText ts).length = 1 + (Str.join ", " ts).length + 1 := by
    unfold dictText
    rw [strLen_append, strLen_append]
    rfl
  by_cases h : ts = []
  · subst h
    have : (Str.join ", " []).length = 0 := by decide +kernel
    omega
  · have := join_length_add ts h
    omega
section
variable {prog : Program} {w : World} {A : Around} {E : Value → Shared → Prop}
theorem dict_atS {h₀ : Heap} {d M : Nat} {a : Addr} {o : Obj} {es : Array DictEntry} {n : Nat} {Bs : List Nat} {s : Shared} {Qf : Fin → Shared → Prop} {base : Nat} (ha : h₀.get? a = some o) (hc : o.cls = .type "dict") (hd : o.data = .dict es n) (hsys : (a == sysModules) = false) (hE : EntS prog w h₀ d es.toList Bs)
    (hu : A.units + d < cLine) (hk0 : ∀ b o, h₀.get? b = some o → s.heap.get? b = some o) (hM : M ≤ sizeLine) (hp : pil Bs + 5 ≤ M) (hb : base + M ≤ sizeLine)
    (hR : ∀ t h' u tk, t.length ≤ M → (∀ b o, s.heap.get? b = some o → h'.get? b = some o) → Qf (.done (.ret (.str t u))) { s with heap := h', toks := tk }) :
    wpAny (model prog w) A (Builtin.dictReprAt base ⟨[.ref a], []⟩) Qf E s := by
  have hTy : s.TypeIs (.ref a) "dict" := ⟨o, hk0 _ _ ha, hc⟩
  have hlen : Bs.length = es.size := by simpa using hE.len
  unfold Builtin.dictReprAt
  refine wpAny_bind ?_
  unfold Builtin.Dict.dictSlotNone
  refine wpAny_bind (wpAny_notOrdered_dict hTy ?_)
  show wpAny _ _ (pure (Value.ref a)) _ _ s
  refine wpAny_pure ?_
  rw [dictReprRunning_eq]
  refine wpAny_bind (wpAny_bind (wpAny_stack_any fun st => wpAny_pure ?_))
  generalize st.tail.any (dictGuardF (.ref a)) = running
  cases running with
  | true =>
    refine PySem.W.KFB.if_so rfl ?_
    refine wpAny_bind (wpAny_rule ?_)
    refine wpAny_bind (wpAny_mkStr (wpAny_pure ?_) (by decide +kernel))
    exact hR _ s.heap _ _ (Nat.le_trans (show ("{...}" : Str).length ≤ 5 by decide +kernel) (by omega)) fun _ _ e => e
  | false =>
    refine PySem.W.KFB.if_not rfl ?_
    show wpAny _ _ (Builtin.Dict.addrOf (.ref a) >>= _) _ _ s
    refine wpAny_bind (wpAny_pure ?_)
    show wpAny _ _ (Builtin.Dict.showsAll a >>= _) _ _ s
    unfold Builtin.Dict.showsAll
    rw [if_neg (by rw [hsys]; exact Bool.false_ne_true)]
    refine wpAny_bind (wpAny_pure ?_)
    refine wpAny_bind (wpAny_dictEpoch (hk0 _ _ ha) hd ?_)
    refine wpAny_bind (wpAny_dictEntries (hk0 _ _ ha) hd ?_)
    refine wpAny_bind ?_
    rw [Std.Legacy.Range.forIn_eq_forIn_range']
    simp only [Std.Legacy.Range.size, Nat.sub_zero, Nat.add_sub_cancel, Nat.div_one]
    refine wpAny_forIn_list _
      (fun rest' r s' => ∃ i h' tk ts m, rest' = List.range' i (es.size - i) ∧ i ≤ es.size ∧ r = (⟨List.toArray ts, m⟩ : (Array Str × Nat)) ∧ m + pil (Bs.drop i) + 1 ≤ sizeLine ∧ piled ts + pil (Bs.drop i) + 3 ≤ M ∧ s' = { s with heap := h', toks := tk } ∧ ∀ b o, s.heap.get? b = some o → h'.get? b = some o)
      _ ?_ ?_ _ _ ⟨0, s.heap, s.toks, [], base, by simp, Nat.zero_le _, rfl, by rw [List.drop_zero]; omega, by rw [List.drop_zero]; show 0 + _ + 3 ≤ M; omega, rfl, fun _ _ e => e⟩
    · rintro x rest' _ s' ⟨i, h', tk, ts, m, hr, hi, rfl, hm, hpl, rfl, hkp⟩
      have hlt : i < es.size := by
        rcases Nat.lt_or_ge i es.size with h | h
        · exact h
        · rw [Nat.sub_eq_zero_of_le h] at hr; simp at hr
      obtain ⟨rfl, hrest⟩ : x = i ∧ rest' = List.range' (i + 1) (es.size - (i + 1)) := by
        have e : es.size - i = (es.size - (i + 1)) + 1 := by omega
        rw [e, List.range'_succ] at hr
        injection hr with h1 h2
        exact ⟨h1, h2⟩
      obtain ⟨Bk, Bv, hB, rk, rv⟩ := hE.at_ x es[x] (by simp [hlt])
      have hp1 := pil_drop hB
      refine wpAny_bind (wpAny_dictEntries (hkp _ _ (hk0 _ _ ha)) hd ?_)
      rw [Array.getElem?_eq_getElem hlt]
      refine wpAny_bind (wpAny_holding (wpAny_bind (rk (m + 1) (by omega) _ _ _ _ hu (fun b o e => hkp _ _ (hk0 _ _ e)) fun k h1 t1 hk1l hk1 =>
        wpAny_bind (rv (m + (k.length + 3)) (by omega) _ _ _ _ hu (fun b o e => hk1 _ _ (hkp _ _ (hk0 _ _ e))) fun v h2 t2 hv2l hk2 => wpAny_pure ?_))))
      refine wpAny_bind (wpAny_dictEpoch (hk2 _ _ (hk1 _ _ (hkp _ _ (hk0 _ _ ha)))) hd ?_)
      rw [if_neg (by simp)]
      have e1 : (List.toArray ts).push (k ++ ": " ++ v) = List.toArray (ts ++ [k ++ ": " ++ v]) := by simp
      have hkl : (k ++ ": " ++ v).length = k.length + 2 + v.length := by
        rw [strLen_append, strLen_append]; rfl
      refine wpAny_pure ⟨x + 1, h2, t2, ts ++ [k ++ ": " ++ v], m + (k.length + v.length + 4), hrest, hlt, ?_, by omega, ?_, rfl, fun b o e => hk2 _ _ (hk1 _ _ (hkp _ _ e))⟩
      · rw [e1]
      · have e2 : piled [k ++ ": " ++ v] = k.length + 2 + v.length + 2 := by simp [piled, hkl]
        rw [piled_append, e2]
        omega
    · rintro _ s' ⟨i, h', tk, ts, m, hr, hi, rfl, hm, hpl, rfl, hkp⟩
      have hl := dictText_le ts
      have hl2 : (dictText ts).length ≤ sizeLine := by omega
      refine wpAny_bind (wpAny_mkStr (wpAny_pure ?_) (by simpa [dictText] using hl2))
      have h1 := hR (dictText ts) h' tk (tk + 1) (by omega) hkp
      simpa [dictText] using h1
end
section
variable {prog : Program} {w : World}
theorem ReprS.dict {h₀ : Heap} {d M : Nat} {a : Addr} {oa : Obj} {es : Array DictEntry} {na : Nat} {Bs : List Nat} (ha : h₀.get? a = some oa) (hc : oa.cls = .type "dict") (hda : oa.data = .dict es na) (hsys : (a == sysModules) = false)
    (hT : EntS prog w h₀ d es.toList Bs) (hp : pil Bs + 5 ≤ M) : ReprS prog w h₀ (d + 1) M (.ref a) := by
  intro base hb A E s Q hu hk0 hQ
  refine wpAny_pyReprUnder_ref (by omega) (wpAny_pyReprObjUnder_twin (twin := "dict.__repr__.under") ⟨oa, hk0 _ _ ha, hc⟩ F.slot_dict_repr rfl (by omega) ?_)
  refine call_twin_own (F.quiet_dict_repr_under _) F.entry_dict_repr_under F.check_dict_repr_under ⟨oa, hk0 _ _ ha, hc⟩ F.slot_dict_repr (F.args_dict_repr_1 _) (wpOwn_of_wpAny ?_)
  refine dict_atS (A := A.under (.builtin "dict.__repr__.under" ⟨[.ref a, rawInt base], []⟩)) (M := M) ha hc hda hsys hT (by rw [units_under_dict_repr_under]; omega) hk0 (by omega) hp hb fun t h' u tk ht hk => ⟨⟨_, _, rfl⟩, _, _, rfl, hQ t h' tk ht hk⟩
variable {A : Around} {E : Value → Shared → Prop} {s : Shared}
/-- as an object's text -/
theorem objS_list {d M : Nat} {a : Addr} {oa : Obj} {l : List Value} {na : Nat} {Bs : List Nat} {Q : Value → Shared → Prop} (ha : s.heap.get? a = some oa) (hc : oa.cls = .type "list") (hda : oa.data = .seq l.toArray na) (hsz : l.length ≤ 1000)
    (hT : AllS prog w s.heap d l Bs) (hp : pil Bs + 5 ≤ M) (hM : M ≤ sizeLine) (hu : A.units + (d + 1) < cLine)
    (hQ : ∀ t h' u tk, t.length ≤ M → (∀ b o, s.heap.get? b = some o → h'.get? b = some o) → Q (.str t u) { s with heap := h', toks := tk }) : wpAny (model prog w) A (pyReprObj (.ref a)) Q E s := by
  cases l with
  | nil => exact wpAny_pyReprObj_list_empty ⟨oa, ha, hc⟩ (by omega) ha hda (hQ _ s.heap _ _ (Nat.le_trans (show ("[]" : Str).length ≤ 5 by decide +kernel) (by omega)) fun _ _ e => e)
  | cons x l =>
    refine wpAny_pyReprObj_slot (by omega) ⟨oa, ha, hc⟩ F.slot_list_repr.toG ?_
    refine wpAny_call (codeAny_call_builtin F.slot_list_repr.plain F.entry_list_repr (F.slot_list_repr.check _ _ _ _ _ _ _ _ ⟨oa, ha, hc⟩ (F.args_list_repr_1 _) ?_))
    exact list_atS (base := 0) (M := M) (R := callEnd _ E) ha hda (by simpa using hT.len) (Nat.le_trans (show (x :: l).toArray.size ≤ 1000 by simpa using hsz) (by decide)) (fun i y e => hT.at_ i y (by simpa using e)) hu (fun _ _ e => e) hM hp (by omega) fun t h' u tk ht hk => ⟨_, _, rfl, hQ t h' u tk ht hk⟩
theorem objS_tuple {d M : Nat} {a : Addr} {oa : Obj} {items : Array Value} {na : Nat} {Bs : List Nat} {Q : Value → Shared → Prop} (ha : s.heap.get? a = some oa) (hc : oa.cls = .type "tuple") (hda : oa.data = .seq items na)
    (hT : AllS prog w s.heap d items.toList Bs) (hp : pil Bs + 5 ≤ M) (hM : M ≤ sizeLine) (hu : A.units + (d + 1) < cLine)
    (hQ : ∀ t h' u tk, t.length ≤ M → (∀ b o, s.heap.get? b = some o → h'.get? b = some o) → Q (.str t u) { s with heap := h', toks := tk }) : wpAny (model prog w) A (pyReprObj (.ref a)) Q E s := by
  refine wpAny_pyReprObj_slot (by omega) ⟨oa, ha, hc⟩ F.slot_tuple_repr ?_
  refine wpAny_call (codeAny_call_builtin_own (Code.quiet_builtin _ (by decide +kernel)) F.entry_tuple_repr (F.slot_tuple_repr.check _ _ _ _ _ _ _ _ ⟨oa, ha, hc⟩ (F.args_tuple_repr_1 _) (wpOwn_of_wpAny ?_)))
  refine tup_atS (A := A.under (.builtin "tuple.__repr__" ⟨[.ref a], []⟩)) (base := 0) (M := M) ha hda hT (by rw [units_under_tuple_repr]; omega) (fun _ _ e => e) hM hp (by omega) fun t h' u tk ht hk => ⟨_, _, rfl, hQ t h' u tk ht hk⟩
theorem objS_dict {d M : Nat} {a : Addr} {oa : Obj} {es : Array DictEntry} {na : Nat} {Bs : List Nat} {Q : Value → Shared → Prop} (ha : s.heap.get? a = some oa) (hc : oa.cls = .type "dict") (hda : oa.data = .dict es na) (hsys : (a == sysModules) = false)
    (hT : EntS prog w s.heap d es.toList Bs) (hp : pil Bs + 5 ≤ M) (hM : M ≤ sizeLine) (hu : A.units + (d + 1) < cLine)
    (hQ : ∀ t h' u tk, t.length ≤ M → (∀ b o, s.heap.get? b = some o → h'.get? b = some o) → Q (.str t u) { s with heap := h', toks := tk }) : wpAny (model prog w) A (pyReprObj (.ref a)) Q E s := by
  refine wpAny_pyReprObj_slot (by omega) ⟨oa, ha, hc⟩ F.slot_dict_repr ?_
  refine wpAny_call (codeAny_call_builtin_own (Code.quiet_builtin _ (by decide +kernel)) F.entry_dict_repr (F.slot_dict_repr.check _ _ _ _ _ _ _ _ ⟨oa, ha, hc⟩ (F.args_dict_repr_1 _) (wpOwn_of_wpAny ?_)))
  refine dict_atS (A := A.under (.builtin "dict.__repr__" ⟨[.ref a], []⟩)) (base := 0) (M := M) ha hc hda hsys hT (by rw [units_under_dict_repr]; omega) (fun _ _ e => e) hM hp (by omega) fun t h' u tk ht hk => ⟨_, _, rfl, hQ t h' u tk ht hk⟩
end
end Own

namespace Own
open PySem PySem.Spec PyProof.Rows L2
/-- a number, a truth value, None, a text -/
def Leaf (v : V) : Prop := (∃ i : Int, v = .int i ∧ i.natAbs.log2 < 1000) ∨ (∃ b : Bool, v = .bl b) ∨ v = .non ∨ ∃ y : Str, v = .str y ∧ (reprText y).length ≤ 1000
/-- .. and lists, tuples and dicts of these -/
def ShoD (K : PySem.W.Frag) (H : Hp) : Nat → V → Prop
  | 0, v => Leaf v
  | n + 1, v => ShoD K H n v ∨ (∃ (p : Addr) (xs : List V), v = .ref p ∧ (SqL K H p xs ∨ SqT K H p xs) ∧ xs.length ≤ 8 ∧ ∀ x ∈ xs, ShoD K H n x) ∨
    ∃ (p : Addr) (kvs : List (Key × V)), v = .ref p ∧ H p = some (.dK kvs) ∧ kvs.length ≤ 8 ∧ ∀ kv ∈ kvs, Leaf (kV kv.1) ∧ Leaf kv.2
def bd : Nat → Nat
  | 0 => 1010
  | n + 1 => 10 * bd n + 20000
theorem bd_ge (n : Nat) : 1010 ≤ bd n := by
  induction n with
  | zero => exact Nat.le_refl _
  | succ n ih => show 1010 ≤ 10 * bd n + 20000; omega
theorem leafS {prog : Program} {w : World} {h₀ : Heap} {d : Nat} {v : V} {u : Value} (h : Leaf v) (r : RelV v u) : ReprS prog w h₀ d 1010 u := by
  rcases h with ⟨i, rfl, hi⟩ | ⟨b, rfl⟩ | rfl | ⟨y, rfl, hy⟩
  · obtain ⟨t, rfl⟩ := r
    exact ReprS.of_is (ReprIs.int t (by omega)) (Nat.le_trans (txt_len hi) (by decide))
  · cases (show u = Value.bool b from r)
    exact ReprS.of_is (ReprIs.bool b) (by cases b <;> decide +kernel)
  · cases (show u = Value.none from r)
    exact ReprS.of_is ReprIs.none (by decide +kernel)
  · obtain ⟨t, rfl⟩ := r
    exact ReprS.of_is (ReprIs.str y t (Nat.le_trans hy (by decide))) (by omega)
theorem allS {prog : Program} {w : World} {h₀ : Heap} {d B : Nat} : ∀ {xs : List V} {us : List Value}, Vals xs us → (∀ x ∈ xs, ∀ u, RelV x u → ReprS prog w h₀ d B u) → AllS prog w h₀ d us (List.replicate xs.length B)
  | _, _, .nil, _ => .nil
  | _, _, .cons r t, h => .cons (h _ List.mem_cons_self _ r) (allS t fun x hx => h x (List.mem_cons_of_mem _ hx))
theorem pil_rep (n B : Nat) : pil (List.replicate n B) = n * (B + 2) := by
  induction n with
  | zero => simp [pil]
  | succ n ih => rw [List.replicate_succ, pil_cons, ih, Nat.succ_mul]; omega
theorem entS {prog : Program} {w : World} {h₀ : Heap} {d : Nat} : ∀ {kvs : List (Key × V)} {vs : List (Key × Value)} {es : List DictEntry}, KV kvs vs → Pairs (mixKind prog w) es vs → (∀ kv ∈ kvs, Leaf (kV kv.1) ∧ Leaf kv.2) → EntS prog w h₀ d es (List.replicate kvs.length 2022)
  | _, _, _, .nil, .nil, _ => .nil
  | kv :: kvs, _, _, .cons r t, .cons k e p, h => by
    have hh := h _ List.mem_cons_self
    refine EntS.cons (B := 1010) (C := 1010) ?_ ?_ (entS t p fun x hx => h x (List.mem_cons_of_mem _ hx))
    · rcases keyIs_shape k with ⟨i, t', e1, e2⟩ | ⟨x, t', e1, e2⟩
      · rw [e2]
        refine leafS hh.1 ?_
        rw [r.1, e1]
        exact ⟨t', rfl⟩
      · rw [e2]
        refine leafS hh.1 ?_
        rw [r.1, e1]
        exact ⟨t', rfl⟩
    · rw [e]
      exact leafS hh.2 r.2
section
variable {X : Cx}
theorem shoS {pins : List (Addr × Obj)} {σ : L2.St} {H : Hp} {s : Shared} (I : Inv X pins σ H s) : ∀ (n : Nat) (v : V) (u : Value), ShoD X.K H n v → RelV v u → ReprS X.prog X.w s.heap n (bd n) u
  | 0, v, u, h, r => leafS h r
  | n + 1, v, u, h, r => by
    have ge := bd_ge n
    rcases h with h | ⟨p, xs, rfl, hp, hl, hx⟩ | ⟨p, kvs, rfl, hp, hl, hx⟩
    · exact (shoS I n v u h r).le (Nat.le_succ n) (by show bd n ≤ 10 * bd n + 20000; omega)
    · cases (show u = Value.ref p from r)
      have le : pil (List.replicate xs.length (bd n)) + 5 ≤ bd (n + 1) := by
        rw [pil_rep]
        show _ ≤ 10 * bd n + 20000
        have : xs.length * (bd n + 2) ≤ 8 * (bd n + 2) := Nat.mul_le_mul_right _ hl
        omega
      rcases hp with hp | hp
      · obtain ⟨its, rv, obj, _⟩ := I.list hp
        obtain ⟨⟨oc, od, dt, sl⟩, ho, hc, m, hd⟩ := obj.isList
        have hlen : its.length = xs.length := (Vals.length rv).symm
        exact ReprS.list ho hc hd (by omega) (allS rv fun x hxm u r => shoS I n x u (hx x hxm) r) le
      · obtain ⟨its, rv, ⟨o, ho, hc, m, hd⟩, _⟩ := I.tuple hp
        exact ReprS.tuple ho hc hd (by simpa using allS rv fun x hxm u r => shoS I n x u (hx x hxm) r) le
    · cases (show u = Value.ref p from r)
      obtain ⟨_, hS, vs, kv, o, es, ep, ho, ex, hd, _, pr, _⟩ := I.hok p _ hp
      refine ReprS.dict ho ex.1 hd hS (entS kv pr hx) ?_
      rw [pil_rep]
      show _ ≤ 10 * bd n + 20000
      have : kvs.length * (2022 + 2) ≤ 8 * (2022 + 2) := Nat.mul_le_mul_right _ hl
      omega
/-- {x!r}: some text -/
def tFmtD (K : PySem.W.Frag) (te : TE) : TE := fun σ H Q => te σ H fun x H1 => ShoD K H1 3 x ∧ ∀ y : Str, y.length ≤ 4000000 → Q (.str y) H1
set_option maxHeartbeats 600000 in
theorem pe_fmtD {k : Nat} {e : Expr} {te : TE} {pos : Pos} (room : Room k X.A) (he : PE X e te) : PE X (.FormattedValue e 114 none pos) (tFmtD X.K te) := by
  refine ⟨fun pins s σ H Q inv ask => ?_⟩
  refine wpAny_FormattedValue_repr (thn (he.run pins s σ H _ inv ask) fun v s1 hv => ?_)
  obtain ⟨x, H1, I1, r1, sho, q⟩ := hv
  have un := room.units
  have room0 := room.units0
  have put : ∀ (m : Str) (t : Tok) (s2 : Shared), m.length ≤ 4000000 → Inv X pins σ H1 s2 → wpAny (model X.prog X.w) X.A (formatField (.str m t) Str.empty) (EP X pins σ Q) X.xe s2 := fun m t s2 hm J =>
    wpAny_formatField_str ⟨.str m, H1, J, ⟨_, rfl⟩, q m hm⟩ ⟨.str m, H1, J.tok _, ⟨_, rfl⟩, q m hm⟩ (Nat.le_trans hm (by decide))
  have leaf : ∀ x, Leaf x → RelV x v → wpAny (model X.prog X.w) X.A (pyReprObj v) (fun m s2 => wpAny (model X.prog X.w) X.A (formatField m Str.empty) (EP X pins σ Q) X.xe s2) X.xe s1 := fun x h r1 => by
    rcases h with ⟨i, rfl, hi⟩ | ⟨b, rfl⟩ | rfl | ⟨y, rfl, hy⟩
    · obtain ⟨t, rfl⟩ := r1
      exact pyReprObj_int (by omega) (put _ _ _ (Nat.le_trans (txt_len hi) (by decide)) (I1.tok _))
    · cases (show v = Value.bool b from r1)
      exact pyReprObj_bool (put _ _ _ (by cases b <;> decide +kernel) (I1.tok _))
    · cases (show v = Value.none from r1)
      exact pyReprObj_none (put _ _ _ (by decide +kernel) (I1.tok _))
    · obtain ⟨t, rfl⟩ := r1
      exact pyReprObj_str (put _ _ _ (by omega) (I1.tok _)) (Nat.le_trans hy (by decide))
  have all : ∀ n, n ≤ 3 → ∀ x, ShoD X.K H1 n x → RelV x v → wpAny (model X.prog X.w) X.A (pyReprObj v) (fun m s2 => wpAny (model X.prog X.w) X.A (formatField m Str.empty) (EP X pins σ Q) X.xe s2) X.xe s1 := by
    intro n
    induction n with
    | zero => exact fun _ x h r => leaf x h r
    | succ n ih =>
      intro hn x h r1
      have ge := bd_ge n
      have up : bd (n + 1) ≤ 4000000 := by
        have b0 : bd 0 = 1010 := rfl
        have b1 : bd (0 + 1) = 10 * bd 0 + 20000 := rfl
        have b2 : bd (1 + 1) = 10 * bd (0 + 1) + 20000 := rfl
        have b3 : bd (2 + 1) = 10 * bd (1 + 1) + 20000 := rfl
        have : n = 0 ∨ n = 1 ∨ n = 2 := by omega
        rcases this with e | e | e <;> rw [e] <;> omega
      rcases h with h | ⟨p, xs, rfl, hp, hl, hx⟩ | ⟨p, kvs, rfl, hp, hl, hx⟩
      · exact ih (by omega) x h r1
      · cases (show v = Value.ref p from r1)
        have le : pil (List.replicate xs.length (bd n)) + 5 ≤ bd (n + 1) := by
          rw [pil_rep]
          show _ ≤ 10 * bd n + 20000
          have : xs.length * (bd n + 2) ≤ 8 * (bd n + 2) := Nat.mul_le_mul_right _ hl
          omega
        rcases hp with hp | hp
        · obtain ⟨its, rv, obj, _⟩ := I1.list hp
          obtain ⟨⟨oc, od, dt, sl⟩, ho, hc, m, hd⟩ := obj.isList
          have hlen : its.length = xs.length := (Vals.length rv).symm
          exact objS_list (M := bd (n + 1)) ho hc hd (by omega) (allS rv fun x hxm u r => shoS I1 n x u (hx x hxm) r) le (Nat.le_trans up (by decide)) (by omega) fun t h' u tk ht hk => put t u _ (by omega) (I1.kept (t' := tk) hk)
        · obtain ⟨its, rv, ⟨o, ho, hc, m, hd⟩, _⟩ := I1.tuple hp
          exact objS_tuple (M := bd (n + 1)) ho hc hd (by simpa using allS rv fun x hxm u r => shoS I1 n x u (hx x hxm) r) le (Nat.le_trans up (by decide)) (by omega) fun t h' u tk ht hk => put t u _ (by omega) (I1.kept (t' := tk) hk)
      · cases (show v = Value.ref p from r1)
        obtain ⟨_, hS, vs, kv, o, es, ep, ho, ex, hd, _, pr, _⟩ := I1.hok p _ hp
        have ent : EntS X.prog X.w s1.heap n es.toList (List.replicate kvs.length 2022) := entS kv pr hx
        have le : pil (List.replicate kvs.length 2022) + 5 ≤ bd (n + 1) := by
          rw [pil_rep]
          show _ ≤ 10 * bd n + 20000
          have : kvs.length * (2022 + 2) ≤ 8 * (2022 + 2) := Nat.mul_le_mul_right _ hl
          omega
        have hz : bd (n + 1) ≤ sizeLine := Nat.le_trans up (by decide)
        have hn4 : X.A.units + (n + 1) < cLine := by omega
        have ho' := ex.1
        clear hx pr kv hp
        generalize bd (n + 1) = M at le up hz
        exact objS_dict (M := M) ho ho' hd hS ent le hz hn4 fun t h' u tk ht hk => put t u _ (Nat.le_trans ht up) (I1.kept (t' := tk) hk)
  exact all 3 (Nat.le_refl _) x sho r1
end
end Own

/-! Own errors whose fields are values of many kinds. -/
namespace Own
open PySem PySem.Spec PyProof.Rows L2 NdefX
theorem sq_keep {K : PySem.W.Frag} {H H' : Hp} {p : Addr} {xs : List V} (s : ∀ b o, H b = some o → H' b = some o) (h : SqL K H p xs ∨ SqT K H p xs) : SqL K H' p xs ∨ SqT K H' p xs := by
  rcases h with ((h | ⟨o, h⟩) | h) | ((h | ⟨o, h⟩) | h)
  · exact .inl (.inl (.inl (s _ _ h)))
  · exact .inl (.inl (.inr ⟨o, s _ _ h⟩))
  · exact .inl (.inr h)
  · exact .inr (.inl (.inl (s _ _ h)))
  · exact .inr (.inl (.inr ⟨o, s _ _ h⟩))
  · exact .inr (.inr h)
theorem ShoD.keep {K : PySem.W.Frag} {H H' : Hp} (s : ∀ b o, H b = some o → H' b = some o) : ∀ {n : Nat} {v : V}, ShoD K H n v → ShoD K H' n v
  | 0, _, h => h
  | n + 1, _, .inl h => .inl (h.keep s)
  | n + 1, _, .inr (.inl ⟨p, xs, e, hp, hl, hx⟩) => .inr (.inl ⟨p, xs, e, sq_keep s hp, hl, fun x m => (hx x m).keep s⟩)
  | n + 1, _, .inr (.inr ⟨p, kvs, e, hp, hl, hx⟩) => .inr (.inr ⟨p, kvs, e, s _ _ hp, hl, hx⟩)
theorem ShoD.up {K : PySem.W.Frag} {H : Hp} {n : Nat} {v : V} (h : ShoD K H n v) : ShoD K H (n + 1) v := .inl h
theorem ShoD.leaf {K : PySem.W.Frag} {H : Hp} {v : V} (h : Leaf v) : ∀ n, ShoD K H n v
  | 0 => h
  | n + 1 => .inl (ShoD.leaf h n)
/-- the promise of its __init__ -/
def spErrD (K : PySem.W.Frag) (D : Addr) (nm : List Str) : Sp := fun vs H Q _ => ∃ (a : Addr) (ys : List V), vs = .ref a :: ys ∧ ys.length = nm.length ∧ (∀ y ∈ ys, ShoD K H 3 y) ∧ H a = some (exo a D none) ∧
  ∀ d H', H d = none → d ≠ a → (∀ b, H' b = if b = d then some (exd d (flE nm ys)) else if b = a then some (exo a D (some d)) else H b) → Q .non H'
section
variable {X : Cx} {pins : List (Addr × Obj)} {σ : L2.St} {H : Hp} {s : Shared} {Q : XK} {D f : Addr} {k : Nat} {fd : FuncData} {ps nm : List Str} {ys : List V} {us : List Value} {x : Str}
/-- what is asked of the class when it is called -/
theorem ask_errD {K : PySem.W.Frag} (hl : ys.length = nm.length) (hs : ∀ y ∈ ys, ShoD K H 3 y) (q : ∀ d, H d = none → Q (.ref D) (some d) (upd H d (.xd (flE nm ys)))) {a : Addr} (na : H a = none) :
    spErrD K D nm (.ref a :: ys) (upd H a (exo a D none)) (fun v H2 => v = .non ∧ ∃ (d : Addr) (fs : List (Str × V)), H2 a = some (exo a D (some d)) ∧ H2 d = some (exd d fs) ∧ H d = none ∧ Q (.ref D) (some d) (upd (del H2 a) d (.xd fs))) (fun _ _ _ => False) := by
  refine ⟨a, ys, rfl, hl, fun y hy => (hs y hy).keep fun b o e => ?_, upd_same, fun d H' nd ne h => ⟨rfl, d, flE nm ys, ?_, ?_, ?_, ?_⟩⟩
  · by_cases hb : b = a
    · rw [hb, na] at e
      cases e
    · rw [upd_ne hb]
      exact e
  · rw [h, if_neg ne.symm, if_pos rfl]
  · rw [h, if_pos rfl]
  · rw [upd_ne ne] at nd
    exact nd
  · have : upd (del H' a) d (.xd (flE nm ys)) = upd H d (.xd (flE nm ys)) := by
      funext b
      by_cases hb : b = d
      · rw [hb, upd_same, upd_same]
      · rw [upd_ne hb, upd_ne hb]
        by_cases ha : b = a
        · rw [ha, del_same, na]
        · rw [del_ne ha, h, if_neg hb, if_neg ha, upd_ne ha]
    rw [this]
    rw [upd_ne ne] at nd
    exact q d nd
/-- the call of the class -/
theorem err_madeD (T : OexC X.K D) (R : ErrT X.K X.mg x D f) (F1 : FnOk X.prog X.w X.K X.mg X.base CX0 k f fd ps (spErrD X.K D nm)) (hr : Room (k + 1) X.A) (hb : Binds X.K fd ps []) (I : Inv X pins σ H s) (r : Vals ys us) (hl : ys.length = nm.length) (hz : nm.length ≤ 1000)
    (hs : ∀ y ∈ ys, ShoD X.K H 3 y) (q : ∀ d, H d = none → Q (.ref D) (some d) (upd H d (.xd (flE nm ys)))) : wpAny (model X.prog X.w) X.A (call (.ref D) us) (L2N.MkP X pins σ Q) X.xe s := by
  obtain ⟨nn, qq, N, bs, bm, sn, sub, ab, col, dd, k0, k1, k2, k3, k5, hC, hbm⟩ := T.cls
  obtain ⟨hp, g, dr, tk, os⟩ := s
  have far : hp.objs.size ≤ hp.objs.size + 1 := Nat.le_succ _
  have free : H (hp.objs.size + 1) = none := I.hok.fresh far
  have ask := ask_errD (D := D) hl hs q free
  have old : ∀ b o, hp.get? b = some o → ((hp.push (PySem.W.kdv_tup us)).push (PySem.HandSPX.excO D hp.objs.size)).get? b = some o := fun b o e => Heap.get?_push_of_some _ (Heap.get?_push_of_some _ e)
  have here : ((hp.push (PySem.W.kdv_tup us)).push (PySem.HandSPX.excO D hp.objs.size)).get? (hp.objs.size + 1) = some (PySem.HandSPX.excO D hp.objs.size) := by heap_get
  have J : Inv X pins σ (upd H (hp.objs.size + 1) (exo (hp.objs.size + 1) D none)) ⟨(hp.push (PySem.W.kdv_tup us)).push (PySem.HandSPX.excO D hp.objs.size), g, dr, tk, os⟩ := I.laid (t' := tk) (a := hp.objs.size + 1) (o := exo (hp.objs.size + 1) D none) old far (exo_ok here)
  have vals : Vals (V.ref (hp.objs.size + 1) :: ys) (Value.ref (hp.objs.size + 1) :: us) := .cons rfl r
  have len : (Value.ref (hp.objs.size + 1) :: us).length = ps.length := by
    rw [← vals.length]
    exact F1.len _ _ _ _ ask
  have few : us.length ≤ sizeLine := by
    rw [← Paired.length r, hl]
    exact Nat.le_trans hz (by decide)
  have bind := hb _ (Value.ref (hp.objs.size + 1) :: us) J.kIn (by rw [List.append_nil]; exact len)
  rw [List.append_nil] at bind
  have run := F1.run _ X.stack _ _ ⟨Value.ref (hp.objs.size + 1) :: us, []⟩ _ _ _ (fun _ _ _ => False) (hr.make D us []) (J.env0.make D us []) bind vals ask
  refine wpAny_call (PySem.HandSPX.call_own F.excBase_ValueError (fun Y => PySem.HandSPX.refsVE_contains Y bm hbm) (I.kIn _ _ hC) (PySem.W.looks_findIn I.kIn R.i) (fun self => PySem.W.bind_fn I.kIn self R.t) few (codeAny_mono run fun res s' back => ?_))
  cases res with
  | error er => exact back.elim
  | ok fl =>
    cases fl with
    | ret u =>
      obtain ⟨v, H2, os2, bare2, un2, hok2, rv, ev, d, fs, ea, ed, hd1, q2⟩ := back
      subst ev
      obtain ⟨h2, g2, d2, t2, os'⟩ := s'
      obtain ⟨t0, G, K1, kG, ge, hoe, na⟩ := mk_end0 (d2 := d2) (t2 := t2) I far old un2 hok2 os2 bare2 ea ed hd1
      exact ⟨rv, hp.objs.size + 1, _, _, ⟨G, g2, d2, t2, os'⟩, _, .ref D, some d, rfl, K1, kG, ge, hoe, ⟨rfl, rfl, fun vs e => by cases e; rfl⟩, rfl, rfl, na, rfl, bare2, raises_own T.exC T.tyC, q2⟩
    | next => exact back.elim
    | brk => exact back.elim
    | cont => exact back.elim
end
/-- raise X(e, ..) -/
def tErrD (K : PySem.W.Frag) (D : Addr) (nm : List Str) (ta : TA) : L2.St → Hp → XK → Prop := fun σ H Q => ta σ H fun ys H1 => ys.length = nm.length ∧ nm.length ≤ 1000 ∧ (∀ y ∈ ys, ShoD K H1 3 y) ∧ ∀ d, H1 d = none → Q (.ref D) (some d) (upd H1 d (.xd (flE nm ys)))
section
variable {X : Cx} {W : WX} {x : Str} {D f : Addr} {k : Nat} {fd : FuncData} {ps nm : List Str} {e : Expr} {es : List Expr} {ta : TA} {p pos pos' : Pos}
theorem ps_errD (hc : X.calm = true) (tk : L2N.Takes X W) (T : OexC X.K D) (R : ErrT X.K X.mg x D f) (F1 : FnOk X.prog X.w X.K X.mg X.base CX0 k f fd ps (spErrD X.K D nm)) (hr : Room (k + 1) X.A) (hb : Binds X.K fd ps []) (hg : Gl X x) (ha : PA X (e :: es) ta)
    (hdb : (x == ("__debug__" : Str)) = false := by decide)
    (he : starEach (e :: es) X.env = (false, eval e X.env) :: starEach es X.env := by rfl)
    (hpl : (backTo pos (starEach es X.env)).any (·.1) = false := by rfl) :
    PS X (.Raise (some (.Call (.Name x p) (e :: es) [] pos)) none pos') (fun _ σ H => tErrD X.K D nm ta σ H fun cls d H' => W cls d σ H') := by
  refine L2N.ps_raise hc tk fun pins s σ H Q I h => ?_
  refine wpAny_Call_Name_kw (ld_glob I hg R.g ?_ hdb)
  refine PySem.W.callWith_K (h₀ := X.base) I.ok.mod.kin T.kC (thn (ha.run pos pins s σ H _ I h) fun us s1 ⟨ys, H1, I1, r, hl, hz, hs, q⟩ => ⟨I1.kIn, ?_⟩) he hpl
  exact err_madeD T R F1 hr hb I1 r hl hz hs q
end
end Own

namespace Own
open PySem PySem.Spec PyProof.Rows L2 NdefX
section
variable {P : Program} {w : World} {K : PySem.W.Frag} {mg : Str → Option Value} {base : Heap} {D cc cda f : Addr}
abbrev s_BadPins_init : Stmt := inClass (top 3) 0
theorem sn_BadPins : NScope ["self", "pins", "__class__"] ["self", "pins"] ["__class__"] (defScope s_BadPins_init) := nscope_by (by decide +kernel)
theorem ok_BadPins {oc kV dc pm ct : Value} {an od : Option Addr} {sl : Array (Option Value)} (T : ErrK P K mg D cc cda)
    (lk : K.lookup f = some ⟨oc, od, .func (PySem.W.fnX "__init__" "BadPins.__init__" (defArgs s_BadPins_init) (defBody s_BadPins_init) (defScope s_BadPins_init) [("__class__", cc)] .none kV dc pm an (.ref cda) ct), sl⟩) (hcd : PySem.W.codeIn K (.ref cda) "BadPins.__init__" = true)
    (n1 : PySem.W.findIn K (.ref D) "pins" = some none) :
    FnOk P w K mg base CX0 1 f (PySem.W.fnX "__init__" "BadPins.__init__" (defArgs s_BadPins_init) (defBody s_BadPins_init) (defScope s_BadPins_init) [("__class__", cc)] .none kV dc pm an (.ref cda) ct) ["self", "pins"] (spErrD K D ["pins"]) := by
  refine fn_err (N := ["self", "pins", "__class__"]) (ps := ["self", "pins"]) T lk hcd sn_BadPins rfl rfl rfl (fun vs H Q E h => ?_) (fun A outer s H vs Q E hr h => ?_)
  · obtain ⟨a, ys, rfl, hl, _⟩ := h
    show ys.length + 1 = _
    rw [hl]
    rfl
  · obtain ⟨a, ys, rfl, hl, hs, ha, q⟩ := h
    match ys, hl with
    | [y1], _ =>
      have h1 := hs y1 (by simp)
      refine ⟨a, _, _, rfl, ha, pa_cons (pe_joined (PJ.cons pe_str (PJ.cons (pe_fmtD hr (pv 1)) PJ.nil))) pa_nil, (pss_one (ps_ost (pv 0) (pv 1))), ?_⟩
      have e0 : (Str.empty).length = 0 := rfl
      have c1 : (Str.ofString "pins ").length ≤ 100 := by decide +kernel
      refine ⟨_, rfl, ?_, _, rfl, h1, fun z1 hz1 => ⟨_, rfl, ?_, ⟨by show 1 ≤ 1000; decide, ha, ?_⟩⟩⟩
      all_goals first | (simp only [strLen_append, sizeLine_eq, e0] at *; (first | omega | (show _ ≤ _; omega))) | skip
      refine ⟨_, rfl, _, rfl, a, D, rfl, T.oex, n1, .inl ⟨ha, fun dx nd ne => ?_⟩⟩
      refine q dx _ nd ne fun b => ?_
      by_cases hb : b = dx
      · subst hb
        rw [if_pos rfl]
        first | (rw [upd_ne ne, upd_same]; rfl) | (rw [upd_same]; rfl)
      · rw [if_neg hb]
        by_cases hb2 : b = a
        · subst hb2
          rw [if_pos rfl]
          first | (rw [upd_same]) | (rw [upd_ne hb, upd_same]) | (rw [upd_ne hb, upd_ne hb, upd_same])
        · rw [if_neg hb2]
          repeat (first | rw [upd_ne hb] | rw [upd_ne hb2])
abbrev s_BadCord_init : Stmt := inClass (top 6) 0
theorem sn_BadCord : NScope ["self", "entry", "__class__"] ["self", "entry"] ["__class__"] (defScope s_BadCord_init) := nscope_by (by decide +kernel)
theorem ok_BadCord {oc kV dc pm ct : Value} {an od : Option Addr} {sl : Array (Option Value)} (T : ErrK P K mg D cc cda)
    (lk : K.lookup f = some ⟨oc, od, .func (PySem.W.fnX "__init__" "BadCord.__init__" (defArgs s_BadCord_init) (defBody s_BadCord_init) (defScope s_BadCord_init) [("__class__", cc)] .none kV dc pm an (.ref cda) ct), sl⟩) (hcd : PySem.W.codeIn K (.ref cda) "BadCord.__init__" = true)
    (n1 : PySem.W.findIn K (.ref D) "entry" = some none) :
    FnOk P w K mg base CX0 1 f (PySem.W.fnX "__init__" "BadCord.__init__" (defArgs s_BadCord_init) (defBody s_BadCord_init) (defScope s_BadCord_init) [("__class__", cc)] .none kV dc pm an (.ref cda) ct) ["self", "entry"] (spErrD K D ["entry"]) := by
  refine fn_err (N := ["self", "entry", "__class__"]) (ps := ["self", "entry"]) T lk hcd sn_BadCord rfl rfl rfl (fun vs H Q E h => ?_) (fun A outer s H vs Q E hr h => ?_)
  · obtain ⟨a, ys, rfl, hl, _⟩ := h
    show ys.length + 1 = _
    rw [hl]
    rfl
  · obtain ⟨a, ys, rfl, hl, hs, ha, q⟩ := h
    match ys, hl with
    | [y1], _ =>
      have h1 := hs y1 (by simp)
      refine ⟨a, _, _, rfl, ha, pa_cons (pe_joined (PJ.cons pe_str (PJ.cons (pe_fmtD hr (pv 1)) PJ.nil))) pa_nil, (pss_one (ps_ost (pv 0) (pv 1))), ?_⟩
      have e0 : (Str.empty).length = 0 := rfl
      have c1 : (Str.ofString "entry ").length ≤ 100 := by decide +kernel
      refine ⟨_, rfl, ?_, _, rfl, h1, fun z1 hz1 => ⟨_, rfl, ?_, ⟨by show 1 ≤ 1000; decide, ha, ?_⟩⟩⟩
      all_goals first | (simp only [strLen_append, sizeLine_eq, e0] at *; (first | omega | (show _ ≤ _; omega))) | skip
      refine ⟨_, rfl, _, rfl, a, D, rfl, T.oex, n1, .inl ⟨ha, fun dx nd ne => ?_⟩⟩
      refine q dx _ nd ne fun b => ?_
      by_cases hb : b = dx
      · subst hb
        rw [if_pos rfl]
        first | (rw [upd_ne ne, upd_same]; rfl) | (rw [upd_same]; rfl)
      · rw [if_neg hb]
        by_cases hb2 : b = a
        · subst hb2
          rw [if_pos rfl]
          first | (rw [upd_same]) | (rw [upd_ne hb, upd_same]) | (rw [upd_ne hb, upd_ne hb, upd_same])
        · rw [if_neg hb2]
          repeat (first | rw [upd_ne hb] | rw [upd_ne hb2])
abbrev s_BadTable_init : Stmt := inClass (top 9) 0
theorem sn_BadTable : NScope ["self", "row", "column", "__class__"] ["self", "row", "column"] ["__class__"] (defScope s_BadTable_init) := nscope_by (by decide +kernel)
theorem ok_BadTable {oc kV dc pm ct : Value} {an od : Option Addr} {sl : Array (Option Value)} (T : ErrK P K mg D cc cda)
    (lk : K.lookup f = some ⟨oc, od, .func (PySem.W.fnX "__init__" "BadTable.__init__" (defArgs s_BadTable_init) (defBody s_BadTable_init) (defScope s_BadTable_init) [("__class__", cc)] .none kV dc pm an (.ref cda) ct), sl⟩) (hcd : PySem.W.codeIn K (.ref cda) "BadTable.__init__" = true)
    (n1 : PySem.W.findIn K (.ref D) "row" = some none) (n2 : PySem.W.findIn K (.ref D) "column" = some none) :
    FnOk P w K mg base CX0 1 f (PySem.W.fnX "__init__" "BadTable.__init__" (defArgs s_BadTable_init) (defBody s_BadTable_init) (defScope s_BadTable_init) [("__class__", cc)] .none kV dc pm an (.ref cda) ct) ["self", "row", "column"] (spErrD K D ["row", "column"]) := by
  refine fn_err (N := ["self", "row", "column", "__class__"]) (ps := ["self", "row", "column"]) T lk hcd sn_BadTable rfl rfl rfl (fun vs H Q E h => ?_) (fun A outer s H vs Q E hr h => ?_)
  · obtain ⟨a, ys, rfl, hl, _⟩ := h
    show ys.length + 1 = _
    rw [hl]
    rfl
  · obtain ⟨a, ys, rfl, hl, hs, ha, q⟩ := h
    match ys, hl with
    | [y1, y2], _ =>
      have h1 := hs y1 (by simp)
      have h2 := hs y2 (by simp)
      refine ⟨a, _, _, rfl, ha, pa_cons (pe_joined (PJ.cons pe_str (PJ.cons (pe_fmtD hr (pv 1)) (PJ.cons pe_str (PJ.cons (pe_fmtD hr (pv 2)) PJ.nil))))) pa_nil, (pss_cons (ps_ost (pv 0) (pv 1)) (pss_one (ps_ost (pv 0) (pv 2)))), ?_⟩
      have e0 : (Str.empty).length = 0 := rfl
      have c1 : (Str.ofString "row ").length ≤ 100 := by decide +kernel
      have c2 : (Str.ofString ", column ").length ≤ 100 := by decide +kernel
      refine ⟨_, rfl, ?_, _, rfl, h1, fun z1 hz1 => ⟨_, rfl, ?_, _, rfl, ?_, _, rfl, h2, fun z2 hz2 => ⟨_, rfl, ?_, ⟨by show 1 ≤ 1000; decide, ha, ?_⟩⟩⟩⟩
      all_goals first | (simp only [strLen_append, sizeLine_eq, e0] at *; (first | omega | (show _ ≤ _; omega))) | skip
      refine ⟨_, rfl, _, rfl, a, D, rfl, T.oex, n1, .inl ⟨ha, fun dx nd ne => ?_⟩⟩
      refine ⟨_, rfl, _, rfl, a, D, rfl, T.oex, n2, .inr ⟨dx, [("row", y1)], ?_, ?_, ?_, ?_⟩⟩
      · first | exact upd_same | (rw [upd_ne ne.symm]; exact upd_same)
      · first | exact upd_same | (rw [upd_ne ne]; exact upd_same)
      · simp
      refine q dx _ nd ne fun b => ?_
      by_cases hb : b = dx
      · subst hb
        rw [if_pos rfl]
        first | (rw [upd_ne ne, upd_same]; rfl) | (rw [upd_same]; rfl)
      · rw [if_neg hb]
        by_cases hb2 : b = a
        · subst hb2
          rw [if_pos rfl]
          first | (rw [upd_same]) | (rw [upd_ne hb, upd_same]) | (rw [upd_ne hb, upd_ne hb, upd_same])
        · rw [if_neg hb2]
          repeat (first | rw [upd_ne hb] | rw [upd_ne hb2])
abbrev s_NoLot_init : Stmt := inClass (top 10) 0
theorem sn_NoLot : NScope ["self", "a", "b", "twice", "__class__"] ["self", "a", "b", "twice"] ["__class__"] (defScope s_NoLot_init) := nscope_by (by decide +kernel)
theorem ok_NoLot {oc kV dc pm ct : Value} {an od : Option Addr} {sl : Array (Option Value)} (T : ErrK P K mg D cc cda)
    (lk : K.lookup f = some ⟨oc, od, .func (PySem.W.fnX "__init__" "NoLot.__init__" (defArgs s_NoLot_init) (defBody s_NoLot_init) (defScope s_NoLot_init) [("__class__", cc)] .none kV dc pm an (.ref cda) ct), sl⟩) (hcd : PySem.W.codeIn K (.ref cda) "NoLot.__init__" = true)
    (n1 : PySem.W.findIn K (.ref D) "a" = some none) (n2 : PySem.W.findIn K (.ref D) "b" = some none) (n3 : PySem.W.findIn K (.ref D) "twice" = some none) :
    FnOk P w K mg base CX0 1 f (PySem.W.fnX "__init__" "NoLot.__init__" (defArgs s_NoLot_init) (defBody s_NoLot_init) (defScope s_NoLot_init) [("__class__", cc)] .none kV dc pm an (.ref cda) ct) ["self", "a", "b", "twice"] (spErrD K D ["a", "b", "twice"]) := by
  refine fn_err (N := ["self", "a", "b", "twice", "__class__"]) (ps := ["self", "a", "b", "twice"]) T lk hcd sn_NoLot rfl rfl rfl (fun vs H Q E h => ?_) (fun A outer s H vs Q E hr h => ?_)
  · obtain ⟨a, ys, rfl, hl, _⟩ := h
    show ys.length + 1 = _
    rw [hl]
    rfl
  · obtain ⟨a, ys, rfl, hl, hs, ha, q⟩ := h
    match ys, hl with
    | [y1, y2, y3], _ =>
      have h1 := hs y1 (by simp)
      have h2 := hs y2 (by simp)
      have h3 := hs y3 (by simp)
      refine ⟨a, _, _, rfl, ha, pa_cons (pe_joined (PJ.cons pe_str (PJ.cons (pe_fmtD hr (pv 1)) (PJ.cons pe_str (PJ.cons (pe_fmtD hr (pv 2)) (PJ.cons pe_str (PJ.cons (pe_fmtD hr (pv 3)) PJ.nil))))))) pa_nil, (pss_cons (ps_ost (pv 0) (pv 1)) (pss_cons (ps_ost (pv 0) (pv 2)) (pss_one (ps_ost (pv 0) (pv 3))))), ?_⟩
      have e0 : (Str.empty).length = 0 := rfl
      have c1 : (Str.ofString "a ").length ≤ 100 := by decide +kernel
      have c2 : (Str.ofString ", b ").length ≤ 100 := by decide +kernel
      have c3 : (Str.ofString ", twice ").length ≤ 100 := by decide +kernel
      refine ⟨_, rfl, ?_, _, rfl, h1, fun z1 hz1 => ⟨_, rfl, ?_, _, rfl, ?_, _, rfl, h2, fun z2 hz2 => ⟨_, rfl, ?_, _, rfl, ?_, _, rfl, h3, fun z3 hz3 => ⟨_, rfl, ?_, ⟨by show 1 ≤ 1000; decide, ha, ?_⟩⟩⟩⟩⟩
      all_goals first | (simp only [strLen_append, sizeLine_eq, e0] at *; (first | omega | (show _ ≤ _; omega))) | skip
      refine ⟨_, rfl, _, rfl, a, D, rfl, T.oex, n1, .inl ⟨ha, fun dx nd ne => ?_⟩⟩
      refine ⟨_, rfl, _, rfl, a, D, rfl, T.oex, n2, .inr ⟨dx, [("a", y1)], ?_, ?_, ?_, ?_⟩⟩
      · first | exact upd_same | (rw [upd_ne ne.symm]; exact upd_same)
      · first | exact upd_same | (rw [upd_ne ne]; exact upd_same)
      · simp
      refine ⟨_, rfl, _, rfl, a, D, rfl, T.oex, n3, .inr ⟨dx, [("b", y2), ("a", y1)], ?_, ?_, ?_, ?_⟩⟩
      · first | exact upd_same | (rw [upd_ne ne.symm]; first | exact upd_same | (rw [upd_ne ne.symm]; exact upd_same))
      · first | exact upd_same | (rw [upd_ne ne]; exact upd_same)
      · simp
      refine q dx _ nd ne fun b => ?_
      by_cases hb : b = dx
      · subst hb
        rw [if_pos rfl]
        first | (rw [upd_ne ne, upd_same]; rfl) | (rw [upd_same]; rfl)
      · rw [if_neg hb]
        by_cases hb2 : b = a
        · subst hb2
          rw [if_pos rfl]
          first | (rw [upd_same]) | (rw [upd_ne hb, upd_same]) | (rw [upd_ne hb, upd_ne hb, upd_same])
        · rw [if_neg hb2]
          repeat (first | rw [upd_ne hb] | rw [upd_ne hb2])
end
end Own

namespace Own
open PySem PySem.Spec PyProof.Rows L2
/-! ### what is no whole number, what is no sequence -/
def NotWh (K : PySem.W.Frag) (H : Hp) (v : V) : Prop := ∃ T, TyX K H v (.type T) ∧ T ∈ ["bool", "NoneType", "str", "list", "tuple", "dict"]
def NotSq (K : PySem.W.Frag) (H : Hp) (v : V) : Prop := ∃ T, TyX K H v (.type T) ∧ T ∈ ["int", "bool", "NoneType", "str", "dict"]
theorem tyx_same {K : PySem.W.Frag} {H H' : Hp} {v : V} {t : Value} (s : Same H H') (h : TyX K H v t) : TyX K H' v t := by
  cases h with
  | base b =>
    cases b with
    | non => exact .base .non
    | bl x => exact .base (.bl x)
    | int i => exact .base (.int i)
    | str x => exact .base (.str x)
    | flt x => exact .base (.flt x)
    | lst e => exact .base (.lst (s _ _ e))
    | frz e => exact .base (.frz (s _ _ e))
    | tup e => exact .base (.tup (s _ _ e))
    | dK e => exact .base (.dK (s _ _ e))
    | dT e => exact .base (.dT (s _ _ e))
    | ins e a b c d m => exact .base (.ins (s _ _ e) a b c d m)
  | byt b => exact .byt b
  | set e => exact .set (s _ _ e)
  | kList e c => exact .kList e c
  | kTuple e c => exact .kTuple e c
  | kDict e c => exact .kDict e c
  | fTuple e => exact .fTuple (s _ _ e)
  | fDict e => exact .fDict (s _ _ e)
theorem NotWh.same {K : PySem.W.Frag} {H H' : Hp} {v : V} (s : Same H H') (h : NotWh K H v) : NotWh K H' v := by
  obtain ⟨T, t, m⟩ := h
  exact ⟨T, tyx_same s t, m⟩
theorem NotSq.same {K : PySem.W.Frag} {H H' : Hp} {v : V} (s : Same H H') (h : NotSq K H v) : NotSq K H' v := by
  obtain ⟨T, t, m⟩ := h
  exact ⟨T, tyx_same s t, m⟩
theorem NotWh.bl {K : PySem.W.Frag} {H : Hp} (b : Bool) : NotWh K H (.bl b) := ⟨"bool", .base (.bl b), by decide⟩
theorem NotWh.non {K : PySem.W.Frag} {H : Hp} : NotWh K H .non := ⟨"NoneType", .base .non, by decide⟩
theorem NotWh.str {K : PySem.W.Frag} {H : Hp} (z : Str) : NotWh K H (.str z) := ⟨"str", .base (.str z), by decide⟩
theorem NotWh.lst {K : PySem.W.Frag} {H : Hp} {p : Addr} {xs : List V} (e : H p = some (.lst xs)) : NotWh K H (.ref p) := ⟨"list", .base (.lst e), by decide⟩
theorem NotWh.tup {K : PySem.W.Frag} {H : Hp} {p : Addr} {xs : List V} (e : H p = some (.tup xs)) : NotWh K H (.ref p) := ⟨"tuple", .base (.tup e), by decide⟩
theorem NotWh.dK {K : PySem.W.Frag} {H : Hp} {p : Addr} {kvs : List (Key × V)} (e : H p = some (.dK kvs)) : NotWh K H (.ref p) := ⟨"dict", .base (.dK e), by decide⟩
theorem NotSq.int {K : PySem.W.Frag} {H : Hp} (i : Int) : NotSq K H (.int i) := ⟨"int", .base (.int i), by decide⟩
theorem NotSq.bl {K : PySem.W.Frag} {H : Hp} (b : Bool) : NotSq K H (.bl b) := ⟨"bool", .base (.bl b), by decide⟩
theorem NotSq.non {K : PySem.W.Frag} {H : Hp} : NotSq K H .non := ⟨"NoneType", .base .non, by decide⟩
theorem NotSq.str {K : PySem.W.Frag} {H : Hp} (z : Str) : NotSq K H (.str z) := ⟨"str", .base (.str z), by decide⟩
theorem NotSq.dK {K : PySem.W.Frag} {H : Hp} {p : Addr} {kvs : List (Key × V)} (e : H p = some (.dK kvs)) : NotSq K H (.ref p) := ⟨"dict", .base (.dK e), by decide⟩
/-- no number of 0, 1, .., n - 1 -/
def NotIn (K : PySem.W.Frag) (H : Hp) (n : Int) (v : V) : Prop := (∃ i : Int, v = .int i ∧ (i < 0 ∨ n ≤ i)) ∨ NotWh K H v
theorem NotIn.same {K : PySem.W.Frag} {H H' : Hp} {n : Int} {v : V} (s : Same H H') (h : NotIn K H n v) : NotIn K H' n v := h.elim .inl fun x => .inr (x.same s)
/-- a list or a tuple of one's own -/
def SqH (H : Hp) (a : Addr) (xs : List V) : Prop := H a = some (.lst xs) ∨ H a = some (.tup xs)
theorem SqH.same {H H' : Hp} {a : Addr} {xs : List V} (s : Same H H') (h : SqH H a xs) : SqH H' a xs := h.elim (fun e => .inl (s _ _ e)) fun e => .inr (s _ _ e)
theorem SqH.b {K : PySem.W.Frag} {H : Hp} {a : Addr} {xs : List V} (h : SqH H a xs) : SqB K H a xs := h.elim (fun e => .inl (.inl (.inl e))) fun e => .inr (.inl (.inl e))
/-- an error's class with its __init__ -/
structure ErrU (K : PySem.W.Frag) (mg : Str → Option Value) (x : Str) (D f : Addr) (d : FuncData) (ps : List Str) : Prop where
  T : OexC K D
  R : ErrT K mg x D f
  b : Binds K d ps []
abbrev GE (P : Program) (w : World) (K : PySem.W.Frag) (mg : Str → Option Value) (base : Heap) (D f : Addr) (d : FuncData) (nm : List Str) : Prop := FnOk P w K mg base CX0 1 f d ("self" :: nm) (spErrD K D nm)
/-- the error is let out, its fields are these -/
def Out (D : Addr) (nm : List Str) (ys : List V) (H : Hp) (E : XK) : Prop := ∀ d, H d = none → E (.ref D) (some d) (upd H d (.xd (flE nm ys)))
section
variable {X : Cx} {pos : Pos}
/-- (a, b, ..) = a list or a tuple of that length -/
def gB (K : PySem.W.Frag) (n : Nat) (t : TGs) : TG := fun v σ H Q => ∃ a xs, v = .ref a ∧ SqB K H a xs ∧ xs.length = n ∧ t xs σ H Q
theorem pg_B {es : List Expr} {k : Nat} {t : TGs} {n : Nat} (hc : X.calm = true) (h : PGs X es t)
    (hn : (assignEach es X.env).length = n := by rfl) (hst : (assignEach es X.env).findIdx? (·.1) = none := by rfl) : PG X (.Tuple es k pos) (gB X.K n t) := by
  refine ⟨fun pins s σ H v u Q I r hw => ?_⟩
  obtain ⟨a, xs, e, hB, hl, q⟩ := hw
  rcases hB with hB | hB
  · exact (pg_unl hc h hn hst).run pins s σ H v u Q I r ⟨a, xs, e, hB, hl, q⟩
  · exact (pg_tup hc h hn hst).run pins s σ H v u Q I r ⟨a, xs, e, hB, hl, q⟩
end
section
variable {P : Program} {w : World} {K : PySem.W.Frag} {mg : Str → Option Value} {base : Heap} {C D f_u : Addr} {d_u : FuncData}
def spWholeY (K : PySem.W.Frag) : Sp := fun vs H Q _ => ∃ v : V, vs = [v] ∧ ((∃ i : Int, v = .int i ∧ Q (.bl true) H) ∨ (NotWh K H v ∧ Q (.bl false) H))
theorem ok_wholeY {f : Addr} {fd : FuncData} (F : Fun K "is_whole" "is_whole" s_is_whole f fd) (T : Bi mg) : FnOk P w K mg base CX0 1 f fd ["value"] (spWholeY K) := by
  refine F.ok sc_is_whole (fun vs H Q E h => ?_) (fun cdv A outer s H vs Q E hr h => ?_)
  · obtain ⟨v, rfl, _⟩ := h
    rfl
  · obtain ⟨v, rfl, h⟩ := h
    refine ⟨_, (pss_one (ps_ret (pe_and (pe_callB call_isi (by rfl) T.b_isinstance (by decide +kernel) (pa_cons (pv 0) (pa_cons (pe_bltn (v := .ty "int") (by rfl) T.b_int (by decide +kernel) rfl) pa_nil))) (pe_one (pe_not (pe_callB call_isi (by rfl) T.b_isinstance (by decide +kernel) (pa_cons (pv 0) (pa_cons (pe_bltn (v := .ty "bool") (by rfl) T.b_bool (by decide +kernel) rfl) pa_nil)))))))), ?_⟩
    rcases h with ⟨i, rfl, q⟩ | ⟨⟨T, ty, m⟩, q⟩
    · refine ⟨_, rfl, _, _, _, _, true, rfl, .ty "int", .base (.int i), kit_ty (by decide +kernel), true, rfl, ?_⟩
      exact ⟨_, rfl, _, _, _, _, false, rfl, .ty "bool", .base (.int i), kit_ty (by decide +kernel), false, rfl, q⟩
    · simp only [List.mem_cons, List.not_mem_nil, or_false] at m
      rcases m with rfl | rfl | rfl | rfl | rfl | rfl
      · refine ⟨_, rfl, _, _, _, _, true, rfl, .ty "int", ty, kit_ty (by decide +kernel), true, rfl, ?_⟩
        exact ⟨_, rfl, _, _, _, _, true, rfl, .ty "bool", ty, kit_ty (by decide +kernel), true, rfl, q⟩
      · refine ⟨_, rfl, _, _, _, _, false, rfl, .ty "int", ty, kit_ty (by decide +kernel), false, rfl, ?_⟩
        exact q
      · refine ⟨_, rfl, _, _, _, _, false, rfl, .ty "int", ty, kit_ty (by decide +kernel), false, rfl, ?_⟩
        exact q
      · refine ⟨_, rfl, _, _, _, _, false, rfl, .ty "int", ty, kit_ty (by decide +kernel), false, rfl, ?_⟩
        exact q
      · refine ⟨_, rfl, _, _, _, _, false, rfl, .ty "int", ty, kit_ty (by decide +kernel), false, rfl, ?_⟩
        exact q
      · refine ⟨_, rfl, _, _, _, _, false, rfl, .ty "int", ty, kit_ty (by decide +kernel), false, rfl, ?_⟩
        exact q
def spSeqY (K : PySem.W.Frag) : Sp := fun vs H Q _ => ∃ v : V, vs = [v] ∧ ((∃ (a : Addr) (xs : List V), v = .ref a ∧ SqH H a xs ∧ ∀ H', Same H H' → Q (.bl true) H') ∨ (NotSq K H v ∧ ∀ H', Same H H' → Q (.bl false) H'))
theorem ok_seqY {f : Addr} {fd : FuncData} (F : Fun K "is_sequence" "is_sequence" s_is_sequence f fd) (T : Bi mg) : FnOk P w K mg base CX0 1 f fd ["value"] (spSeqY K) := by
  refine F.ok sc_is_sequence (fun vs H Q E h => ?_) (fun cdv A outer s H vs Q E hr h => ?_)
  · obtain ⟨v, rfl, _⟩ := h
    rfl
  · obtain ⟨v, rfl, h⟩ := h
    refine ⟨_, (pss_one (ps_ret (pe_callB call_isiT (by rfl) T.b_isinstance (by decide +kernel) (pa_cons (pv 0) (pa_cons (pe_tup (pa_cons (pe_bltn (v := .ty "list") (by rfl) T.b_list (by decide +kernel) rfl) (pa_cons (pe_bltn (v := .ty "tuple") (by rfl) T.b_tuple (by decide +kernel) rfl) pa_nil))) pa_nil))))), ?_⟩
    refine ⟨_, rfl, by show 2 ≤ sizeLine; decide, fun p np => ?_⟩
    have s1 : Same H (upd H p (.tup [.ty "list", .ty "tuple"])) := same_upd np
    rcases h with ⟨a, xs, rfl, hs | hs, q⟩ | ⟨⟨T, ty, m⟩, q⟩
    · exact ⟨_, p, _, _, _, true, rfl, upd_same, .cons (.ty "list") (.cons (.ty "tuple") .nil), .base (.lst (s1 _ _ hs)), kitAny_cons (b := true) (kit_ty (by decide +kernel)) (fun z => by cases z) (fun _ => rfl), q _ s1⟩
    · exact ⟨_, p, _, _, _, true, rfl, upd_same, .cons (.ty "list") (.cons (.ty "tuple") .nil), .base (.tup (s1 _ _ hs)), kitAny_cons (b := false) (kit_ty (by decide +kernel)) (fun _ => kitAny_cons (b := true) (kit_ty (by decide +kernel)) (fun z => by cases z) (fun _ => rfl)) (fun z => by cases z), q _ s1⟩
    · simp only [List.mem_cons, List.not_mem_nil, or_false] at m
      rcases m with rfl | rfl | rfl | rfl | rfl
      · exact ⟨_, p, _, _, _, false, rfl, upd_same, .cons (.ty "list") (.cons (.ty "tuple") .nil), tyx_same s1 ty, kitAny_cons (b := false) (kit_ty (by decide +kernel)) (fun _ => kitAny_cons (b := false) (kit_ty (by decide +kernel)) (fun _ => rfl) (fun z => by cases z)) (fun z => by cases z), q _ s1⟩
      · exact ⟨_, p, _, _, _, false, rfl, upd_same, .cons (.ty "list") (.cons (.ty "tuple") .nil), tyx_same s1 ty, kitAny_cons (b := false) (kit_ty (by decide +kernel)) (fun _ => kitAny_cons (b := false) (kit_ty (by decide +kernel)) (fun _ => rfl) (fun z => by cases z)) (fun z => by cases z), q _ s1⟩
      · exact ⟨_, p, _, _, _, false, rfl, upd_same, .cons (.ty "list") (.cons (.ty "tuple") .nil), tyx_same s1 ty, kitAny_cons (b := false) (kit_ty (by decide +kernel)) (fun _ => kitAny_cons (b := false) (kit_ty (by decide +kernel)) (fun _ => rfl) (fun z => by cases z)) (fun z => by cases z), q _ s1⟩
      · exact ⟨_, p, _, _, _, false, rfl, upd_same, .cons (.ty "list") (.cons (.ty "tuple") .nil), tyx_same s1 ty, kitAny_cons (b := false) (kit_ty (by decide +kernel)) (fun _ => kitAny_cons (b := false) (kit_ty (by decide +kernel)) (fun _ => rfl) (fun z => by cases z)) (fun z => by cases z), q _ s1⟩
      · exact ⟨_, p, _, _, _, false, rfl, upd_same, .cons (.ty "list") (.cons (.ty "tuple") .nil), tyx_same s1 ty, kitAny_cons (b := false) (kit_ty (by decide +kernel)) (fun _ => kitAny_cons (b := false) (kit_ty (by decide +kernel)) (fun _ => rfl) (fun z => by cases z)) (fun z => by cases z), q _ s1⟩
def spBelowY (K : PySem.W.Frag) : Sp := fun vs H Q _ => ∃ (v : V) (n : Int), vs = [v, .int n] ∧ ((∃ i : Int, v = .int i ∧ 0 ≤ i ∧ i < n ∧ Q (.bl true) H) ∨ (NotIn K H n v ∧ Q (.bl false) H))
theorem ok_belowY {f : Addr} {fd : FuncData} (F : Fun K "is_below" "is_below" s_is_below f fd) {f_w : Addr} {d_w : FuncData} (D_w : Df K mg "is_whole" s_is_whole ["value"] f_w d_w) (G_w : FnOk P w K mg base CX0 1 f_w d_w ["value"] (spWholeY K))  : FnOk P w K mg base CX0 2 f fd ["value", "bound"] (spBelowY K) := by
  refine F.ok sc_is_below (fun vs H Q E h => ?_) (fun cdv A outer s H vs Q E hr h => ?_)
  · obtain ⟨v, n, rfl, _⟩ := h
    rfl
  · obtain ⟨v, n, rfl, h⟩ := h
    refine ⟨_, (pss_one (ps_ret (pe_and (pe_call G_w (hr.mono (by decide)) (by rfl) D_w.g D_w.F.kp D_w.b .nil pass0 (pa_cons (pv 0) pa_nil)) (pe_one (pe_chain op_le op_lt pe_int (pv 0) (pv 1)))))), ?_⟩
    rcases h with ⟨i, rfl, h0, h1, q⟩ | ⟨⟨i, rfl, hi⟩ | hw, q⟩
    · refine ⟨_, rfl, _, rfl, .inl ⟨i, rfl, true, rfl, ?_⟩⟩
      refine ⟨_, rfl, _, _, rfl, rfl, _, rfl, ?_⟩
      rw [decide_eq_true h0]
      refine ⟨_, rfl, _, _, rfl, rfl, ?_⟩
      show Q (.bl (decide (i < n))) H
      rw [decide_eq_true h1]
      exact q
    · refine ⟨_, rfl, _, rfl, .inl ⟨i, rfl, true, rfl, ?_⟩⟩
      refine ⟨_, rfl, _, _, rfl, rfl, _, rfl, ?_⟩
      by_cases h0 : 0 ≤ i
      · rw [decide_eq_true h0]
        refine ⟨_, rfl, _, _, rfl, rfl, ?_⟩
        show Q (.bl (decide (i < n))) H
        rw [decide_eq_false (show ¬ i < n by omega)]
        exact q
      · rw [decide_eq_false h0]
        exact q
    · exact ⟨_, rfl, _, rfl, .inr ⟨hw, false, rfl, q⟩⟩
def spCkPinsY (K : PySem.W.Frag) (D : Addr) : Sp := fun vs H Q E => ∃ v : V, vs = [v] ∧ ((∃ i : Int, v = .int i ∧ 0 ≤ i ∧ Q .non H) ∨ (((∃ i : Int, v = .int i ∧ i < 0) ∨ NotWh K H v) ∧ ShoD K H 3 v ∧ Out D ["pins"] [v] H E))
theorem ok_ckpinsY {f : Addr} {fd : FuncData} (F : Fun K "check_pins" "check_pins" s_check_pins f fd) {f_w : Addr} {d_w : FuncData} (D_w : Df K mg "is_whole" s_is_whole ["value"] f_w d_w) (G_w : FnOk P w K mg base CX0 1 f_w d_w ["value"] (spWholeY K)) (U : ErrU K mg "BadPins" D f_u d_u ["self", "pins"]) (G_u : GE P w K mg base D f_u d_u ["pins"]) : FnOk P w K mg base (L2N.CX P w) 4 f fd ["pins"] (spCkPinsY K D) := by
  refine okN F sc_check_pins (fun vs H Q E h => ?_) (fun cdv A outer s H vs Q E hr h => ?_)
  · obtain ⟨v, rfl, _⟩ := h
    rfl
  · obtain ⟨v, rfl, h⟩ := h
    refine ⟨_, (pss_one (ps_if (PW.pt (pw_or (pt_not (pt_val (pe_call G_w (hr.mono (by decide)) (by rfl) D_w.g D_w.F.kp D_w.b .nil pass0 (pa_cons (pv 0) pa_nil)))) (pw_or1 (pt_cmpR op_lt (pv 0) pe_int (nomark _))))) (pss_one (ps_errD rfl (L2N.takes_of rfl rfl rfl rfl) U.T U.R G_u (hr.mono (by decide)) U.b (by rfl) (pa_cons (pv 0) pa_nil))) pss_nil)), ?_⟩
    have bad : ShoD K H 3 v → Out D ["pins"] [v] H E → tErrD K D ["pins"] (tCons (tVar 0) tNil) (start ["pins"] [v]) H (fun cls d H' => E cls d H') := fun hs q => by
      refine ⟨_, rfl, rfl, by decide, fun y hy => ?_, fun d nd => q d nd⟩
      rw [List.mem_singleton.mp hy]
      exact hs
    rcases h with ⟨i, rfl, h0, q⟩ | ⟨⟨i, rfl, hi⟩ | hw, hs, q⟩
    · refine ⟨_, rfl, _, rfl, .inl ⟨i, rfl, true, rfl, ?_⟩⟩
      refine ⟨_, rfl, _, _, rfl, rfl, _, rfl, ?_⟩
      rw [decide_eq_false (show ¬ i < 0 by omega)]
      exact q
    · refine ⟨_, rfl, _, rfl, .inl ⟨i, rfl, true, rfl, ?_⟩⟩
      refine ⟨_, rfl, _, _, rfl, rfl, _, rfl, ?_⟩
      rw [decide_eq_true hi]
      exact bad hs q
    · exact ⟨_, rfl, _, rfl, .inr ⟨hw, false, rfl, bad hs q⟩⟩
/-- what is no entry of a lot on a rim of n pins -/
def BadE (K : PySem.W.Frag) (H : Hp) (n : Int) (v : V) : Prop := NotSq K H v ∨ ∃ (b : Addr) (xs : List V), v = .ref b ∧ SqH H b xs ∧ (xs.length ≠ 3 ∨ ∃ x y z, xs = [x, y, z] ∧ (NotIn K H n x ∨ ∃ i : Int, x = .int i ∧ 0 ≤ i ∧ i < n ∧ (NotIn K H n y ∨ ∃ j : Int, y = .int j ∧ 0 ≤ j ∧ j < n ∧ (i = j ∨ (i ≠ j ∧ ((∃ k : Int, z = .int k ∧ k < 1) ∨ NotWh K H z))))))
theorem BadE.same {K : PySem.W.Frag} {H H' : Hp} {n : Int} {v : V} (s : Same H H') (h : BadE K H n v) : BadE K H' n v := by
  rcases h with h | ⟨b, xs, e, hs, h⟩
  · exact .inl (h.same s)
  · refine .inr ⟨b, xs, e, hs.same s, ?_⟩
    rcases h with h | ⟨x, y, z, e, h⟩
    · exact .inl h
    · refine .inr ⟨x, y, z, e, ?_⟩
      rcases h with h | ⟨i, e1, h0, h1, h⟩
      · exact .inl (h.same s)
      · refine .inr ⟨i, e1, h0, h1, ?_⟩
        rcases h with h | ⟨j, e2, h2, h3, h⟩
        · exact .inl (h.same s)
        · refine .inr ⟨j, e2, h2, h3, ?_⟩
          rcases h with h | ⟨h4, h | h⟩
          · exact .inl h
          · exact .inr ⟨h4, .inl h⟩
          · exact .inr ⟨h4, .inr (h.same s)⟩
def spEntryY (K : PySem.W.Frag) : Sp := fun vs H Q _ => ∃ (n : Int) (v : V), vs = [.int n, v] ∧ ((∃ (b : Addr) (t : Tr), v = .ref b ∧ SqH H b (tv t) ∧ Vld n t ∧ ∀ H', Same H H' → Q (.bl true) H') ∨ (BadE K H n v ∧ ∀ H', Same H H' → Q (.bl false) H'))
theorem ok_entryY {f : Addr} {fd : FuncData} (F : Fun K "is_entry" "is_entry" s_is_entry f fd) (T : Bi mg) {f_w : Addr} {d_w : FuncData} (D_w : Df K mg "is_whole" s_is_whole ["value"] f_w d_w) (G_w : FnOk P w K mg base CX0 1 f_w d_w ["value"] (spWholeY K)) {f_b : Addr} {d_b : FuncData} (D_b : Df K mg "is_below" s_is_below ["value", "bound"] f_b d_b) (G_b : FnOk P w K mg base CX0 2 f_b d_b ["value", "bound"] (spBelowY K)) {f_q : Addr} {d_q : FuncData} (D_q : Df K mg "is_sequence" s_is_sequence ["value"] f_q d_q) (G_q : FnOk P w K mg base CX0 1 f_q d_q ["value"] (spSeqY K)) : FnOk P w K mg base CX0 3 f fd ["pins", "entry"] (spEntryY K) := by
  refine F.ok sc_is_entry (fun vs H Q E h => ?_) (fun cdv A outer s H vs Q E hr h => ?_)
  · obtain ⟨n, v, rfl, _⟩ := h
    rfl
  · obtain ⟨n, v, rfl, h⟩ := h
    refine ⟨_, (pss_cons (ps_if (PW.pt (pw_or (pt_not (pt_val (pe_call G_q (hr.mono (by decide)) (by rfl) D_q.g D_q.F.kp D_q.b .nil pass0 (pa_cons (pv 1) pa_nil)))) (pw_or1 (pt_cmpR op_ne (pe_callB call_len_seq (by rfl) T.b_len PySem.boot_len (pa_cons (pv 1) pa_nil)) pe_int (nomark _))))) (pss_one (ps_ret pe_bl)) pss_nil)
        (pss_cons (ps_asg (pv 1) (pg_B rfl (pgs_cons (pg_name (i := 2) sc_is_entry.nd rfl (.inl rfl)) (pgs_cons (pg_name (i := 3) sc_is_entry.nd rfl (.inl rfl)) (pgs_cons (pg_name (i := 4) sc_is_entry.nd rfl (.inl rfl)) pgs_nil)))))
        (pss_one (ps_ret (pe_and (pe_call G_b hr (by rfl) D_b.g D_b.F.kp D_b.b .nil pass0 (pa_cons (pv 2) (pa_cons (pv 0) pa_nil))) (pe_and (pe_call G_b hr (by rfl) D_b.g D_b.F.kp D_b.b .nil pass0 (pa_cons (pv 3) (pa_cons (pv 0) pa_nil))) (pe_and (pe_cmpR op_ne (pv 2) (pv 3) (nomark _)) (pe_and (pe_call G_w (hr.mono (by decide)) (by rfl) D_w.g D_w.F.kp D_w.b .nil pass0 (pa_cons (pv 4) pa_nil)) (pe_one (pe_cmpR op_ge (pv 4) pe_int (nomark _))))))))))), ?_⟩
    rcases h with ⟨b, t, rfl, hb, ⟨v0, v1, v2, v3, v4, v5⟩, q⟩ | ⟨h, q⟩
    · refine ⟨_, rfl, _, rfl, .inl ⟨b, _, rfl, hb, fun H1 sm => ⟨true, rfl, ?_⟩⟩⟩
      have hT : SqB K H1 b (tv t) := (hb.same sm).b
      refine ⟨_, rfl, b, _, rfl, hT, rfl, _, rfl, iteNS rfl ?_⟩
      refine ⟨_, rfl, b, _, rfl, hT, rfl, _, _, rfl, _, _, rfl, _, _, rfl, rfl, ?_⟩
      refine ⟨_, rfl, _, rfl, _, n, rfl, .inl ⟨t.1, rfl, v0, v1, true, rfl, ?_⟩⟩
      refine ⟨_, rfl, _, rfl, _, n, rfl, .inl ⟨t.2.1, rfl, v2, v3, true, rfl, ?_⟩⟩
      refine ⟨_, rfl, _, rfl, rfl, _, rfl, ?_⟩
      rw [decide_eq_false (fun z => v4 (V.int.inj z))]
      refine ⟨_, rfl, _, rfl, .inl ⟨t.2.2, rfl, true, rfl, ?_⟩⟩
      refine ⟨_, rfl, t.2.2, 1, rfl, rfl, ?_⟩
      show Q (.bl (decide (1 ≤ t.2.2))) H1
      rw [decide_eq_true v5]
      exact q H1 sm
    · rcases h with h | ⟨b, xs, rfl, hs, h⟩
      · exact ⟨_, rfl, _, rfl, .inr ⟨h, fun H1 sm => ⟨false, rfl, q H1 sm⟩⟩⟩
      · refine ⟨_, rfl, _, rfl, .inl ⟨b, xs, rfl, hs, fun H1 sm => ⟨true, rfl, ?_⟩⟩⟩
        have hT : SqB K H1 b xs := (hs.same sm).b
        refine ⟨_, rfl, b, _, rfl, hT, rfl, _, rfl, ?_⟩
        rcases h with h | ⟨x, y, z, rfl, h⟩
        · have e : decide (V.int (xs.length : Int) = V.int 3) = false := decide_eq_false fun z => h (by injection z with z; omega)
          rw [e]
          exact q H1 sm
        · refine iteNS rfl ?_
          refine ⟨_, rfl, b, _, rfl, hT, rfl, _, _, rfl, _, _, rfl, _, _, rfl, rfl, ?_⟩
          rcases h with h | ⟨i, rfl, i0, i1, h⟩
          · exact ⟨_, rfl, _, rfl, _, n, rfl, .inr ⟨h.same sm, false, rfl, q H1 sm⟩⟩
          · refine ⟨_, rfl, _, rfl, _, n, rfl, .inl ⟨i, rfl, i0, i1, true, rfl, ?_⟩⟩
            rcases h with h | ⟨j, rfl, j0, j1, h⟩
            · exact ⟨_, rfl, _, rfl, _, n, rfl, .inr ⟨h.same sm, false, rfl, q H1 sm⟩⟩
            · refine ⟨_, rfl, _, rfl, _, n, rfl, .inl ⟨j, rfl, j0, j1, true, rfl, ?_⟩⟩
              refine ⟨_, rfl, _, rfl, rfl, _, rfl, ?_⟩
              rcases h with rfl | ⟨ne, h⟩
              · rw [decide_eq_true rfl]
                exact q H1 sm
              · rw [decide_eq_false (fun z => ne (V.int.inj z))]
                rcases h with ⟨k, rfl, hk⟩ | h
                · refine ⟨_, rfl, _, rfl, .inl ⟨k, rfl, true, rfl, ?_⟩⟩
                  refine ⟨_, rfl, k, 1, rfl, rfl, ?_⟩
                  show Q (.bl (decide (1 ≤ k))) H1
                  rw [decide_eq_false (show ¬ 1 ≤ k by omega)]
                  exact q H1 sm
                · exact ⟨_, rfl, _, rfl, .inr ⟨h.same sm, false, rfl, q H1 sm⟩⟩
end
end Own

namespace Own
open PySem PySem.Spec PyProof.Rows L2
/-- entries, each a list or a tuple -/
def EnB (H : Hp) (vs : List V) (l : List Tr) : Prop := vs.length = l.length ∧ ∀ (i : Nat) (t : Tr), l[i]? = some t → ∃ b, vs[i]? = some (.ref b) ∧ SqH H b (tv t)
theorem EnB.same {H H' : Hp} {vs : List V} {l : List Tr} (s : Same H H') (h : EnB H vs l) : EnB H' vs l := ⟨h.1, fun i t e => by
  obtain ⟨b, e1, e2⟩ := h.2 i t e
  exact ⟨b, e1, e2.same s⟩⟩
theorem EnB.at_ {H : Hp} {vs : List V} {l : List Tr} (h : EnB H vs l) {i : Nat} {x : V} (e : vs[i]? = some x) : ∃ b t, x = .ref b ∧ l[i]? = some t ∧ SqH H b (tv t) := by
  have hi : i < l.length := by
    rw [← h.1]
    exact (List.getElem?_eq_some_iff.mp e).1
  obtain ⟨b, e1, e2⟩ := h.2 i l[i] (List.getElem?_eq_getElem hi)
  rw [e] at e1
  cases e1
  exact ⟨b, l[i], rfl, List.getElem?_eq_getElem hi, e2⟩
theorem TrV.en {H : Hp} {vs : List V} {l : List Tr} (h : TrV H vs l) : EnB H vs l := ⟨h.1, fun i t e => by
  obtain ⟨b, e1, e2⟩ := h.2 i t e
  exact ⟨b, e1, .inr e2⟩⟩
section
variable {P : Program} {w : World} {K : PySem.W.Frag} {mg : Str → Option Value} {base : Heap} {C D f_u : Addr} {d_u : FuncData}
/-- the entries of a list: all are good, or the first bad one stands behind good ones -/
def spGathY (K : PySem.W.Frag) (D : Addr) : Sp := fun vs H Q E => ∃ (n : Int) (a : Addr) (xs : List V) (l : List Tr), vs = [.int n, .ref a] ∧ SqB K H a xs ∧ EnB H (xs.take l.length) l ∧ (∀ t ∈ l, Vld n t) ∧ xs.length ≤ 1000 ∧
  ((l.length = xs.length ∧ ∀ H' c r, Same H H' → H c = none → Trip H' c r → IsNorm l r → Q (.ref c) H') ∨
    ∃ v, xs[l.length]? = some v ∧ BadE K H n v ∧ ShoD K H 3 v ∧ ∀ H', Same H H' → Out D ["entry"] [v] H' E)
theorem ok_gathY {f : Addr} {fd : FuncData} (F : Fun K "gathered" "gathered" s_gathered f fd) (T : Bi mg) {f_e : Addr} {d_e : FuncData} (D_e : Df K mg "is_entry" s_is_entry ["pins", "entry"] f_e d_e) (G_e : FnOk P w K mg base CX0 3 f_e d_e ["pins", "entry"] (spEntryY K)) (U : ErrU K mg "BadCord" D f_u d_u ["self", "entry"]) (G_u : GE P w K mg base D f_u d_u ["entry"]) :
    FnOk P w K mg base (L2N.CX P w) 5 f fd ["pins", "entries"] (spGathY K D) := by
  refine okN F sc_gathered (fun vs H Q E h => ?_) (fun cdv A outer s H vs Q E hr h => ?_)
  · obtain ⟨n, a, xs, l, rfl, _⟩ := h
    rfl
  · obtain ⟨n, a, xs, l, rfl, hB, hx, hv, hl, h⟩ := h
    have lx : l.length ≤ xs.length := by
      have := hx.1
      rw [List.length_take] at this
      omega
    have hu := hu_of hr
    refine ⟨_, (pss_cons (ps_set (i := 2) sc_gathered.nd rfl (.inr rfl) pe_dnewT)
        (pss_cons (ps_for PassesOwn.leaving rfl (pi_seq (pv 1)) (pg_name (i := 3) sc_gathered.nd rfl (.inl rfl))
        (pss_cons (ps_if (pt_not (pt_val (pe_call G_e (hr.mono (by decide)) (by rfl) D_e.g D_e.F.kp D_e.b .nil pass0 (pa_cons (pv 0) (pa_cons (pv 3) pa_nil))))) (pss_one (ps_errD rfl (L2N.takes_of rfl rfl rfl rfl) U.T U.R G_u (hr.mono (by decide)) U.b (by rfl) (pa_cons (pv 3) pa_nil))) pss_nil)
        (pss_cons (ps_asg (pv 3) (pg_B rfl (pgs_cons (pg_name (i := 5) sc_gathered.nd rfl (.inl rfl)) (pgs_cons (pg_name (i := 6) sc_gathered.nd rfl (.inl rfl)) (pgs_cons (pg_name (i := 7) sc_gathered.nd rfl (.inl rfl)) pgs_nil)))))
        (pss_cons (ps_set (i := 4) sc_gathered.nd rfl (.inl rfl) (pe_tup (pa_cons (pe_callB (call_min2 rfl) (by rfl) T.b_min (by decide +kernel) (pa_cons (pv 5) (pa_cons (pv 6) pa_nil))) (pa_cons (pe_callB (call_max2 rfl) (by rfl) T.b_max (by decide +kernel) (pa_cons (pv 5) (pa_cons (pv 6) pa_nil))) pa_nil))))
        (pss_one (ps_dput hu (pv 2) (pv 4) (pe_op op_add (pe_dget2 hu (pv 2) (pv 4) pe_int ⟨rfl, rfl, rfl, rfl⟩) (pv 7)) rfl))))))
        (pss_one (ps_ret (pe_callTy call_tuple_of (by rfl) T.b_tuple (by decide +kernel) (pa_cons (pe_lc (own := [("a", 5), ("b", 6)]) (g := gTup K 2 (gCons (gName 5) (gCons (gName 6) gNil))) (tt := tYes) rfl sc_gathered.nd (pi_list (pe_callB (cr_sortedDT rfl) (by rfl) T.b_sorted (by decide +kernel) (pa_cons (pv 2) pa_nil))) (blkOk_by (own := [("a", 5), ("b", 6)]) (N := ["pins", "entries", "held", "entry", "pair", "a", "b", "many"]) (sc := defScope s_gathered) (by decide +kernel)) (fun _ _ _ _ _ => (pg_tup (by rfl) (pgs_cons (pg_name (i := 5) sc_gathered.nd rfl (.inl rfl)) (pgs_cons (pg_name (i := 6) sc_gathered.nd rfl (.inl rfl)) pgs_nil)))) (fun _ _ _ _ _ => pts_nil) (fun _ _ _ _ _ => (pe_tup (pa_cons (pv 5) (pa_cons (pv 6) (pa_cons (pe_dget hu (pv 2) (pe_tup (pa_cons (pv 5) (pa_cons (pv 6) pa_nil))) (fun _ _ => rfl)) pa_nil)))))) pa_nil)))))), ?_⟩
    intro d hd
    refine ⟨_, rfl, a, rfl, for_same (Hb := H) hB (fun i σ H' => ∃ kvs y3 y4 y5 y6 y7, σ = [some (.int n), some (.ref a), some (.ref d), y3, y4, y5, y6, y7] ∧ H' d = some (.dT kvs) ∧ DInv kvs (l.take i) ∧ kvs.length ≤ i ∧ Same H H' ∧ i ≤ l.length) ⟨[], none, none, none, none, none, rfl, upd_same, DInv.nil, Nat.le_refl _, same_upd hd, Nat.zero_le _⟩ (fun i σ' H' p => by obtain ⟨_, _, _, _, _, _, _, _, _, _, s, _⟩ := p; exact s) (fun i x σ H' hxi p => ?_) (fun σ H' p => ?_)⟩
    · obtain ⟨kvs, y3, y4, y5, y6, y7, rfl, ed, dI, klen, sm, il⟩ := p
      rcases Nat.lt_or_eq_of_le il with hil | hil
      rotate_left
      · rcases h with ⟨hlen, q⟩ | ⟨v, hv_, bad, sho, q⟩
        · have := (List.getElem?_eq_some_iff.mp hxi).1
          omega
        · rw [← hil, hxi] at hv_
          cases hv_
          refine ⟨_, rfl, _, rfl, n, x, rfl, .inr ⟨bad.same sm, fun H1 s1 => ⟨false, rfl, ?_⟩⟩⟩
          exact ⟨_, rfl, rfl, by decide, fun y hy => by rw [List.mem_singleton.mp hy]; exact sho.keep (sm.trans s1), fun d nd => q H1 (sm.trans s1) d nd⟩
      obtain ⟨b, t, rfl, hti, hb⟩ := (hx.same sm).at_ (i := i) (x := x) (by rw [List.getElem?_take, if_pos hil]; exact hxi)
      have hvt : Vld n t := hv t (List.mem_of_getElem? hti)
      refine ⟨_, rfl, _, rfl, n, _, rfl, .inl ⟨b, t, rfl, hb, hvt, fun H1 s1 => ⟨true, rfl, ?_⟩⟩⟩
      refine ⟨_, rfl, b, _, rfl, (hb.same s1).b, rfl, _, _, rfl, _, _, rfl, _, _, rfl, rfl, ?_⟩
      refine ⟨_, rfl, _, rfl, _, _, rfl, _, rfl, _, rfl, _, _, rfl, by show 2 ≤ sizeLine; decide, fun p np => ?_⟩
      have ed1 : (upd H1 p (.tup [.int (lo t.1 t.2.1), .int (hi t.1 t.2.1)])) d = some (.dT kvs) := by
        rw [upd_ne (ne_of_none (s1 _ _ ed) np)]
        exact s1 _ _ ed
      have ep : (upd H1 p (.tup [.int (lo t.1 t.2.1), .int (hi t.1 t.2.1)])) p = some (.tup ((kk (ky t)).map kV)) := upd_same
      refine ⟨_, rfl, d, rfl, .inr ⟨kvs, .inl ed1⟩, _, rfl, _, DGet.t ed1 ep, ?_⟩
      rw [dI.get]
      refine ⟨_, rfl, _, _, rfl, rfl, _, rfl, _, rfl, d, _, rfl, DPut.t ed1 ep (small1000 (by omega)), ?_⟩
      have hd1 : H1 d ≠ none := fun z => by rw [s1 _ _ ed] at z; cases z
      refine ⟨_, _, _, _, _, _, rfl, upd_same, ?_, Nat.le_trans putK_len (by omega), fun c o e => ?_, hil⟩
      · rw [List.take_add_one, hti]
        exact dI.put t
      · rw [upd_ne (ne_of_none e hd)]
        exact same_upd np _ _ (s1 _ _ (sm _ _ e))
    · obtain ⟨kvs, y3, y4, y5, y6, y7, rfl, ed, dI, klen, sm, il⟩ := p
      obtain ⟨hlen, q⟩ : l.length = xs.length ∧ ∀ H' c r, Same H H' → H c = none → Trip H' c r → IsNorm l r → Q (.ref c) H' := by
        rcases h with h | ⟨v, hv_, _⟩
        · exact h
        · have := (List.getElem?_eq_some_iff.mp hv_).1
          omega
      rw [← hlen, List.take_length] at dI
      refine ⟨_, rfl, d, kvs, rfl, .inl ed, fun kv hkv => by obtain ⟨p, hp⟩ := dI.frm kv hkv; exact ⟨p.1, p.2, hp⟩, fun bs ys p0 hk hsrt hstb np0 => ?_⟩
      obtain ⟨kEq, kAt⟩ := keys_of hk dI.frm
      have hall : ∀ y ∈ ys, ∃ b, y = .ref b ∧ H' b = some (.tup [.int (kOf H' y).1, .int (kOf H' y).2]) := fun y hy => by
        obtain ⟨b, hb, rfl⟩ := List.mem_map.mp (hstb.perm.mem_iff.mp hy)
        obtain ⟨p, hp⟩ := kAt b hb
        exact ⟨b, rfl, by rw [kOf_at hp]; exact hp⟩
      have hperm : (ys.map (kOf H')).Perm ((bs.map V.ref).map (kOf H')) := hstb.perm.map _
      have hnd : (ys.map (kOf H')).Nodup := by
        refine hperm.nodup_iff.mpr ?_
        have := dI.nd
        rw [← kEq] at this
        unfold List.Nodup at this ⊢
        exact (List.pairwise_map.mp this).imp fun h e => h (congrArg kk e)
      have hmem : ∀ p, p ∈ ys.map (kOf H') ↔ p ∈ l.map ky := fun p => by
        rw [hperm.mem_iff, ← dI.mem p, ← kEq]
        exact ⟨fun m => List.mem_map.mpr ⟨p, m, rfl⟩, fun m => by
          obtain ⟨p2, m2, e2⟩ := List.mem_map.mp m
          rw [← kk_inj e2]
          exact m2⟩
      have hlex : (ys.map (kOf H')).Pairwise Lex := sorted_lex hnd (SrtO.srtd_map (lt := SrtO.lexB) (f := kOf H') hsrt)
      have hN : IsNorm l ((ys.map (kOf H')).map fun p => (p.1, p.2, tot p l)) := by
        have e1 : (((ys.map (kOf H')).map fun p => ((p.1, p.2, tot p l) : Tr))).map pr = ys.map (kOf H') := by
          rw [List.map_map]
          exact List.map_id' _
        refine ⟨by rw [e1]; exact hlex, fun p => by rw [e1]; exact hmem p, fun e he => ?_⟩
        obtain ⟨p, _, rfl⟩ := List.mem_map.mp he
        rfl
      have hylen : ys.length ≤ 1000 := by
        have h1 := hstb.perm.length_eq
        have h2 := congrArg List.length kEq
        rw [List.length_map] at h1
        rw [List.length_map, List.length_map, List.length_map, List.length_map] at h2
        omega
      generalize hr0 : ((ys.map (kOf H')).map fun p => ((p.1, p.2, tot p l) : Tr)) = r at hN
      have hrl : r.length = ys.length := by rw [← hr0, List.length_map, List.length_map]
      have s0 : Same H' (upd H' p0 (.lst ys)) := same_upd np0
      refine ⟨p0, rfl, ⟨_, .inl (.inl upd_same)⟩, fun D hD => ?_⟩
      refine lc_list (K := K) (a := p0) (xs := ys) (fun i H2 => Same (upd H' p0 (.lst ys)) H2 ∧ ∃ vs, H2 D = some (.lst vs) ∧ TrV H2 vs (r.take i)) ⟨same_upd hD, [], upd_same, TrV.nil⟩ (fun i H2 _ p => .inl (.inl (p.1 _ _ upd_same))) (fun i x H2 hxi p => ?_) (fun H2 p => ?_)
      · obtain ⟨s2, vs, eD, tV⟩ := p
        obtain ⟨b, rfl, hb⟩ := hall x (List.mem_of_getElem? hxi)
        have hil : i < ys.length := (List.getElem?_eq_some_iff.mp hxi).1
        generalize hp : kOf H' (.ref b) = p at hb
        have hri : r[i]? = some (p.1, p.2, tot p l) := by
          rw [← hr0, List.getElem?_map, List.getElem?_map, hxi, ← hp]
          rfl
        have hpm : p ∈ l.map ky := (hmem p).mp (by rw [← hp]; exact List.mem_map.mpr ⟨_, List.mem_of_getElem? hxi, rfl⟩)
        have hval : valV kvs (kk p) = some (.int (tot p l)) := by
          rw [dI.val, if_pos hpm]
        have hb2 := s2 _ _ (s0 _ _ hb)
        have ed2 := s2 _ _ (s0 _ _ ed)
        refine ⟨b, _, rfl, .inl (.inl hb2), rfl, _, _, rfl, _, _, rfl, rfl, rfl, ?_⟩
        refine ⟨_, rfl, _, rfl, _, rfl, _, rfl, _, rfl, by show 2 ≤ sizeLine; decide, fun p1 np1 => ⟨d, .int (tot p l), rfl, ?_, ?_⟩⟩
        · have g := DGet.t (k := kk p) (b := p1) (H := upd H2 p1 (.tup [.int p.1, .int p.2])) (a := d) (kvs := kvs) (by rw [upd_ne (ne_of_none ed2 np1)]; exact ed2) upd_same
          rw [hval] at g
          exact g
        · refine ⟨by show 3 ≤ sizeLine; decide, fun p2 np2 => ?_⟩
          have s3 : Same H2 (upd (upd H2 p1 (.tup [.int p.1, .int p.2])) p2 (.tup [.int p.1, .int p.2, .int (tot p l)])) := (same_upd np1).trans (same_upd np2)
          refine ⟨vs, s3 _ _ eD, ?_, same_put (H1 := H2) hD (s2.trans s3), _, upd_same, ?_⟩
          · rw [tV.1, List.length_take]
            exact Nat.lt_of_le_of_lt (Nat.min_le_right _ _) (small1000 (by omega))
          · rw [List.take_add_one, hri]
            have nD : p2 ≠ D := fun z => by
              rw [z] at np2
              have := (same_upd (o := .tup [.int p.1, .int p.2]) np1) _ _ eD
              rw [this] at np2
              cases np2
            refine (tV.sameT (sameT_put eD s3)).snoc ?_
            rw [upd_ne nD, upd_same]
      · obtain ⟨s2, vs, eD, tV⟩ := p
        rw [← hrl, List.take_length] at tV
        refine ⟨D, vs, rfl, .inl ⟨.inl (.inl eD), fun c nc => ?_⟩⟩
        have sA : Same H (upd H2 c (.tup vs)) := ((sm.trans s0).trans s2).trans (same_upd nc)
        exact q _ c r sA (((sm.trans s0).trans s2).free nc) ⟨vs, upd_same, tV.same (same_upd nc)⟩ hN
end
end Own

namespace Own
open PySem PySem.Spec PyProof.Rows L2
section
variable {P : Program} {w : World} {K : PySem.W.Frag} {mg : Str → Option Value} {base : Heap} {C D1 D2 : Addr}
/-- what is asked of the values that a lot is made of; q: all is well, u: the number of pins is bad, v: this entry is the first bad one -/
structure MkA (K : PySem.W.Frag) (H : Hp) (v : V) (a : Addr) (q : Int → List Tr → Prop) (u : Prop) (e : V → Prop) : Prop where
  ex : ∃ xs : List V, SqB K H a xs ∧ xs.length ≤ 1000 ∧
    ((∃ (n : Int) (l : List Tr), v = .int n ∧ 0 ≤ n ∧ EnB H (xs.take l.length) l ∧ (∀ t ∈ l, Vld n t) ∧ ((l.length = xs.length ∧ q n l) ∨ ∃ y, xs[l.length]? = some y ∧ BadE K H n y ∧ ShoD K H 3 y ∧ e y)) ∨
     (((∃ i : Int, v = .int i ∧ i < 0) ∨ NotWh K H v) ∧ ShoD K H 3 v ∧ u))
def spInitY (K : PySem.W.Frag) (C D1 D2 : Addr) : Sp := fun vs H Q E => ∃ (p dx : Addr) (v : V) (a : Addr) (H0 : Hp), vs = [.ref p, v, .ref a] ∧ H p = some (.ins C dx []) ∧ H0 p = none ∧ Same H0 H ∧
  MkA K H0 v a (fun n l => ∀ H' c r, Same H0 H' → H' p = some (.ins C dx (flds n c)) → Trip H' c r → IsNorm l r → Q .non H') (Out D1 ["pins"] [v] H E) (fun y => ∀ H', Same H0 H' → Out D2 ["entry"] [y] H' E)
abbrev GIY (P : Program) (w : World) (K : PySem.W.Frag) (mg : Str → Option Value) (base : Heap) (C D1 D2 f : Addr) (d : FuncData) : Prop := FnOk P w K mg base (L2N.CX P w) 6 f d ["self", "pins", "cords"] (spInitY K C D1 D2)
theorem ok_initY {z f : Addr} {fd : FuncData} (F : FI K z f fd) (L : LotC K mg C) {f_k : Addr} {d_k : FuncData} (D_k : Df K mg "check_pins" s_check_pins ["pins"] f_k d_k) (G_k : FnOk P w K mg base (L2N.CX P w) 4 f_k d_k ["pins"] (spCkPinsY K D1))
    {f_g : Addr} {d_g : FuncData} (D_g : Df K mg "gathered" s_gathered ["pins", "entries"] f_g d_g) (G_g : FnOk P w K mg base (L2N.CX P w) 5 f_g d_g ["pins", "entries"] (spGathY K D2)) : GIY P w K mg base C D1 D2 f fd := by
  refine F.ok sc_Lot_init (fun vs H Q E h => ?_) (fun cdv A outer s H vs Q E hr h => ?_)
  · obtain ⟨p, dx, v, a, H0, rfl, _⟩ := h
    rfl
  · obtain ⟨p, dx, v, a, H0, rfl, ep, np, s0, ⟨xs, hB, lx, h⟩⟩ := h
    refine ⟨_, pss_cons (ps_expr (pe_call G_k (hr.mono (by decide)) (by rfl) D_k.g D_k.F.kp D_k.b .nil (L2N.passes_call (L2N.takes_of rfl rfl rfl rfl) (fun _ _ _ _ h => h)) (pa_cons (pv 1) pa_nil)))
      (pss_cons (ps_fld (pv 0) (pv 1) rfl) (pss_one (ps_fld (pv 0) (pe_call G_g hr (by rfl) D_g.g D_g.F.kp D_g.b .nil (L2N.passes_call (L2N.takes_of rfl rfl rfl rfl) (fun _ _ _ _ h => h)) (pa_cons (pv 1) (pa_cons (pv 2) pa_nil))) rfl))), ?_⟩
    rcases h with ⟨n, l, rfl, hn, hx, hv, h⟩ | ⟨bad, sho, u⟩
    rotate_left
    · refine ⟨_, rfl, v, rfl, .inr ⟨?_, sho.keep s0, u⟩⟩
      rcases bad with h | h
      · exact .inl h
      · exact .inr (h.same s0)
    refine ⟨_, rfl, _, rfl, .inl ⟨n, rfl, hn, ?_⟩⟩
    refine ⟨_, rfl, _, rfl, p, C, dx, [], rfl, ep, L.cl, L.nP, by show 0 < 1000; decide, ?_⟩
    have k1 : Same H0 (upd H p (.ins C dx (putF "pins" (.int n) []))) := same_put (H1 := H) np s0
    refine ⟨_, rfl, _, rfl, n, a, xs, l, rfl, hB.same k1, hx.same k1, hv, lx, ?_⟩
    rcases h with ⟨le, q⟩ | ⟨y, hy, bad, sho, q⟩
    · refine .inl ⟨le, fun H1 c r s1 nc tc hN => ?_⟩
      have eH : H1 p = some (.ins C dx (putF "pins" (.int n) [])) := s1 _ _ upd_same
      refine ⟨_, rfl, p, C, dx, _, rfl, eH, L.cl, L.nC, by show 1 < 1000; decide, ?_⟩
      have s2 : ∀ b o, H1 b = some o → b ≠ p → (upd H1 p (.ins C dx (putF "cords" (.ref c) (putF "pins" (.int n) [])))) b = some o := fun b o e nb => by
        rw [upd_ne nb]
        exact e
      refine q _ c r (same_put (H1 := H) np (k1.trans s1)) upd_same ?_ hN
      obtain ⟨vs, e, t⟩ := tc
      refine ⟨vs, s2 _ _ e fun z => ?_, t.sameT fun b o h => s2 _ _ h fun z => ?_⟩
      · rw [z, eH] at e
        cases e
      · rw [z, eH] at h
        cases h
    · exact .inr ⟨y, hy, bad.same k1, sho.keep k1, fun H' s' => q H' (k1.trans s')⟩
/-- Lot(v, entries) -/
theorem rd_makeY {v : V} {a : Addr} {H : Hp} {R : VK} {E : XK}
    (h : MkA K H v a (fun n l => ∀ H' x cs, Same H H' → LotAt C H' x n cs → IsNorm l cs → R (.ref x) H') (∀ H', Same H H' → Out D1 ["pins"] [v] H' E) (fun y => ∀ H', Same H H' → Out D2 ["entry"] [y] H' E)) :
    ∀ x dx, H x = none → H dx = none → dx ≠ x → spInitY K C D1 D2 (.ref x :: ([v, .ref a] ++ [])) (upd (upd H dx (.own x)) x (.ins C dx [])) (fun v H2 => v = .non ∧ R (.ref x) H2) E := fun x dx nx nd ne => by
  have s1 : Same H (upd H dx (.own x)) := same_upd nd
  have nx1 : (upd H dx (.own x)) x = none := by
    rw [upd_ne ne.symm]
    exact nx
  have s2 : Same H (upd (upd H dx (.own x)) x (.ins C dx [])) := s1.trans (same_upd nx1)
  obtain ⟨xs, hB, lx, h⟩ := h.ex
  refine ⟨x, dx, v, a, H, rfl, upd_same, nx, s2, ⟨xs, hB, lx, ?_⟩⟩
  rcases h with ⟨n, l, rfl, hn, hx, hv, h⟩ | ⟨bad, sho, u⟩
  · refine .inl ⟨n, l, rfl, hn, hx, hv, ?_⟩
    rcases h with ⟨le, q⟩ | ⟨y, hy, bad, sho, q⟩
    · exact .inl ⟨le, fun H' c r s' e t hN => ⟨rfl, q H' x r s' ⟨dx, c, e, t⟩ hN⟩⟩
    · exact .inr ⟨y, hy, bad, sho, q⟩
  · exact .inr ⟨bad, sho, u _ s2⟩
theorem rd_makeG {n : Int} {a : Addr} {xs : List V} {l : List Tr} {H : Hp} {R : VK} {E : XK} (hn : 0 ≤ n) (hB : SqB K H a xs) (hx : EnB H xs l) (hv : ∀ t ∈ l, Vld n t) (hl : l.length ≤ 1000) (q : ∀ H' x cs, Same H H' → LotAt C H' x n cs → IsNorm l cs → R (.ref x) H') :
    ∀ x dx, H x = none → H dx = none → dx ≠ x → spInitY K C D1 D2 (.ref x :: ([.int n, .ref a] ++ [])) (upd (upd H dx (.own x)) x (.ins C dx [])) (fun v H2 => v = .non ∧ R (.ref x) H2) E :=
  rd_makeY ⟨xs, hB, by rw [hx.1]; exact hl, .inl ⟨n, l, rfl, hn, by rw [← hx.1, List.take_length]; exact hx, hv, .inl ⟨hx.1.symm, q⟩⟩⟩
end
end Own

namespace Own
open PySem PySem.Spec PyProof.Rows L2
/-- the gap before a pin -/
def pv1 (n a : Int) : Int := (a - 1).fmod n
def tw (n : Int) (T : Int → Int → Int) (a b : Int) : Int := T a b + T (pv1 n a) (pv1 n b) - T a (pv1 n b) - T (pv1 n a) b
/-- rows of whole numbers, each a list or a tuple, in a list or a tuple -/
structure GridB (H : Hp) (p : Addr) (sz : Int) (f : Int → Int → Int) : Prop where
  ex : ∃ vs, SqH H p vs ∧ ∀ i : Nat, (i : Int) < sz → ∃ b, vs[i]? = some (.ref b) ∧ SqH H b (gl sz (f (i : Int)))
theorem GridB.same {H H' : Hp} {p : Addr} {sz : Int} {f : Int → Int → Int} (s : Same H H') (g : GridB H p sz f) : GridB H' p sz f := by
  obtain ⟨vs, h, r⟩ := g.ex
  exact ⟨vs, h.same s, fun i hi => by
    obtain ⟨b, e, hb⟩ := r i hi
    exact ⟨b, e, hb.same s⟩⟩
theorem GridB.at_ {H : Hp} {p : Addr} {sz : Int} {f : Int → Int → Int} (g : GridB H p sz f) {x : Int} (h0 : 0 ≤ x) (h1 : x < sz) : ∃ vs b, SqH H p vs ∧ atI vs x = some (.ref b) ∧ SqH H b (gl sz (f x)) := by
  obtain ⟨vs, h, r⟩ := g.ex
  obtain ⟨k, rfl⟩ : ∃ k : Nat, x = (k : Int) := ⟨x.toNat, by omega⟩
  obtain ⟨b, e, hb⟩ := r k h1
  exact ⟨vs, b, h, atI_nat e, hb⟩
theorem gl_atI {n x : Int} (g : Int → Int) (h0 : 0 ≤ x) (h1 : x < n) : atI (gl n g) x = some (.int (g x)) := by
  obtain ⟨k, rfl⟩ : ∃ k : Nat, x = (k : Int) := ⟨x.toNat, by omega⟩
  refine atI_nat ?_
  unfold gl
  rw [List.getElem?_map, List.getElem?_range (by omega)]
  rfl
def rLenB (K : PySem.W.Frag) : List V → Hp → VK → Prop := fun xs H Q => ∃ p ys, xs = [V.ref p] ∧ (SqL K H p ys ∨ SqT K H p ys) ∧ Q (.int (ys.length : Int)) H
theorem cr_lenB {X : Cx} : CallR X (.builtin "len") (rLenB X.K) := call_len_seq
theorem SqH.lt {K : PySem.W.Frag} {H : Hp} {a : Addr} {xs : List V} (h : SqH H a xs) : SqL K H a xs ∨ SqT K H a xs := h.elim (fun e => .inl (.inl (.inl e))) fun e => .inr (.inl (.inl e))
section
variable {P : Program} {w : World} {K : PySem.W.Frag} {mg : Str → Option Value} {base : Heap} {C : Addr}
def spTwice : Sp := fun vs H Q _ => ∃ (n : Int) (p : Addr) (f : Int → Int → Int) (a b : Int), vs = [.int n, .ref p, .int a, .int b] ∧ GridB H p n f ∧ 0 ≤ a ∧ a < n ∧ 0 ≤ b ∧ b < n ∧ Q (.int (tw n f a b)) H
theorem ok_twice {f : Addr} {fd : FuncData} (F : Fun K "twice_between" "twice_between" s_twice_between f fd) : FnOk P w K mg base CX0 1 f fd ["pins", "table", "a", "b"] spTwice := by
  refine F.ok sc_twice_between (fun vs H Q E h => ?_) (fun cdv A outer s H vs Q E hr h => ?_)
  · obtain ⟨n, p, g, a, b, rfl, _⟩ := h
    rfl
  · obtain ⟨n, p, g, a, b, rfl, hG, a0, a1, b0, b1, q⟩ := h
    refine ⟨_, (pss_cons (ps_set (i := 4) sc_twice_between.nd rfl (.inl rfl) (pe_op op_modN (pe_op op_sub (pv 2) pe_int) (pv 0)))
        (pss_cons (ps_set (i := 5) sc_twice_between.nd rfl (.inl rfl) (pe_op op_modN (pe_op op_sub (pv 3) pe_int) (pv 0)))
        (pss_one (ps_ret (pe_op op_sub (pe_op op_sub (pe_op op_add (pe_ix (r := rIxB K) ix_seqB (pe_ix (r := rIxB K) ix_seqB (pv 1) (pv 2) (fun _ _ => rfl)) (pv 3) (fun _ _ => rfl)) (pe_ix (r := rIxB K) ix_seqB (pe_ix (r := rIxB K) ix_seqB (pv 1) (pv 4) (fun _ _ => rfl)) (pv 5) (fun _ _ => rfl))) (pe_ix (r := rIxB K) ix_seqB (pe_ix (r := rIxB K) ix_seqB (pv 1) (pv 2) (fun _ _ => rfl)) (pv 5) (fun _ _ => rfl))) (pe_ix (r := rIxB K) ix_seqB (pe_ix (r := rIxB K) ix_seqB (pv 1) (pv 4) (fun _ _ => rfl)) (pv 3) (fun _ _ => rfl))))))), ?_⟩
    have ha := fmod_in (a - 1) (show 0 < n by omega)
    have hb := fmod_in (b - 1) (show 0 < n by omega)
    obtain ⟨vs, u, h1, e1, r1⟩ := hG.at_ a0 a1
    obtain ⟨vs2, v, h2, e2, r2⟩ := hG.at_ ha.1 ha.2
    refine ⟨_, rfl, _, _, rfl, rfl, _, rfl, _, _, rfl, rfl, by omega, ?_⟩
    refine ⟨_, rfl, _, _, rfl, rfl, _, rfl, _, _, rfl, rfl, by omega, ?_⟩
    refine ⟨_, rfl, _, rfl, p, vs, _, _, rfl, rfl, h1.b, e1, _, rfl, u, _, _, _, rfl, rfl, r1.b, gl_atI _ b0 b1, ?_⟩
    refine ⟨_, rfl, _, rfl, p, vs2, _, _, rfl, rfl, h2.b, e2, _, rfl, v, _, _, _, rfl, rfl, r2.b, gl_atI _ hb.1 hb.2, _, _, rfl, rfl, ?_⟩
    refine ⟨_, rfl, _, rfl, p, vs, _, _, rfl, rfl, h1.b, e1, _, rfl, u, _, _, _, rfl, rfl, r1.b, gl_atI _ hb.1 hb.2, _, _, rfl, rfl, ?_⟩
    refine ⟨_, rfl, _, rfl, p, vs2, _, _, rfl, rfl, h2.b, e2, _, rfl, v, _, _, _, rfl, rfl, r2.b, gl_atI _ b0 b1, _, _, rfl, rfl, ?_⟩
    exact q
end
end Own

namespace Own
open PySem PySem.Spec PyProof.Rows L2
section
variable {P : Program} {w : World} {K : PySem.W.Frag} {mg : Str → Option Value} {base : Heap} {C : Addr}
/-- what a place of a table is judged by: missing, no number, or a number and the one that it is held against -/
inductive Plc (K : PySem.W.Frag) (H : Hp) (rows : List V) (r c : Nat) (xs : List V) : Bool → Prop
  | miss : xs.length ≤ c → Plc K H rows r c xs false
  | bad {v : V} : xs[c]? = some v → ((∃ i : Int, v = .int i ∧ i < 0) ∨ NotWh K H v) → Plc K H rows r c xs false
  | low {i j : Int} {b : Addr} {ys : List V} : xs[c]? = some (.int i) → 0 ≤ i → c < r → rows[c]? = some (.ref b) → SqH H b ys → ys[r]? = some (.int j) → Plc K H rows r c xs (decide (i = j))
  | up {i : Int} : xs[c]? = some (.int i) → 0 ≤ i → r < c → Plc K H rows r c xs true
  | diag {i : Int} : xs[c]? = some (.int i) → 0 ≤ i → r = c → Plc K H rows r c xs (decide (i = 0))
def spPlace (K : PySem.W.Frag) : Sp := fun vs H Q _ => ∃ (p b : Addr) (rows xs : List V) (r c : Nat) (t : Bool), vs = [.ref p, .int (r : Int), .int (c : Int)] ∧ SqH H p rows ∧ rows[r]? = some (.ref b) ∧ SqH H b xs ∧ Plc K H rows r c xs t ∧ Q (.bl t) H
theorem ok_place {f : Addr} {fd : FuncData} (F : Fun K "is_place_right" "is_place_right" s_is_place_right f fd) (T : Bi mg) {f_w : Addr} {d_w : FuncData} (D_w : Df K mg "is_whole" s_is_whole ["value"] f_w d_w) (G_w : FnOk P w K mg base CX0 1 f_w d_w ["value"] (spWholeY K)) : FnOk P w K mg base CX0 2 f fd ["rows", "row", "column"] (spPlace K) := by
  refine F.ok sc_is_place_right (fun vs H Q E h => ?_) (fun cdv A outer s H vs Q E hr h => ?_)
  · obtain ⟨p, b, rows, xs, r, c, t, rfl, _⟩ := h
    rfl
  · obtain ⟨p, b, rows, xs, r, c, t, rfl, hp, hr_, hb, pl, q⟩ := h
    refine ⟨_, (pss_cons (ps_if (pt_cmpR op_ge (pv 2) (pe_callB (r := rLenB K) cr_lenB (by rfl) T.b_len PySem.boot_len (pa_cons (pe_ix (r := rIxB K) ix_seqB (pv 0) (pv 1) (fun _ _ => rfl)) pa_nil)) (nomark _)) (pss_one (ps_ret pe_bl)) pss_nil)
        (pss_cons (ps_set (i := 3) sc_is_place_right.nd rfl (.inl rfl) (pe_ix (r := rIxB K) ix_seqB (pe_ix (r := rIxB K) ix_seqB (pv 0) (pv 1) (fun _ _ => rfl)) (pv 2) (fun _ _ => rfl)))
        (pss_cons (ps_if (PW.pt (pw_or (pt_not (pt_val (pe_call G_w (hr.mono (by decide)) (by rfl) D_w.g D_w.F.kp D_w.b .nil pass0 (pa_cons (pv 3) pa_nil)))) (pw_or1 (pt_cmpR op_lt (pv 3) pe_int (nomark _))))) (pss_one (ps_ret pe_bl)) pss_nil)
        (pss_cons (ps_if (pt_cmpR op_lt (pv 2) (pv 1) (nomark _)) (pss_one (ps_ret (pe_cmpR op_eq (pv 3) (pe_ix (r := rIxB K) ix_seqB (pe_ix (r := rIxB K) ix_seqB (pv 0) (pv 2) (fun _ _ => rfl)) (pv 1) (fun _ _ => rfl)) (nomark _)))) pss_nil)
        (pss_one (ps_ret (pe_or (pe_cmpR op_gt (pv 2) (pv 1) (nomark _)) (pe_one (pe_cmpR op_eq (pv 3) pe_int (nomark _)))))))))), ?_⟩
    have ar : atI rows (r : Int) = some (.ref b) := atI_nat hr_
    have len : ∀ (v : V), xs[c]? = some v → ¬ (xs.length : Int) ≤ (c : Int) := fun v h z => by
      have := (List.getElem?_eq_some_iff.mp h).1
      omega
    refine ⟨_, rfl, _, rfl, _, rfl, p, rows, _, _, rfl, rfl, hp.b, ar, b, xs, rfl, hb.lt, _, _, rfl, rfl, _, rfl, ?_⟩
    have there : ∀ (v : V), xs[c]? = some v → atI xs (c : Int) = some v := fun v h => atI_nat h
    cases pl with
    | miss h =>
      rw [decide_eq_true (show (xs.length : Int) ≤ (c : Int) by omega)]
      exact q
    | @bad v h hw =>
      rw [decide_eq_false (len v h)]
      refine ⟨_, rfl, _, rfl, p, rows, _, _, rfl, rfl, hp.b, ar, _, rfl, b, xs, _, _, rfl, rfl, hb.b, there v h, ?_⟩
      rcases hw with ⟨i, rfl, hi⟩ | hw
      · refine ⟨_, rfl, _, rfl, .inl ⟨i, rfl, true, rfl, ?_⟩⟩
        refine ⟨_, rfl, _, _, rfl, rfl, _, rfl, ?_⟩
        rw [decide_eq_true hi]
        exact q
      · exact ⟨_, rfl, _, rfl, .inr ⟨hw, false, rfl, q⟩⟩
    | @low i j b2 ys h i0 cr h2 hb2 hj =>
      rw [decide_eq_false (len _ h)]
      refine ⟨_, rfl, _, rfl, p, rows, _, _, rfl, rfl, hp.b, ar, _, rfl, b, xs, _, _, rfl, rfl, hb.b, there _ h, ?_⟩
      refine ⟨_, rfl, _, rfl, .inl ⟨i, rfl, true, rfl, ?_⟩⟩
      refine ⟨_, rfl, _, _, rfl, rfl, _, rfl, ?_⟩
      rw [decide_eq_false (show ¬ i < 0 by omega)]
      refine ⟨_, rfl, _, rfl, _, _, rfl, rfl, _, rfl, ?_⟩
      rw [decide_eq_true (show (c : Int) < (r : Int) by omega)]
      refine ⟨_, rfl, _, rfl, _, rfl, p, rows, _, _, rfl, rfl, hp.b, atI_nat h2, _, rfl, b2, ys, _, _, rfl, rfl, hb2.b, atI_nat hj, rfl, ?_⟩
      rw [show decide (V.int i = V.int j) = decide (i = j) from decide_eq_decide.mpr ⟨fun z => V.int.inj z, fun z => congrArg V.int z⟩]
      exact q
    | @up i h i0 rc =>
      rw [decide_eq_false (len _ h)]
      refine ⟨_, rfl, _, rfl, p, rows, _, _, rfl, rfl, hp.b, ar, _, rfl, b, xs, _, _, rfl, rfl, hb.b, there _ h, ?_⟩
      refine ⟨_, rfl, _, rfl, .inl ⟨i, rfl, true, rfl, ?_⟩⟩
      refine ⟨_, rfl, _, _, rfl, rfl, _, rfl, ?_⟩
      rw [decide_eq_false (show ¬ i < 0 by omega)]
      refine ⟨_, rfl, _, rfl, _, _, rfl, rfl, _, rfl, ?_⟩
      rw [decide_eq_false (show ¬ (c : Int) < (r : Int) by omega)]
      refine ⟨_, rfl, _, rfl, _, _, rfl, rfl, _, rfl, ?_⟩
      rw [decide_eq_true (show (r : Int) < (c : Int) by omega)]
      exact q
    | @diag i h i0 rc =>
      rw [decide_eq_false (len _ h)]
      refine ⟨_, rfl, _, rfl, p, rows, _, _, rfl, rfl, hp.b, ar, _, rfl, b, xs, _, _, rfl, rfl, hb.b, there _ h, ?_⟩
      refine ⟨_, rfl, _, rfl, .inl ⟨i, rfl, true, rfl, ?_⟩⟩
      refine ⟨_, rfl, _, _, rfl, rfl, _, rfl, ?_⟩
      rw [decide_eq_false (show ¬ i < 0 by omega)]
      refine ⟨_, rfl, _, rfl, _, _, rfl, rfl, _, rfl, ?_⟩
      rw [decide_eq_false (show ¬ (c : Int) < (r : Int) by omega)]
      refine ⟨_, rfl, _, rfl, _, _, rfl, rfl, _, rfl, ?_⟩
      rw [decide_eq_false (show ¬ (r : Int) < (c : Int) by omega)]
      refine ⟨_, rfl, rfl, ?_⟩
      rw [show decide (V.int i = V.int 0) = decide (i = 0) from decide_eq_decide.mpr ⟨fun z => V.int.inj z, fun z => congrArg V.int z⟩]
      exact q
end
end Own

namespace Own
open PySem PySem.Spec PyProof.Rows L2
section
variable {K : PySem.W.Frag} {H : Hp} {rows : List V} {sz : Nat}
theorem Plc.same {H' : Hp} {r c : Nat} {xs : List V} {t : Bool} (s : Same H H') (h : Plc K H rows r c xs t) : Plc K H' rows r c xs t := by
  cases h with
  | miss h => exact .miss h
  | bad h hw => exact .bad h (hw.elim .inl fun x => .inr (x.same s))
  | low h i0 cr h2 hb hj => exact .low h i0 cr h2 (hb.same s) hj
  | up h i0 rc => exact .up h i0 rc
  | diag h i0 rc => exact .diag h i0 rc
/-- a row without a fault -/
def RowOk (K : PySem.W.Frag) (H : Hp) (rows : List V) (sz r : Nat) : Prop := ∃ b xs, rows[r]? = some (.ref b) ∧ SqH H b xs ∧ xs.length = sz ∧ ∀ c, c < sz → Plc K H rows r c xs true
/-- the first fault of a row -/
def Dt (K : PySem.W.Frag) (H : Hp) (rows : List V) (sz r c : Nat) : Prop := (c = 0 ∧ (rows.length ≤ r ∨ ∃ v, rows[r]? = some v ∧ NotSq K H v)) ∨ ∃ b xs, rows[r]? = some (.ref b) ∧ SqH H b xs ∧
  ((c < sz ∧ (∀ k, k < c → Plc K H rows r k xs true) ∧ Plc K H rows r c xs false) ∨ (c = sz ∧ (∀ k, k < sz → Plc K H rows r k xs true) ∧ sz < xs.length))
/-- none: a table's form; else the first place that breaks it -/
def Vd (K : PySem.W.Frag) (H : Hp) (rows : List V) (sz : Nat) : Option (Nat × Nat) → Prop
  | none => rows.length = sz ∧ ∀ r, r < sz → RowOk K H rows sz r
  | some (r, c) => (∀ k, k < r → k < sz → RowOk K H rows sz k) ∧ ((r < sz ∧ Dt K H rows sz r c) ∨ (r = sz ∧ c = 0 ∧ sz < rows.length))
theorem RowOk.same {H' : Hp} {r : Nat} (s : Same H H') (h : RowOk K H rows sz r) : RowOk K H' rows sz r := by
  obtain ⟨b, xs, e, hb, l, pl⟩ := h
  exact ⟨b, xs, e, hb.same s, l, fun c hc => (pl c hc).same s⟩
theorem Dt.same {H' : Hp} {r c : Nat} (s : Same H H') (h : Dt K H rows sz r c) : Dt K H' rows sz r c := by
  rcases h with ⟨e, h⟩ | ⟨b, xs, e, hb, h⟩
  · exact .inl ⟨e, h.elim .inl fun ⟨v, ev, n⟩ => .inr ⟨v, ev, n.same s⟩⟩
  · refine .inr ⟨b, xs, e, hb.same s, ?_⟩
    rcases h with ⟨h1, h2, h3⟩ | ⟨h1, h2, h3⟩
    · exact .inl ⟨h1, fun k hk => (h2 k hk).same s, h3.same s⟩
    · exact .inr ⟨h1, fun k hk => (h2 k hk).same s, h3⟩
theorem Vd.same {H' : Hp} {o : Option (Nat × Nat)} (s : Same H H') (h : Vd K H rows sz o) : Vd K H' rows sz o := by
  match o, h with
  | none, h => exact ⟨h.1, fun r hr => (h.2 r hr).same s⟩
  | some (r, c), h => exact ⟨fun k h1 h2 => (h.1 k h1 h2).same s, h.2.elim (fun x => .inl ⟨x.1, x.2.same s⟩) .inr⟩
theorem Vd.row {o : Option (Nat × Nat)} (h : Vd K H rows sz o) {i : Nat} (hi : i < sz) (le : ∀ r c, o = some (r, c) → i ≤ r) : (RowOk K H rows sz i ∧ ∀ r c, o = some (r, c) → i + 1 ≤ r) ∨ ∃ c, o = some (i, c) ∧ Dt K H rows sz i c := by
  match o, h with
  | none, h => exact .inl ⟨h.2 i hi, fun _ _ z => nomatch z⟩
  | some (r, c), h =>
    have hr := le r c rfl
    rcases Nat.lt_or_eq_of_le hr with hr | hr
    · exact .inl ⟨h.1 i hr hi, fun r' c' z => by cases z; exact hr⟩
    · subst hr
      rcases h.2 with ⟨_, d⟩ | ⟨e, _⟩
      · exact .inr ⟨c, rfl, d⟩
      · omega
end
section
variable {P : Program} {w : World} {K : PySem.W.Frag} {mg : Str → Option Value} {base : Heap} {C D f_u : Addr} {d_u : FuncData}
def spCkT (K : PySem.W.Frag) (D : Addr) : Sp := fun vs H Q E => ∃ (sz : Nat) (v : V) (rows : List V) (o : Option (Nat × Nat)), vs = [.int (sz : Int), v] ∧ 1 ≤ sz ∧ sz ≤ 1000 ∧ ((∃ p, v = .ref p ∧ SqH H p rows) ∨ (NotSq K H v ∧ rows = [])) ∧ rows.length ≤ 100000 ∧ Vd K H rows sz o ∧
  (o = none → ∀ H', Same H H' → Q .non H') ∧ ∀ r c : Nat, o = some (r, c) → ∀ H', Same H H' → Out D ["row", "column"] [.int (r : Int), .int (c : Int)] H' E
set_option maxHeartbeats 0 in
theorem ok_ckt {f : Addr} {fd : FuncData} (F : Fun K "check_table" "check_table" s_check_table f fd) (T : Bi mg) {f_q : Addr} {d_q : FuncData} (D_q : Df K mg "is_sequence" s_is_sequence ["value"] f_q d_q) (G_q : FnOk P w K mg base CX0 1 f_q d_q ["value"] (spSeqY K)) {f_p : Addr} {d_p : FuncData} (D_p : Df K mg "is_place_right" s_is_place_right ["rows", "row", "column"] f_p d_p) (G_p : FnOk P w K mg base CX0 2 f_p d_p ["rows", "row", "column"] (spPlace K)) (U : ErrU K mg "BadTable" D f_u d_u ["self", "row", "column"]) (G_u : GE P w K mg base D f_u d_u ["row", "column"]) : FnOk P w K mg base (L2N.CX P w) 5 f fd ["size", "table"] (spCkT K D) := by
  refine okN F sc_check_table (fun vs H Q E h => ?_) (fun cdv A outer s H vs Q E hr h => ?_)
  · obtain ⟨sz, v, rows, o, rfl, _⟩ := h
    rfl
  · obtain ⟨sz, v, rows, o, rfl, z1, z2, hv, hl, vd, q, u⟩ := h
    refine ⟨_, (pss_cons (ps_set (i := 2) sc_check_table.nd rfl (.inl rfl) (pe_ifExp (pt_val (pe_call G_q (hr.mono (by decide)) (by rfl) D_q.g D_q.F.kp D_q.b .nil pass0 (pa_cons (pv 1) pa_nil))) (pv 1) (pe_tup pa_nil)))
        (pss_cons (ps_for PassesOwn.leaving rfl (pi_range1 (by rfl) T.b_range (pa_cons (pv 0) pa_nil)) (pg_name (i := 3) sc_check_table.nd rfl (.inl rfl))
        (pss_cons (ps_if (PW.pt (pw_or (pt_cmpR op_ge (pv 3) (pe_callB (r := rLenB K) cr_lenB (by rfl) T.b_len PySem.boot_len (pa_cons (pv 2) pa_nil)) (nomark _)) (pw_or1 (pt_not (pt_val (pe_call G_q (hr.mono (by decide)) (by rfl) D_q.g D_q.F.kp D_q.b .nil pass0 (pa_cons (pe_ix (r := rIxB K) ix_seqB (pv 2) (pv 3) (fun _ _ => rfl)) pa_nil))))))) (pss_one (ps_errD rfl (L2N.takes_of rfl rfl rfl rfl) U.T U.R G_u (hr.mono (by decide)) U.b (by rfl) (pa_cons (pv 3) (pa_cons pe_int pa_nil)))) pss_nil)
        (pss_cons (ps_for PassesOwn.leaving rfl (pi_range1 (by rfl) T.b_range (pa_cons (pv 0) pa_nil)) (pg_name (i := 4) sc_check_table.nd rfl (.inl rfl))
        (pss_one (ps_if (pt_not (pt_val (pe_call G_p (hr.mono (by decide)) (by rfl) D_p.g D_p.F.kp D_p.b .nil pass0 (pa_cons (pv 2) (pa_cons (pv 3) (pa_cons (pv 4) pa_nil)))))) (pss_one (ps_errD rfl (L2N.takes_of rfl rfl rfl rfl) U.T U.R G_u (hr.mono (by decide)) U.b (by rfl) (pa_cons (pv 3) (pa_cons (pv 4) pa_nil)))) pss_nil)))
        (pss_one (ps_if (pt_cmpR op_gt (pe_callB (r := rLenB K) cr_lenB (by rfl) T.b_len PySem.boot_len (pa_cons (pe_ix (r := rIxB K) ix_seqB (pv 2) (pv 3) (fun _ _ => rfl)) pa_nil)) (pv 0) (nomark _)) (pss_one (ps_errD rfl (L2N.takes_of rfl rfl rfl rfl) U.T U.R G_u (hr.mono (by decide)) U.b (by rfl) (pa_cons (pv 3) (pa_cons (pv 0) pa_nil)))) pss_nil)))))
        (pss_one (ps_if (pt_cmpR op_gt (pe_callB (r := rLenB K) cr_lenB (by rfl) T.b_len PySem.boot_len (pa_cons (pv 2) pa_nil)) (pv 0) (nomark _)) (pss_one (ps_errD rfl (L2N.takes_of rfl rfl rfl rfl) U.T U.R G_u (hr.mono (by decide)) U.b (by rfl) (pa_cons (pv 0) (pa_cons pe_int pa_nil)))) pss_nil)))), ?_⟩
    rcases hv with ⟨p, rfl, hp0⟩ | ⟨nsq, erw⟩
    · refine ⟨_, rfl, _, rfl, .inl ⟨p, rows, rfl, hp0, fun H1 s1 => ⟨true, rfl, _, rfl, ?_⟩⟩⟩
      have hp := hp0.same s1
      have vd1 := vd.same s1
      refine ⟨_, rfl, (sz : Int), rfl, by omega, by omega, for_range (lo := 0) (n := ((sz : Nat) : Int).toNat) (fun i σ H' => (∃ y3 y4, σ = [some (.int (sz : Int)), some (.ref p), some (.ref p), y3, y4]) ∧ Same H1 H' ∧ ∀ r c, o = some (r, c) → i ≤ r) ⟨⟨_, _, rfl⟩, Same.refl H1, fun _ _ _ => Nat.zero_le _⟩ (fun i σ H2 hi pv => ?_) (fun σ H2 pv => ?_)⟩
      · obtain ⟨⟨y3, y4, rfl⟩, s2, le⟩ := pv
        rw [Int.zero_add]
        have hi2 : i < sz := by omega
        have hp2 := hp.same s2
        have i64 : ShoD K H2 3 (.int (i : Int)) := ShoD.leaf (.inl ⟨_, rfl, Nat.lt_of_lt_of_le (log_lt (k := 64) (by decide) (by omega)) (by decide)⟩) 3
        rcases vd1.row hi2 le with ⟨⟨b, xs, er, hb, lx, pl⟩, le2⟩ | ⟨c, eo, dt⟩
        · have ir : i < rows.length := (List.getElem?_eq_some_iff.mp er).1
          have ai : atI rows (i : Int) = some (.ref b) := atI_nat er
          refine ⟨_, rfl, _, rfl, p, rows, rfl, hp2.lt, _, _, rfl, rfl, _, rfl, ?_⟩
          rw [decide_eq_false (show ¬ (rows.length : Int) ≤ (i : Int) by omega)]
          refine ⟨_, rfl, _, rfl, p, rows, _, _, rfl, rfl, hp2.b, ai, _, rfl, .inl ⟨b, xs, rfl, hb.same s2, fun H3 s3 => ⟨true, rfl, ?_⟩⟩⟩
          refine ⟨_, rfl, (sz : Int), rfl, by omega, by omega, for_range (lo := 0) (n := ((sz : Nat) : Int).toNat) (fun k σ H' => (∃ y4, σ = [some (.int (sz : Int)), some (.ref p), some (.ref p), some (.int (i : Int)), y4]) ∧ Same H3 H') ⟨⟨_, rfl⟩, Same.refl H3⟩ (fun k σ H4 hk pv => ?_) (fun σ H4 pv => ?_)⟩
          · obtain ⟨⟨y4, rfl⟩, s4⟩ := pv
            rw [Int.zero_add]
            have s14 := (s2.trans s3).trans s4
            exact ⟨_, rfl, _, rfl, _, rfl, p, b, rows, xs, i, k, true, rfl, hp.same s14, er, hb.same s14, (pl k (by omega)).same s14, true, rfl, ⟨_, rfl⟩, s4⟩
          · obtain ⟨⟨y4, rfl⟩, s4⟩ := pv
            have s14 := (s2.trans s3).trans s4
            refine ⟨_, rfl, _, rfl, p, rows, _, _, rfl, rfl, (hp.same s14).b, ai, b, xs, rfl, (hb.same s14).lt, _, rfl, _, _, rfl, rfl, _, rfl, ?_⟩
            rw [decide_eq_false (show ¬ (sz : Int) < (xs.length : Int) by omega)]
            exact ⟨⟨_, _, rfl⟩, s14, le2⟩
        · have out := fun H' s' => u i c eo H' ((s1.trans s2).trans s')
          rcases dt with ⟨rfl, hno⟩ | ⟨b, xs, er, hb, h⟩
          · rcases hno with hno | ⟨x, ex, nsq⟩
            · refine ⟨_, rfl, _, rfl, p, rows, rfl, hp2.lt, _, _, rfl, rfl, _, rfl, ?_⟩
              rw [decide_eq_true (show (rows.length : Int) ≤ (i : Int) by omega)]
              exact ⟨_, rfl, rfl, by decide, fun y hy => by
                rcases List.mem_cons.mp hy with rfl | hy
                · exact i64
                · rw [List.mem_singleton.mp hy]
                  exact ShoD.leaf (.inl ⟨0, rfl, by decide +kernel⟩) 3, fun d nd => out H2 (Same.refl H2) d nd⟩
            · have ir : i < rows.length := (List.getElem?_eq_some_iff.mp ex).1
              refine ⟨_, rfl, _, rfl, p, rows, rfl, hp2.lt, _, _, rfl, rfl, _, rfl, ?_⟩
              rw [decide_eq_false (show ¬ (rows.length : Int) ≤ (i : Int) by omega)]
              refine ⟨_, rfl, _, rfl, p, rows, _, _, rfl, rfl, hp2.b, atI_nat ex, _, rfl, .inr ⟨nsq.same s2, fun H3 s3 => ⟨false, rfl, ?_⟩⟩⟩
              exact ⟨_, rfl, rfl, by decide, fun y hy => by
                rcases List.mem_cons.mp hy with rfl | hy
                · exact i64.keep s3
                · rw [List.mem_singleton.mp hy]
                  exact ShoD.leaf (.inl ⟨0, rfl, by decide +kernel⟩) 3, fun d nd => out H3 s3 d nd⟩
          · have ir : i < rows.length := (List.getElem?_eq_some_iff.mp er).1
            have ai : atI rows (i : Int) = some (.ref b) := atI_nat er
            refine ⟨_, rfl, _, rfl, p, rows, rfl, hp2.lt, _, _, rfl, rfl, _, rfl, ?_⟩
            rw [decide_eq_false (show ¬ (rows.length : Int) ≤ (i : Int) by omega)]
            refine ⟨_, rfl, _, rfl, p, rows, _, _, rfl, rfl, hp2.b, ai, _, rfl, .inl ⟨b, xs, rfl, hb.same s2, fun H3 s3 => ⟨true, rfl, ?_⟩⟩⟩
            refine ⟨_, rfl, (sz : Int), rfl, by omega, by omega, for_range (lo := 0) (n := ((sz : Nat) : Int).toNat) (fun k σ H' => (∃ y4, σ = [some (.int (sz : Int)), some (.ref p), some (.ref p), some (.int (i : Int)), y4]) ∧ Same H3 H' ∧ k ≤ c) ⟨⟨_, rfl⟩, Same.refl H3, Nat.zero_le _⟩ (fun k σ H4 hk pv => ?_) (fun σ H4 pv => ?_)⟩
            · obtain ⟨⟨y4, rfl⟩, s4, kc⟩ := pv
              rw [Int.zero_add]
              have s14 := (s2.trans s3).trans s4
              have hk2 : k < sz := by omega
              have go : ∀ t, Plc K H1 rows i k xs t → (t = true ∧ k + 1 ≤ c) ∨ (t = false ∧ k = c) → Plc K H1 rows i k xs t := fun _ h _ => h
              rcases Nat.lt_or_eq_of_le kc with kc | kc
              · have pk : Plc K H1 rows i k xs true := by
                  rcases h with ⟨_, h, _⟩ | ⟨_, h, _⟩
                  · exact h k kc
                  · exact h k hk2
                exact ⟨_, rfl, _, rfl, _, rfl, p, b, rows, xs, i, k, true, rfl, hp.same s14, er, hb.same s14, pk.same s14, true, rfl, ⟨_, rfl⟩, s4, kc⟩
              · subst kc
                rcases h with ⟨_, _, pk⟩ | ⟨e, _, _⟩
                · refine ⟨_, rfl, _, rfl, _, rfl, p, b, rows, xs, i, k, false, rfl, hp.same s14, er, hb.same s14, pk.same s14, false, rfl, ?_⟩
                  exact ⟨_, rfl, _, rfl, rfl, by decide, fun y hy => by
                    rcases List.mem_cons.mp hy with rfl | hy
                    · exact i64.keep (s3.trans s4)
                    · rw [List.mem_singleton.mp hy]
                      exact ShoD.leaf (.inl ⟨_, rfl, Nat.lt_of_lt_of_le (log_lt (k := 64) (by decide) (by omega)) (by decide)⟩) 3, fun d nd => out H4 (s3.trans s4) d nd⟩
                · omega
            · obtain ⟨⟨y4, rfl⟩, s4, kc⟩ := pv
              have s14 := (s2.trans s3).trans s4
              rcases h with ⟨h, _, _⟩ | ⟨e, _, hx⟩
              · omega
              · subst e
                refine ⟨_, rfl, _, rfl, p, rows, _, _, rfl, rfl, (hp.same s14).b, ai, b, xs, rfl, (hb.same s14).lt, _, rfl, _, _, rfl, rfl, _, rfl, ?_⟩
                rw [decide_eq_true (show (c : Int) < (xs.length : Int) by omega)]
                exact ⟨_, rfl, _, rfl, rfl, by decide, fun y hy => by
                  rcases List.mem_cons.mp hy with rfl | hy
                  · exact i64.keep (s3.trans s4)
                  · rw [List.mem_singleton.mp hy]
                    exact ShoD.leaf (.inl ⟨_, rfl, Nat.lt_of_lt_of_le (log_lt (k := 64) (by decide) (by omega)) (by decide)⟩) 3, fun d nd => out H4 (s3.trans s4) d nd⟩
      · obtain ⟨⟨y3, y4, rfl⟩, s2, le⟩ := pv
        refine ⟨_, rfl, p, rows, rfl, (hp.same s2).lt, _, rfl, _, _, rfl, rfl, _, rfl, ?_⟩
        match o, vd1, le, q, u with
        | none, vd1, le, q, u =>
          have := vd1.1
          rw [decide_eq_false (show ¬ (sz : Int) < (rows.length : Int) by omega)]
          exact q rfl _ (s1.trans s2)
        | some (r, c), vd1, le, q, u =>
          have hr2 := le r c rfl
          rcases vd1.2 with ⟨h, _⟩ | ⟨e1, e2, h⟩
          · omega
          · subst e1 e2
            rw [decide_eq_true (show (r : Int) < (rows.length : Int) by omega)]
            exact ⟨_, rfl, rfl, by decide, fun y hy => by
              rcases List.mem_cons.mp hy with rfl | hy
              · exact ShoD.leaf (.inl ⟨_, rfl, Nat.lt_of_lt_of_le (log_lt (k := 64) (by decide) (by omega)) (by decide)⟩) 3
              · rw [List.mem_singleton.mp hy]
                exact ShoD.leaf (.inl ⟨0, rfl, by decide +kernel⟩) 3, fun d nd => u r 0 rfl H2 (s1.trans s2) d nd⟩
    · refine ⟨_, rfl, _, rfl, .inr ⟨nsq, fun H0 s0 => ⟨false, rfl, by show 0 ≤ sizeLine; decide, fun p np => ?_⟩⟩⟩
      have s1 := s0.trans (same_upd (o := .tup []) np)
      have hp : SqH (upd H0 p (.tup [])) p rows := by rw [erw]; exact .inr upd_same
      have vd1 := vd.same s1
      generalize upd H0 p (.tup []) = H1 at s1 hp vd1 ⊢
      refine ⟨_, rfl, (sz : Int), rfl, by omega, by omega, for_range (lo := 0) (n := ((sz : Nat) : Int).toNat) (fun i σ H' => (∃ y3 y4, σ = [some (.int (sz : Int)), some v, some (.ref p), y3, y4]) ∧ Same H1 H' ∧ ∀ r c, o = some (r, c) → i ≤ r) ⟨⟨_, _, rfl⟩, Same.refl H1, fun _ _ _ => Nat.zero_le _⟩ (fun i σ H2 hi pv => ?_) (fun σ H2 pv => ?_)⟩
      · obtain ⟨⟨y3, y4, rfl⟩, s2, le⟩ := pv
        rw [Int.zero_add]
        have hi2 : i < sz := by omega
        have hp2 := hp.same s2
        have i64 : ShoD K H2 3 (.int (i : Int)) := ShoD.leaf (.inl ⟨_, rfl, Nat.lt_of_lt_of_le (log_lt (k := 64) (by decide) (by omega)) (by decide)⟩) 3
        rcases vd1.row hi2 le with ⟨⟨b, xs, er, hb, lx, pl⟩, le2⟩ | ⟨c, eo, dt⟩
        · have ir : i < rows.length := (List.getElem?_eq_some_iff.mp er).1
          have ai : atI rows (i : Int) = some (.ref b) := atI_nat er
          refine ⟨_, rfl, _, rfl, p, rows, rfl, hp2.lt, _, _, rfl, rfl, _, rfl, ?_⟩
          rw [decide_eq_false (show ¬ (rows.length : Int) ≤ (i : Int) by omega)]
          refine ⟨_, rfl, _, rfl, p, rows, _, _, rfl, rfl, hp2.b, ai, _, rfl, .inl ⟨b, xs, rfl, hb.same s2, fun H3 s3 => ⟨true, rfl, ?_⟩⟩⟩
          refine ⟨_, rfl, (sz : Int), rfl, by omega, by omega, for_range (lo := 0) (n := ((sz : Nat) : Int).toNat) (fun k σ H' => (∃ y4, σ = [some (.int (sz : Int)), some v, some (.ref p), some (.int (i : Int)), y4]) ∧ Same H3 H') ⟨⟨_, rfl⟩, Same.refl H3⟩ (fun k σ H4 hk pv => ?_) (fun σ H4 pv => ?_)⟩
          · obtain ⟨⟨y4, rfl⟩, s4⟩ := pv
            rw [Int.zero_add]
            have s14 := (s2.trans s3).trans s4
            exact ⟨_, rfl, _, rfl, _, rfl, p, b, rows, xs, i, k, true, rfl, hp.same s14, er, hb.same s14, (pl k (by omega)).same s14, true, rfl, ⟨_, rfl⟩, s4⟩
          · obtain ⟨⟨y4, rfl⟩, s4⟩ := pv
            have s14 := (s2.trans s3).trans s4
            refine ⟨_, rfl, _, rfl, p, rows, _, _, rfl, rfl, (hp.same s14).b, ai, b, xs, rfl, (hb.same s14).lt, _, rfl, _, _, rfl, rfl, _, rfl, ?_⟩
            rw [decide_eq_false (show ¬ (sz : Int) < (xs.length : Int) by omega)]
            exact ⟨⟨_, _, rfl⟩, s14, le2⟩
        · have out := fun H' s' => u i c eo H' ((s1.trans s2).trans s')
          rcases dt with ⟨rfl, hno⟩ | ⟨b, xs, er, hb, h⟩
          · rcases hno with hno | ⟨x, ex, nsq⟩
            · refine ⟨_, rfl, _, rfl, p, rows, rfl, hp2.lt, _, _, rfl, rfl, _, rfl, ?_⟩
              rw [decide_eq_true (show (rows.length : Int) ≤ (i : Int) by omega)]
              exact ⟨_, rfl, rfl, by decide, fun y hy => by
                rcases List.mem_cons.mp hy with rfl | hy
                · exact i64
                · rw [List.mem_singleton.mp hy]
                  exact ShoD.leaf (.inl ⟨0, rfl, by decide +kernel⟩) 3, fun d nd => out H2 (Same.refl H2) d nd⟩
            · have ir : i < rows.length := (List.getElem?_eq_some_iff.mp ex).1
              refine ⟨_, rfl, _, rfl, p, rows, rfl, hp2.lt, _, _, rfl, rfl, _, rfl, ?_⟩
              rw [decide_eq_false (show ¬ (rows.length : Int) ≤ (i : Int) by omega)]
              refine ⟨_, rfl, _, rfl, p, rows, _, _, rfl, rfl, hp2.b, atI_nat ex, _, rfl, .inr ⟨nsq.same s2, fun H3 s3 => ⟨false, rfl, ?_⟩⟩⟩
              exact ⟨_, rfl, rfl, by decide, fun y hy => by
                rcases List.mem_cons.mp hy with rfl | hy
                · exact i64.keep s3
                · rw [List.mem_singleton.mp hy]
                  exact ShoD.leaf (.inl ⟨0, rfl, by decide +kernel⟩) 3, fun d nd => out H3 s3 d nd⟩
          · have ir : i < rows.length := (List.getElem?_eq_some_iff.mp er).1
            have ai : atI rows (i : Int) = some (.ref b) := atI_nat er
            refine ⟨_, rfl, _, rfl, p, rows, rfl, hp2.lt, _, _, rfl, rfl, _, rfl, ?_⟩
            rw [decide_eq_false (show ¬ (rows.length : Int) ≤ (i : Int) by omega)]
            refine ⟨_, rfl, _, rfl, p, rows, _, _, rfl, rfl, hp2.b, ai, _, rfl, .inl ⟨b, xs, rfl, hb.same s2, fun H3 s3 => ⟨true, rfl, ?_⟩⟩⟩
            refine ⟨_, rfl, (sz : Int), rfl, by omega, by omega, for_range (lo := 0) (n := ((sz : Nat) : Int).toNat) (fun k σ H' => (∃ y4, σ = [some (.int (sz : Int)), some v, some (.ref p), some (.int (i : Int)), y4]) ∧ Same H3 H' ∧ k ≤ c) ⟨⟨_, rfl⟩, Same.refl H3, Nat.zero_le _⟩ (fun k σ H4 hk pv => ?_) (fun σ H4 pv => ?_)⟩
            · obtain ⟨⟨y4, rfl⟩, s4, kc⟩ := pv
              rw [Int.zero_add]
              have s14 := (s2.trans s3).trans s4
              have hk2 : k < sz := by omega
              have go : ∀ t, Plc K H1 rows i k xs t → (t = true ∧ k + 1 ≤ c) ∨ (t = false ∧ k = c) → Plc K H1 rows i k xs t := fun _ h _ => h
              rcases Nat.lt_or_eq_of_le kc with kc | kc
              · have pk : Plc K H1 rows i k xs true := by
                  rcases h with ⟨_, h, _⟩ | ⟨_, h, _⟩
                  · exact h k kc
                  · exact h k hk2
                exact ⟨_, rfl, _, rfl, _, rfl, p, b, rows, xs, i, k, true, rfl, hp.same s14, er, hb.same s14, pk.same s14, true, rfl, ⟨_, rfl⟩, s4, kc⟩
              · subst kc
                rcases h with ⟨_, _, pk⟩ | ⟨e, _, _⟩
                · refine ⟨_, rfl, _, rfl, _, rfl, p, b, rows, xs, i, k, false, rfl, hp.same s14, er, hb.same s14, pk.same s14, false, rfl, ?_⟩
                  exact ⟨_, rfl, _, rfl, rfl, by decide, fun y hy => by
                    rcases List.mem_cons.mp hy with rfl | hy
                    · exact i64.keep (s3.trans s4)
                    · rw [List.mem_singleton.mp hy]
                      exact ShoD.leaf (.inl ⟨_, rfl, Nat.lt_of_lt_of_le (log_lt (k := 64) (by decide) (by omega)) (by decide)⟩) 3, fun d nd => out H4 (s3.trans s4) d nd⟩
                · omega
            · obtain ⟨⟨y4, rfl⟩, s4, kc⟩ := pv
              have s14 := (s2.trans s3).trans s4
              rcases h with ⟨h, _, _⟩ | ⟨e, _, hx⟩
              · omega
              · subst e
                refine ⟨_, rfl, _, rfl, p, rows, _, _, rfl, rfl, (hp.same s14).b, ai, b, xs, rfl, (hb.same s14).lt, _, rfl, _, _, rfl, rfl, _, rfl, ?_⟩
                rw [decide_eq_true (show (c : Int) < (xs.length : Int) by omega)]
                exact ⟨_, rfl, _, rfl, rfl, by decide, fun y hy => by
                  rcases List.mem_cons.mp hy with rfl | hy
                  · exact i64.keep (s3.trans s4)
                  · rw [List.mem_singleton.mp hy]
                    exact ShoD.leaf (.inl ⟨_, rfl, Nat.lt_of_lt_of_le (log_lt (k := 64) (by decide) (by omega)) (by decide)⟩) 3, fun d nd => out H4 (s3.trans s4) d nd⟩
      · obtain ⟨⟨y3, y4, rfl⟩, s2, le⟩ := pv
        refine ⟨_, rfl, p, rows, rfl, (hp.same s2).lt, _, rfl, _, _, rfl, rfl, _, rfl, ?_⟩
        match o, vd1, le, q, u with
        | none, vd1, le, q, u =>
          have := vd1.1
          rw [decide_eq_false (show ¬ (sz : Int) < (rows.length : Int) by omega)]
          exact q rfl _ (s1.trans s2)
        | some (r, c), vd1, le, q, u =>
          have hr2 := le r c rfl
          rcases vd1.2 with ⟨h, _⟩ | ⟨e1, e2, h⟩
          · omega
          · subst e1 e2
            rw [decide_eq_true (show (r : Int) < (rows.length : Int) by omega)]
            exact ⟨_, rfl, rfl, by decide, fun y hy => by
              rcases List.mem_cons.mp hy with rfl | hy
              · exact ShoD.leaf (.inl ⟨_, rfl, Nat.lt_of_lt_of_le (log_lt (k := 64) (by decide) (by omega)) (by decide)⟩) 3
              · rw [List.mem_singleton.mp hy]
                exact ShoD.leaf (.inl ⟨0, rfl, by decide +kernel⟩) 3, fun d nd => u r 0 rfl H2 (s1.trans s2) d nd⟩
end
end Own

namespace Own
open PySem PySem.Spec PyProof.Rows L2
/-- [.. for a in range(..) for b in range(..)], from without -/
theorem lc2_range {lo : Int} {n : Nat} {g : TG} {tt : TT} {wi1 : TI} {g1 : TG} {tt1 : TT} {te : TE} {vs vs1 : List Nat} {σ : L2.St} {H1 : Hp} {D : Addr} {Qd : Hp → Prop} (Pv : Nat → Hp → Prop) (h0 : Pv 0 (upd H1 D (.lst [])))
    (hs : ∀ i H, i < n → Pv i H → g (.int (lo + i)) (wipe σ vs) H fun σ2 H2 => wipe σ2 vs = wipe σ vs ∧ tt σ2 H2 fun b H3 =>
      if b = true then wi1 σ2 H3 fun J1 H4 => ∃ W1 : Nat → Nat → Hp → Prop, (∃ m, W1 0 m H4) ∧ ∀ j k H, W1 j k H →
        (J1.stop j H ∧ Pv (i + 1) H) ∨ (J1.go j H ∧ ∃ Nx1 : Hp → Prop, (∀ H', Nx1 H' → ∃ k', k' < k ∧ W1 (j + 1) k' H') ∧ ∀ x H', J1.yld j H x H' → g1 x (wipe σ2 vs1) H' fun σ3 H5 => wipe σ3 vs1 = wipe σ2 vs1 ∧ tt1 σ3 H5 fun b H6 =>
          if b = true then te σ3 H6 fun y H7 => ∃ acc, H7 D = some (.lst acc) ∧ acc.length < sizeLine ∧ Nx1 (upd H7 D (.lst (acc ++ [y]))) else Nx1 H6)
      else Pv (i + 1) H3) (hd : ∀ H, Pv n H → Qd H) :
    ∃ W : Nat → Nat → Hp → Prop, (∃ m, W 0 m (upd H1 D (.lst []))) ∧ ∀ i m H, W i m H →
      ((Itr lo n).stop i H ∧ Qd H) ∨ ((Itr lo n).go i H ∧ ∃ Nx : Hp → Prop, (∀ H', Nx H' → ∃ m', m' < m ∧ W (i + 1) m' H') ∧ ∀ x H', (Itr lo n).yld i H x H' → g x (wipe σ vs) H' fun σ2 H2 => wipe σ2 vs = wipe σ vs ∧ tt σ2 H2 fun b H3 =>
        if b = true then wi1 σ2 H3 fun J1 H4 => ∃ W1 : Nat → Nat → Hp → Prop, (∃ m, W1 0 m H4) ∧ ∀ j k H, W1 j k H →
          (J1.stop j H ∧ Nx H) ∨ (J1.go j H ∧ ∃ Nx1 : Hp → Prop, (∀ H', Nx1 H' → ∃ k', k' < k ∧ W1 (j + 1) k' H') ∧ ∀ x H', J1.yld j H x H' → g1 x (wipe σ2 vs1) H' fun σ3 H5 => wipe σ3 vs1 = wipe σ2 vs1 ∧ tt1 σ3 H5 fun b H6 =>
            if b = true then te σ3 H6 fun y H7 => ∃ acc, H7 D = some (.lst acc) ∧ acc.length < sizeLine ∧ Nx1 (upd H7 D (.lst (acc ++ [y]))) else Nx1 H6)
        else Nx H3) := by
  refine ⟨fun i m H => m = n - i ∧ i ≤ n ∧ Pv i H, ⟨n, by simp, Nat.zero_le _, h0⟩, ?_⟩
  rintro i m H ⟨rfl, hi, p⟩
  by_cases hlt : i < n
  · refine .inr ⟨hlt, Pv (i + 1), fun H' p' => ⟨n - (i + 1), by omega, rfl, hlt, p'⟩, fun x H' y => ?_⟩
    obtain ⟨e, y⟩ := y
    subst e y
    exact hs i _ hlt p
  · have e : i = n := by omega
    subst e
    exact .inl ⟨Nat.le_refl _, hd H p⟩
/-- the inner one -/
theorem in_range {lo : Int} {n : Nat} {g1 : TG} {tt1 : TT} {te : TE} {vs1 : List Nat} {σ : L2.St} {H4 : Hp} {D : Addr} {N : Hp → Prop} (P2 : Nat → Hp → Prop) (h0 : P2 0 H4)
    (hs : ∀ j H, j < n → P2 j H → g1 (.int (lo + j)) (wipe σ vs1) H fun σ3 H5 => wipe σ3 vs1 = wipe σ vs1 ∧ tt1 σ3 H5 fun b H6 => if b = true then te σ3 H6 fun y H7 => ∃ acc, H7 D = some (.lst acc) ∧ acc.length < sizeLine ∧ P2 (j + 1) (upd H7 D (.lst (acc ++ [y]))) else P2 (j + 1) H6) (hd : ∀ H, P2 n H → N H) :
    ∃ W1 : Nat → Nat → Hp → Prop, (∃ m, W1 0 m H4) ∧ ∀ j k H, W1 j k H →
        ((Itr lo n).stop j H ∧ N H) ∨ ((Itr lo n).go j H ∧ ∃ Nx1 : Hp → Prop, (∀ H', Nx1 H' → ∃ k', k' < k ∧ W1 (j + 1) k' H') ∧ ∀ x H', (Itr lo n).yld j H x H' → g1 x (wipe σ vs1) H' fun σ3 H5 => wipe σ3 vs1 = wipe σ vs1 ∧ tt1 σ3 H5 fun b H6 =>
          if b = true then te σ3 H6 fun y H7 => ∃ acc, H7 D = some (.lst acc) ∧ acc.length < sizeLine ∧ Nx1 (upd H7 D (.lst (acc ++ [y]))) else Nx1 H6) := by
  refine ⟨fun i m H => m = n - i ∧ i ≤ n ∧ P2 i H, ⟨n, by simp, Nat.zero_le _, h0⟩, ?_⟩
  rintro i m H ⟨rfl, hi, p⟩
  by_cases hlt : i < n
  · refine .inr ⟨hlt, P2 (i + 1), fun H' p' => ⟨n - (i + 1), by omega, rfl, hlt, p'⟩, fun x H' y => ?_⟩
    obtain ⟨e, y⟩ := y
    subst e y
    exact hs i _ hlt p
  · have e : i = n := by omega
    subst e
    exact .inl ⟨Nat.le_refl _, hd H p⟩
/-- the pairs of a rim in order; those whose first pin is a -/
def prA (n : Int) (a : Nat) : List (Int × Int) := (List.range (n - ((a : Int) + 1)).toNat).map fun k : Nat => ((a : Int), (a : Int) + 1 + (k : Int))
def prs (n : Int) (i : Nat) : List (Int × Int) := (List.range i).flatMap (prA n)
def ent (n : Int) (f : Int → Int → Int) (p : Int × Int) : Tr := (p.1, p.2, tw n f p.1 p.2 / 2)
theorem prs_succ (n : Int) (i : Nat) : prs n (i + 1) = prs n i ++ prA n i := by
  unfold prs
  rw [List.range_succ, List.flatMap_append]
  simp
theorem prs_len (n : Int) : ∀ i : Nat, (prs n i).length ≤ i * n.toNat
  | 0 => by rw [Nat.zero_mul]; exact Nat.le_refl _
  | i + 1 => by
    have := prs_len n i
    rw [prs_succ, List.length_append, Nat.succ_mul]
    have e : (prA n i).length ≤ n.toNat := by
      unfold prA
      rw [List.length_map, List.length_range]
      omega
    omega
section
variable {P : Program} {w : World} {K : PySem.W.Frag} {mg : Str → Option Value} {base : Heap} {C : Addr}
def spCot : Sp := fun vs H Q _ => ∃ (n : Int) (p : Addr) (f : Int → Int → Int), vs = [.int n, .ref p] ∧ GridB H p n f ∧ 0 ≤ n ∧ n ≤ 100 ∧ ∀ H' c, Same H H' → TripL H' c (((prs n n.toNat).map (ent n f)).filter fun t => decide (0 < t.2.2)) → Q (.ref c) H'
set_option maxHeartbeats 0 in
theorem ok_cot {f : Addr} {fd : FuncData} (F : Fun K "cords_of_table" "cords_of_table" s_cords_of_table f fd) (T : Bi mg) {f_t : Addr} {d_t : FuncData} (D_t : Df K mg "twice_between" s_twice_between ["pins", "table", "a", "b"] f_t d_t) (G_t : FnOk P w K mg base CX0 1 f_t d_t ["pins", "table", "a", "b"] spTwice) : FnOk P w K mg base CX0 2 f fd ["pins", "table"] spCot := by
  refine F.ok sc_cords_of_table (fun vs H Q E h => ?_) (fun cdv A outer s H vs Q E hr h => ?_)
  · obtain ⟨n, p, g, rfl, _⟩ := h
    rfl
  · obtain ⟨n, p, g, rfl, hG, n0, n1, q⟩ := h
    refine ⟨_, (pss_cons (ps_setLc2 (i := 2) (own := [("a", 3), ("b", 4)]) (vs1 := [4]) (g := gName 3) (tt := tYes) (g1 := gName 4) (tt1 := tYes) rfl sc_cords_of_table.nd rfl rfl (sw_true rfl rfl rfl (by decide +kernel)) (pi_range1 (by rfl) T.b_range (pa_cons (pv 0) pa_nil)) (blkOk_by (own := [("a", 3), ("b", 4)]) (N := ["pins", "table", "entries", "a", "b", "entry"]) (sc := defScope s_cords_of_table) (by decide +kernel)) (by decide) (fun _ _ _ _ _ => pg_name (i := 3) sc_cords_of_table.nd rfl (.inl rfl)) (fun _ _ _ _ _ => pts_nil) (fun _ _ _ _ _ => pi_range2 (by rfl) T.b_range (pa_cons (pe_op op_add (pv 3) pe_int) (pa_cons (pv 0) pa_nil))) (fun _ _ _ _ _ => pg_name (i := 4) sc_cords_of_table.nd rfl (.inl rfl)) (fun _ _ _ _ _ => pts_nil) (fun _ _ _ _ _ => (pe_tup (pa_cons (pv 3) (pa_cons (pv 4) (pa_cons (pe_op op_fdiv (pe_call G_t (hr.mono (by decide)) (by rfl) D_t.g D_t.F.kp D_t.b .nil pass0 (pa_cons (pv 0) (pa_cons (pv 1) (pa_cons (pv 3) (pa_cons (pv 4) pa_nil))))) pe_int) pa_nil)))))) (pss_one (ps_ret (pe_lc (own := [("entry", 5)]) (g := gName 5) rfl sc_cords_of_table.nd (pi_list (pv 2)) (blkOk_by (own := [("entry", 5)]) (N := ["pins", "table", "entries", "a", "b", "entry"]) (sc := defScope s_cords_of_table) (by decide +kernel)) (fun _ _ _ _ _ => (pg_name (i := 5) sc_cords_of_table.nd rfl (.inl rfl))) (fun _ _ _ _ _ => pts_one (pt_cmpR op_gt (pe_ix (r := rIxT K) ix_tup (pv 5) pe_int (fun _ _ => rfl)) pe_int (nomark _))) (fun _ _ _ _ _ => (pv 5)))))), ?_⟩
    refine ⟨_, rfl, n, rfl, by omega, by omega, fun R hR => ?_⟩
    refine lc2_range (lo := 0) (n := n.toNat) (fun i H' => Same H H' ∧ ∃ vs, H' R = some (.lst vs) ∧ TrV H' vs ((prs n i).map (ent n g))) ⟨same_upd hR, [], upd_same, TrV.nil⟩ (fun i H2 hi pv => ?_) (fun H2 pv => ?_)
    · obtain ⟨s2, vs0, eR0, tV0⟩ := pv
      refine ⟨rfl, ?_⟩
      refine ⟨_, rfl, _, _, rfl, rfl, _, rfl, 0 + (i : Int) + 1, n, rfl, ⟨by omega, by omega, by omega, by omega⟩, ?_⟩
      refine in_range (lo := 0 + (i : Int) + 1) (n := (n - (0 + (i : Int) + 1)).toNat) (fun j H' => Same H H' ∧ ∃ vs, H' R = some (.lst vs) ∧ TrV H' vs ((prs n i ++ (List.range j).map fun k : Nat => ((i : Int), (i : Int) + 1 + (k : Int))).map (ent n g))) ⟨s2, vs0, eR0, by rw [List.range_zero, List.map_nil, List.append_nil]; exact tV0⟩ (fun j H3 hj pv => ?_) (fun H3 pv => ?_)
      · obtain ⟨s3, vs, eR, tV⟩ := pv
        refine ⟨rfl, ?_⟩
        refine ⟨_, rfl, _, rfl, _, rfl, _, rfl, _, rfl, _, rfl, n, p, g, _, _, rfl, hG.same s3, by omega, by omega, by omega, by omega, _, _, rfl, rfl, ⟨by show (0 : Int) < 2; decide, by show (2 : Int) < 1073741824; decide⟩, by show 3 ≤ sizeLine; decide, fun u nu => ⟨vs, same_upd nu _ _ eR, ?_, same_put (H1 := H) hR (s3.trans (same_upd nu)), vs ++ [.ref u], upd_same, ?_⟩⟩
        · rw [tV.1, List.length_map, List.length_append, List.length_map, List.length_range]
          have h1 := prs_len n i
          have h2 : i * n.toNat ≤ 100 * 100 := Nat.mul_le_mul (by omega) (by omega)
          exact Nat.lt_of_le_of_lt (show _ ≤ 20000 by omega) (by rw [sizeLine_eq]; decide)
        · have el : (prs n i ++ (List.range (j + 1)).map fun k : Nat => ((i : Int), (i : Int) + 1 + (k : Int))).map (ent n g) = (prs n i ++ (List.range j).map fun k : Nat => ((i : Int), (i : Int) + 1 + (k : Int))).map (ent n g) ++ [ent n g ((i : Int), (i : Int) + 1 + (j : Int))] := by
            rw [List.range_succ]
            simp
          rw [el]
          have uR : u ≠ R := fun z => by rw [z, eR] at nu; cases nu
          refine ((tV.same (same_upd nu)).sameT (sameT_put (same_upd nu _ _ eR) (Same.refl _))).snoc (t := ent n g ((i : Int), (i : Int) + 1 + (j : Int))) ?_
          rw [upd_ne uR, upd_same, Int.zero_add]
          rfl
      · obtain ⟨s3, vs, eR, tV⟩ := pv
        refine ⟨s3, vs, eR, ?_⟩
        rw [prs_succ]
        rw [Int.zero_add] at tV
        exact tV
    · obtain ⟨s2, vs, eR, tV⟩ := pv
      have lvs : vs.length ≤ 10000 := by
        rw [tV.1, List.length_map]
        exact Nat.le_trans (prs_len n n.toNat) (Nat.mul_le_mul (show n.toNat ≤ 100 by omega) (show n.toNat ≤ 100 by omega))
      generalize (prs n n.toNat).map (ent n g) = l at tV q
      refine ⟨_, rfl, R, rfl, ⟨_, .inl (.inl eR)⟩, fun O hO => ?_⟩
      refine lc_list (K := K) (a := R) (xs := vs) (fun i H5 => Same H2 H5 ∧ ∃ us, H5 O = some (.lst us) ∧ us.length ≤ i ∧ TrV H5 us ((l.take i).filter fun t => decide (0 < t.2.2))) ⟨same_upd hO, [], upd_same, Nat.le_refl _, TrV.nil⟩ (fun i H5 _ p => .inl (.inl (p.1 _ _ eR))) (fun i x H5 hxi p => ?_) (fun H5 p => ?_)
      · obtain ⟨s5, us, eO, lu, tU⟩ := p
        obtain ⟨u, t, rfl, ht, hu⟩ := (tV.same s5).at_ hxi
        have et : (l.take (i + 1)).filter (fun t => decide (0 < t.2.2)) = (l.take i).filter (fun t => decide (0 < t.2.2)) ++ [t].filter (fun t => decide (0 < t.2.2)) := by
          rw [List.take_add_one, ht, List.filter_append]
          rfl
        refine ⟨rfl, ?_⟩
        refine ⟨_, rfl, u, tv t, 2, _, rfl, rfl, .inl (.inl hu), atI_nat (j := 2) rfl, _, _, rfl, rfl, _, rfl, ite2 (fun e => ?_) (fun e => ?_)⟩
        · have e1 : 0 < t.2.2 := of_decide_eq_true e
          have iv : i < vs.length := (List.getElem?_eq_some_iff.mp hxi).1
          refine ⟨_, rfl, us, eO, ?_, same_put (H1 := H2) hO s5, us ++ [.ref u], upd_same, by rw [List.length_append]; show _ + 1 ≤ _; omega, ?_⟩
          · exact Nat.lt_of_le_of_lt (show us.length ≤ 20000 by omega) (by rw [sizeLine_eq]; decide)
          · rw [et, List.filter_cons, if_pos (decide_eq_true e1), List.filter_nil]
            have uO : u ≠ O := fun z => by rw [z, eO] at hu; cases hu
            exact (tU.sameT (sameT_put eO (Same.refl _))).snoc (by rw [upd_ne uO]; exact hu)
        · have e1 : ¬ 0 < t.2.2 := fun z => e (decide_eq_true z)
          refine ⟨s5, us, eO, by omega, ?_⟩
          rw [et, List.filter_cons, if_neg (by rw [decide_eq_true_iff]; exact e1), List.filter_nil, List.append_nil]
          exact tU
      · obtain ⟨s5, us, eO, lu, tU⟩ := p
        rw [tV.1, List.take_length] at tU
        exact q _ O (s2.trans s5) ⟨us, eO, tU⟩
end
end Own

namespace Own
open PySem PySem.Spec PyProof.Rows L2
/-- the entries that the program makes of a table -/
def cotE (n : Int) (f : Int → Int → Int) : List Tr := ((prs n n.toNat).map (ent n f)).filter fun t => decide (0 < t.2.2)
theorem prs_mem {n : Int} {i : Nat} (hi : (i : Int) ≤ n) {p : Int × Int} (h : p ∈ prs n i) : 0 ≤ p.1 ∧ p.1 < p.2 ∧ p.2 < n := by
  unfold prs at h
  obtain ⟨a, ha, hp⟩ := List.mem_flatMap.mp h
  unfold prA at hp
  obtain ⟨k, hk, rfl⟩ := List.mem_map.mp hp
  have h1 := List.mem_range.mp ha
  have h2 := List.mem_range.mp hk
  dsimp only
  omega
theorem cotE_vld {n : Int} (n0 : 0 ≤ n) (f : Int → Int → Int) : ∀ t ∈ cotE n f, Vld n t := fun t ht => by
  obtain ⟨h1, h2⟩ := List.mem_filter.mp ht
  obtain ⟨p, hp, rfl⟩ := List.mem_map.mp h1
  have hm := prs_mem (by omega) hp
  have h3 : 0 < (ent n f p).2.2 := of_decide_eq_true h2
  unfold ent at h3 ⊢
  exact ⟨hm.1, by show p.1 < n; omega, by show 0 ≤ p.2; omega, hm.2.2, by show p.1 ≠ p.2; omega, h3⟩
theorem rd_mk {K : PySem.W.Frag} {C D1 D2 : Addr} {n : Int} {a : Addr} {xs : List V} {l : List Tr} {H : Hp} {R : VK} {E : XK} {x dx : Addr} (hn : 0 ≤ n) (hB : SqB K H a xs) (hx : EnB H xs l) (hv : ∀ t ∈ l, Vld n t) (hl : l.length ≤ 1000) (nx : H x = none) (nd : H dx = none) (ne : dx ≠ x)
    (q : ∀ H' cs, Same H H' → LotAt C H' x n cs → IsNorm l cs → R .non H') : spInitY K C D1 D2 (.ref x :: ([.int n, .ref a] ++ [])) (upd (upd H dx (.own x)) x (.ins C dx [])) R E := by
  have s1 : Same H (upd H dx (.own x)) := same_upd nd
  have nx1 : (upd H dx (.own x)) x = none := by
    rw [upd_ne ne.symm]
    exact nx
  exact ⟨x, dx, .int n, a, H, rfl, upd_same, nx, s1.trans (same_upd nx1), ⟨xs, hB, by rw [hx.1]; exact hl, .inl ⟨n, l, rfl, hn, by rw [← hx.1, List.take_length]; exact hx, hv, .inl ⟨hx.1.symm, fun H' c r s' e t hN => q H' r s' ⟨dx, c, e, t⟩ hN⟩⟩⟩⟩
section
variable {P : Program} {w : World} {K : PySem.W.Frag} {mg : Str → Option Value} {base : Heap} {C D D1 D2 D3 f_u : Addr} {d_u : FuncData}
/-- a pair of pins whose number of cords is one -/
def TwOk (n : Int) (f : Int → Int → Int) (a b : Int) : Prop := 0 ≤ tw n f a b ∧ tw n f a b % 2 = 0
def spLotOf (K : PySem.W.Frag) (C D D1 D3 : Addr) : Sp := fun vs H Q E => ∃ (v t : V), vs = [v, t] ∧
  ((((∃ i : Int, v = .int i ∧ i < 0) ∨ NotWh K H v) ∧ ShoD K H 3 v ∧ ∀ H', Same H H' → Out D1 ["pins"] [v] H' E) ∨
   ∃ (n : Int) (rows : List V), v = .int n ∧ 0 ≤ n ∧ n ≤ 40 ∧ ((∃ p, t = .ref p ∧ SqH H p rows) ∨ (NotSq K H t ∧ rows = [])) ∧ rows.length ≤ 100000 ∧
    ((∃ r c : Nat, Vd K H rows (hi n 1).toNat (some (r, c)) ∧ ∀ H', Same H H' → Out D3 ["row", "column"] [.int (r : Int), .int (c : Int)] H' E) ∨
     ∃ (p : Addr) (f : Int → Int → Int), t = .ref p ∧ Vd K H rows (hi n 1).toNat none ∧ GridB H p n f ∧ (∀ a b, 0 ≤ a → a < n → 0 ≤ b → b < n → -(2 ^ 60) < tw n f a b ∧ tw n f a b < 2 ^ 60) ∧
      (((∀ a b, 0 ≤ a → a < b → b < n → TwOk n f a b) ∧ (cotE n f).length ≤ 1000 ∧ ∀ H' x cs, Same H H' → LotAt C H' x n cs → IsNorm (cotE n f) cs → Q (.ref x) H') ∨
       ∃ a b, 0 ≤ a ∧ a < b ∧ b < n ∧ (∀ x y, 0 ≤ x → x < y → y < n → (x < a ∨ (x = a ∧ y < b)) → TwOk n f x y) ∧ ¬ TwOk n f a b ∧ ∀ H', Same H H' → Out D ["a", "b", "twice"] [.int a, .int b, .int (tw n f a b)] H' E)))
set_option maxHeartbeats 0 in
theorem ok_lotof {f : Addr} {fd : FuncData} (F : Fun K "lot_of" "lot_of" s_lot_of f fd) (T : Bi mg) (L : LotC K mg C) {f_k : Addr} {d_k : FuncData} (D_k : Df K mg "check_pins" s_check_pins ["pins"] f_k d_k) (G_k : FnOk P w K mg base (L2N.CX P w) 4 f_k d_k ["pins"] (spCkPinsY K D1)) {f_ga : Addr} {d_ga : FuncData} (D_ga : Df K mg "gaps" s_gaps ["pins"] f_ga d_ga) (G_ga : FnOk P w K mg base CX0 1 f_ga d_ga ["pins"] spGaps) {f_ct : Addr} {d_ct : FuncData} (D_ct : Df K mg "check_table" s_check_table ["size", "table"] f_ct d_ct) (G_ct : FnOk P w K mg base (L2N.CX P w) 5 f_ct d_ct ["size", "table"] (spCkT K D3)) {f_t : Addr} {d_t : FuncData} (D_t : Df K mg "twice_between" s_twice_between ["pins", "table", "a", "b"] f_t d_t) (G_t : FnOk P w K mg base CX0 1 f_t d_t ["pins", "table", "a", "b"] spTwice) {f_co : Addr} {d_co : FuncData} (D_co : Df K mg "cords_of_table" s_cords_of_table ["pins", "table"] f_co d_co) (G_co : FnOk P w K mg base CX0 2 f_co d_co ["pins", "table"] spCot) {f_i : Addr} {d_i : FuncData} (M : Mk K C f_i) (b_i : Binds K d_i ["self", "pins", "cords"] []) (G_i : GIY P w K mg base C D1 D2 f_i d_i) (U : ErrU K mg "NoLot" D f_u d_u ["self", "a", "b", "twice"]) (G_u : GE P w K mg base D f_u d_u ["a", "b", "twice"]) : FnOk P w K mg base (L2N.CX P w) 8 f fd ["pins", "table"] (spLotOf K C D D1 D3) := by
  refine okN F sc_lot_of (fun vs H Q E h => ?_) (fun cdv A outer s H vs Q E hr h => ?_)
  · obtain ⟨v, t, rfl, _⟩ := h
    rfl
  · obtain ⟨v, t, rfl, h⟩ := h
    refine ⟨_, (pss_cons (ps_expr (pe_call G_k (hr.mono (by decide)) (by rfl) D_k.g D_k.F.kp D_k.b .nil (L2N.passes_call (L2N.takes_of rfl rfl rfl rfl) (fun _ _ _ _ h => h)) (pa_cons (pv 0) pa_nil)))
        (pss_cons (ps_expr (pe_call G_ct (hr.mono (by decide)) (by rfl) D_ct.g D_ct.F.kp D_ct.b .nil (L2N.passes_call (L2N.takes_of rfl rfl rfl rfl) (fun _ _ _ _ h => h)) (pa_cons (pe_call G_ga (hr.mono (by decide)) (by rfl) D_ga.g D_ga.F.kp D_ga.b .nil pass0 (pa_cons (pv 0) pa_nil)) (pa_cons (pv 1) pa_nil))))
        (pss_cons (ps_for PassesOwn.leaving rfl (pi_range1 (by rfl) T.b_range (pa_cons (pv 0) pa_nil)) (pg_name (i := 2) sc_lot_of.nd rfl (.inl rfl))
        (pss_one (ps_for PassesOwn.leaving rfl (pi_range2 (by rfl) T.b_range (pa_cons (pe_op op_add (pv 2) pe_int) (pa_cons (pv 0) pa_nil))) (pg_name (i := 3) sc_lot_of.nd rfl (.inl rfl))
        (pss_cons (ps_set (i := 4) sc_lot_of.nd rfl (.inl rfl) (pe_call G_t (hr.mono (by decide)) (by rfl) D_t.g D_t.F.kp D_t.b .nil pass0 (pa_cons (pv 0) (pa_cons (pv 1) (pa_cons (pv 2) (pa_cons (pv 3) pa_nil))))))
        (pss_one (ps_if (PW.pt (pw_or (pt_cmpR op_lt (pv 4) pe_int (nomark _)) (pw_or1 (pt_cmpR op_eq (pe_op op_mod (pv 4) pe_int) pe_int (nomark _))))) (pss_one (ps_errD rfl (L2N.takes_of rfl rfl rfl rfl) U.T U.R G_u (hr.mono (by decide)) U.b (by rfl) (pa_cons (pv 2) (pa_cons (pv 3) (pa_cons (pv 4) pa_nil))))) pss_nil))))))
        (pss_one (ps_ret (pe_make M G_i (hr.mono (by decide)) (by rfl) L.g b_i .nil (L2N.passes_call (L2N.takes_of rfl rfl rfl rfl) (fun _ _ _ _ h => h)) (pa_cons (pv 0) (pa_cons (pe_call G_co (hr.mono (by decide)) (by rfl) D_co.g D_co.F.kp D_co.b .nil pass0 (pa_cons (pv 0) (pa_cons (pv 1) pa_nil))) pa_nil)))))))), ?_⟩
    rcases h with ⟨bad, sho, u⟩ | ⟨n, rows, rfl, n0, n1, ht, hl, h⟩
    · exact ⟨_, rfl, v, rfl, .inr ⟨bad, sho, u H (Same.refl H)⟩⟩
    refine ⟨_, rfl, _, rfl, .inl ⟨n, rfl, n0, ?_⟩⟩
    have hz := lo_hi n 1
    have eq : [V.int (hi n 1), t] = [V.int (((hi n 1).toNat : Nat) : Int), t] := by rw [show (((hi n 1).toNat : Nat) : Int) = hi n 1 by omega]
    refine ⟨_, rfl, n, rfl, _, rfl, ?_⟩
    rcases h with ⟨r, c, vd, u⟩ | ⟨p, g, rfl, vd, hG, hb, h⟩
    · exact ⟨_, _, rows, some (r, c), eq, by omega, by omega, ht, hl, vd, (fun z => nomatch z), fun r' c' z => by cases z; exact u⟩
    refine ⟨_, _, rows, none, eq, by omega, by omega, ht, hl, vd, fun _ H1 s1 => ?_, fun _ _ z => nomatch z⟩
    obtain ⟨o2, hok, hq, hu⟩ : ∃ o2 : Option (Int × Int), (∀ x y, 0 ≤ x → x < y → y < n → (∀ a b, o2 = some (a, b) → x < a ∨ (x = a ∧ y < b)) → TwOk n g x y) ∧ (o2 = none → (cotE n g).length ≤ 1000 ∧ ∀ H' x cs, Same H H' → LotAt C H' x n cs → IsNorm (cotE n g) cs → Q (.ref x) H') ∧
        ∀ a b, o2 = some (a, b) → (0 ≤ a ∧ a < b ∧ b < n) ∧ ¬ TwOk n g a b ∧ ∀ H', Same H H' → Out D ["a", "b", "twice"] [.int a, .int b, .int (tw n g a b)] H' E := by
      rcases h with ⟨ok, hlen, q⟩ | ⟨a, b, a0, ab, bn, ok, nb, u⟩
      · exact ⟨none, fun x y x0 xy yn _ => ok x y x0 xy yn, fun _ => ⟨hlen, q⟩, fun _ _ z => nomatch z⟩
      · exact ⟨some (a, b), fun x y x0 xy yn h => ok x y x0 xy yn (h a b rfl), (fun z => nomatch z), fun a' b' z => by cases z; exact ⟨⟨a0, ab, bn⟩, nb, u⟩⟩
    clear h
    refine ⟨_, rfl, n, rfl, by omega, by omega, for_range (lo := 0) (n := n.toNat) (fun i σ H' => (∃ y2 y3 y4, σ = [some (.int n), some (.ref p), y2, y3, y4]) ∧ Same H1 H' ∧ ∀ a b, o2 = some (a, b) → (i : Int) ≤ a) ⟨⟨_, _, _, rfl⟩, Same.refl H1, fun a b z => (hu a b z).1.1⟩ (fun i σ H2 hi pv => ?_) (fun σ H2 pv => ?_)⟩
    · obtain ⟨⟨y2, y3, y4, rfl⟩, s2, le⟩ := pv
      rw [Int.zero_add]
      refine ⟨_, rfl, _, _, rfl, rfl, _, rfl, (i : Int) + 1, n, rfl, ⟨by omega, by omega, by omega, by omega⟩, for_range (lo := (i : Int) + 1) (n := (n - ((i : Int) + 1)).toNat) (fun j σ H' => (∃ y3 y4, σ = [some (.int n), some (.ref p), some (.int (i : Int)), y3, y4]) ∧ Same H1 H' ∧ ∀ a b, o2 = some (a, b) → (i : Int) < a ∨ ((i : Int) = a ∧ (i : Int) + 1 + (j : Int) ≤ b)) ⟨⟨_, _, rfl⟩, s2, fun a b z => by have := le a b z; have := (hu a b z).1; omega⟩ (fun j σ H3 hj pv => ?_) (fun σ H3 pv => ?_)⟩
      · obtain ⟨⟨y3, y4, rfl⟩, s3, le3⟩ := pv
        have yb : (i : Int) + 1 + (j : Int) < n := by omega
        generalize hy : (i : Int) + 1 + (j : Int) = y at le3 yb ⊢
        have bo := hb (i : Int) y (by omega) (by omega) (by omega) yb
        refine ⟨_, rfl, _, rfl, _, rfl, _, rfl, n, p, g, _, _, rfl, hG.same (s1.trans s3), by omega, by omega, by omega, yb, ?_⟩
        refine ⟨_, rfl, _, _, rfl, rfl, _, rfl, ?_⟩
        by_cases e : o2 = some ((i : Int), y)
        · obtain ⟨_, nb, out⟩ := hu _ _ e
          have sho : ∀ y' ∈ [V.int (i : Int), .int y, .int (tw n g (i : Int) y)], ShoD K H3 3 y' := fun y' hy' => by
            simp only [List.mem_cons, List.not_mem_nil, or_false] at hy'
            rcases hy' with rfl | rfl | rfl <;> exact ShoD.leaf (.inl ⟨_, rfl, Nat.lt_of_lt_of_le (log_lt (k := 64) (by decide) (by omega)) (by decide)⟩) 3
          by_cases e1 : tw n g (i : Int) y < 0
          · rw [decide_eq_true e1]
            exact ⟨_, rfl, _, rfl, _, rfl, rfl, by decide, sho, fun d nd => out H3 (s1.trans s3) d nd⟩
          · rw [decide_eq_false e1]
            refine ⟨_, rfl, _, _, rfl, rfl, by show (0 : Int) < 2; decide, rfl, _, rfl, ?_⟩
            have e2 : tw n g (i : Int) y % 2 = 1 := by
              by_cases z : tw n g (i : Int) y % 2 = 0
              · exact absurd ⟨by omega, z⟩ nb
              · omega
            rw [show decide (V.int (tw n g (i : Int) y % 2) = V.int 1) = true from decide_eq_true (congrArg V.int e2)]
            exact ⟨_, rfl, _, rfl, _, rfl, rfl, by decide, sho, fun d nd => out H3 (s1.trans s3) d nd⟩
        · have ok := hok (i : Int) y (by omega) (by omega) yb (fun a b z => by
            rcases le3 a b z with h | ⟨h1, h2⟩
            · exact .inl h
            · refine .inr ⟨h1, ?_⟩
              rcases Int.lt_or_eq_of_le h2 with h2 | h2
              · exact h2
              · exact absurd (by rw [z, h1, h2]) e)
          rw [decide_eq_false (show ¬ tw n g (i : Int) y < 0 by have := ok.1; omega)]
          refine ⟨_, rfl, _, _, rfl, rfl, by show (0 : Int) < 2; decide, rfl, _, rfl, ?_⟩
          rw [show decide (V.int (tw n g (i : Int) y % 2) = V.int 1) = false from decide_eq_false fun z => by have := V.int.inj z; have := ok.2; omega]
          refine ⟨⟨_, _, rfl⟩, s3, fun a b z => ?_⟩
          rcases le3 a b z with h | ⟨h1, h2⟩
          · exact .inl h
          · refine .inr ⟨h1, ?_⟩
            rcases Int.lt_or_eq_of_le h2 with h2 | h2
            · omega
            · exact absurd (by rw [z, h1, h2]) e
      · obtain ⟨⟨y3, y4, rfl⟩, s3, le3⟩ := pv
        refine ⟨⟨_, _, _, rfl⟩, s3, fun a b z => ?_⟩
        have h1 := le3 a b z
        have h2 := (hu a b z).1
        omega
    · obtain ⟨⟨y2, y3, y4, rfl⟩, s2, le⟩ := pv
      have eo : o2 = none := by
        cases eo : o2 with
        | none => rfl
        | some ab =>
          have h1 := le ab.1 ab.2 (by rw [eo])
          have h2 := (hu ab.1 ab.2 (by rw [eo])).1
          omega
      obtain ⟨hlen, q⟩ := hq eo
      refine ⟨_, rfl, _, rfl, _, rfl, n, p, g, rfl, hG.same (s1.trans s2), n0, by omega, fun H3 c s3 hT => ?_⟩
      obtain ⟨vs, eT, tV⟩ := hT
      exact fun x dx nx nd ne => rd_mk n0 (.inl (.inl (.inl eT))) tV.en (cotE_vld n0 g) hlen nx nd ne fun H4 cs s4 hL hN => ⟨rfl, q H4 x cs (((s1.trans s2).trans s3).trans s4) hL hN⟩
end
end Own

namespace Own
open PySem PySem.Spec PyProof.Rows L2
theorem Grid.other {H : Hp} {p M : Addr} {rs : List Addr} {n m : Int} {f : Int → Int → Int} {o : HO} (g : Grid H p rs n m f) (h1 : p ≠ M) (h2 : M ∉ rs) : Grid (upd H M o) p rs n m f :=
  ⟨by rw [upd_ne h1]; exact g.at_, g.len, g.nd, g.out, fun j r e => by
    have hr : r ≠ M := fun z => h2 (by rw [← z]; exact List.mem_of_getElem? e)
    rw [upd_ne hr]
    exact g.row j r e⟩
/-- a list that is made stands apart from the rows -/
theorem Grid.apart {H : Hp} {p M : Addr} {rs : List Addr} {n m : Int} {f : Int → Int → Int} (g : Grid H p rs n m f) (h : H M = none) : p ≠ M ∧ M ∉ rs := by
  refine ⟨fun z => ?_, fun mm => ?_⟩
  · rw [← z, g.at_] at h
    cases h
  · obtain ⟨j, hj, e⟩ := List.mem_iff_getElem.mp mm
    rw [g.row j M (by rw [List.getElem?_eq_getElem hj, e])] at h
    cases h
/-- the scope of the outer of two comprehensions -/
abbrev scI : Scope := { kind := .function, names := [(".0", .local), ("_law_i", .local), ("range", .globalImplicit), ("_law_size", .cell)], isGenerator := false, isCoroutine := false }
section
variable {P : Program} {w : World} {K : PySem.W.Frag} {mg : Str → Option Value} {base : Heap} {C : Addr}
def spLTab : Sp := fun vs H Q _ => ∃ (n : Int) (c : Addr) (cs : List Tr), vs = [.int n, .ref c] ∧ 0 ≤ n ∧ n ≤ 1000 ∧ Trip H c cs ∧ Good n cs ∧ cs.length ≤ 1000 ∧ ∀ H' p, Same H H' → TabAt H' p (hi n 1) (tabE cs) → Q (.ref p) H'
theorem ok_ltab {f : Addr} {fd : FuncData} (F : Fun K "_law_table" "_law_table" s__law_table f fd) (T : Bi mg) : FnOk P w K mg base CX0 1 f fd ["_law_rim", "_law_bunch"] spLTab := by
  refine F.ok sc__law_table (fun vs H Q E h => ?_) (fun cdv A outer s H vs Q E hr h => ?_)
  · obtain ⟨n, c, cs, rfl, _⟩ := h
    rfl
  · obtain ⟨n, c, cs, rfl, n0, n1, hc, hG, hl, q⟩ := h
    refine ⟨_, (pss_cons (ps_set (i := 2) sc__law_table.nd rfl (.inr rfl) (pe_callB (call_max2 rfl) (by rfl) T.b_max (by decide +kernel) (pa_cons (pv 0) (pa_cons pe_int pa_nil))))
        (pss_cons (ps_setLc (i := 3) (own := [("_law_i", 4)]) (g := gName 4) (tt := tYes) rfl sc__law_table.nd rfl rfl (sw_true rfl rfl rfl (by decide +kernel)) (pi_range1 (by rfl) T.b_range (pa_cons (pv 2) pa_nil)) (blkOk_by (own := [("_law_i", 4)]) (N := ["_law_rim", "_law_bunch", "_law_size", "_law_grid", "_law_i", "_law_met", "_law_step", "_law_j", "_law_row", "_law_entry"]) (sc := defScope s__law_table) (by decide +kernel)) (fun _ _ _ _ _ => (pg_name (i := 4) sc__law_table.nd rfl (.inl rfl))) (fun _ _ _ _ _ => pts_nil) (fun _ _ _ _ _ => (show PE _ _ (tLc (iRng1 (tCons (tVar 2) tNil)) (gName 7) tYes (tC (.int 0)) [7]) from pe_lc (own := [("_law_j", 7)]) (g := gName 7) (tt := tYes) rfl sc__law_table.nd (pi_range1 (by rfl) T.b_range (pa_cons (pv 2) pa_nil)) (blkOk_by (own := [("_law_j", 7)]) (N := ["_law_rim", "_law_bunch", "_law_size", "_law_grid", "_law_i", "_law_met", "_law_step", "_law_j", "_law_row", "_law_entry"]) (sc := scI) (by decide +kernel)) (fun _ _ _ _ _ => pg_name (i := 7) sc__law_table.nd rfl (Or.inl rfl)) (fun _ _ _ _ _ => pts_nil) (fun _ _ _ _ _ => pe_int))))
        (pss_cons (ps_for PassesOwn.never rfl (pi_range1 (by rfl) T.b_range (pa_cons (pv 2) pa_nil)) (pg_name (i := 4) sc__law_table.nd rfl (.inl rfl))
        (pss_cons (ps_set (i := 5) sc__law_table.nd rfl (.inr rfl) (pe_lc (own := [("_law_j", 7)]) (g := gName 7) (tt := tYes) rfl sc__law_table.nd (pi_range1 (by rfl) T.b_range (pa_cons (pv 2) pa_nil)) (blkOk_by (own := [("_law_j", 7)]) (N := ["_law_rim", "_law_bunch", "_law_size", "_law_grid", "_law_i", "_law_met", "_law_step", "_law_j", "_law_row", "_law_entry"]) (sc := defScope s__law_table) (by decide +kernel)) (fun _ _ _ _ _ => (pg_name (i := 7) sc__law_table.nd rfl (.inl rfl))) (fun _ _ _ _ _ => pts_nil) (fun _ _ _ _ _ => pe_bl)))
        (pss_one (ps_for PassesOwn.never rfl (pi_range2 (by rfl) T.b_range (pa_cons pe_int (pa_cons (pv 2) pa_nil))) (pg_name (i := 6) sc__law_table.nd rfl (.inl rfl))
        (pss_cons (ps_set (i := 7) sc__law_table.nd rfl (.inl rfl) (pe_op op_modN (pe_callTy call_int1 (by rfl) T.b_int (by decide +kernel) (pa_cons (pe_op op_add (pv 4) (pv 6)) pa_nil)) (pv 2)))
        (pss_cons (ps_asg pe_bl (pg_sub (pv 5) (pv 7) set_list))
        (pss_one (ps_asg (pe_callB (cr_sum rfl) (by rfl) T.b_sum (by decide +kernel) (pa_cons (pe_lc (own := [("_law_entry", 9)]) (g := gName 9) rfl sc__law_table.nd (pi_tup (pv 1)) (blkOk_by (own := [("_law_entry", 9)]) (N := ["_law_rim", "_law_bunch", "_law_size", "_law_grid", "_law_i", "_law_met", "_law_step", "_law_j", "_law_row", "_law_entry"]) (sc := defScope s__law_table) (by decide +kernel)) (fun _ _ _ _ _ => (pg_name (i := 9) sc__law_table.nd rfl (.inl rfl))) (fun _ _ _ _ _ => pts_one (pt_cmpR op_ne (pe_ix (r := rIxL K) ix_list (pv 5) (pe_ix (r := rIxT K) ix_tup (pv 9) pe_int (fun _ _ => rfl)) (fun _ _ => rfl)) (pe_ix (r := rIxL K) ix_list (pv 5) (pe_ix (r := rIxT K) ix_tup (pv 9) pe_int (fun _ _ => rfl)) (fun _ _ => rfl)) (nomark _))) (fun _ _ _ _ _ => (pe_ix (r := rIxT K) ix_tup (pv 9) pe_int (fun _ _ => rfl)))) pa_nil)) (pg_sub (pe_ix (r := rIxL K) ix_list (pv 3) (pv 4) (fun _ _ => rfl)) (pv 7) set_list)))))))))
        (pss_one (ps_ret (pe_callTy call_tuple_of (by rfl) T.b_tuple (by decide +kernel) (pa_cons (pe_lc (own := [("_law_row", 8)]) (g := gName 8) (tt := tYes) rfl sc__law_table.nd (pi_list (pv 3)) (blkOk_by (own := [("_law_row", 8)]) (N := ["_law_rim", "_law_bunch", "_law_size", "_law_grid", "_law_i", "_law_met", "_law_step", "_law_j", "_law_row", "_law_entry"]) (sc := defScope s__law_table) (by decide +kernel)) (fun _ _ _ _ _ => (pg_name (i := 8) sc__law_table.nd rfl (.inl rfl))) (fun _ _ _ _ _ => pts_nil) (fun _ _ _ _ _ => (pe_callTy (r := rTupOf K) cr_tupOf (by rfl) T.b_tuple (by decide +kernel) (pa_cons (pv 8) pa_nil)))) pa_nil))))))), ?_⟩
    refine ⟨_, rfl, n, 1, rfl, ?_⟩
    have hsz := lo_hi n 1
    have hz0 : 1 ≤ hi n 1 ∧ hi n 1 ≤ 1000 ∧ (2 ≤ hi n 1 → hi n 1 = n) := by omega
    refine ⟨_, rfl, hi n 1, rfl, by omega, by omega, fun R hR => ?_⟩
    refine lc_range (lo := 0) (n := (hi n 1).toNat) (fun i H3 => ∃ rr, ZInv H R (hi n 1) i rr H3) ⟨[], same_upd hR, upd_same, rfl, List.nodup_nil, by simp, by simp, by simp⟩ (fun i H3 hi3 pv => ?_) (fun H3 pv => ?_)
    · obtain ⟨rr, z⟩ := pv
      refine ⟨rfl, ?_⟩
      refine ⟨_, rfl, hi n 1, rfl, by omega, by omega, fun D hD => ?_⟩
      refine lc_range (lo := 0) (n := (hi n 1).toNat) (fun k H4 => H4 = upd H3 D (.lst ((gl (hi n 1) fun _ => 0).take k))) rfl (fun k H4 hk pv => ?_) (fun H4 pv => ?_)
      · subst pv
        refine ⟨rfl, ?_⟩
        refine ⟨_, upd_same, ?_, ?_⟩
        · rw [List.length_take, gl_len]
          exact Nat.lt_of_le_of_lt (Nat.min_le_right _ _) (small1000 (by omega))
        · rw [upd_upd, List.take_add_one]
          have : (gl (hi n 1) fun _ => 0)[k]? = some (.int 0) := by
            unfold gl
            rw [List.getElem?_map, List.getElem?_range hk]
            rfl
          rw [this]
          rfl
      · subst pv
        rw [List.take_of_length_le (by rw [gl_len]; exact Nat.le_refl _)]
        have sA : Same H3 (upd H3 D (.lst (gl (hi n 1) fun _ => 0))) := same_upd hD
        refine ⟨_, sA _ _ z.at_, ?_, _, z.step hR sA hD upd_same⟩
        rw [List.length_map, z.len]
        exact small1000 (by omega)
    obtain ⟨rr, z⟩ := pv
    have gz : Grid H3 R rr (hi n 1) (hi n 1) (fun x y => if x < 0 then tabE cs x y else 0) := by
      refine Grid.congr (f := fun _ _ => 0) ⟨z.at_, z.len, z.nd, z.out, fun j r e => z.row j r e⟩ fun x y x0 x1 y0 y1 => ?_
      rw [if_neg (by omega)]
    obtain ⟨cvs, ec, tc⟩ := id hc
    generalize hsz2 : hi n 1 = sz at hz0 gz
    refine ⟨_, rfl, sz, by rw [← hsz2]; rfl, by omega, by omega, for_range (lo := 0) (n := sz.toNat) (fun i σ H4 => (∃ y4 y5 y6 y7 y8 y9, σ = [some (.int n), some (.ref c), some (.int sz), some (.ref R), y4, y5, y6, y7, y8, y9]) ∧ Same H H4 ∧ Grid H4 R rr sz sz (fun x y => if x < (i : Int) then tabE cs x y else 0)) ⟨⟨none, none, none, none, none, none, by rw [← hsz2]; rfl⟩, z.sm, gz⟩ (fun i σ H4 hi4 pv => ?_) (fun σ H4 pv => ?_)⟩
    · obtain ⟨⟨y4, y5, y6, y7, y8, y9, rfl⟩, s4, g4⟩ := pv
      rw [Int.zero_add]
      -- met
      refine ⟨_, rfl, sz, rfl, by omega, by omega, fun M hM => ?_⟩
      refine lc_range (lo := 0) (n := sz.toNat) (fun k H5 => H5 = upd H4 M (.lst ((bl sz fun _ => false).take k))) rfl (fun k H5 hk pv => ?_) (fun H5 pv => ?_)
      · subst pv
        refine ⟨rfl, ?_⟩
        refine ⟨_, upd_same, ?_, ?_⟩
        · rw [List.length_take, bl_len]
          exact Nat.lt_of_le_of_lt (Nat.min_le_right _ _) (small1000 (by omega))
        · rw [upd_upd, List.take_add_one]
          have : (bl sz fun _ => false)[k]? = some (.bl false) := by
            unfold bl
            rw [List.getElem?_map, List.getElem?_range hk]
            rfl
          rw [this]
          rfl
      subst pv
      rw [List.take_of_length_le (by rw [bl_len]; exact Nat.le_refl _)]
      obtain ⟨nRM, nMrr⟩ := g4.apart hM
      have nHM : H M = none := s4.free hM
      have s5 : Same H (upd H4 M (.lst (bl sz fun _ => false))) := s4.trans (same_upd hM)
      have g5 := g4.other (o := .lst (bl sz fun _ => false)) nRM nMrr
      refine ⟨_, rfl, 1, sz, rfl, ⟨by omega, by omega, by omega, by omega⟩, for_range (lo := 1) (n := (sz - 1).toNat) (fun k σ H6 => (∃ y6 y7, σ = [some (.int n), some (.ref c), some (.int sz), some (.ref R), some (.int (i : Int)), some (.ref M), y6, y7, y8, y9]) ∧ Same H H6 ∧ Grid H6 R rr sz sz (fun x y => if x < (i : Int) ∨ (x = (i : Int) ∧ mt sz i k y = true) then tabE cs x y else 0) ∧ H6 M = some (.lst (bl sz (mt sz i k)))) ⟨⟨_, _, rfl⟩, s5, ?_, ?_⟩ (fun k σ H6 hk pv => ?_) (fun σ H6 pv => ?_)⟩
      · refine g5.congr fun x y x0 x1 y0 y1 => ?_
        rw [mt_zero]
        by_cases h : x < (i : Int)
        · rw [if_pos h, if_pos (.inl h)]
        · rw [if_neg h, if_neg (fun z => by rcases z with z | z; exact h z; exact Bool.false_ne_true z.2)]
      · rw [upd_same]
        congr 2
        exact bl_congr fun x _ _ => (mt_zero sz i x).symm
      · obtain ⟨⟨y6, y7, rfl⟩, s6, g6, eM⟩ := pv
        have hn : sz = n := hz0.2.2 (by omega)
        subst hn
        have hk1 : (k : Int) + 1 < sz := by omega
        have i1 : (i : Int) < sz := by omega
        obtain ⟨j0, j1⟩ := fmod_in ((i : Int) + (1 + (k : Int))) (show 0 < sz by omega)
        refine ⟨_, rfl, _, rfl, _, _, rfl, rfl, .inl ⟨_, rfl, _, rfl, _, _, rfl, rfl, by omega, ?_⟩⟩
        generalize hj : ((i : Int) + (1 + (k : Int))).fmod sz = j at j0 j1
        show (tSeq _ _) _ ([some (.int sz), some (.ref c), some (.int sz), some (.ref R), some (.int (i : Int)), some (.ref M), some (.int (1 + (k : Int))), some (.int (((i : Int) + (1 + (k : Int))).fmod sz)), y8, y9]) _
        rw [hj]
        -- met[j] = True
        refine ⟨_, rfl, _, rfl, M, _, _, _, rfl, rfl, eM, bl_ix _ j0 j1, ?_⟩
        rw [bl_set _ _ j0 j1]
        have emt : (bl sz fun y => if y = j then true else mt sz i k y) = bl sz (mt sz i (k + 1)) := bl_congr fun y h0 h1 => by
          rw [mt_step (by omega) i1 h0 h1 hk1, hj]
        rw [emt]
        have s7 : Same H (upd H6 M (.lst (bl sz (mt sz i (k + 1))))) := same_put (H1 := H) nHM s6
        have g7 := g6.other (o := .lst (bl sz (mt sz i (k + 1)))) nRM nMrr
        generalize hH7 : upd H6 M (.lst (bl sz (mt sz i (k + 1)))) = H7 at s7 g7
        have eM7 : H7 M = some (.lst (bl sz (mt sz i (k + 1)))) := by rw [← hH7]; exact upd_same
        -- the sum
        refine ⟨_, rfl, c, rfl, ⟨cvs, .inl (.inl (s7 _ _ ec))⟩, fun D hD => ?_⟩
        generalize hf : (fun q : Int × Int => mt sz i (k + 1) q.1 != mt sz i (k + 1) q.2) = fF
        refine lc_tup (K := K) (a := c) (xs := cvs) (fun m H8 => H8 = upd H7 D (.lst ((fl fF (cs.take m)).map V.int))) rfl (fun m H8 _ pv => by subst pv; exact .inl (.inl (same_upd hD _ _ (s7 _ _ ec)))) (fun m x H8 hxm pv => ?_) (fun H8 pv => ?_)
        · subst pv
          obtain ⟨u, t, rfl, htm, hu⟩ := (tc.same s7).at_ hxm
          have ho := hG.ord t (List.mem_of_getElem? htm)
          have sD := same_upd (o := .lst ((fl fF (cs.take m)).map V.int)) hD
          have qu : SqT K (upd H7 D (.lst ((fl fF (cs.take m)).map V.int))) u (tv t) := .inl (.inl (sD _ _ hu))
          have qM : SqL K (upd H7 D (.lst ((fl fF (cs.take m)).map V.int))) M (bl sz (mt sz i (k + 1))) := .inl (.inl (sD _ _ eM7))
          have a0 : atI (tv t) 0 = some (.int t.1) := atI_nat (j := 0) rfl
          have a1 : atI (tv t) 1 = some (.int t.2.1) := atI_nat (j := 1) rfl
          have a2 : atI (tv t) 2 = some (.int t.2.2) := atI_nat (j := 2) rfl
          have etake : fl fF (cs.take (m + 1)) = if fF (pr t) = true then fl fF (cs.take m) ++ [t.2.2] else fl fF (cs.take m) := by
            rw [List.take_add_one, htm]
            exact fl_snoc fF (cs.take m) t
          have eF : fF (pr t) = (mt sz i (k + 1) t.1 != mt sz i (k + 1) t.2.1) := by rw [← hf]; rfl
          refine ⟨rfl, ?_⟩
          refine ⟨_, rfl, _, rfl, u, _, 0, _, rfl, rfl, qu, a0, M, _, _, _, rfl, rfl, qM, bl_at _ (by omega) (by omega), ?_⟩
          refine ⟨_, rfl, _, rfl, u, _, 1, _, rfl, rfl, qu, a1, M, _, _, _, rfl, rfl, qM, bl_at _ (by omega) (by omega), rfl, _, rfl, ?_⟩
          refine ite2 (fun e => ?_) (fun e => ?_)
          · have e1 : fF (pr t) = true := by rw [eF, ← ne_bl]; exact e
            refine ⟨_, rfl, u, _, 2, _, rfl, rfl, qu, a2, _, upd_same, ?_, ?_⟩
            · rw [List.length_map]
              refine Nat.lt_of_le_of_lt (Nat.le_trans (fl_len _ _) ?_) (small1000 hl)
              rw [List.length_take]
              exact Nat.min_le_right _ _
            · rw [upd_upd, etake, if_pos e1, List.map_append]
              rfl
          · have e1 : ¬ fF (pr t) = true := by rw [eF, ← ne_bl]; exact e
            rw [etake, if_neg e1]
        · subst pv
          rw [tc.1, List.take_length]
          have sD := same_upd (o := .lst ((fl fF cs).map V.int)) hD
          refine ⟨D, _, rfl, .inl (.inl upd_same), ?_⟩
          rw [fl_sum]
          have eT : bs fF cs = tabE cs i j := by
            unfold tabE
            refine bs_congr fun t ht => ?_
            have ho := hG.ord t ht
            rw [← hf]
            have := mt_sep (k := k) (show (0 : Int) ≤ i by omega) i1 hk1 (show 0 ≤ t.1 by omega) (by omega) (show 0 ≤ t.2.1 by omega) (by omega)
            rw [hj] at this
            exact this
          rw [eT]
          have g8 := g7.same sD
          obtain ⟨r1, e1, a1, h1⟩ := g8.get (a := (i : Int)) (by omega) (by omega)
          refine ⟨_, rfl, _, rfl, R, _, _, _, rfl, rfl, .inl (.inl g8.at_), a1, _, rfl, r1, _, _, _, rfl, rfl, h1, gl_ix _ j0 j1, ?_⟩
          have g9 := g8.set (v := tabE cs i j) (by omega) j0 j1 e1
          refine ⟨⟨some (.int (1 + (k : Int))), some (.int j), rfl⟩, same_put (H1 := H) (z.fr r1 (List.mem_of_getElem? e1)) (s7.trans sD), g9.congr fun x y x0 x1 y0 y1 => ?_, ?_⟩
          · have hm := mt_step (k := k) (show (0 : Int) ≤ i by omega) i1 y0 y1 hk1
            rw [hj] at hm
            rw [hm]
            by_cases q1 : x = (i : Int) ∧ y = j
            · rw [if_pos q1, if_pos (.inr ⟨q1.1, by rw [if_pos q1.2]⟩), q1.1, q1.2]
            · rw [if_neg q1]
              by_cases q2 : x < (i : Int) ∨ (x = (i : Int) ∧ mt sz i k y = true)
              · rw [if_pos q2]
                rcases q2 with q2 | q2
                · rw [if_pos (.inl q2)]
                · rw [if_pos (.inr ⟨q2.1, by
                    split
                    · rfl
                    · exact q2.2⟩)]
              · rw [if_neg q2, if_neg]
                rintro (q3 | ⟨q3, q4⟩)
                · exact q2 (.inl q3)
                · have : ¬ y = j := fun z => q1 ⟨q3, z⟩
                  rw [if_neg this] at q4
                  exact q2 (.inr ⟨q3, q4⟩)
          · have nMr : M ≠ r1 := fun z => nMrr (by rw [z]; exact List.mem_of_getElem? e1)
            rw [upd_ne nMr]
            exact sD _ _ eM7
      · obtain ⟨⟨y6, y7, rfl⟩, s6, g6, eM⟩ := pv
        refine ⟨⟨_, _, _, _, _, _, rfl⟩, s6, g6.congr fun x y x0 x1 y0 y1 => ?_⟩
        by_cases q1 : x < (i : Int)
        · rw [if_pos (.inl q1), if_pos (by omega)]
        · by_cases q2 : x = (i : Int)
          · rw [mt_all (show (0 : Int) ≤ i by omega) (by omega) y0 y1 (by omega), if_pos (show x < ((i + 1 : Nat) : Int) by omega)]
            by_cases q3 : y = (i : Int)
            · rw [if_neg (fun z => by
                rcases z with z | z
                · exact q1 z
                · exact of_decide_eq_true z.2 q3), q2, q3, tabE_same]
            · rw [if_pos (.inr ⟨q2, decide_eq_true q3⟩)]
          · rw [if_neg (fun z => by
              rcases z with z | z
              · exact q1 z
              · exact q2 z.1), if_neg (by omega)]
    -- the tuples
    obtain ⟨⟨y4, y5, y6, y7, y8, y9, rfl⟩, s4, g4⟩ := pv
    have g5 : Grid H4 R rr sz sz (tabE cs) := g4.congr fun x y x0 x1 y0 y1 => by rw [if_pos (by omega)]
    refine ⟨_, rfl, R, rfl, ⟨_, .inl (.inl g5.at_)⟩, fun O hO => ?_⟩
    refine lc_list (K := K) (a := R) (xs := rr.map V.ref) (fun i H5 => Same H4 H5 ∧ ∃ us : List Addr, H5 O = some (.lst (us.map V.ref)) ∧ us.length = i ∧ ∀ (j : Nat) (u : Addr), us[j]? = some u → H5 u = some (.tup (gl sz (tabE cs j)))) ⟨same_upd hO, [], upd_same, rfl, by simp⟩ (fun i H5 _ p => .inl (.inl (p.1 _ _ g5.at_))) (fun i x H5 hxi p => ?_) (fun H5 p => ?_)
    · obtain ⟨s5, us, eO, hul, hus⟩ := p
      obtain ⟨r, hri, rfl⟩ : ∃ r, rr[i]? = some r ∧ x = .ref r := by
        rw [List.getElem?_map] at hxi
        cases e : rr[i]? with
        | none => rw [e] at hxi; cases hxi
        | some r =>
          rw [e] at hxi
          exact ⟨r, rfl, (Option.some.inj hxi).symm⟩
      have hi0 : i < sz.toNat := by
        rw [← g5.len]
        exact (List.getElem?_eq_some_iff.mp hri).1
      refine ⟨rfl, ?_⟩
      refine ⟨_, rfl, r, _, rfl, .inl ⟨.inl (.inl (s5 _ _ (g5.row i r hri))), fun u nu => ?_⟩⟩
      have nuO : u ≠ O := fun z => by
        rw [z, eO] at nu
        cases nu
      refine ⟨_, same_upd nu _ _ eO, ?_, same_put (H1 := H4) hO (s5.trans (same_upd nu)), us ++ [u], ?_, ?_, ?_⟩
      · rw [List.length_map, hul]
        exact small1000 (by omega)
      · rw [upd_same, List.map_append]
        rfl
      · rw [List.length_append, hul]
        rfl
      · intro j v e
        by_cases hj : j < us.length
        · rw [List.getElem?_append_left hj] at e
          have h5 := hus j v e
          have hv : v ≠ O := fun z => by
            rw [z, eO] at h5
            cases h5
          rw [upd_ne hv]
          exact same_upd nu _ _ h5
        · rw [List.getElem?_append_right (by omega)] at e
          have hk : j - us.length = 0 := by
            cases hk : j - us.length with
            | zero => rfl
            | succ k =>
              rw [hk] at e
              simp at e
          rw [hk] at e
          obtain rfl : u = v := Option.some.inj e
          have ej : j = i := by omega
          subst ej
          rw [upd_ne nuO, upd_same]
    · obtain ⟨s5, us, eO, hul, hus⟩ := p
      rw [List.length_map, g5.len] at hul
      refine ⟨O, _, rfl, .inl ⟨.inl (.inl eO), fun a na => ?_⟩⟩
      refine q _ a ((s4.trans s5).trans (same_upd na)) ⟨_, upd_same, ?_, fun j hj => ?_⟩
      · rw [List.length_map, hul, hsz2]
      · rw [hsz2] at hj
        have hj2 : j < us.length := by omega
        refine ⟨us[j], ?_, ?_⟩
        · rw [List.getElem?_map, List.getElem?_eq_getElem hj2]
          rfl
        · rw [hsz2]
          exact same_upd na _ _ (hus j _ (List.getElem?_eq_getElem hj2))
end
end Own

namespace Own
open PySem PySem.Spec PyProof.Rows L2
theorem gl_nat {n : Int} (f : Int → Int) {i : Nat} (h : i < n.toNat) : (gl n f)[i]? = some (.int (f (i : Int))) := by
  unfold gl
  rw [List.getElem?_map, List.getElem?_range h]
  rfl
theorem EqV.tab {H : Hp} {a b : Addr} {sz : Int} {f g : Int → Int → Int} (ha : TabAt H a sz f) (hb : TabAt H b sz g) (hs : sz ≤ 1000) (e : ∀ x y, 0 ≤ x → x < sz → 0 ≤ y → y < sz → f x y = g x y) : EqV 2 H (.ref a) (.ref b) := by
  obtain ⟨vs, e1, l1, r1⟩ := ha
  obtain ⟨us, e2, l2, r2⟩ := hb
  refine .inr ⟨a, b, vs, us, rfl, rfl, .inl ⟨e1, e2⟩, by rw [l1, l2], by omega, fun i x y hx hy => ?_⟩
  have hi : i < sz.toNat := by
    rw [← l1]
    exact (List.getElem?_eq_some_iff.mp hx).1
  obtain ⟨p, h1, h2⟩ := r1 i hi
  obtain ⟨q, h3, h4⟩ := r2 i hi
  rw [h1] at hx
  rw [h3] at hy
  obtain rfl := Option.some.inj hx
  obtain rfl := Option.some.inj hy
  refine .inr ⟨p, q, _, _, rfl, rfl, .inl ⟨h2, h4⟩, by rw [gl_len, gl_len], by rw [gl_len]; omega, fun k x y hx hy => ?_⟩
  have hk : k < sz.toNat := by
    have := (List.getElem?_eq_some_iff.mp hx).1
    rw [gl_len] at this
    exact this
  rw [gl_nat _ hk] at hx hy
  rw [e _ _ (by omega) (by omega) (by omega) (by omega)] at hx
  rw [hx] at hy
  cases hx
  cases hy
  exact EqV.int _
section
variable {P : Program} {w : World} {K : PySem.W.Frag} {mg : Str → Option Value} {base : Heap} {C : Addr}
def spLotIs (K : PySem.W.Frag) (C : Addr) : Sp := fun vs H Q _ => ∃ (p : Addr) (n : Int) (c : Addr) (cs : List Tr), vs = [.ref p, .int n, .ref c] ∧ LotAt C H p n cs ∧ Trip H c cs ∧ cs.length ≤ 1000 ∧ Q (.bl true) H
theorem ok_lotis {f : Addr} {fd : FuncData} (F : Fun K "_law_lot_is" "_law_lot_is" s__law_lot_is f fd) (T : Bi mg) (L : LotC K mg C) (I : C8.InsC K C) {f_s : Addr} {d_s : FuncData} (D_s : Df K mg "_law_same" s__law_same ["_law_value", "_law_due"] f_s d_s) (G_s : FnOk P w K mg base CX0 4 f_s d_s ["_law_value", "_law_due"] (spSame 2)) : FnOk P w K mg base CX0 5 f fd ["_law_lot_here", "_law_rim", "_law_bunch"] (spLotIs K C) := by
  refine F.ok sc__law_lot_is (fun vs H Q E h => ?_) (fun cdv A outer s H vs Q E hr h => ?_)
  · obtain ⟨p, n, c, cs, rfl, _⟩ := h
    rfl
  · obtain ⟨p, n, c, cs, rfl, hL, hc, hl, q⟩ := h
    refine ⟨_, (pss_one (ps_ret (pe_and (pe_callB call_isi (by rfl) T.b_isinstance (by decide +kernel) (pa_cons (pv 0) (pa_cons (pe_glob (v := .ref C) (by rfl) L.g rfl) pa_nil))) (pe_and (pe_call G_s (hr.mono (by decide)) (by rfl) D_s.g D_s.F.kp D_s.b .nil pass0 (pa_cons (pe_fld (pv 0) rfl) (pa_cons (pv 1) pa_nil))) (pe_one (pe_call G_s (hr.mono (by decide)) (by rfl) D_s.g D_s.F.kp D_s.b .nil pass0 (pa_cons (pe_fld (pv 0) rfl) (pa_cons (pv 2) pa_nil)))))))), ?_⟩
    obtain ⟨dx, c2, e, t⟩ := hL
    refine ⟨_, rfl, _, _, _, _, true, rfl, .own C, .base (.ins e I.cl I.ha I.hn I.htk I.hm), I.me, true, rfl, ?_⟩
    refine ⟨_, rfl, p, C, dx, _, _, rfl, e, L.cl, L.nP, flds_pins _ _, _, rfl, _, _, rfl, EqV.int n, true, rfl, ?_⟩
    exact ⟨_, rfl, p, C, dx, _, _, rfl, e, L.cl, L.nC, flds_cords _ _, _, rfl, _, _, rfl, EqV.trip t hc hl, q⟩
end
end Own

namespace Own
open PySem PySem.Spec PyProof.Rows L2 L2H
theorem units0H {k : Nat} {A : Around} (r : L2H.RoomH k A) : A.units < cLine := by have := r.un; omega
theorem units64H {k : Nat} {A : Around} (r : L2H.RoomH k A) : A.units + 64 < cLine := by have := r.un; omega
theorem EqV.same {H H' : Hp} (s : Same H H') : ∀ {d : Nat} {x y : V}, EqV d H x y → EqV d H' x y
  | 0, x, y, h => by
    rcases h with h | h | h | h | ⟨p, kvs, e1, e2, h, k⟩
    · exact .inl h
    · exact .inr (.inl h)
    · exact .inr (.inr (.inl h))
    · exact .inr (.inr (.inr (.inl h)))
    · exact .inr (.inr (.inr (.inr ⟨p, kvs, e1, e2, s _ _ h, k⟩)))
  | d + 1, x, y, h => by
    rcases h with h | ⟨a, b, vs, us, e1, e2, hab, l1, l2, hi⟩
    · exact .inl (EqV.same s h)
    · refine .inr ⟨a, b, vs, us, e1, e2, ?_, l1, l2, fun i x y hx hy => EqV.same s (hi i x y hx hy)⟩
      rcases hab with ⟨h1, h2⟩ | ⟨h1, h2⟩
      · exact .inl ⟨s _ _ h1, s _ _ h2⟩
      · exact .inr ⟨s _ _ h1, s _ _ h2⟩
section
variable {P : Program} {w : World} {K : PySem.W.Frag} {mg : Str → Option Value} {base : Heap} {C : Addr}
theorem okH_lwhole {f : Addr} {fd : FuncData} (F : Fun K "_law_whole" "_law_whole" s__law_whole f fd) (T : Bi mg) : L2H.FnH P w K mg base CX0 1 f fd ["_law_value"] spWhole := by
  refine okH F sc__law_whole (fun vs H Q E h => ?_) (fun cdv A outer s H vs Q E p hot hr h => ?_)
  · obtain ⟨i, rfl, _⟩ := h
    rfl
  · obtain ⟨i, rfl, q⟩ := h
    refine ⟨_, (pss_one (ps_ret (pe_and (pe_callB call_isi (by rfl) T.b_isinstance (by decide +kernel) (pa_cons (pv 0) (pa_cons (pe_bltn (v := .ty "int") (by rfl) T.b_int (by decide +kernel) rfl) pa_nil))) (pe_one (pe_not (pe_callB call_isi (by rfl) T.b_isinstance (by decide +kernel) (pa_cons (pv 0) (pa_cons (pe_bltn (v := .ty "bool") (by rfl) T.b_bool (by decide +kernel) rfl) pa_nil)))))))), ?_⟩
    refine ⟨_, rfl, _, _, _, _, true, rfl, .ty "int", .base (.int i), kit_ty (by decide +kernel), true, rfl, ?_⟩
    exact ⟨_, rfl, _, _, _, _, false, rfl, .ty "bool", .base (.int i), kit_ty (by decide +kernel), false, rfl, q⟩
theorem fnH_no {k : Nat} {f : Addr} {fd : FuncData} {ps : List Str} : L2H.FnH P w K mg base CX0 k f fd ps spNo := ⟨fun _ _ _ _ h => h.elim, fun _ _ _ _ _ _ _ _ _ _ _ _ _ _ _ _ h => h.elim⟩
/-- its body, with any promise for the call within -/
theorem sameH_body {f : Addr} {fd : FuncData} {k : Nat} {sp : Sp} {d : Nat} (D_s : Df K mg "_law_same" s__law_same ["_law_value", "_law_due"] f fd) (T : Bi mg) (T_di : mg "dict" = none) {f_w : Addr} {d_w : FuncData} (D_w : Df K mg "_law_whole" s__law_whole ["_law_value"] f_w d_w) (G_w : L2H.FnH P w K mg base CX0 1 f_w d_w ["_law_value"] spWhole)
    (G_s : L2H.FnH P w K mg base CX0 (k + 1) f fd ["_law_value", "_law_due"] sp) (hsp : ∀ e x y H Q, e + 1 ≤ d → EqV e H x y → Q (.bl true) H → sp [x, y] H Q E0) : L2H.FnH P w K mg base CX0 (k + 2) f fd ["_law_value", "_law_due"] (spSame d) := by
  refine okH D_s.F sc__law_same (fun vs H Q E h => ?_) (fun cdv A outer s H vs Q E p hot hr h => ?_)
  · obtain ⟨x, y, rfl, _⟩ := h
    rfl
  · obtain ⟨x, y, rfl, hxy, q⟩ := h
    have hu1 := units64H hr
    refine ⟨_, (pss_cons (ps_if (pt_cmpR op_isN (pv 1) pe_non (nomark _)) (pss_one (ps_ret (pe_cmpR op_isN (pv 0) pe_non (nomark _)))) pss_nil)
        (pss_cons (ps_if (pt_val (pe_callB call_isi (by rfl) T.b_isinstance (by decide +kernel) (pa_cons (pv 1) (pa_cons (pe_bltn (v := .ty "bool") (by rfl) T.b_bool (by decide +kernel) rfl) pa_nil)))) (pss_one (ps_ret (pe_and (pe_callB call_isi (by rfl) T.b_isinstance (by decide +kernel) (pa_cons (pv 0) (pa_cons (pe_bltn (v := .ty "bool") (by rfl) T.b_bool (by decide +kernel) rfl) pa_nil))) (pe_one (pe_cmpR op_eq (pv 0) (pv 1) (nomark _)))))) pss_nil)
        (pss_cons (ps_if (pt_val (pe_callB call_isi (by rfl) T.b_isinstance (by decide +kernel) (pa_cons (pv 1) (pa_cons (pe_bltn (v := .ty "int") (by rfl) T.b_int (by decide +kernel) rfl) pa_nil)))) (pss_one (ps_ret (pe_and (pe_callH G_w (hr.mono (by omega)) hot (by rfl) D_w.g D_w.F.kp D_w.b (E := fun _ => E0) (fun _ => pass0A) (pa_cons (pv 0) pa_nil)) (pe_one (pe_cmpR op_eq (pv 0) (pv 1) (nomark _)))))) pss_nil)
        (pss_cons (ps_if (pt_val (pe_callB call_isi (by rfl) T.b_isinstance (by decide +kernel) (pa_cons (pv 1) (pa_cons (pe_bltn (v := .ty "str") (by rfl) T.b_str (by decide +kernel) rfl) pa_nil)))) (pss_one (ps_ret (pe_and (pe_callB call_isi (by rfl) T.b_isinstance (by decide +kernel) (pa_cons (pv 0) (pa_cons (pe_bltn (v := .ty "str") (by rfl) T.b_str (by decide +kernel) rfl) pa_nil))) (pe_one (pe_cmpR op_eq (pv 0) (pv 1) (nomark _)))))) pss_nil)
        (pss_cons (ps_if (pt_val (pe_callB call_isi (by rfl) T.b_isinstance (by decide +kernel) (pa_cons (pv 1) (pa_cons (pe_bltn (v := .ty "dict") (by rfl) T_di (by decide +kernel) rfl) pa_nil)))) (pss_one (ps_ret (pe_and (pe_callB call_isi (by rfl) T.b_isinstance (by decide +kernel) (pa_cons (pv 0) (pa_cons (pe_bltn (v := .ty "dict") (by rfl) T_di (by decide +kernel) rfl) pa_nil))) (pe_one (pe_cmpR (op_eqV hu1) (pv 0) (pv 1) (nomark _)))))) pss_nil)
        (pss_cons (ps_if (PW.pt (pw_and (pt_val (pe_callB call_isi (by rfl) T.b_isinstance (by decide +kernel) (pa_cons (pv 1) (pa_cons (pe_bltn (v := .ty "list") (by rfl) T.b_list (by decide +kernel) rfl) pa_nil)))) (pw_and1 (pt_not (pt_val (pe_callB call_isi (by rfl) T.b_isinstance (by decide +kernel) (pa_cons (pv 0) (pa_cons (pe_bltn (v := .ty "list") (by rfl) T.b_list (by decide +kernel) rfl) pa_nil)))))))) (pss_one (ps_ret pe_bl)) pss_nil)
        (pss_cons (ps_if (PW.pt (pw_and (pt_val (pe_callB call_isi (by rfl) T.b_isinstance (by decide +kernel) (pa_cons (pv 1) (pa_cons (pe_bltn (v := .ty "tuple") (by rfl) T.b_tuple (by decide +kernel) rfl) pa_nil)))) (pw_and1 (pt_not (pt_val (pe_callB call_isi (by rfl) T.b_isinstance (by decide +kernel) (pa_cons (pv 0) (pa_cons (pe_bltn (v := .ty "tuple") (by rfl) T.b_tuple (by decide +kernel) rfl) pa_nil)))))))) (pss_one (ps_ret pe_bl)) pss_nil)
        (pss_cons (ps_if (pt_cmpR op_ne (pe_callB call_len_seq (by rfl) T.b_len PySem.boot_len (pa_cons (pv 0) pa_nil)) (pe_callB call_len_seq (by rfl) T.b_len PySem.boot_len (pa_cons (pv 1) pa_nil)) (nomark _)) (pss_one (ps_ret pe_bl)) pss_nil)
        (pss_cons (ps_forH PassesOwn.never hot (pi_range1H (by rfl) T.b_range (pa_cons (pe_callB call_len_seq (by rfl) T.b_len PySem.boot_len (pa_cons (pv 1) pa_nil)) pa_nil)) (pg_name (i := 2) sc__law_same.nd rfl (.inl rfl))
        (pss_one (ps_if (pt_not (pt_val (pe_callH G_s hr hot (by rfl) D_s.g D_s.F.kp D_s.b (E := fun _ => E0) (fun _ => pass0A) (pa_cons (pe_ix (r := rIxB K) ix_seqB (pv 0) (pv 2) (fun _ _ => rfl)) (pa_cons (pe_ix (r := rIxB K) ix_seqB (pv 1) (pv 2) (fun _ _ => rfl)) pa_nil))))) (pss_one (ps_ret pe_bl)) pss_nil)))
        (pss_one (ps_ret pe_bl))))))))))), ?_⟩
    rcases hxy.cases' with (⟨i, rfl, rfl⟩ | ⟨b, rfl, rfl⟩ | ⟨rfl, rfl⟩ | ⟨z, rfl, rfl⟩ | ⟨p_, kvs, rfl, rfl, hd, dk⟩) | ⟨e, a, b, vs, us, hle, rfl, rfl, hab, hlen, hl, hel⟩
    · refine ⟨_, rfl, rfl, _, rfl, ?_⟩
      refine ⟨_, rfl, _, _, _, _, false, rfl, .ty "bool", .base (.int i), kit_ty (by decide +kernel), false, rfl, ?_⟩
      refine ⟨_, rfl, _, _, _, _, true, rfl, .ty "int", .base (.int i), kit_ty (by decide +kernel), true, rfl, ?_⟩
      refine ⟨_, rfl, i, rfl, true, rfl, ?_⟩
      refine ⟨_, rfl, _, rfl, rfl, ?_⟩
      rw [decide_eq_true rfl]
      exact q
    · refine ⟨_, rfl, rfl, _, rfl, ?_⟩
      refine ⟨_, rfl, _, _, _, _, true, rfl, .ty "bool", .base (.bl b), kit_ty (by decide +kernel), true, rfl, ?_⟩
      refine ⟨_, rfl, _, _, _, _, true, rfl, .ty "bool", .base (.bl b), kit_ty (by decide +kernel), true, rfl, ?_⟩
      refine ⟨_, rfl, _, rfl, rfl, ?_⟩
      rw [decide_eq_true rfl]
      exact q
    · refine ⟨_, rfl, rfl, _, rfl, ?_⟩
      exact ⟨_, rfl, rfl, q⟩
    · refine ⟨_, rfl, rfl, _, rfl, ?_⟩
      refine ⟨_, rfl, _, _, _, _, false, rfl, .ty "bool", .base (.str z), kit_ty (by decide +kernel), false, rfl, ?_⟩
      refine ⟨_, rfl, _, _, _, _, false, rfl, .ty "int", .base (.str z), kit_ty (by decide +kernel), false, rfl, ?_⟩
      refine ⟨_, rfl, _, _, _, _, true, rfl, .ty "str", .base (.str z), kit_ty (by decide +kernel), true, rfl, ?_⟩
      refine ⟨_, rfl, _, _, _, _, true, rfl, .ty "str", .base (.str z), kit_ty (by decide +kernel), true, rfl, ?_⟩
      refine ⟨_, rfl, _, rfl, rfl, ?_⟩
      rw [decide_eq_true rfl]
      exact q
    · have tB : TyX K H (.ref p_) (.type "dict") := .base (.dK hd)
      refine ⟨_, rfl, rfl, _, rfl, ?_⟩
      refine ⟨_, rfl, _, _, _, _, false, rfl, .ty "bool", tB, kit_ty (by decide +kernel), false, rfl, ?_⟩
      refine ⟨_, rfl, _, _, _, _, false, rfl, .ty "int", tB, kit_ty (by decide +kernel), false, rfl, ?_⟩
      refine ⟨_, rfl, _, _, _, _, false, rfl, .ty "str", tB, kit_ty (by decide +kernel), false, rfl, ?_⟩
      refine ⟨_, rfl, _, _, _, _, true, rfl, .ty "dict", tB, kit_ty (by decide +kernel), true, rfl, ?_⟩
      refine ⟨_, rfl, _, _, _, _, true, rfl, .ty "dict", tB, kit_ty (by decide +kernel), true, rfl, ?_⟩
      exact ⟨_, rfl, _, rfl, 1, by decide, .inr ⟨p_, p_, kvs, kvs, rfl, rfl, hd, hd, rfl, fun p hp => ⟨p.2, (dk p hp).1, dk_eqv (dk p hp).2⟩⟩, q⟩
    · rcases hab with ⟨ha, hb⟩ | ⟨ha, hb⟩
      · have tA : TyX K H (.ref a) (.type "tuple") := .base (.tup ha)
        have tB : TyX K H (.ref b) (.type "tuple") := .base (.tup hb)
        have qA : SqB K H a vs := .inr (.inl (.inl ha))
        have qB : SqB K H b us := .inr (.inl (.inl hb))
        refine ⟨_, rfl, rfl, _, rfl, ?_⟩
        refine ⟨_, rfl, _, _, _, _, false, rfl, .ty "bool", tB, kit_ty (by decide +kernel), false, rfl, ?_⟩
        refine ⟨_, rfl, _, _, _, _, false, rfl, .ty "int", tB, kit_ty (by decide +kernel), false, rfl, ?_⟩
        refine ⟨_, rfl, _, _, _, _, false, rfl, .ty "str", tB, kit_ty (by decide +kernel), false, rfl, ?_⟩
        refine ⟨_, rfl, _, _, _, _, false, rfl, .ty "dict", tB, kit_ty (by decide +kernel), false, rfl, ?_⟩
        refine ⟨_, rfl, _, _, _, _, false, rfl, .ty "list", tB, kit_ty (by decide +kernel), false, rfl, ?_⟩
        refine ⟨_, rfl, _, _, _, _, true, rfl, .ty "tuple", tB, kit_ty (by decide +kernel), true, rfl, ?_⟩
        refine ⟨_, rfl, _, _, _, _, true, rfl, .ty "tuple", tA, kit_ty (by decide +kernel), true, rfl, ?_⟩
        refine ⟨_, rfl, a, _, rfl, qA, _, rfl, b, _, rfl, qB, rfl, _, rfl, ?_⟩
        rw [hlen]
        refine iteNS rfl ?_
        refine ⟨_, rfl, b, _, rfl, qB, _, rfl, by omega, by omega, ?_⟩
        rw [show ((us.length : Int)).toNat = us.length by omega]
        refine for_range (lo := 0) (n := us.length) (fun i σ H' => (∃ y2, σ = [some (.ref a), some (.ref b), y2]) ∧ H' = H) ⟨⟨_, rfl⟩, rfl⟩ (fun i σ H' hi p => ?_) (fun σ H' p => ?_)
        · obtain ⟨⟨y2, rfl⟩, rfl⟩ := p
          have hv : vs[i]? = some vs[i] := List.getElem?_eq_getElem (by omega)
          have hu : us[i]? = some us[i] := List.getElem?_eq_getElem hi
          refine ⟨_, rfl, _, rfl, a, _, _, _, rfl, rfl, qA, at_of (j := i) (by omega) hv, _, rfl, _, rfl, b, _, _, _, rfl, rfl, qB, at_of (j := i) (by omega) hu, ?_⟩
          exact hsp e _ _ _ _ hle (hel i _ _ hv hu) ⟨true, rfl, ⟨_, rfl⟩, rfl⟩
        · obtain ⟨_, rfl⟩ := p
          exact q
      · have tA : TyX K H (.ref a) (.type "list") := .base (.lst ha)
        have tB : TyX K H (.ref b) (.type "list") := .base (.lst hb)
        have qA : SqB K H a vs := .inl (.inl (.inl ha))
        have qB : SqB K H b us := .inl (.inl (.inl hb))
        refine ⟨_, rfl, rfl, _, rfl, ?_⟩
        refine ⟨_, rfl, _, _, _, _, false, rfl, .ty "bool", tB, kit_ty (by decide +kernel), false, rfl, ?_⟩
        refine ⟨_, rfl, _, _, _, _, false, rfl, .ty "int", tB, kit_ty (by decide +kernel), false, rfl, ?_⟩
        refine ⟨_, rfl, _, _, _, _, false, rfl, .ty "str", tB, kit_ty (by decide +kernel), false, rfl, ?_⟩
        refine ⟨_, rfl, _, _, _, _, false, rfl, .ty "dict", tB, kit_ty (by decide +kernel), false, rfl, ?_⟩
        refine ⟨_, rfl, _, _, _, _, true, rfl, .ty "list", tB, kit_ty (by decide +kernel), true, rfl, ?_⟩
        refine ⟨_, rfl, _, _, _, _, true, rfl, .ty "list", tA, kit_ty (by decide +kernel), true, rfl, ?_⟩
        refine ⟨_, rfl, _, _, _, _, false, rfl, .ty "tuple", tB, kit_ty (by decide +kernel), false, rfl, ?_⟩
        refine ⟨_, rfl, a, _, rfl, qA, _, rfl, b, _, rfl, qB, rfl, _, rfl, ?_⟩
        rw [hlen]
        refine iteNS rfl ?_
        refine ⟨_, rfl, b, _, rfl, qB, _, rfl, by omega, by omega, ?_⟩
        rw [show ((us.length : Int)).toNat = us.length by omega]
        refine for_range (lo := 0) (n := us.length) (fun i σ H' => (∃ y2, σ = [some (.ref a), some (.ref b), y2]) ∧ H' = H) ⟨⟨_, rfl⟩, rfl⟩ (fun i σ H' hi p => ?_) (fun σ H' p => ?_)
        · obtain ⟨⟨y2, rfl⟩, rfl⟩ := p
          have hv : vs[i]? = some vs[i] := List.getElem?_eq_getElem (by omega)
          have hu : us[i]? = some us[i] := List.getElem?_eq_getElem hi
          refine ⟨_, rfl, _, rfl, a, _, _, _, rfl, rfl, qA, at_of (j := i) (by omega) hv, _, rfl, _, rfl, b, _, _, _, rfl, rfl, qB, at_of (j := i) (by omega) hu, ?_⟩
          exact hsp e _ _ _ _ hle (hel i _ _ hv hu) ⟨true, rfl, ⟨_, rfl⟩, rfl⟩
        · obtain ⟨_, rfl⟩ := p
          exact q
theorem okH_same {f : Addr} {fd : FuncData} (D_s : Df K mg "_law_same" s__law_same ["_law_value", "_law_due"] f fd) (T : Bi mg) (T_di : mg "dict" = none) {f_w : Addr} {d_w : FuncData} (D_w : Df K mg "_law_whole" s__law_whole ["_law_value"] f_w d_w) (G_w : L2H.FnH P w K mg base CX0 1 f_w d_w ["_law_value"] spWhole) :
    ∀ d : Nat, L2H.FnH P w K mg base CX0 (d + 2) f fd ["_law_value", "_law_due"] (spSame d)
  | 0 => sameH_body (k := 0) D_s T T_di D_w G_w (sp := spNo) fnH_no fun e x y H Q h => absurd h (by omega)
  | d + 1 => sameH_body (k := d + 1) D_s T T_di D_w G_w (okH_same D_s T T_di D_w G_w d) fun e x y H Q h h1 q => ⟨x, y, rfl, h1.le (by omega), q⟩
end
/-! ### an object made where an error may go to a handler -/
section
variable {X : Cx} {CX : CXT} {k : Nat} {f C : Addr} {fd : FuncData} {ps : List Str} {sp : Sp} {dvs : List V} {ds : List Value} {E : L2.St → XK} {x : Str} {p pos : Pos} {e : Expr} {es : List Expr} {t : TA}
def tMakeE (C : Addr) (sp : Sp) (dvs : List V) (E : L2.St → XK) (t : TA) : TE := fun σ H Q => tMake C sp dvs (E σ) t σ H Q
theorem pe_makeE (M : Mk X.K C f) (F : FnOk X.prog X.w X.K X.mg X.base CX k f fd ps sp) (hr : Room (k + 1) X.A) (hg : Gl X x) (hm : X.mg x = some (.ref C)) (hb : Binds X.K fd ps ds) (hd : Vals dvs ds) (hx : ∀ σ, PassesAt CX X σ (E σ))
    (ha : PA X (e :: es) t) (hdb : (x == ("__debug__" : Str)) = false := by decide)
    (he : starEach (e :: es) X.env = (false, eval e X.env) :: starEach es X.env := by rfl)
    (hpl : (backTo pos (starEach es X.env)).any (·.1) = false := by rfl) :
    PE X (.Call (.Name x p) (e :: es) [] pos) (tMakeE C sp dvs E t) := by
  constructor
  intro pins s σ H Q inv ask
  refine wpAny_Call_Name_kw (ld_glob inv hg hm ?_ hdb)
  refine PySem.W.callWith_K (h₀ := X.base) inv.ok.mod.kin M.kp (thn (ha.run pos pins s σ H _ inv ask) ?_) he hpl
  rintro us s1 ⟨vs, H1, inv1, r, q⟩
  refine ⟨inv1.kIn, ?_⟩
  have ask2 := q (s1.heap.objs.size + 1) s1.heap.objs.size (inv1.hok.fresh (Nat.le_succ _)) (inv1.hok.fresh (Nat.le_refl _)) (Nat.ne_of_lt (Nat.lt_succ_self _))
  have inv2 := Inv.made (C := C) inv1
  have rr : Vals (V.ref (s1.heap.objs.size + 1) :: (vs ++ dvs)) (Value.ref (s1.heap.objs.size + 1) :: (us ++ ds)) := .cons rfl (r.append hd)
  have len : (Value.ref (s1.heap.objs.size + 1) :: us ++ ds).length = ps.length := (rr.length).symm.trans (F.len _ _ _ _ ask2)
  refine wpAny_call (make_map (f := f) inv1.kIn M.makes M.init (beq_iff_eq.mp M.fn) (codeAny_mono (F.run _ X.stack _ _ ⟨Value.ref (s1.heap.objs.size + 1) :: us, []⟩ (Value.ref (s1.heap.objs.size + 1) :: (us ++ ds)) _ _ (E σ) (hr.make C us []) (inv2.env0.make C us []) (hb _ (Value.ref (s1.heap.objs.size + 1) :: us) inv2.kIn len) rr ask2) ?_))
  rintro (er | fl) s' hq
  · exact hx σ pins _ _ er s' inv2 hq
  · cases fl with
    | ret u =>
      obtain ⟨v, H', inv3, rv, ev, q3⟩ := inv2.after hq
      subst ev
      exact ⟨rv, ⟨V.ref (s1.heap.objs.size + 1), H', inv3, rfl, q3⟩⟩
    | _ => exact hq.elim
end
end Own

namespace Own
open PySem PySem.Spec PyProof.Rows L2
/-! ### tables as plain values: a row is the list of its items, or a value that is no sequence -/
abbrev RwA := (List V) ⊕ V
/-- the kinds of what is no sequence, and of an item -/
def NoSq (K : PySem.W.Frag) (H : Hp) (v : V) : Prop := NotSq K H v
def RowsL (K : PySem.W.Frag) (H : Hp) (vs : List V) (rs : List RwA) : Prop := vs.length = rs.length ∧ ∀ (i : Nat) (r : RwA), rs[i]? = some r → match r with
  | .inl xs => ∃ b, vs[i]? = some (.ref b) ∧ H b = some (.lst xs)
  | .inr u => vs[i]? = some u ∧ NotSq K H u
def RowsP (K : PySem.W.Frag) (H : Hp) (vs : List V) (rs : List RwA) : Prop := vs.length = rs.length ∧ ∀ (i : Nat) (r : RwA), rs[i]? = some r → match r with
  | .inl xs => ∃ b, vs[i]? = some (.ref b) ∧ SqH H b xs
  | .inr u => vs[i]? = some u ∧ NotSq K H u
theorem RowsL.p {K : PySem.W.Frag} {H : Hp} {vs : List V} {rs : List RwA} (h : RowsL K H vs rs) : RowsP K H vs rs := ⟨h.1, fun i r e => by
  have := h.2 i r e
  match r, this with
  | .inl xs, ⟨b, e1, e2⟩ => exact ⟨b, e1, .inl e2⟩
  | .inr u, x => exact x⟩
theorem RowsL.same {K : PySem.W.Frag} {H H' : Hp} {vs : List V} {rs : List RwA} (s : Same H H') (h : RowsL K H vs rs) : RowsL K H' vs rs := ⟨h.1, fun i r e => by
  have := h.2 i r e
  match r, this with
  | .inl xs, ⟨b, e1, e2⟩ => exact ⟨b, e1, s _ _ e2⟩
  | .inr u, ⟨e1, n⟩ => exact ⟨e1, n.same s⟩⟩
theorem RowsP.same {K : PySem.W.Frag} {H H' : Hp} {vs : List V} {rs : List RwA} (s : Same H H') (h : RowsP K H vs rs) : RowsP K H' vs rs := ⟨h.1, fun i r e => by
  have := h.2 i r e
  match r, this with
  | .inl xs, ⟨b, e1, e2⟩ => exact ⟨b, e1, e2.same s⟩
  | .inr u, ⟨e1, n⟩ => exact ⟨e1, n.same s⟩⟩
/-- a place, by the plain values -/
inductive PlA (K : PySem.W.Frag) (H : Hp) (rs : List RwA) (r c : Nat) (xs : List V) : Bool → Prop
  | miss : xs.length ≤ c → PlA K H rs r c xs false
  | bad {v : V} : xs[c]? = some v → ((∃ i : Int, v = .int i ∧ i < 0) ∨ NotWh K H v) → PlA K H rs r c xs false
  | low {i j : Int} {ys : List V} : xs[c]? = some (.int i) → 0 ≤ i → c < r → rs[c]? = some (.inl ys) → ys[r]? = some (.int j) → PlA K H rs r c xs (decide (i = j))
  | up {i : Int} : xs[c]? = some (.int i) → 0 ≤ i → r < c → PlA K H rs r c xs true
  | diag {i : Int} : xs[c]? = some (.int i) → 0 ≤ i → r = c → PlA K H rs r c xs (decide (i = 0))
def OkA (K : PySem.W.Frag) (H : Hp) (rs : List RwA) (sz r : Nat) : Prop := ∃ xs, rs[r]? = some (.inl xs) ∧ xs.length = sz ∧ ∀ c, c < sz → PlA K H rs r c xs true
def DtA (K : PySem.W.Frag) (H : Hp) (rs : List RwA) (sz r c : Nat) : Prop := (c = 0 ∧ (rs.length ≤ r ∨ ∃ u, rs[r]? = some (.inr u))) ∨ ∃ xs, rs[r]? = some (.inl xs) ∧
  ((c < sz ∧ (∀ k, k < c → PlA K H rs r k xs true) ∧ PlA K H rs r c xs false) ∨ (c = sz ∧ (∀ k, k < sz → PlA K H rs r k xs true) ∧ sz < xs.length))
def VdA (K : PySem.W.Frag) (H : Hp) (rs : List RwA) (sz : Nat) : Option (Nat × Nat) → Prop
  | none => rs.length = sz ∧ ∀ r, r < sz → OkA K H rs sz r
  | some (r, c) => (∀ k, k < r → k < sz → OkA K H rs sz k) ∧ ((r < sz ∧ DtA K H rs sz r c) ∨ (r = sz ∧ c = 0 ∧ sz < rs.length))
section
variable {K : PySem.W.Frag} {H : Hp} {vs : List V} {rs : List RwA} {sz r c : Nat}
theorem PlA.plc {xs : List V} {t : Bool} (g : RowsP K H vs rs) (h : PlA K H rs r c xs t) : Plc K H vs r c xs t := by
  cases h with
  | miss h => exact .miss h
  | bad h hw => exact .bad h hw
  | low h i0 cr h2 hj =>
    obtain ⟨b, e1, e2⟩ := g.2 _ _ h2
    exact .low h i0 cr e1 e2 hj
  | up h i0 rc => exact .up h i0 rc
  | diag h i0 rc => exact .diag h i0 rc
theorem OkA.row (g : RowsP K H vs rs) (h : OkA K H rs sz r) : RowOk K H vs sz r := by
  obtain ⟨xs, e, l, p⟩ := h
  obtain ⟨b, e1, e2⟩ := g.2 _ _ e
  exact ⟨b, xs, e1, e2, l, fun c hc => (p c hc).plc g⟩
theorem DtA.dt (g : RowsP K H vs rs) (h : DtA K H rs sz r c) : Dt K H vs sz r c := by
  rcases h with ⟨e, h⟩ | ⟨xs, e, h⟩
  · refine .inl ⟨e, ?_⟩
    rcases h with h | ⟨u, hu⟩
    · exact .inl (by rw [g.1]; exact h)
    · exact .inr ⟨u, g.2 _ _ hu⟩
  · obtain ⟨b, e1, e2⟩ := g.2 _ _ e
    refine .inr ⟨b, xs, e1, e2, ?_⟩
    rcases h with ⟨h1, h2, h3⟩ | ⟨h1, h2, h3⟩
    · exact .inl ⟨h1, fun k hk => (h2 k hk).plc g, h3.plc g⟩
    · exact .inr ⟨h1, fun k hk => (h2 k hk).plc g, h3⟩
theorem VdA.vd (g : RowsP K H vs rs) {o : Option (Nat × Nat)} (h : VdA K H rs sz o) : Vd K H vs sz o := by
  match o, h with
  | none, h => exact ⟨by rw [g.1]; exact h.1, fun r hr => (h.2 r hr).row g⟩
  | some (r, c), h => exact ⟨fun k h1 h2 => (h.1 k h1 h2).row g, h.2.elim (fun x => .inl ⟨x.1, x.2.dt g⟩) fun x => .inr ⟨x.1, x.2.1, by rw [g.1]; exact x.2.2⟩⟩
theorem PlA.int {xs : List V} {t : Bool} (h : PlA K H rs r c xs t) (e : t = true) : ∃ m : Int, xs[c]? = some (.int m) := by
  cases h with
  | miss h => cases e
  | bad h hw => cases e
  | low h i0 cr h2 hj => exact ⟨_, h⟩
  | up h i0 rc => exact ⟨_, h⟩
  | diag h i0 rc => exact ⟨_, h⟩
/-- items that can be judged -/
def ItA (K : PySem.W.Frag) (H : Hp) (rs : List RwA) : Prop := ∀ (i : Nat) (xs : List V), rs[i]? = some (.inl xs) → ∀ x ∈ xs, (∃ k : Int, x = .int k) ∨ NotWh K H x
theorem ItA.same {H' : Hp} (s : Same H H') (h : ItA K H rs) : ItA K H' rs := fun i xs e x hx => (h i xs e x hx).elim .inl fun n => .inr (n.same s)
end
/-- the answer: None, or the place as a pair -/
def ResO (H : Hp) : Option (Nat × Nat) → V → Prop
  | none, v => v = .non
  | some (r, c), v => ∃ p, v = .ref p ∧ H p = some (.tup [.int (r : Int), .int (c : Int)])
section
variable {P : Program} {w : World} {K : PySem.W.Frag} {mg : Str → Option Value} {base : Heap} {C : Addr}
theorem ok_lwholeY {f : Addr} {fd : FuncData} (F : Fun K "_law_whole" "_law_whole" s__law_whole f fd) (T : Bi mg) : FnOk P w K mg base CX0 1 f fd ["_law_value"] (spWholeY K) := by
  refine F.ok sc__law_whole (fun vs H Q E h => ?_) (fun cdv A outer s H vs Q E hr h => ?_)
  · obtain ⟨v, rfl, _⟩ := h
    rfl
  · obtain ⟨v, rfl, h⟩ := h
    refine ⟨_, (pss_one (ps_ret (pe_and (pe_callB call_isi (by rfl) T.b_isinstance (by decide +kernel) (pa_cons (pv 0) (pa_cons (pe_bltn (v := .ty "int") (by rfl) T.b_int (by decide +kernel) rfl) pa_nil))) (pe_one (pe_not (pe_callB call_isi (by rfl) T.b_isinstance (by decide +kernel) (pa_cons (pv 0) (pa_cons (pe_bltn (v := .ty "bool") (by rfl) T.b_bool (by decide +kernel) rfl) pa_nil)))))))), ?_⟩
    rcases h with ⟨i, rfl, q⟩ | ⟨⟨T, ty, m⟩, q⟩
    · refine ⟨_, rfl, _, _, _, _, true, rfl, .ty "int", .base (.int i), kit_ty (by decide +kernel), true, rfl, ?_⟩
      exact ⟨_, rfl, _, _, _, _, false, rfl, .ty "bool", .base (.int i), kit_ty (by decide +kernel), false, rfl, q⟩
    · simp only [List.mem_cons, List.not_mem_nil, or_false] at m
      rcases m with rfl | rfl | rfl | rfl | rfl | rfl
      · refine ⟨_, rfl, _, _, _, _, true, rfl, .ty "int", ty, kit_ty (by decide +kernel), true, rfl, ?_⟩
        exact ⟨_, rfl, _, _, _, _, true, rfl, .ty "bool", ty, kit_ty (by decide +kernel), true, rfl, q⟩
      · refine ⟨_, rfl, _, _, _, _, false, rfl, .ty "int", ty, kit_ty (by decide +kernel), false, rfl, ?_⟩
        exact q
      · refine ⟨_, rfl, _, _, _, _, false, rfl, .ty "int", ty, kit_ty (by decide +kernel), false, rfl, ?_⟩
        exact q
      · refine ⟨_, rfl, _, _, _, _, false, rfl, .ty "int", ty, kit_ty (by decide +kernel), false, rfl, ?_⟩
        exact q
      · refine ⟨_, rfl, _, _, _, _, false, rfl, .ty "int", ty, kit_ty (by decide +kernel), false, rfl, ?_⟩
        exact q
      · refine ⟨_, rfl, _, _, _, _, false, rfl, .ty "int", ty, kit_ty (by decide +kernel), false, rfl, ?_⟩
        exact q
def spWrong (K : PySem.W.Frag) : Sp := fun vs H Q _ => ∃ (sz : Nat) (a : Addr) (ws : List V) (rs : List RwA), vs = [.int (sz : Int), .ref a] ∧ H a = some (.lst ws) ∧ RowsL K H ws rs ∧ ItA K H rs ∧ sz ≤ 1000 ∧ ∀ o v H', Same H H' → VdA K H rs sz o → ResO H' o v → Q v H'
set_option maxHeartbeats 0 in
theorem ok_wrong {f : Addr} {fd : FuncData} (F : Fun K "_law_wrong" "_law_wrong" s__law_wrong f fd) (T : Bi mg) {f_w : Addr} {d_w : FuncData} (D_w : Df K mg "_law_whole" s__law_whole ["_law_value"] f_w d_w) (G_w : FnOk P w K mg base CX0 1 f_w d_w ["_law_value"] (spWholeY K)) : FnOk P w K mg base CX0 2 f fd ["_law_size", "_law_rows"] (spWrong K) := by
  refine F.ok sc__law_wrong (fun vs H Q E h => ?_) (fun cdv A outer s H vs Q E hr h => ?_)
  · obtain ⟨sz, a, ws, rs, rfl, _⟩ := h
    rfl
  · obtain ⟨sz, a, ws, rs, rfl, ea, hR, hI, z1, q⟩ := h
    refine ⟨_, (pss_cons (ps_for PassesOwn.never rfl (pi_range1 (by rfl) T.b_range (pa_cons (pv 0) pa_nil)) (pg_name (i := 2) sc__law_wrong.nd rfl (.inl rfl))
        (pss_cons (ps_if (PW.pt (pw_or (pt_cmpR op_ge (pv 2) (pe_callB call_len_seq (by rfl) T.b_len PySem.boot_len (pa_cons (pv 1) pa_nil)) (nomark _)) (pw_or1 (pt_not (pt_val (pe_callB call_isi (by rfl) T.b_isinstance (by decide +kernel) (pa_cons (pe_ix (r := rIxL K) ix_list (pv 1) (pv 2) (fun _ _ => rfl)) (pa_cons (pe_bltn (v := .ty "list") (by rfl) T.b_list (by decide +kernel) rfl) pa_nil)))))))) (pss_one (ps_ret (pe_tup (pa_cons (pv 2) (pa_cons pe_int pa_nil))))) pss_nil)
        (pss_cons (ps_for PassesOwn.never rfl (pi_range1 (by rfl) T.b_range (pa_cons (pv 0) pa_nil)) (pg_name (i := 3) sc__law_wrong.nd rfl (.inl rfl))
        (pss_cons (ps_if (pt_cmpR op_ge (pv 3) (pe_callB call_len_seq (by rfl) T.b_len PySem.boot_len (pa_cons (pe_ix (r := rIxL K) ix_list (pv 1) (pv 2) (fun _ _ => rfl)) pa_nil)) (nomark _)) (pss_one (ps_ret (pe_tup (pa_cons (pv 2) (pa_cons (pv 3) pa_nil))))) pss_nil)
        (pss_cons (ps_set (i := 4) sc__law_wrong.nd rfl (.inl rfl) (pe_ix (r := rIxL K) ix_list (pe_ix (r := rIxL K) ix_list (pv 1) (pv 2) (fun _ _ => rfl)) (pv 3) (fun _ _ => rfl)))
        (pss_cons (ps_if (PW.pt (pw_or (pt_not (pt_val (pe_call G_w (hr.mono (by decide)) (by rfl) D_w.g D_w.F.kp D_w.b .nil pass0 (pa_cons (pv 4) pa_nil)))) (pw_or (pt_cmpR op_lt (pv 4) pe_int (nomark _)) (pw_or1 (PW.pt (pw_and (pt_cmpR op_eq (pv 2) (pv 3) (nomark _)) (pw_and1 (pt_cmpR op_ne (pv 4) pe_int (nomark _))))))))) (pss_one (ps_ret (pe_tup (pa_cons (pv 2) (pa_cons (pv 3) pa_nil))))) pss_nil)
        (pss_one (ps_if (PW.pt (pw_and (pt_cmpR op_lt (pv 3) (pv 2) (nomark _)) (pw_and1 (pt_cmpR op_ne (pv 4) (pe_ix (r := rIxL K) ix_list (pe_ix (r := rIxL K) ix_list (pv 1) (pv 3) (fun _ _ => rfl)) (pv 2) (fun _ _ => rfl)) (nomark _))))) (pss_one (ps_ret (pe_tup (pa_cons (pv 2) (pa_cons (pv 3) pa_nil))))) pss_nil))))))
        (pss_one (ps_if (pt_cmpR op_gt (pe_callB call_len_seq (by rfl) T.b_len PySem.boot_len (pa_cons (pe_ix (r := rIxL K) ix_list (pv 1) (pv 2) (fun _ _ => rfl)) pa_nil)) (pv 0) (nomark _)) (pss_one (ps_ret (pe_tup (pa_cons (pv 2) (pa_cons (pv 0) pa_nil))))) pss_nil)))))
        (pss_cons (ps_if (pt_cmpR op_gt (pe_callB call_len_seq (by rfl) T.b_len PySem.boot_len (pa_cons (pv 1) pa_nil)) (pv 0) (nomark _)) (pss_one (ps_ret (pe_tup (pa_cons (pv 0) (pa_cons pe_int pa_nil))))) pss_nil)
        (pss_one (ps_ret pe_non)))), ?_⟩
    have qa : SqL K H a ws := .inl (.inl ea)
    have lw : ws.length = rs.length := hR.1
    have ret : ∀ (r c : Nat) (p : Addr), H p = none → VdA K H rs sz (some (r, c)) → Q (.ref p) (upd H p (.tup [.int (r : Int), .int (c : Int)])) := fun r c p np vd => q (some (r, c)) _ _ (same_upd np) vd ⟨p, rfl, upd_same⟩
    refine ⟨_, rfl, (sz : Int), rfl, by omega, by omega, for_range (lo := 0) (n := ((sz : Nat) : Int).toNat) (fun i σ H' => (∃ y2 y3 y4, σ = [some (.int (sz : Int)), some (.ref a), y2, y3, y4]) ∧ H = H' ∧ ∀ k, k < i → OkA K H rs sz k) ⟨⟨_, _, _, rfl⟩, rfl, fun k z => absurd z (Nat.not_lt_zero _)⟩ (fun i σ H' hi pv => ?_) (fun σ H' pv => ?_)⟩
    · obtain ⟨⟨y2, y3, y4, rfl⟩, rfl, pr⟩ := pv
      rw [Int.zero_add]
      have hi2 : i < sz := by omega
      refine ⟨_, rfl, _, rfl, a, ws, rfl, .inl qa, _, _, rfl, rfl, _, rfl, ?_⟩
      by_cases il : ws.length ≤ i
      · rw [decide_eq_true (show (ws.length : Int) ≤ (i : Int) by omega)]
        exact ⟨_, rfl, by show 2 ≤ sizeLine; decide, fun p np => ret i 0 p np ⟨fun k h1 _ => pr k h1, .inl ⟨hi2, .inl ⟨rfl, .inl (by omega)⟩⟩⟩⟩
      · rw [decide_eq_false (show ¬ (ws.length : Int) ≤ (i : Int) by omega)]
        have il2 : i < rs.length := by omega
        have er : rs[i]? = some rs[i] := List.getElem?_eq_getElem il2
        have hr2 := hR.2 i _ er
        generalize rs[i] = r at er hr2
        match r, er, hr2 with
        | .inr u, er, ⟨ew, T_, ty, m⟩ =>
          have no : PySem.W.kitOne K (.type T_) (.type "list") = some false := by
            simp only [List.mem_cons, List.not_mem_nil, or_false] at m
            rcases m with rfl | rfl | rfl | rfl | rfl <;> exact kit_ty (by decide +kernel)
          refine ⟨_, rfl, _, rfl, a, ws, _, _, rfl, rfl, qa, atI_nat ew, _, _, _, _, false, rfl, .ty "list", ty, no, false, rfl, ?_⟩
          exact ⟨_, rfl, by show 2 ≤ sizeLine; decide, fun p np => ret i 0 p np ⟨fun k h1 _ => pr k h1, .inl ⟨hi2, .inl ⟨rfl, .inr ⟨u, er⟩⟩⟩⟩⟩
        | .inl xs, er, ⟨b, ew, eb⟩ =>
          have ai : atI ws (i : Int) = some (.ref b) := atI_nat ew
          have qb : SqL K H b xs := .inl (.inl eb)
          refine ⟨_, rfl, _, rfl, a, ws, _, _, rfl, rfl, qa, ai, _, _, _, _, true, rfl, .ty "list", .base (.lst eb), kit_ty (by decide +kernel), true, rfl, ?_⟩
          refine ⟨_, rfl, (sz : Int), rfl, by omega, by omega, for_range (lo := 0) (n := ((sz : Nat) : Int).toNat) (fun j σ H' => (∃ y3 y4, σ = [some (.int (sz : Int)), some (.ref a), some (.int (i : Int)), y3, y4]) ∧ H = H' ∧ ∀ k, k < j → PlA K H rs i k xs true) ⟨⟨_, _, rfl⟩, rfl, fun k z => absurd z (Nat.not_lt_zero _)⟩ (fun j σ H' hj pv => ?_) (fun σ H' pv => ?_)⟩
          · obtain ⟨⟨y3, y4, rfl⟩, rfl, pj⟩ := pv
            rw [Int.zero_add]
            have hj2 : j < sz := by omega
            have fail : PlA K H rs i j xs false → ∀ p, H p = none → Q (.ref p) (upd H p (.tup [.int (i : Int), .int (j : Int)])) := fun h p np => ret i j p np ⟨fun k h1 _ => pr k h1, .inl ⟨hi2, .inr ⟨xs, er, .inl ⟨hj2, pj, h⟩⟩⟩⟩
            have good : PlA K H rs i j xs true → ∀ k, k < j + 1 → PlA K H rs i k xs true := fun h k hk => by
              by_cases e : k < j
              · exact pj k e
              · rw [show k = j by omega]
                exact h
            refine ⟨_, rfl, _, rfl, _, rfl, a, ws, _, _, rfl, rfl, qa, ai, b, xs, rfl, .inl qb, _, _, rfl, rfl, _, rfl, ?_⟩
            by_cases jl : xs.length ≤ j
            · rw [decide_eq_true (show (xs.length : Int) ≤ (j : Int) by omega)]
              exact ⟨_, rfl, _, rfl, by show 2 ≤ sizeLine; decide, fail (.miss jl)⟩
            · rw [decide_eq_false (show ¬ (xs.length : Int) ≤ (j : Int) by omega)]
              have jl2 : j < xs.length := by omega
              have ex : xs[j]? = some xs[j] := List.getElem?_eq_getElem jl2
              have it := hI i xs er xs[j] (List.getElem_mem jl2)
              generalize xs[j] = v at ex it
              refine ⟨_, rfl, _, rfl, a, ws, _, _, rfl, rfl, qa, ai, _, rfl, b, xs, _, _, rfl, rfl, qb, atI_nat ex, ?_⟩
              rcases it with ⟨k, rfl⟩ | nw
              rotate_left
              · exact ⟨_, rfl, _, rfl, .inr ⟨nw, false, rfl, _, rfl, _, rfl, by show 2 ≤ sizeLine; decide, fail (.bad ex (.inr nw))⟩⟩
              refine ⟨_, rfl, _, rfl, .inl ⟨k, rfl, true, rfl, ?_⟩⟩
              refine ⟨_, rfl, _, _, rfl, rfl, _, rfl, ?_⟩
              by_cases k0 : k < 0
              · rw [decide_eq_true k0]
                exact ⟨_, rfl, _, rfl, by show 2 ≤ sizeLine; decide, fail (.bad ex (.inl ⟨k, rfl, k0⟩))⟩
              · rw [decide_eq_false k0]
                refine ⟨_, rfl, _, rfl, rfl, _, rfl, ?_⟩
                by_cases hij : i = j
                · rw [show decide (V.int (i : Int) = V.int (j : Int)) = true from decide_eq_true (by rw [hij])]
                  refine ⟨_, rfl, rfl, _, rfl, ?_⟩
                  have dg := PlA.diag (K := K) (H := H) (rs := rs) ex (by omega) hij
                  by_cases kz : k = 0
                  · rw [show (!decide (V.int k = V.int 0)) = false by rw [decide_eq_true (congrArg V.int kz)]; rfl]
                    refine ⟨_, rfl, _, rfl, _, _, rfl, rfl, _, rfl, ?_⟩
                    rw [decide_eq_false (show ¬ (j : Int) < (i : Int) by omega)]
                    rw [decide_eq_true kz] at dg
                    exact ⟨⟨_, _, rfl⟩, rfl, good dg⟩
                  · rw [show (!decide (V.int k = V.int 0)) = true by rw [decide_eq_false (fun z => kz (V.int.inj z))]; rfl]
                    rw [decide_eq_false kz] at dg
                    exact ⟨_, rfl, _, rfl, by show 2 ≤ sizeLine; decide, fail dg⟩
                · rw [show decide (V.int (i : Int) = V.int (j : Int)) = false from decide_eq_false fun z => hij (by have := V.int.inj z; omega)]
                  refine ⟨_, rfl, _, rfl, _, _, rfl, rfl, _, rfl, ?_⟩
                  by_cases ji : j < i
                  · rw [decide_eq_true (show (j : Int) < (i : Int) by omega)]
                    obtain ⟨ys, ej, ly, pys⟩ := pr j ji
                    obtain ⟨m, em⟩ := (pys i hi2).int rfl
                    obtain ⟨b2, ew2, eb2⟩ := hR.2 j _ ej
                    refine ⟨_, rfl, _, rfl, _, rfl, a, ws, _, _, rfl, rfl, qa, atI_nat ew2, _, rfl, b2, ys, _, _, rfl, rfl, .inl (.inl eb2), atI_nat em, rfl, _, rfl, ?_⟩
                    have lw2 := PlA.low (K := K) (H := H) ex (by omega) ji ej em
                    by_cases km : k = m
                    · rw [show (!decide (V.int k = V.int m)) = false by rw [decide_eq_true (congrArg V.int km)]; rfl]
                      rw [decide_eq_true km] at lw2
                      exact ⟨⟨_, _, rfl⟩, rfl, good lw2⟩
                    · rw [show (!decide (V.int k = V.int m)) = true by rw [decide_eq_false (fun z => km (V.int.inj z))]; rfl]
                      rw [decide_eq_false km] at lw2
                      exact ⟨_, rfl, _, rfl, by show 2 ≤ sizeLine; decide, fail lw2⟩
                  · rw [decide_eq_false (show ¬ (j : Int) < (i : Int) by omega)]
                    exact ⟨⟨_, _, rfl⟩, rfl, good (.up ex (by omega) (by omega))⟩
          · obtain ⟨⟨y3, y4, rfl⟩, rfl, pj⟩ := pv
            have pj2 : ∀ k, k < sz → PlA K H rs i k xs true := fun k hk => pj k (by omega)
            have lx : sz ≤ xs.length := by
              obtain ⟨m, em⟩ := (pj2 (sz - 1) (by omega)).int rfl
              have := (List.getElem?_eq_some_iff.mp em).1
              omega
            refine ⟨_, rfl, _, rfl, a, ws, _, _, rfl, rfl, qa, ai, b, xs, rfl, .inl qb, _, rfl, _, _, rfl, rfl, _, rfl, ?_⟩
            by_cases lg : sz < xs.length
            · rw [decide_eq_true (show (sz : Int) < (xs.length : Int) by omega)]
              exact ⟨_, rfl, _, rfl, by show 2 ≤ sizeLine; decide, fun p np => ret i sz p np ⟨fun k h1 _ => pr k h1, .inl ⟨hi2, .inr ⟨xs, er, .inr ⟨rfl, pj2, lg⟩⟩⟩⟩⟩
            · rw [decide_eq_false (show ¬ (sz : Int) < (xs.length : Int) by omega)]
              refine ⟨⟨_, _, _, rfl⟩, rfl, fun k hk => ?_⟩
              by_cases e : k < i
              · exact pr k e
              · rw [show k = i by omega]
                exact ⟨xs, er, by omega, pj2⟩
    · obtain ⟨⟨y2, y3, y4, rfl⟩, rfl, pr⟩ := pv
      have pr2 : ∀ k, k < sz → OkA K H rs sz k := fun k hk => pr k (by omega)
      refine ⟨_, rfl, a, ws, rfl, .inl qa, _, rfl, _, _, rfl, rfl, _, rfl, ?_⟩
      by_cases lg : sz < rs.length
      · rw [decide_eq_true (show (sz : Int) < (ws.length : Int) by omega)]
        exact ⟨_, rfl, by show 2 ≤ sizeLine; decide, fun p np => ret sz 0 p np ⟨fun k h1 _ => pr2 k h1, .inr ⟨rfl, rfl, lg⟩⟩⟩
      · rw [decide_eq_false (show ¬ (sz : Int) < (ws.length : Int) by omega)]
        have ll : rs.length = sz := by
          by_cases z0 : sz = 0
          · omega
          · obtain ⟨ys, ej, _⟩ := pr2 (sz - 1) (by omega)
            have := (List.getElem?_eq_some_iff.mp ej).1
            omega
        exact q none .non H (Same.refl H) ⟨ll, pr2⟩ rfl
end
end Own

namespace Own
open PySem PySem.Spec PyProof.Rows L2
theorem pv1_pos {n a : Int} (h0 : 1 ≤ a) (h1 : a < n) : pv1 n a = a - 1 := fmod_lo (by omega) (by omega)
/-- none: every two pins have a number of cords; else the first two that have none -/
def TwV (n : Int) (f : Int → Int → Int) : Option (Int × Int) → Prop
  | none => ∀ a b, 0 ≤ a → a < b → b < n → TwOk n f a b
  | some (a, b) => (0 ≤ a ∧ a < b ∧ b < n) ∧ (∀ x y, 0 ≤ x → x < y → y < n → (x < a ∨ (x = a ∧ y < b)) → TwOk n f x y) ∧ ¬ TwOk n f a b
def ResT (n : Int) (f : Int → Int → Int) (H : Hp) : Option (Int × Int) → V → Prop
  | none, v => v = .non
  | some (a, b), v => ∃ p, v = .ref p ∧ H p = some (.tup [.int a, .int b, .int (tw n f a b)])
section
variable {P : Program} {w : World} {K : PySem.W.Frag} {mg : Str → Option Value} {base : Heap} {C : Addr}
def spNone : Sp := fun vs H Q _ => ∃ (n : Int) (p : Addr) (f : Int → Int → Int), vs = [.int n, .ref p] ∧ GridB H p n f ∧ 0 ≤ n ∧ n ≤ 1000 ∧ ∀ o v H', Same H H' → TwV n f o → ResT n f H' o v → Q v H'
set_option maxHeartbeats 0 in
theorem ok_none {f : Addr} {fd : FuncData} (F : Fun K "_law_none" "_law_none" s__law_none f fd) (T : Bi mg) : FnOk P w K mg base CX0 1 f fd ["_law_rim", "_law_rows"] spNone := by
  refine F.ok sc__law_none (fun vs H Q E h => ?_) (fun cdv A outer s H vs Q E hr h => ?_)
  · obtain ⟨n, p, g, rfl, _⟩ := h
    rfl
  · obtain ⟨n, p, g, rfl, hG, n0, n1, q⟩ := h
    refine ⟨_, (pss_cons (ps_for PassesOwn.never rfl (pi_range1 (by rfl) T.b_range (pa_cons (pv 0) pa_nil)) (pg_name (i := 2) sc__law_none.nd rfl (.inl rfl))
        (pss_one (ps_for PassesOwn.never rfl (pi_range2 (by rfl) T.b_range (pa_cons (pe_op op_add (pv 2) pe_int) (pa_cons (pv 0) pa_nil))) (pg_name (i := 3) sc__law_none.nd rfl (.inl rfl))
        (pss_cons (ps_set (i := 4) sc__law_none.nd rfl (.inl rfl) (pe_op op_modN (pe_callTy call_int1 (by rfl) T.b_int (by decide +kernel) (pa_cons (pe_op op_sub (pv 2) pe_int) pa_nil)) (pv 0)))
        (pss_cons (ps_set (i := 5) sc__law_none.nd rfl (.inl rfl) (pe_op op_sub (pe_op op_sub (pe_op op_add (pe_ix (r := rIxB K) ix_seqB (pe_ix (r := rIxB K) ix_seqB (pv 1) (pv 2) (fun _ _ => rfl)) (pv 3) (fun _ _ => rfl)) (pe_ix (r := rIxB K) ix_seqB (pe_ix (r := rIxB K) ix_seqB (pv 1) (pv 4) (fun _ _ => rfl)) (pe_op op_sub (pv 3) pe_int) (fun _ _ => rfl))) (pe_ix (r := rIxB K) ix_seqB (pe_ix (r := rIxB K) ix_seqB (pv 1) (pv 2) (fun _ _ => rfl)) (pe_op op_sub (pv 3) pe_int) (fun _ _ => rfl))) (pe_ix (r := rIxB K) ix_seqB (pe_ix (r := rIxB K) ix_seqB (pv 1) (pv 4) (fun _ _ => rfl)) (pv 3) (fun _ _ => rfl))))
        (pss_one (ps_if (PW.pt (pw_or (pt_cmpR op_lt (pv 5) pe_int (nomark _)) (pw_or1 (pt_cmpR op_eq (pe_op op_mod (pe_callTy call_int1 (by rfl) T.b_int (by decide +kernel) (pa_cons (pv 5) pa_nil)) pe_int) pe_int (nomark _))))) (pss_one (ps_ret (pe_tup (pa_cons (pv 2) (pa_cons (pv 3) (pa_cons (pv 5) pa_nil)))))) pss_nil)))))))
        (pss_one (ps_ret pe_non))), ?_⟩
    refine ⟨_, rfl, n, rfl, by omega, by omega, for_range (lo := 0) (n := n.toNat) (fun i σ H' => (∃ y2 y3 y4 y5, σ = [some (.int n), some (.ref p), y2, y3, y4, y5]) ∧ H = H' ∧ ∀ x y, 0 ≤ x → x < (i : Int) → x < y → y < n → TwOk n g x y) ⟨⟨_, _, _, _, rfl⟩, rfl, fun x y x0 z _ _ => by omega⟩ (fun i σ H' hi pv => ?_) (fun σ H' pv => ?_)⟩
    · obtain ⟨⟨y2, y3, y4, y5, rfl⟩, rfl, pr⟩ := pv
      rw [Int.zero_add]
      refine ⟨_, rfl, _, _, rfl, rfl, _, rfl, (i : Int) + 1, n, rfl, ⟨by omega, by omega, by omega, by omega⟩, for_range (lo := (i : Int) + 1) (n := (n - ((i : Int) + 1)).toNat) (fun j σ H' => (∃ y3 y4 y5, σ = [some (.int n), some (.ref p), some (.int (i : Int)), y3, y4, y5]) ∧ H = H' ∧ ∀ y, (i : Int) < y → y < (i : Int) + 1 + (j : Int) → TwOk n g i y) ⟨⟨_, _, _, rfl⟩, rfl, fun y z1 z2 => by omega⟩ (fun j σ H' hj pv => ?_) (fun σ H' pv => ?_)⟩
      · obtain ⟨⟨y3, y4, y5, rfl⟩, rfl, pj⟩ := pv
        have yb : (i : Int) + 1 + (j : Int) < n := by omega
        have y1 : (i : Int) < (i : Int) + 1 + (j : Int) := by omega
        have nx : ∀ y, (i : Int) < y → y < (i : Int) + 1 + ((j + 1 : Nat) : Int) → y = (i : Int) + 1 + (j : Int) ∨ y < (i : Int) + 1 + (j : Int) := fun y _ _ => by omega
        generalize (i : Int) + 1 + (j : Int) = y at pj yb y1 nx ⊢
        have ha := fmod_in ((i : Int) - 1) (show 0 < n by omega)
        have eb := pv1_pos (a := y) (by omega) yb
        obtain ⟨vs, u, h1, e1, r1⟩ := hG.at_ (x := (i : Int)) (by omega) (by omega)
        obtain ⟨vs2, v, h2, e2, r2⟩ := hG.at_ ha.1 ha.2
        have y0 : 0 ≤ y - 1 ∧ y - 1 < n := by omega
        refine ⟨_, rfl, _, _, rfl, rfl, .inl ⟨_, rfl, _, rfl, _, _, rfl, rfl, by omega, ?_⟩⟩
        refine ⟨_, rfl, _, rfl, p, vs, _, _, rfl, rfl, h1.b, e1, _, rfl, u, _, _, _, rfl, rfl, r1.b, gl_atI _ (by omega) yb, ?_⟩
        refine ⟨_, rfl, _, rfl, p, vs2, _, _, rfl, rfl, h2.b, e2, _, rfl, _, _, rfl, rfl, v, _, _, _, rfl, rfl, r2.b, gl_atI _ y0.1 y0.2, _, _, rfl, rfl, ?_⟩
        refine ⟨_, rfl, _, rfl, p, vs, _, _, rfl, rfl, h1.b, e1, _, rfl, _, _, rfl, rfl, u, _, _, _, rfl, rfl, r1.b, gl_atI _ y0.1 y0.2, _, _, rfl, rfl, ?_⟩
        refine ⟨_, rfl, _, rfl, p, vs2, _, _, rfl, rfl, h2.b, e2, _, rfl, v, _, _, _, rfl, rfl, r2.b, gl_atI _ (by omega) yb, _, _, rfl, rfl, ?_⟩
        have et : g (i : Int) y + g (((i : Int) - 1).fmod n) (y - 1) - g (i : Int) (y - 1) - g (((i : Int) - 1).fmod n) y = tw n g (i : Int) y := by
          unfold tw
          rw [eb]
          rfl
        refine ⟨_, rfl, _, _, rfl, rfl, _, rfl, ?_⟩
        have ret : ¬ TwOk n g i y → ∀ t, H t = none → Q (.ref t) (upd H t (.tup [.int (i : Int), .int y, .int (tw n g i y)])) := fun nb t nt => q (some ((i : Int), y)) _ _ (same_upd nt) ⟨⟨by omega, y1, yb⟩, fun x z x0 xz zn h => by
          rcases h with h | ⟨h, h'⟩
          · exact pr x z x0 h xz zn
          · subst h
            exact pj z xz h', nb⟩ ⟨t, rfl, upd_same⟩
        dsimp only
        rw [et]
        by_cases e0 : tw n g (i : Int) y < 0
        · rw [decide_eq_true e0]
          refine ⟨_, rfl, _, rfl, _, rfl, by show 3 ≤ sizeLine; decide, fun t nt => ?_⟩
          exact ret (fun z => by have := z.1; omega) t nt
        · rw [decide_eq_false e0]
          refine ⟨_, rfl, .inl ⟨_, rfl, _, _, rfl, rfl, by show (0 : Int) < 2; decide, rfl, _, rfl, ?_⟩⟩
          by_cases e2 : tw n g (i : Int) y % 2 = 1
          · rw [show decide (V.int (tw n g (i : Int) y % 2) = V.int 1) = true from decide_eq_true (congrArg V.int e2)]
            refine ⟨_, rfl, _, rfl, _, rfl, by show 3 ≤ sizeLine; decide, fun t nt => ?_⟩
            exact ret (fun z => by have := z.2; omega) t nt
          · rw [show decide (V.int (tw n g (i : Int) y % 2) = V.int 1) = false from decide_eq_false fun z => e2 (V.int.inj z)]
            refine ⟨⟨_, _, _, rfl⟩, rfl, fun z z1 z2 => ?_⟩
            rcases nx z z1 z2 with h | h
            · rw [h]
              exact ⟨by omega, by omega⟩
            · exact pj z z1 h
      · obtain ⟨⟨y3, y4, y5, rfl⟩, rfl, pj⟩ := pv
        refine ⟨⟨_, _, _, _, rfl⟩, rfl, fun x y x0 xi xy yn => ?_⟩
        by_cases e : x < (i : Int)
        · exact pr x y x0 e xy yn
        · rw [show x = (i : Int) by omega]
          exact pj y (by omega) (by omega)
    · obtain ⟨⟨y2, y3, y4, y5, rfl⟩, rfl, pr⟩ := pv
      exact q none _ H (Same.refl H) (fun a b a0 ab bn => pr a b a0 (by omega) ab bn) rfl
end
end Own

namespace Own
open PySem PySem.Spec PyProof.Rows L2
def par (form : Int) (k : Int) : Bool := decide ((form / 2 + k * (form / 4)) % 2 = 1)
theorem ixN_own {n j : Nat} (h : j < n) : ixN n (j : Int) = some j := by
  unfold ixN
  rw [if_pos (by omega), if_pos (by omega), Int.toNat_natCast]
theorem upd_swap {A : Hp} {D c : Addr} {x y z : HO} (h : c ≠ D) : upd (upd (upd A D x) c y) D z = upd (upd A c y) D z := by
  funext b
  unfold upd
  by_cases e : b = D
  · rw [if_pos e, if_pos e]
  · simp [e]
/-- one row as it is passed: a new list or tuple; what is no sequence, itself -/
def PasR (H0 H' : Hp) (t : Bool) : RwA → V → Prop
  | .inl xs, v => ∃ b, v = .ref b ∧ if t = true then H' b = some (.tup xs) else H' b = some (.lst xs) ∧ H0 b = none
  | .inr u, v => v = u
/-- rows as they are passed: lists and tuples by turns, in a list or a tuple -/
def PasG (H0 H' : Hp) (c : Addr) (rs : List RwA) (form : Int) : Prop := H0 c = none ∧ ∃ us : List V, (if form % 2 = 1 then H' c = some (.tup us) else H' c = some (.lst us)) ∧ us.length = rs.length ∧
  ∀ (i : Nat) (r : RwA), rs[i]? = some r → ∃ v, us[i]? = some v ∧ PasR H0 H' (par form i) r v
theorem PasR.same {H0 H H' : Hp} {t : Bool} {r : RwA} {v : V} (s : Same H H') (h : PasR H0 H t r v) : PasR H0 H' t r v := by
  match r, h with
  | .inl xs, ⟨b, e, h⟩ =>
    refine ⟨b, e, ?_⟩
    split
    · rename_i hp
      rw [if_pos hp] at h
      exact s _ _ h
    · rename_i hp
      rw [if_neg hp] at h
      exact ⟨s _ _ h.1, h.2⟩
  | .inr u, h => exact h
section
variable {P : Program} {w : World} {K : PySem.W.Frag} {mg : Str → Option Value} {base : Heap} {C : Addr}
def spPasG (K : PySem.W.Frag) : Sp := fun vs H Q _ => ∃ (a : Addr) (ws : List V) (rs : List RwA) (form : Int), vs = [.ref a, .int form] ∧ H a = some (.lst ws) ∧ RowsL K H ws rs ∧ rs.length ≤ 1000 ∧ ∀ H' c, Same H H' → PasG H H' c rs form → Q (.ref c) H'
set_option maxHeartbeats 0 in
theorem ok_pasg {f : Addr} {fd : FuncData} (F : Fun K "_law_passed" "_law_passed" s__law_passed f fd) (T : Bi mg) : FnOk P w K mg base CX0 1 f fd ["_law_rows", "_law_form"] (spPasG K) := by
  refine F.ok sc__law_passed (fun vs H Q E h => ?_) (fun cdv A outer s H vs Q E hr h => ?_)
  · obtain ⟨a, ws, rs, form, rfl, _⟩ := h
    rfl
  · obtain ⟨a, ws, rs, form, rfl, ea, hR, hl, q⟩ := h
    refine ⟨_, (pss_cons (ps_setLc (i := 2) (own := [("_law_row", 4)]) (g := gName 4) (tt := tYes) rfl sc__law_passed.nd rfl rfl (sw_true rfl rfl rfl (by decide +kernel)) (pi_list (pv 0)) (blkOk_by (own := [("_law_row", 4)]) (N := ["_law_rows", "_law_form", "_law_grid", "_law_k", "_law_row"]) (sc := defScope s__law_passed) (by decide +kernel)) (fun _ _ _ _ _ => (pg_name (i := 4) sc__law_passed.nd rfl (.inl rfl))) (fun _ _ _ _ _ => pts_nil) (fun _ _ _ _ _ => (pv 4)))
        (pss_cons (ps_for PassesOwn.never rfl (pi_range1 (by rfl) T.b_range (pa_cons (pe_callB call_len_seq (by rfl) T.b_len PySem.boot_len (pa_cons (pv 0) pa_nil)) pa_nil)) (pg_name (i := 3) sc__law_passed.nd rfl (.inl rfl))
        (pss_one (ps_if (pt_val (pe_callB call_isi (by rfl) T.b_isinstance (by decide +kernel) (pa_cons (pe_ix (r := rIxL K) ix_list (pv 0) (pv 3) (fun _ _ => rfl)) (pa_cons (pe_bltn (v := .ty "list") (by rfl) T.b_list (by decide +kernel) rfl) pa_nil)))) (pss_cons (ps_asg (pe_callTy call_list_of (by rfl) T.b_list (by decide +kernel) (pa_cons (pe_ix (r := rIxL K) ix_list (pv 0) (pv 3) (fun _ _ => rfl)) pa_nil)) (pg_sub (pv 2) (pv 3) set_list))
        (pss_one (ps_if (pt_cmpR op_eq (pe_op op_mod (pe_callTy call_int1 (by rfl) T.b_int (by decide +kernel) (pa_cons (pe_op op_add (pe_op op_fdiv (pv 1) pe_int) (pe_op op_mul (pv 3) (pe_op op_fdiv (pv 1) pe_int))) pa_nil)) pe_int) pe_int (nomark _)) (pss_one (ps_asg (pe_callTy call_tuple_of (by rfl) T.b_tuple (by decide +kernel) (pa_cons (pe_ix (r := rIxL K) ix_list (pv 0) (pv 3) (fun _ _ => rfl)) pa_nil)) (pg_sub (pv 2) (pv 3) set_list))) pss_nil))) pss_nil)))
        (pss_cons (ps_if (pt_cmpR op_eq (pe_op op_mod (pe_callTy call_int1 (by rfl) T.b_int (by decide +kernel) (pa_cons (pv 1) pa_nil)) pe_int) pe_int (nomark _)) (pss_one (ps_ret (pe_callTy call_tuple_of (by rfl) T.b_tuple (by decide +kernel) (pa_cons (pv 2) pa_nil)))) pss_nil)
        (pss_one (ps_ret (pv 2)))))), ?_⟩
    have lw : ws.length = rs.length := hR.1
    have lwb : ws.length ≤ 1000 := by omega
    refine ⟨_, rfl, a, rfl, ⟨_, .inl (.inl ea)⟩, fun D hD => ?_⟩
    refine lc_list (K := K) (a := a) (xs := ws) (fun i H5 => H5 = upd H D (.lst (ws.take i))) rfl (fun i H5 _ p => by subst p; exact .inl (.inl (same_upd hD _ _ ea))) (fun i x H5 hxi p => ?_) (fun H5 p => ?_)
    · subst p
      refine ⟨rfl, ?_⟩
      refine ⟨_, rfl, _, upd_same, ?_, ?_⟩
      · rw [List.length_take]
        exact Nat.lt_of_le_of_lt (Nat.min_le_right _ _) (small1000 lwb)
      · rw [upd_upd, List.take_add_one, hxi]
        rfl
    subst p
    rw [List.take_length]
    have sD : Same H (upd H D (.lst ws)) := same_upd hD
    have keep : ∀ (H' H2 : Hp) (t : Bool) (r : RwA) (v : V) (o : HO), Same H' H2 → PasR H H' t r v → (∀ xs, r = .inl xs → v ≠ .ref D) → PasR H (upd H2 D o) t r v := fun H' H2 t r v o s h ne => by
      match r, h, ne with
      | .inl xs, ⟨b, e, h⟩, ne =>
        have bD : b ≠ D := fun z => ne xs rfl (by rw [e, z])
        refine ⟨b, e, ?_⟩
        rw [upd_ne bD]
        split
        · rename_i hp
          rw [if_pos hp] at h
          exact s _ _ h
        · rename_i hp
          rw [if_neg hp] at h
          exact ⟨s _ _ h.1, h.2⟩
      | .inr u, h, _ => exact h
    refine ⟨_, rfl, a, ws, rfl, .inl (.inl (.inl (sD _ _ ea))), (ws.length : Int), rfl, by omega, by omega, for_range (lo := 0) (n := ((ws.length : Nat) : Int).toNat) (fun i σ H' => (∃ y3 y4, σ = [some (.ref a), some (.int form), some (.ref D), y3, y4]) ∧ Same H H' ∧ ∃ us : List V, H' D = some (.lst us) ∧ us.length = ws.length ∧ (∀ k, i ≤ k → us[k]? = ws[k]?) ∧ ∀ (k : Nat) (r : RwA), k < i → rs[k]? = some r → ∃ v, us[k]? = some v ∧ PasR H H' (par form k) r v ∧ ∀ xs, r = .inl xs → v ≠ .ref D) ⟨⟨_, _, rfl⟩, sD, ws, upd_same, rfl, fun _ _ => rfl, fun k r z => absurd z (Nat.not_lt_zero _)⟩ (fun i σ H' hi pv => ?_) (fun σ H' pv => ?_)⟩
    · obtain ⟨⟨y3, y4, rfl⟩, sm, us, eD, lu, hge, hlt⟩ := pv
      rw [Int.zero_add]
      have il : i < rs.length := by omega
      have er : rs[i]? = some rs[i] := List.getElem?_eq_getElem il
      have hr2 := hR.2 i _ er
      generalize rs[i] = r at er hr2
      have qa : ∀ H2, Same H' H2 → SqL K H2 a ws := fun H2 s2 => .inl (.inl (s2 _ _ (sm _ _ ea)))
      match r, er, hr2 with
      | .inr u, er, ⟨ew, T_, ty, m⟩ =>
        have no : PySem.W.kitOne K (.type T_) (.type "list") = some false := by
          simp only [List.mem_cons, List.not_mem_nil, or_false] at m
          rcases m with rfl | rfl | rfl | rfl | rfl <;> exact kit_ty (by decide +kernel)
        refine ⟨_, rfl, _, rfl, a, ws, _, _, rfl, rfl, qa _ (Same.refl H'), atI_nat ew, _, _, _, _, false, rfl, .ty "list", tyx_same sm ty, no, false, rfl, ?_⟩
        refine ⟨⟨_, _, rfl⟩, sm, us, eD, lu, fun k hk => hge k (by omega), fun k r hk e => ?_⟩
        by_cases ki : k < i
        · exact hlt k r ki e
        · rw [show k = i by omega] at e ⊢
          rw [er] at e
          cases e
          exact ⟨u, by rw [hge i (Nat.le_refl _)]; exact ew, rfl, fun xs z => nomatch z⟩
      | .inl xs, er, ⟨b, ew, eb⟩ =>
        have ai : atI ws (i : Int) = some (.ref b) := atI_nat ew
        have qb : ∀ H2, Same H' H2 → SqL K H2 b xs := fun H2 s2 => .inl (.inl (s2 _ _ (sm _ _ eb)))
        have iu : i < us.length := by omega
        -- the list with a new row at i
        have next : ∀ (H2 : Hp) (us2 : List V) (c : Addr), Same H (upd H2 D (.lst us2)) → us2 = us.set i (.ref c) → Same H' H2 → c ≠ D → (if par form (i : Int) = true then H2 c = some (.tup xs) else H2 c = some (.lst xs) ∧ H c = none) →
            (∃ us3 : List V, (upd H2 D (.lst us2)) D = some (.lst us3) ∧ us3.length = ws.length ∧ (∀ k, i + 1 ≤ k → us3[k]? = ws[k]?) ∧ ∀ (k : Nat) (r : RwA), k < i + 1 → rs[k]? = some r → ∃ v, us3[k]? = some v ∧ PasR H (upd H2 D (.lst us2)) (par form k) r v ∧ ∀ xs, r = .inl xs → v ≠ .ref D) := fun H2 us2 c _ eu s2 cD hc => by
          subst eu
          refine ⟨_, upd_same, by rw [List.length_set]; exact lu, fun k hk => by rw [List.getElem?_set_ne (by omega)]; exact hge k (by omega), fun k r hk e => ?_⟩
          by_cases ki : k < i
          · obtain ⟨v, e1, e2, e3⟩ := hlt k r ki e
            exact ⟨v, by rw [List.getElem?_set_ne (by omega)]; exact e1, keep _ _ _ _ _ _ s2 e2 e3, e3⟩
          · have ek : k = i := by omega
            subst ek
            rw [er] at e
            cases e
            refine ⟨.ref c, by rw [List.getElem?_set_self iu], ⟨c, rfl, ?_⟩, fun xs _ z => cD (V.ref.inj z)⟩
            rw [upd_ne cD]
            exact hc
        refine ⟨_, rfl, _, rfl, a, ws, _, _, rfl, rfl, qa _ (Same.refl H'), ai, _, _, _, _, true, rfl, .ty "list", .base (.lst (sm _ _ eb)), kit_ty (by decide +kernel), true, rfl, ?_⟩
        refine ⟨_, rfl, _, rfl, a, ws, _, _, rfl, rfl, qa _ (Same.refl H'), ai, b, xs, rfl, .inl (qb _ (Same.refl H')), fun c nc => ?_⟩
        have sc : Same H' (upd H' c (.lst xs)) := same_upd nc
        have cD : c ≠ D := fun z => by rw [z, eD] at nc; cases nc
        refine ⟨_, rfl, _, rfl, D, us, _, i, rfl, rfl, sc _ _ eD, ixN_own iu, ?_⟩
        have s1 : Same H (upd (upd H' c (.lst xs)) D (.lst (us.set i (.ref c)))) := same_put (H1 := H) hD (sm.trans sc)
        refine ⟨_, rfl, _, _, rfl, rfl, ⟨by show (0 : Int) < 2; decide, by show (2 : Int) < 1073741824; decide⟩, _, rfl, _, rfl, _, _, rfl, rfl, ⟨by show (0 : Int) < 4; decide, by show (4 : Int) < 1073741824; decide⟩, _, _, rfl, rfl, .inl ⟨by omega, by omega⟩, _, _, rfl, rfl, .inl ⟨_, rfl, _, _, rfl, rfl, by show (0 : Int) < 2; decide, rfl, _, rfl, ite2 (fun e2 => ?_) (fun e2 => ?_)⟩⟩
        · have pp : par form (i : Int) = true := decide_eq_true (V.int.inj (of_decide_eq_true e2))
          have qa1 : SqL K (upd (upd H' c (.lst xs)) D (.lst (us.set i (.ref c)))) a ws := .inl (.inl (s1 _ _ ea))
          have qb1 : SqL K (upd (upd H' c (.lst xs)) D (.lst (us.set i (.ref c)))) b xs := .inl (.inl (s1 _ _ eb))
          refine ⟨_, rfl, _, rfl, a, ws, _, _, rfl, rfl, qa1, ai, b, xs, rfl, .inl ⟨qb1, fun c2 nc2 => ?_⟩⟩
          have eDx : (upd (upd H' c (.lst xs)) D (.lst (us.set i (.ref c)))) D = some (.lst (us.set i (.ref c))) := upd_same
          have c2D : c2 ≠ D := fun z => by rw [z, eDx] at nc2; cases nc2
          have nc2' : (upd H' c (.lst xs)) c2 = none := by rw [upd_ne c2D] at nc2; exact nc2
          refine ⟨_, rfl, _, rfl, D, us.set i (.ref c), _, i, rfl, rfl, same_upd nc2 _ _ eDx, ixN_own (by rw [List.length_set]; exact iu), ?_⟩
          rw [upd_swap c2D, List.set_set]
          have s2 : Same H' (upd (upd H' c (.lst xs)) c2 (.tup xs)) := sc.trans (same_upd nc2')
          have s3 : Same H (upd (upd (upd H' c (.lst xs)) c2 (.tup xs)) D (.lst (us.set i (.ref c2)))) := same_put (H1 := H) hD (sm.trans s2)
          exact ⟨⟨_, _, rfl⟩, s3, next _ _ c2 s3 rfl s2 c2D (by rw [if_pos pp]; exact upd_same)⟩
        · have pp : ¬ par form (i : Int) = true := fun z => e2 (decide_eq_true (congrArg V.int (of_decide_eq_true z)))
          exact ⟨⟨_, _, rfl⟩, s1, next _ _ c s1 rfl sc cD (by rw [if_neg pp]; exact ⟨upd_same, sm.free nc⟩)⟩
    · obtain ⟨⟨y3, y4, rfl⟩, sm, us, eD, lu, hge, hlt⟩ := pv
      have all : ∀ H2, Same H' H2 → ∀ (i : Nat) (r : RwA), rs[i]? = some r → ∃ v, us[i]? = some v ∧ PasR H H2 (par form i) r v := fun H2 s2 i r e => by
        obtain ⟨v, e1, e2, _⟩ := hlt i r (by have := (List.getElem?_eq_some_iff.mp e).1; omega) e
        exact ⟨v, e1, e2.same s2⟩
      refine ⟨_, rfl, .inl ⟨_, rfl, ?_⟩⟩
      refine ⟨_, _, rfl, rfl, by show (0 : Int) < 2; decide, rfl, _, rfl, ite2 (fun e2 => ?_) (fun e2 => ?_)⟩
      · have f1 : form % 2 = 1 := V.int.inj (of_decide_eq_true e2)
        refine ⟨_, rfl, D, us, rfl, .inl ⟨.inl (.inl eD), fun c nc => ?_⟩⟩
        exact q _ c (sm.trans (same_upd nc)) ⟨sm.free nc, us, by rw [if_pos f1]; exact upd_same, by omega, all _ (same_upd nc)⟩
      · have f1 : ¬ form % 2 = 1 := fun z => e2 (decide_eq_true (congrArg V.int z))
        exact ⟨_, rfl, q _ D sm ⟨hD, us, by rw [if_neg f1]; exact eD, by omega, all _ (Same.refl H')⟩⟩
end
end Own

namespace Own
open PySem PySem.Spec PyProof.Rows L2
def errs : List String := ["NoLot", "BadPins", "BadCord", "BadNumber", "BadTable", "RimError"]
/-- what the law knows of an error's class: it is none of these -/
structure XcE (K : PySem.W.Frag) (D : Addr) (c_ : String → Addr) (nm : List String) (not : List String) : Prop where
  c : ExcC K D
  x : XfC K D
  n : ∀ f ∈ nm, PySem.W.findIn K (.ref D) f = some none
  no : ∀ z ∈ not, PySem.W.kitOne K (.ref D) (.ref (c_ z)) = some false
  re : PySem.W.kitOne K (.ref D) (.ref (c_ "RimError")) = some true
  ve : PySem.W.kitOne K (.ref D) (.type "ValueError") = some true
  ex : PySem.W.exmOne K (.ref D) (.ref D) = some true
theorem sc_rf : FnScope ["_law_rim", "_law_grid", "_law_kept", "_law_place", "e"] ["_law_rim", "_law_grid", "_law_kept", "_law_place"] (defScope s__law_refused) := ⟨rfl, rfl, rfl, by decide +kernel, rfl, by decide +kernel, by decide +kernel⟩
def sc_rf_s (K : PySem.W.Frag) (D : Addr) (c_ : String → Addr) (a : Addr) (cls : Value) (d : Option Addr) : TS := (tSeq (tIfS (tOr (tB (tCB (rIsX K D a cls d) (tCons (tVar 4) (tCons (tC (.ref (c_ "NoLot"))) tNil)))) (tOr (tB (tCB (rIsX K D a cls d) (tCons (tVar 4) (tCons (tC (.ref (c_ "BadPins"))) tNil)))) (tOr (tB (tCB (rIsX K D a cls d) (tCons (tVar 4) (tCons (tC (.ref (c_ "BadCord"))) tNil)))) (tB (tCB (rIsX K D a cls d) (tCons (tVar 4) (tCons (tC (.ref (c_ "BadNumber"))) tNil))))))) (tRet (tC (.bl false))) tNext) (tSeq (tIfS (tOr (tNot (tB (tCB (rIsX K D a cls d) (tCons (tVar 4) (tCons (tC (.ref (c_ "RimError"))) tNil))))) (tNot (tB (tCB (rIsX K D a cls d) (tCons (tVar 4) (tCons (tC (.ty "ValueError")) tNil)))))) (tRet (tC (.bl false))) tNext) (tRet (tAndV (tCallS (spSame 3) (fun _ => E0) (tCons (tTup (tCons (tXf a cls d D "row" (tVar 4)) (tCons (tXf a cls d D "column" (tVar 4)) tNil))) (tCons (tVar 3) tNil))) (tCallS (spSame 3) (fun _ => E0) (tCons (tVar 1) (tCons (tVar 2) tNil)))))))
section
variable {P : Program} {w : World} {K : PySem.W.Frag} {mg : Str → Option Value} {base : Heap} {C D D1 DL : Addr}
def spRefd (K : PySem.W.Frag) : Sp := fun vs H Q _ => ∃ (n : Int) (g k : V) (pl : Addr) (rows : List V) (r c : Nat), vs = [.int n, g, k, .ref pl] ∧ 0 ≤ n ∧ n ≤ 40 ∧ ((∃ p, g = .ref p ∧ SqH H p rows) ∨ (NotSq K H g ∧ rows = [])) ∧ rows.length ≤ 100000 ∧ Vd K H rows (hi n 1).toNat (some (r, c)) ∧ H pl = some (.tup [.int (r : Int), .int (c : Int)]) ∧ EqV 3 H g k ∧ ∀ H', Same H H' → Q (.bl true) H'
theorem ok_refd {f : Addr} {fd : FuncData} (F : Fun K "_law_refused" "_law_refused" s__law_refused f fd) (T : Bi mg) (U : mg "BadTable" = some (.ref D)) {c_ : String → Addr} (T_ve : mg "ValueError" = none) (N_ : ∀ n ∈ errs, mg n = some (.ref (c_ n))) (X_c : XcE K D c_ ["row", "column"] ["NoLot", "BadPins", "BadCord", "BadNumber"]) {f_lo : Addr} {d_lo : FuncData} (D_lo : Df K mg "lot_of" s_lot_of ["pins", "table"] f_lo d_lo) (G_lo : FnOk P w K mg base (L2N.CX P w) 8 f_lo d_lo ["pins", "table"] (spLotOf K C DL D1 D)) {f_s : Addr} {d_s : FuncData} (D_s : Df K mg "_law_same" s__law_same ["_law_value", "_law_due"] f_s d_s) (H_s : L2H.FnH P w K mg base CX0 5 f_s d_s ["_law_value", "_law_due"] (spSame 3)) : FnOk P w K mg base CX0 9 f fd ["_law_rim", "_law_grid", "_law_kept", "_law_place"] (spRefd K) := by
  refine F.ok sc_rf (fun vs H Q E h => ?_) (fun cdv A outer s H vs Q E hr h => ?_)
  · obtain ⟨n, g, k, pl, rows, r, c, rfl, _⟩ := h
    rfl
  · obtain ⟨n, g, k, pl, rows, r, c, rfl, n0, n1, hg, hl, vd, epl, ek, q⟩ := h
    refine ⟨_, (pss_cons (L2N.ps_try_as (i := 4) (Wout := fun _ _ _ _ => False) rfl rfl sc_rf.nd rfl rfl ⟨by rfl, by decide, .inl U⟩ takesN
        (tb := fun W => tDrop (tCallS (spLotOf K C DL D1 D) (WE W) (tCons (tVar 0) (tCons (tVar 1) tNil))))
        (ts := fun a cls d => sc_rf_s K D c_ a cls d)
        (fun W pn xe tk _ => (pss_one (ps_expr (by exact (pe_callS G_lo (hr.mono (by decide)) (by rfl) D_lo.g D_lo.F.kp D_lo.b (fun σ => L2N.passAt tk σ) (pa_cons (pv 0) (pa_cons (pv 1) pa_nil)))))))
        (fun a oe cls d pn hz hf => (pss_cons (ps_if (PW.pt (pw_or (pt_val (pe_callB (call_isX X_c.c hz.zc hf) (by rfl) T.b_isinstance (by decide +kernel) (pa_cons (pv 4) (pa_cons (pe_glob (v := .ref (c_ "NoLot")) (by rfl) (N_ "NoLot" (by decide +kernel)) rfl) pa_nil)))) (pw_or (pt_val (pe_callB (call_isX X_c.c hz.zc hf) (by rfl) T.b_isinstance (by decide +kernel) (pa_cons (pv 4) (pa_cons (pe_glob (v := .ref (c_ "BadPins")) (by rfl) (N_ "BadPins" (by decide +kernel)) rfl) pa_nil)))) (pw_or (pt_val (pe_callB (call_isX X_c.c hz.zc hf) (by rfl) T.b_isinstance (by decide +kernel) (pa_cons (pv 4) (pa_cons (pe_glob (v := .ref (c_ "BadCord")) (by rfl) (N_ "BadCord" (by decide +kernel)) rfl) pa_nil)))) (pw_or1 (pt_val (pe_callB (call_isX X_c.c hz.zc hf) (by rfl) T.b_isinstance (by decide +kernel) (pa_cons (pv 4) (pa_cons (pe_glob (v := .ref (c_ "BadNumber")) (by rfl) (N_ "BadNumber" (by decide +kernel)) rfl) pa_nil))))))))) (pss_one (ps_ret pe_bl)) pss_nil) (pss_cons (ps_if (PW.pt (pw_or (pt_not (pt_val (pe_callB (call_isX X_c.c hz.zc hf) (by rfl) T.b_isinstance (by decide +kernel) (pa_cons (pv 4) (pa_cons (pe_glob (v := .ref (c_ "RimError")) (by rfl) (N_ "RimError" (by decide +kernel)) rfl) pa_nil))))) (pw_or1 (pt_not (pt_val (pe_callB (call_isX X_c.c hz.zc hf) (by rfl) T.b_isinstance (by decide +kernel) (pa_cons (pv 4) (pa_cons (pe_bltn (v := .ty "ValueError") (by rfl) T_ve (by decide +kernel) rfl) pa_nil)))))))) (pss_one (ps_ret pe_bl)) pss_nil) (pss_one (ps_ret (pe_and (L2H.pe_callH H_s ⟨(L2H.RoomH.mono (j := 5) (L2H.roomH_of hr) (by decide)).dp, (L2H.RoomH.mono (j := 5) (L2H.roomH_of hr) (by decide)).un⟩ (hotS hz hf) (by rfl) D_s.g D_s.F.kp D_s.b (E := fun _ => E0) (fun _ => pass0A) (pa_cons (pe_tup (pa_cons (pe_xf X_c.x (X_c.n "row" (by decide +kernel)) hz.zc hf (pv 4)) (pa_cons (pe_xf X_c.x (X_c.n "column" (by decide +kernel)) hz.zc hf (pv 4)) pa_nil))) (pa_cons (pv 3) pa_nil))) (pe_one (L2H.pe_callH H_s ⟨(L2H.RoomH.mono (j := 5) (L2H.roomH_of hr) (by decide)).dp, (L2H.RoomH.mono (j := 5) (L2H.roomH_of hr) (by decide)).un⟩ (hotS hz hf) (by rfl) D_s.g D_s.F.kp D_s.b (E := fun _ => E0) (fun _ => pass0A) (pa_cons (pv 1) (pa_cons (pv 2) pa_nil)))))))))))
        (pss_one (ps_ret pe_bl))), ?_⟩
    have fin : ∀ H1, Same H H1 → ∀ d, H1 d = none → (wAs K (.ref D) 4 (fun a cls d => sc_rf_s K D c_ a cls d) (fun _ _ _ _ => False) { nx := fun σ' H' => (tRet (tC (.bl false))) { nx := fun _ H' => Q .non H', rt := Q } σ' H', rt := Q }) (.ref D) (some d) [some (.int n), some g, some k, some (.ref pl), none] (upd H1 d (.xd (flE ["row", "column"] [.int (r : Int), .int (c : Int)]))) := fun H1 sH d nd => by
      refine ⟨true, X_c.ex, fun _ a na => ?_, fun z => by cases z⟩
      have sd := same_upd (o := .xd (flE ["row", "column"] [.int (r : Int), .int (c : Int)])) nd
      have ed : upd H1 d (.xd (flE ["row", "column"] [.int (r : Int), .int (c : Int)])) d = some (.xd (flE ["row", "column"] [.int (r : Int), .int (c : Int)])) := upd_same
      refine ⟨_, rfl, rfl, d, .ref (c_ "NoLot"), .ref (c_ "NoLot"), false, _, rfl, rfl, ed, fun u h => h, X_c.no "NoLot" (by decide +kernel), false, rfl, ?_⟩
      refine ⟨_, rfl, rfl, d, .ref (c_ "BadPins"), .ref (c_ "BadPins"), false, _, rfl, rfl, ed, fun u h => h, X_c.no "BadPins" (by decide +kernel), false, rfl, ?_⟩
      refine ⟨_, rfl, rfl, d, .ref (c_ "BadCord"), .ref (c_ "BadCord"), false, _, rfl, rfl, ed, fun u h => h, X_c.no "BadCord" (by decide +kernel), false, rfl, ?_⟩
      refine ⟨_, rfl, rfl, d, .ref (c_ "BadNumber"), .ref (c_ "BadNumber"), false, _, rfl, rfl, ed, fun u h => h, X_c.no "BadNumber" (by decide +kernel), false, rfl, ?_⟩
      refine ⟨_, rfl, rfl, d, .ref (c_ "RimError"), .ref (c_ "RimError"), true, _, rfl, rfl, ed, fun u h => h, X_c.re , true, rfl, ?_⟩
      refine ⟨_, rfl, rfl, d, .ty "ValueError", .type "ValueError", true, _, rfl, rfl, ed, fun u h => h, X_c.ve, true, rfl, ?_⟩
      refine ⟨_, rfl, rfl, rfl, d, _, _, rfl, ed, rfl, _, rfl, rfl, rfl, d, _, _, rfl, ed, rfl, by show 2 ≤ sizeLine; decide, fun u nu => ?_⟩
      have su := same_upd (o := .tup [.int (r : Int), .int (c : Int)]) nu
      have sA := (sH.trans sd).trans su
      refine ⟨_, rfl, _, _, rfl, .inl (.inl (.inr ⟨u, pl, _, _, rfl, rfl, .inl ⟨upd_same, sA _ _ epl⟩, rfl, by show 2 ≤ 1000; decide, fun i x y hx hy => ?_⟩)), true, rfl, ?_⟩
      · rw [hx] at hy
        cases hy
        match i, hx with
        | 0, hx => cases hx; exact EqV.int _
        | 1, hx => cases hx; exact EqV.int _
      · exact ⟨_, rfl, _, rfl, _, _, rfl, ek.same sA, q _ sA⟩
    refine ⟨_, rfl, _, rfl, _, _, rfl, .inr ⟨n, rows, rfl, n0, n1, hg, hl, .inl ⟨r, c, vd, fun H1 s1 d nd => fin H1 s1 d nd⟩⟩⟩
end
end Own

namespace Own
open PySem PySem.Spec PyProof.Rows L2
theorem bk_le (f : Int × Int → Bool) {c : Int} : ∀ {l : List Tr}, (∀ t ∈ l, 0 ≤ t.2.2 ∧ t.2.2 ≤ c) → 0 ≤ bk f l ∧ bk f l ≤ c * (l.length : Int)
  | [], _ => by simp [bk]
  | t :: r, h => by
    have ih := bk_le f fun u hu => h u (List.mem_cons_of_mem _ hu)
    have ht := h t List.mem_cons_self
    rw [bk, List.length_cons]
    have e : c * ((r.length + 1 : Nat) : Int) = c * (r.length : Int) + c := by
      rw [Int.natCast_add, Int.mul_add]
      simp
    rw [e]
    split <;> omega
theorem digs4 {ds : List Int} {a b c d : Int} (h : Digs ds [a, b, c, d]) : ∃ w x y z, ds = [w, x, y, z] ∧ (0 ≤ w ∧ w < a) ∧ (0 ≤ x ∧ x < b) ∧ (0 ≤ y ∧ y < c) ∧ (0 ≤ z ∧ z < d) := by
  have hl := h.1
  match ds, hl with
  | [w, x, y, z], _ => exact ⟨w, x, y, z, rfl, h.2 0 w a rfl rfl, h.2 1 x b rfl rfl, h.2 2 y c rfl rfl, h.2 3 z d rfl rfl⟩
theorem digs1 {ds : List Int} {a : Int} (h : Digs ds [a]) : ∃ w, ds = [w] ∧ 0 ≤ w ∧ w < a := by
  have hl := h.1
  match ds, hl with
  | [w], _ => exact ⟨w, rfl, h.2 0 w a rfl rfl⟩
theorem oth_in {n d0 d1 : Int} (n2 : 2 ≤ n) (h0 : 0 ≤ d0) (h1 : d0 < n) (h2 : 0 ≤ d1) (h3 : d1 < n - 1) : 0 ≤ (d0 + 1 + d1).fmod n ∧ (d0 + 1 + d1).fmod n < n ∧ d0 ≠ (d0 + 1 + d1).fmod n := by
  have hm := fmod_in (d0 + 1 + d1) (show 0 < n by omega)
  refine ⟨hm.1, hm.2, ?_⟩
  by_cases hx : d0 + 1 + d1 < n
  · rw [fmod_lo (by omega) hx]
    omega
  · rw [fmod_hi (by omega) (by omega)]
    omega
theorem rep3 {α : Type} (a b c : α) : ∀ (m k : Nat), k < m → ((List.replicate m [a, b, c]).flatten)[3 * k]? = some a ∧ ((List.replicate m [a, b, c]).flatten)[3 * k + 1]? = some b ∧ ((List.replicate m [a, b, c]).flatten)[3 * k + 2]? = some c
  | 0, k, h => absurd h (Nat.not_lt_zero _)
  | m + 1, 0, _ => ⟨rfl, rfl, rfl⟩
  | m + 1, k + 1, h => by
    have := rep3 a b c m k (by omega)
    rw [List.replicate_succ, List.flatten_cons, show 3 * (k + 1) = 3 * k + 3 by omega]
    exact this
theorem rep_map (a b c : Int) : ∀ m : Nat, (List.replicate m [V.int a, .int b, .int c]).flatten = ((List.replicate m [a, b, c]).flatten).map V.int
  | 0 => rfl
  | m + 1 => by
    rw [List.replicate_succ, List.flatten_cons, List.replicate_succ, List.flatten_cons, List.map_append, rep_map a b c m]
    rfl
theorem rep_len {α : Type} (a b c : α) : ∀ m : Nat, ((List.replicate m [a, b, c]).flatten).length = 3 * m
  | 0 => rfl
  | m + 1 => by
    rw [List.replicate_succ, List.flatten_cons, List.length_append, rep_len a b c m]
    show 3 + 3 * m = 3 * (m + 1)
    omega
/-- the entries drawn so far, in a list of the law's own -/
structure WL (H : Hp) (e : Addr) (n : Int) (l : List Tr) (H1 : Hp) : Prop where
  ne : H e = none
  sm : Same H H1
  ht : TripL H1 e l
  v : ∀ t ∈ l, Vld n t ∧ t.2.2 ≤ 25000000
theorem WL.same {H H1 H2 : Hp} {e : Addr} {n : Int} {l : List Tr} (W : WL H e n l H1) (s : Same H1 H2) : WL H e n l H2 := ⟨W.ne, W.sm.trans s, W.ht.same s, W.v⟩
theorem TripL.add {H1 : Hp} {e p : Addr} {l : List Tr} {t : Tr} {vs : List V} (eH : H1 e = some (.lst vs)) (tV : TrV H1 vs l) (hp : H1 p = some (.tup (tv t))) : TripL (upd H1 e (.lst (vs ++ [.ref p]))) e (l ++ [t]) := by
  have pe : p ≠ e := fun z => by
    rw [z, eH] at hp
    cases hp
  exact ⟨_, upd_same, (tV.sameT (sameT_put eH (Same.refl _))).snoc (by rw [upd_ne pe]; exact hp)⟩
theorem WL.add {H H1 H2 : Hp} {e p : Addr} {n : Int} {l : List Tr} {t : Tr} {vs : List V} (W : WL H e n l H1) (s : Same H1 H2) (eH : H2 e = some (.lst vs)) (tV : TrV H2 vs l) (hp : H2 p = some (.tup (tv t))) (vt : Vld n t ∧ t.2.2 ≤ 25000000) : WL H e n (l ++ [t]) (upd H2 e (.lst (vs ++ [.ref p]))) :=
  ⟨W.ne, same_put (H1 := H) W.ne (W.sm.trans s), TripL.add eH tV hp, fun u hu => by
    rcases List.mem_append.mp hu with hu | hu
    · exact W.v u hu
    · rw [List.mem_singleton.mp hu]
      exact vt⟩
section
variable {P : Program} {w : World} {K : PySem.W.Frag} {mg : Str → Option Value} {base : Heap} {C : Addr}
def spLLot (K : PySem.W.Frag) : Sp := fun vs H Q _ => ∃ (z : Addr) (ns : List Int) (n : Int), vs = [.ref z, .int n] ∧ SqL K H z (ns.map V.int) ∧ ns.length ≤ 1000 ∧ 0 ≤ n ∧ n ≤ 1000 ∧ ∀ H' c r, Same H H' → Trip H' c r → Good n r → r.length ≤ 38 → (∀ f, 0 ≤ bs f r ∧ bs f r ≤ 950000000) → Q (.ref c) H'
set_option maxHeartbeats 0 in
theorem ok_llot {f : Addr} {fd : FuncData} (F : Fun K "_law_lot" "_law_lot" s__law_lot f fd) (T : Bi mg) {f_d : Addr} {d_d : FuncData} (D_d : Df K mg "_law_digits" s__law_digits ["_law_cell_here", "_law_sizes"] f_d d_d) (G_d : FnOk P w K mg base CX0 1 f_d d_d ["_law_cell_here", "_law_sizes"] (spDigs K)) {f_c : Addr} {d_c : FuncData} (D_c : Df K mg "_law_cell" s__law_cell ["_law_script", "_law_k"] f_c d_c) (G_c : FnOk P w K mg base CX0 1 f_c d_c ["_law_script", "_law_k"] (spCell K)) {f_n : Addr} {d_n : FuncData} (D_n : Df K mg "_law_norm" s__law_norm ["_law_triples"] f_n d_n) (G_n : FnOk P w K mg base CX0 1 f_n d_n ["_law_triples"] (spNorm K)) : FnOk P w K mg base CX0 2 f fd ["_law_script", "_law_rim"] (spLLot K) := by
  refine F.ok sc__law_lot (fun vs H Q E h => ?_) (fun cdv A outer s H vs Q E hr h => ?_)
  · obtain ⟨z, ns, n, rfl, _⟩ := h
    rfl
  · obtain ⟨z, ns, n, rfl, hs, hn, n0, n1, q⟩ := h
    obtain ⟨tN, hN, qN⟩ : ∃ tR, PSs (cxOf CX0 P w K mg base ["_law_script", "_law_rim", "_law_row", "_law_k", "_law_draw", "_law_other"] "_law_lot" (defScope s__law_lot) f cdv A outer s H E).nox ((defBody s__law_lot).drop 3) tR ∧ ∀ (e : Addr), ∀ (l : List Tr) (y3 y4 y5 : Option V) (H0 : Hp), WL H e n l H0 → l.length ≤ 38 → tR { nx := fun _ H' => Q .non H', rt := Q } [some (.ref z), some (.int n), some (.ref e), y3, y4, y5] H0 := by
      refine ⟨_, (pss_one (ps_ret (pe_call G_n hr (by rfl) D_n.g D_n.F.kp D_n.b .nil pass0 (pa_cons (pv 2) pa_nil)))), ?_⟩
      intro e
      intro l y3 y4 y5 H0 W hl
      obtain ⟨vs, eT, tV⟩ := id W.ht
      refine ⟨_, rfl, e, vs, l, rfl, .inl (.inl (.inl eT)), tV, by omega, fun H4 d r s4 td hN => ?_⟩
      have hN := hN.norm fun t ht => (W.v t ht).1.2.2.2.2.2
      have hg := hN.good fun t ht => (W.v t ht).1
      refine q _ _ _ (W.sm.trans s4) td hg (Nat.le_trans hN.len hl) fun f => ?_
      rw [bs_norm f hN]
      have := bk_le f (c := 25000000) (l := l) fun t ht => ⟨by have := (W.v t ht).1.2.2.2.2.2; omega, (W.v t ht).2⟩
      omega
    obtain ⟨tC, hC, qC⟩ : ∃ tR, PSs (cxOf CX0 P w K mg base ["_law_script", "_law_rim", "_law_row", "_law_k", "_law_draw", "_law_other"] "_law_lot" (defScope s__law_lot) f cdv A outer s H E).nox ((defBody s__law_lot).drop 2) tR ∧ ∀ (e : Addr), ∀ (l : List Tr) (y3 y4 y5 : Option V) (H0 : Hp), WL H e n l H0 → l.length ≤ 8 → tR { nx := fun _ H' => Q .non H', rt := Q } [some (.ref z), some (.int n), some (.ref e), y3, y4, y5] H0 := by
      refine ⟨_, (pss_cons (ps_if (PW.pt (pw_and (pt_cmpR op_ge (pv 1) pe_int (nomark _)) (pw_and1 (pt_cmpR op_eq (pe_ix (r := rIxL K) ix_list (pe_call G_d (hr.mono (by decide)) (by rfl) D_d.g D_d.F.kp D_d.b .nil pass0 (pa_cons (pe_call G_c (hr.mono (by decide)) (by rfl) D_c.g D_c.F.kp D_c.b .nil pass0 (pa_cons (pv 0) (pa_cons pe_int pa_nil))) (pa_cons (pe_lst (pa_cons pe_int pa_nil)) pa_nil))) pe_int (fun _ _ => rfl)) pe_int (nomark _))))) (pss_cons (ps_set (i := 4) sc__law_lot.nd rfl (.inl rfl) (pe_call G_d (hr.mono (by decide)) (by rfl) D_d.g D_d.F.kp D_d.b .nil pass0 (pa_cons (pe_call G_c (hr.mono (by decide)) (by rfl) D_c.g D_c.F.kp D_c.b .nil pass0 (pa_cons (pv 0) (pa_cons pe_int pa_nil))) (pa_cons (pe_op op_rep (pe_lst (pa_cons (pv 1) (pa_cons (pe_op op_sub (pv 1) pe_int) (pa_cons pe_int pa_nil)))) pe_int) pa_nil))))
        (pss_one (ps_for PassesOwn.never rfl (pi_range1 (by rfl) T.b_range (pa_cons pe_int pa_nil)) (pg_name (i := 3) sc__law_lot.nd rfl (.inl rfl))
        (pss_one (ps_expr (pe_bm PySem.F.plainAttrs_list PySem.F.slot_list_append PySem.F.type_list_append mt_append (pv 2) (pa_cons (pe_tup (pa_cons (pe_ix (r := rIxL K) ix_list (pv 4) (pe_op op_mul pe_int (pv 3)) (fun _ _ => rfl)) (pa_cons (pe_op op_modN (pe_callTy call_int1 (by rfl) T.b_int (by decide +kernel) (pa_cons (pe_op op_add (pe_op op_add (pe_ix (r := rIxL K) ix_list (pv 4) (pe_op op_mul pe_int (pv 3)) (fun _ _ => rfl)) pe_int) (pe_ix (r := rIxL K) ix_list (pv 4) (pe_op op_add (pe_op op_mul pe_int (pv 3)) pe_int) (fun _ _ => rfl))) pa_nil)) (pv 1)) (pa_cons (pe_op op_add pe_int (pe_ix (r := rIxL K) ix_list (pv 4) (pe_op op_add (pe_op op_mul pe_int (pv 3)) pe_int) (fun _ _ => rfl))) pa_nil)))) pa_nil))))))) pss_nil)
        hN), ?_⟩
      intro e
      intro l y3 y4 y5 H0 W hl
      refine ⟨_, rfl, n, 2, rfl, rfl, _, rfl, ite2 (fun e1 => ?_) (fun e1 => qN e l y3 y4 y5 H0 W (by omega))⟩
      have n2 : 2 ≤ n := of_decide_eq_true e1
      refine ⟨_, rfl, z, ns, 21, rfl, W.sm.seq hs, by decide, hn, fun c2 => ⟨by show 1 ≤ sizeLine; decide, fun b nb => ⟨c2, b, [6], rfl, .inl (.inl upd_same), by decide, by decide, fun H9 p ds s9 np ep dg => ?_⟩⟩⟩
      obtain ⟨m6, rfl, m60, m61⟩ := digs1 dg
      have W := W.same ((same_upd nb).trans s9)
      refine ⟨p, _, 0, _, rfl, rfl, .inl (.inl ep), atI_nat (j := 0) rfl, rfl, _, rfl, ite2 (fun e2 => ?_) (fun e2 => qN e l y3 y4 y5 H9 W (by omega))⟩
      clear ep np nb dg s9
      refine ⟨_, rfl, z, ns, 20, rfl, W.sm.seq hs, by omega, hn, fun c => ?_⟩
      refine ⟨_, rfl, _, rfl, n, 1, rfl, rfl, by show 3 ≤ sizeLine; decide, fun b nb => ⟨b, 30, _, rfl, rfl, upd_same, by decide, by decide, by show 3 * 30 ≤ sizeLine; decide, fun b2 nb2 => ?_⟩⟩
      have eb2 : (upd (upd H9 b (.lst [.int n, .int (n - 1), .int 1000])) b2 (.lst (List.replicate (Int.toNat 30) [V.int n, .int (n - 1), .int 1000]).flatten)) b2 = some (.lst (((List.replicate 30 [n, n - 1, 1000]).flatten).map V.int)) := by
        rw [upd_same, show Int.toNat 30 = 30 from rfl, rep_map]
      refine ⟨c, b2, (List.replicate 30 [n, n - 1, 1000]).flatten, rfl, .inl (.inl eb2), by rw [rep_len]; decide, fun x hx => ?_, fun H1 p1 ds s1 np1 ep1 dg => ?_⟩
      · obtain ⟨y, hy, hx⟩ := List.mem_flatten.mp hx
        rw [List.eq_of_mem_replicate hy] at hx
        simp only [List.mem_cons, List.not_mem_nil, or_false] at hx
        omega
      have s01 := ((same_upd (o := .lst [.int n, .int (n - 1), .int 1000]) nb).trans (same_upd (o := .lst (List.replicate (Int.toNat 30) [V.int n, .int (n - 1), .int 1000]).flatten) nb2)).trans s1
      have lds : ds.length = 90 := by rw [dg.1, rep_len]
      have W1 : WL H e n l H1 := W.same s01
      have p1e : p1 ≠ e := fun h => by
        have sb : Same (upd (upd H9 b (.lst [.int n, .int (n - 1), .int 1000])) b2 (.lst (List.replicate (Int.toNat 30) [V.int n, .int (n - 1), .int 1000]).flatten)) (upd (upd H9 b (.lst [.int n, .int (n - 1), .int 1000])) b2 (.lst (List.replicate (Int.toNat 30) [V.int n, .int (n - 1), .int 1000]).flatten)) := Same.refl _
        obtain ⟨vs, eT, _⟩ := id W.ht
        have := (same_upd (o := .lst (List.replicate (Int.toNat 30) [V.int n, .int (n - 1), .int 1000]).flatten) nb2) _ _ ((same_upd (o := .lst [.int n, .int (n - 1), .int 1000]) nb) _ _ eT)
        rw [h] at np1
        exact nomatch np1.symm.trans this
      clear s01 eb2 nb nb2 s1
      refine ⟨30, rfl, by decide, by decide, for_range (lo := 0) (n := (30 : Int).toNat) (fun i σ H' => (∃ y3, σ = [some (.ref z), some (.int n), some (.ref e), y3, some (.ref p1), y5]) ∧ H' p1 = some (.lst (ds.map V.int)) ∧ ∃ l', l'.length ≤ l.length + i ∧ WL H e n l' H') ⟨⟨_, rfl⟩, ep1, l, Nat.le_refl _, W1⟩ (fun i σ H' hi pv => ?_) (fun σ H' pv => ?_)⟩
      · obtain ⟨⟨y3, rfl⟩, ep, l', hl', W'⟩ := pv
        have i40 : i < 30 := hi
        obtain ⟨r1, r2, r3⟩ := rep3 n (n - 1) 1000 30 i i40
        have da : ∀ k : Nat, k < 90 → ∃ d, ds[k]? = some d ∧ atI (ds.map V.int) (k : Int) = some (.int d) := fun k hk => ⟨ds[k], List.getElem?_eq_getElem (by omega), atI_nat (by rw [List.getElem?_map, List.getElem?_eq_getElem (by omega)]; rfl)⟩
        obtain ⟨u, hu, au⟩ := da (3 * i) (by omega)
        obtain ⟨v, hv, av⟩ := da (3 * i + 1) (by omega)
        obtain ⟨x, hx, ax⟩ := da (3 * i + 2) (by omega)
        have bu := dg.2 _ _ _ hu r1
        have bv := dg.2 _ _ _ hv r2
        have bx := dg.2 _ _ _ hx r3
        have ho := oth_in n2 bu.1 bu.2 bv.1 bv.2
        have au' : atI (ds.map V.int) (3 * (0 + (i : Int))) = some (.int u) := by rw [show 3 * (0 + (i : Int)) = ((3 * i : Nat) : Int) by omega]; exact au
        have av' : atI (ds.map V.int) (3 * (0 + (i : Int)) + 1) = some (.int v) := by rw [show 3 * (0 + (i : Int)) + 1 = ((3 * i + 1 : Nat) : Int) by omega]; exact av
        have ax' : atI (ds.map V.int) (3 * (0 + (i : Int)) + 2) = some (.int x) := by rw [show 3 * (0 + (i : Int)) + 2 = ((3 * i + 2 : Nat) : Int) by omega]; exact ax
        have qd : SqL K H' p1 (ds.map V.int) := .inl (.inl ep)
        obtain ⟨vs, eT, tV⟩ := id W'.ht
        refine ⟨_, rfl, .inl ⟨rfl, _, .inl (.inl eT)⟩, _, rfl, _, rfl, _, _, rfl, rfl, .inl ⟨by decide, by decide⟩, p1, _, _, _, rfl, rfl, qd, au', ?_⟩
        refine ⟨_, rfl, _, rfl, _, _, rfl, rfl, .inl ⟨by decide, by decide⟩, p1, _, _, _, rfl, rfl, qd, au', _, _, rfl, rfl, _, rfl, _, rfl, _, _, rfl, rfl, .inl ⟨by decide, by decide⟩, _, _, rfl, rfl, p1, _, _, _, rfl, rfl, qd, av', _, _, rfl, rfl, .inl ⟨_, rfl, _, rfl, _, _, rfl, rfl, by omega, ?_⟩⟩
        refine ⟨_, rfl, _, rfl, _, _, rfl, rfl, .inl ⟨by decide, by decide⟩, _, _, rfl, rfl, p1, _, _, _, rfl, rfl, qd, ax', _, _, rfl, rfl, by show 3 ≤ sizeLine; decide, fun p np => ⟨e, vs, _, rfl, rfl, same_upd np _ _ eT, by rw [tV.1]; exact small1000 (by omega), ?_⟩⟩
        refine ⟨⟨_, rfl⟩, ?_, l' ++ [(u, (u + 1 + v).fmod n, 1 + x)], ?_, ?_⟩
        · rw [upd_ne p1e]
          exact same_upd np _ _ ep
        · rw [List.length_append]
          show _ + 1 ≤ _
          omega
        · exact W'.add (same_upd np) (same_upd np _ _ eT) (tV.same (same_upd np)) upd_same ⟨⟨bu.1, bu.2, ho.1, ho.2.1, ho.2.2, by show (1 : Int) ≤ 1 + x; omega⟩, by show (1 : Int) + x ≤ 25000000; omega⟩
      · obtain ⟨⟨y3, rfl⟩, ep, l', hl', W'⟩ := pv
        exact qN e l' y3 _ y5 H' W' (by have : (30 : Int).toNat = 30 := rfl; omega)
    refine ⟨_, (pss_cons (ps_set (i := 2) sc__law_lot.nd rfl (.inl rfl) (pe_lst pa_nil))
        (pss_cons (ps_for PassesOwn.never rfl (pi_range1 (by rfl) T.b_range (pa_cons (pe_ix (r := rIxL K) ix_list (pe_call G_d (hr.mono (by decide)) (by rfl) D_d.g D_d.F.kp D_d.b .nil pass0 (pa_cons (pe_call G_c (hr.mono (by decide)) (by rfl) D_c.g D_c.F.kp D_c.b .nil pass0 (pa_cons (pv 0) (pa_cons pe_int pa_nil))) (pa_cons (pe_lst (pa_cons pe_int pa_nil)) pa_nil))) pe_int (fun _ _ => rfl)) pa_nil)) (pg_name (i := 3) sc__law_lot.nd rfl (.inl rfl))
        (pss_one (ps_if (pt_cmpR op_ge (pv 1) pe_int (nomark _)) (pss_cons (ps_set (i := 4) sc__law_lot.nd rfl (.inl rfl) (pe_call G_d (hr.mono (by decide)) (by rfl) D_d.g D_d.F.kp D_d.b .nil pass0 (pa_cons (pe_call G_c (hr.mono (by decide)) (by rfl) D_c.g D_c.F.kp D_c.b .nil pass0 (pa_cons (pv 0) (pa_cons (pe_op op_add pe_int (pv 3)) pa_nil))) (pa_cons (pe_lst (pa_cons (pv 1) (pa_cons (pe_op op_sub (pv 1) pe_int) (pa_cons pe_int (pa_cons pe_int pa_nil))))) pa_nil))))
        (pss_cons (ps_set (i := 5) sc__law_lot.nd rfl (.inl rfl) (pe_op op_modN (pe_callTy call_int1 (by rfl) T.b_int (by decide +kernel) (pa_cons (pe_op op_add (pe_op op_add (pe_ix (r := rIxL K) ix_list (pv 4) pe_int (fun _ _ => rfl)) pe_int) (pe_ix (r := rIxL K) ix_list (pv 4) pe_int (fun _ _ => rfl))) pa_nil)) (pv 1)))
        (pss_one (ps_expr (pe_bm PySem.F.plainAttrs_list PySem.F.slot_list_append PySem.F.type_list_append mt_append (pv 2) (pa_cons (pe_tup (pa_cons (pe_ix (r := rIxL K) ix_list (pv 4) pe_int (fun _ _ => rfl)) (pa_cons (pv 5) (pa_cons (pe_op op_add pe_int (pe_op op_modN (pe_callTy call_int1 (by rfl) T.b_int (by decide +kernel) (pa_cons (pe_ix (r := rIxL K) ix_list (pv 4) pe_int (fun _ _ => rfl)) pa_nil)) (pe_ix (r := rIxL K) ix_list (pe_lst (pa_cons pe_int (pa_cons pe_int (pa_cons pe_int (pa_cons pe_int (pa_cons pe_int (pa_cons pe_int pa_nil))))))) (pe_ix (r := rIxL K) ix_list (pv 4) pe_int (fun _ _ => rfl)) (fun _ _ => rfl)))) pa_nil)))) pa_nil)))))) pss_nil)))
        hC)), ?_⟩
    refine ⟨by show 0 ≤ sizeLine; decide, fun e he => ?_⟩
    have W0 : WL H e n [] (upd H e (.lst [])) := ⟨he, same_upd he, ⟨[], upd_same, TrV.nil⟩, fun t ht => nomatch ht⟩
    refine ⟨_, rfl, z, ns, 1, rfl, (same_upd he).seq hs, by decide, hn, fun c1 => ?_⟩
    refine ⟨by show 1 ≤ sizeLine; decide, fun b nb => ⟨c1, b, [9], rfl, .inl (.inl upd_same), by decide, by decide, fun H1 p ds s1 np ep dg => ?_⟩⟩
    obtain ⟨m, rfl, m0, m1⟩ := digs1 dg
    have W1 : WL H e n [] H1 := W0.same ((same_upd nb).trans s1)
    refine ⟨p, _, 0, _, rfl, rfl, .inl (.inl ep), atI_nat (j := 0) rfl, m, rfl, by omega, by omega, for_range (lo := 0) (n := m.toNat) (fun i σ H2 => (∃ y3 y4 y5, σ = [some (.ref z), some (.int n), some (.ref e), y3, y4, y5]) ∧ ∃ l', l'.length ≤ i ∧ WL H e n l' H2) ⟨⟨_, _, _, rfl⟩, [], Nat.le_refl _, W1⟩ (fun i σ H2 hi pv => ?_) (fun σ H2 pv => ?_)⟩
    · obtain ⟨⟨y3, y4, y5, rfl⟩, l', hl', W'⟩ := pv
      refine ⟨_, rfl, n, 2, rfl, rfl, _, rfl, ite2 (fun e1 => ?_) (fun e1 => ⟨⟨_, _, _, rfl⟩, l', by omega, W'⟩)⟩
      have n2 : 2 ≤ n := of_decide_eq_true e1
      refine ⟨_, rfl, _, rfl, _, _, rfl, rfl, z, ns, 12 + i, ?_, W'.sm.seq hs, by omega, hn, fun c2 => ?_⟩
      · show [V.ref z, V.int (12 + (0 + (i : Int)))] = _
        rw [show (12 : Int) + (0 + (i : Int)) = ((12 + i : Nat) : Int) by omega]
      refine ⟨_, rfl, _, rfl, n, 1, rfl, rfl, by show 4 ≤ sizeLine; decide, fun b2 nb2 => ⟨c2, b2, [n, n - 1, 6, 25000000], rfl, .inl (.inl upd_same), by show 4 ≤ 1000; decide, fun x hx => ?_, fun H3 p3 ds3 s3 np3 ep3 dg3 => ?_⟩⟩
      · simp only [List.mem_cons, List.not_mem_nil, or_false] at hx
        omega
      obtain ⟨d0, d1, d2, d3, rfl, h0, h1, h2, h3⟩ := digs4 dg3
      have W3 := W'.same ((same_upd nb2).trans s3)
      have qp : SqL K H3 p3 [.int d0, .int d1, .int d2, .int d3] := .inl (.inl ep3)
      have a0 : atI [V.int d0, .int d1, .int d2, .int d3] 0 = some (.int d0) := atI_nat (j := 0) rfl
      have a1 : atI [V.int d0, .int d1, .int d2, .int d3] 1 = some (.int d1) := atI_nat (j := 1) rfl
      have a2 : atI [V.int d0, .int d1, .int d2, .int d3] 2 = some (.int d2) := atI_nat (j := 2) rfl
      have a3 : atI [V.int d0, .int d1, .int d2, .int d3] 3 = some (.int d3) := atI_nat (j := 3) rfl
      refine ⟨_, rfl, p3, _, 0, _, rfl, rfl, qp, a0, _, _, rfl, rfl, _, rfl, p3, _, 1, _, rfl, rfl, qp, a1, _, _, rfl, rfl, .inl ⟨_, rfl, _, rfl, _, _, rfl, rfl, by omega, ?_⟩⟩
      have hoth := oth_in n2 h0.1 h0.2 h1.1 h1.2
      obtain ⟨zz, ez, zpos, zle⟩ : ∃ zz : Int, atI [V.int 3, .int 3, .int 3, .int 3, .int 1000, .int 25000000] d2 = some (.int zz) ∧ 0 < zz ∧ zz ≤ 25000000 := by
        have hd : d2 = ((0 : Nat) : Int) ∨ d2 = ((1 : Nat) : Int) ∨ d2 = ((2 : Nat) : Int) ∨ d2 = ((3 : Nat) : Int) ∨ d2 = ((4 : Nat) : Int) ∨ d2 = ((5 : Nat) : Int) := by omega
        rcases hd with e | e | e | e | e | e <;> rw [e] <;> exact ⟨_, atI_nat rfl, by decide, by decide⟩
      obtain ⟨vs, eT, tV⟩ := id W3.ht
      refine ⟨_, rfl, .inl ⟨rfl, _, .inl (.inl eT)⟩, _, rfl, p3, _, 0, _, rfl, rfl, qp, a0, _, rfl, _, rfl, p3, _, 3, _, rfl, rfl, qp, a3, .inl ⟨_, rfl, ?_⟩⟩
      refine ⟨by show 6 ≤ sizeLine; decide, fun g ng => ⟨_, rfl, p3, _, 2, _, rfl, rfl, (same_upd ng).seq qp, a2, g, _, d2, _, rfl, rfl, .inl (.inl upd_same), ez, _, _, rfl, rfl, by omega, ?_⟩⟩
      have hz := fmod_in d3 zpos
      refine ⟨_, _, rfl, rfl, by show 3 ≤ sizeLine; decide, fun v nv => ?_⟩
      have sg := (same_upd (o := .lst [.int 3, .int 3, .int 3, .int 3, .int 1000, .int 25000000]) ng).trans (same_upd (o := .tup [.int d0, .int ((d0 + 1 + d1).fmod n), .int (1 + d3.fmod zz)]) nv)
      refine ⟨e, vs, _, rfl, rfl, sg _ _ eT, by rw [tV.1]; exact small1000 (by omega), ⟨_, _, _, rfl⟩, l' ++ [(d0, (d0 + 1 + d1).fmod n, 1 + d3.fmod zz)], ?_, ?_⟩
      · rw [List.length_append]
        show _ + 1 ≤ _
        omega
      · exact W3.add sg (sg _ _ eT) (tV.same sg) upd_same ⟨⟨h0.1, h0.2, hoth.1, hoth.2.1, hoth.2.2, by show (1 : Int) ≤ 1 + d3.fmod zz; omega⟩, by show 1 + d3.fmod zz ≤ 25000000; omega⟩
    · obtain ⟨⟨y3, y4, y5, rfl⟩, l', hl', W'⟩ := pv
      exact qC e l' y3 y4 y5 H2 W' (by omega)
end
end Own

namespace Own
open PySem PySem.Spec PyProof.Rows L2
section
variable {X : Cx}
theorem op_mul_str : OpR X (binaryOp .Mult) (fun x y H Q => ∃ z n, x = .str z ∧ y = .int n ∧ MulOk z n ∧ Q (.str (Txt.mul z n)) H) := by
  intro pins s σ H x y v u Q I rx ry h
  obtain ⟨z, n, rfl, rfl, ok, q⟩ := h
  obtain ⟨t, rfl⟩ := rx
  obtain ⟨t', rfl⟩ := ry
  exact SB.mul ok (fun t' k => ⟨.str _, H, I.tok _, ⟨_, rfl⟩, q⟩)
end
theorem mulok {z : Str} {n : Int} (hz : z.length = 1) (h0 : 0 ≤ n) (h1 : n ≤ 1000) : MulOk z n := by
  refine ⟨?_, fun a _ => ?_, fun a _ => ?_⟩
  · rw [decide_eq_false (by omega), decide_eq_false (by omega)]
    rfl
  · rw [hz]
    have h2 : (2 : Int) ≤ (2 ^ 63 - 1) / n := (Int.le_ediv_iff_mul_le (by omega)).mpr (by omega)
    show ¬ ((1 : Nat) : Int) > (2 ^ 63 - 1) / n
    omega
  · rw [hz]
    unfold Builtin.Str.tooLong
    refine decide_eq_false ?_
    have : (1000 : Nat) ≤ sizeLine := by decide
    omega
/-! ### what may stand in a table of the law's -/
def NwE (K : PySem.W.Frag) (H : Hp) (x : V) : Prop := NotWh K H x ∧ EqV 1 H x x
theorem NwE.same {K : PySem.W.Frag} {H H' : Hp} {x : V} (s : Same H H') (h : NwE K H x) : NwE K H' x := ⟨h.1.same s, h.2.same s⟩
def ItX (K : PySem.W.Frag) (H : Hp) (b : Int) (x : V) : Prop := (∃ k : Int, x = .int k ∧ -b ≤ k ∧ k ≤ b) ∨ NwE K H x
theorem ItX.same {K : PySem.W.Frag} {H H' : Hp} {b : Int} {x : V} (s : Same H H') (h : ItX K H b x) : ItX K H' b x := h.elim .inl fun n => .inr (n.same s)
theorem ItX.le {K : PySem.W.Frag} {H : Hp} {b c : Int} {x : V} (l : b ≤ c) (h : ItX K H b x) : ItX K H c x := h.elim (fun ⟨k, e, h0, h1⟩ => .inl ⟨k, e, by omega, by omega⟩) .inr
/-- what is new since H -/
def fr (H H' : Hp) : Hp := fun c => match H c with
  | none => H' c
  | some _ => none
theorem fr_at {H H' : Hp} {c : Addr} {o : HO} (n : H c = none) (e : H' c = some o) : fr H H' c = some o := by
  unfold fr
  rw [n]
  exact e
theorem fr_same {H H1 H2 : Hp} (s : Same H1 H2) : Same (fr H H1) (fr H H2) := fun c o e => by
  unfold fr at e ⊢
  cases h : H c with
  | none =>
    rw [h] at e
    exact s _ _ e
  | some x =>
    rw [h] at e
    cases e
def UX (K : PySem.W.Frag) (H : Hp) (u : V) : Prop := NotSq K H u ∧ EqV 1 H u u
theorem UX.same {K : PySem.W.Frag} {H H' : Hp} {x : V} (s : Same H H') (h : UX K H x) : UX K H' x := ⟨h.1.same s, h.2.same s⟩
section
variable {K : PySem.W.Frag} {H : Hp}
theorem nwe_bl (b : Bool) : NwE K H (.bl b) := ⟨⟨"bool", .base (.bl b), by decide⟩, EqV.bl b⟩
theorem nwe_non : NwE K H .non := ⟨⟨"NoneType", .base .non, by decide⟩, EqV.non⟩
theorem nwe_str (z : Str) : NwE K H (.str z) := ⟨⟨"str", .base (.str z), by decide⟩, EqV.str z⟩
theorem eqv_ints {p : Addr} {ns : List Int} (h : H p = some (.lst (ns.map V.int)) ∨ H p = some (.tup (ns.map V.int))) (hl : ns.length ≤ 1000) : EqV 1 H (.ref p) (.ref p) := by
  refine .inr ⟨p, p, ns.map V.int, ns.map V.int, rfl, rfl, h.elim (fun e => .inr ⟨e, e⟩) (fun e => .inl ⟨e, e⟩), rfl, by rw [List.length_map]; exact hl, fun k x y hx hy => ?_⟩
  rw [hx] at hy
  cases hy
  rw [List.getElem?_map] at hx
  cases e : ns[k]? with
  | none => rw [e] at hx; cases hx
  | some i =>
    rw [e] at hx
    cases hx
    exact EqV.int i
theorem nwe_lst {p : Addr} {ns : List Int} (h : H p = some (.lst (ns.map V.int))) (hl : ns.length ≤ 1000) : NwE K H (.ref p) := ⟨⟨"list", .base (.lst h), by decide⟩, eqv_ints (.inl h) hl⟩
theorem nwe_tup {p : Addr} {ns : List Int} (h : H p = some (.tup (ns.map V.int))) (hl : ns.length ≤ 1000) : NwE K H (.ref p) := ⟨⟨"tuple", .base (.tup h), by decide⟩, eqv_ints (.inr h) hl⟩
theorem ux_int (i : Int) : UX K H (.int i) := ⟨⟨"int", .base (.int i), by decide⟩, EqV.int i⟩
theorem ux_bl (b : Bool) : UX K H (.bl b) := ⟨⟨"bool", .base (.bl b), by decide⟩, EqV.bl b⟩
theorem ux_non : UX K H .non := ⟨⟨"NoneType", .base .non, by decide⟩, EqV.non⟩
theorem ux_str (z : Str) : UX K H (.str z) := ⟨⟨"str", .base (.str z), by decide⟩, EqV.str z⟩
theorem ux_dict {p : Addr} {kvs : List (Key × V)} (h : H p = some (.dK kvs)) (ok : DOk kvs) : UX K H (.ref p) := ⟨⟨"dict", .base (.dK h), by decide⟩, EqV.le (d := 0) (.inr (.inr (.inr (.inr ⟨p, _, rfl, rfl, h, ok⟩)))) (by decide)⟩
theorem six {d : Int} (h0 : 0 ≤ d) (h1 : d < 6) : d = ((0 : Nat) : Int) ∨ d = ((1 : Nat) : Int) ∨ d = ((2 : Nat) : Int) ∨ d = ((3 : Nat) : Int) ∨ d = ((4 : Nat) : Int) ∨ d = ((5 : Nat) : Int) := by omega
end
section
variable {P : Program} {w : World} {K : PySem.W.Frag} {mg : Str → Option Value} {base : Heap} {C : Addr}
def spStrange (K : PySem.W.Frag) : Sp := fun vs H Q _ => ∃ v b : Int, vs = [.int v, .int b] ∧ -(2 ^ 64) < v ∧ v < 2 ^ 64 ∧ ∀ H' x, Same H H' → NwE K (fr H H') x → Q x H'
theorem ok_strange {f : Addr} {fd : FuncData} (F : Fun K "_law_strange" "_law_strange" s__law_strange f fd) (T : Bi mg) : FnOk P w K mg base CX0 1 f fd ["_law_value", "_law_by"] (spStrange K) := by
  refine F.ok sc__law_strange (fun vs H Q E h => ?_) (fun cdv A outer s H vs Q E hr h => ?_)
  · obtain ⟨v, b, rfl, _⟩ := h
    rfl
  · obtain ⟨v, b, rfl, v0, v1, q⟩ := h
    refine ⟨_, (pss_one (ps_ret (pe_ix (r := rIxL K) ix_list (pe_lst (pa_cons (pe_cmpR op_eq (pv 0) pe_int (nomark _)) (pa_cons pe_non (pa_cons (pe_callTy call_str_int (by rfl) T.b_str (by decide +kernel) (pa_cons (pv 0) pa_nil)) (pa_cons (pe_tup (pa_cons (pv 0) pa_nil)) (pa_cons (pe_lst (pa_cons (pv 0) pa_nil)) (pa_cons (pe_cmpR op_eq (pv 0) pe_int (nomark _)) pa_nil))))))) (pe_op op_mod (pe_callTy call_int1 (by rfl) T.b_int (by decide +kernel) (pa_cons (pv 1) pa_nil)) pe_int) (fun _ _ => rfl)))), ?_⟩
    refine ⟨_, rfl, rfl, _, rfl, v, rfl, Nat.lt_of_lt_of_le (log_lt (k := 64) (by decide) (by omega)) (by decide), ?_⟩
    refine ⟨_, rfl, by show 1 ≤ sizeLine; decide, fun p np => ?_⟩
    refine ⟨_, rfl, by show 1 ≤ sizeLine; decide, fun p2 np2 => ?_⟩
    refine ⟨_, rfl, rfl, by show 6 ≤ sizeLine; decide, fun p3 np3 => ?_⟩
    have e1 := (same_upd (o := .lst [.bl (decide (V.int v = V.int 1)), .non, .str (Str.ofString (toString v)), .ref p, .ref p2, .bl (decide (V.int v = V.int 0))]) np3) _ _ ((same_upd (o := .lst [.int v]) np2) _ _ (upd_same (H := H) (a := p) (o := .tup [.int v])))
    have e2 := (same_upd (o := .lst [.bl (decide (V.int v = V.int 1)), .non, .str (Str.ofString (toString v)), .ref p, .ref p2, .bl (decide (V.int v = V.int 0))]) np3) _ _ (upd_same (H := upd H p (.tup [.int v])) (a := p2) (o := .lst [.int v]))
    have sm := ((same_upd (o := .tup [.int v]) np).trans (same_upd (o := .lst [.int v]) np2)).trans (same_upd (o := .lst [.bl (decide (V.int v = V.int 1)), .non, .str (Str.ofString (toString v)), .ref p, .ref p2, .bl (decide (V.int v = V.int 0))]) np3)
    obtain ⟨x, ex, hx⟩ : ∃ x, atI [.bl (decide (V.int v = V.int 1)), .non, .str (Str.ofString (toString v)), .ref p, .ref p2, .bl (decide (V.int v = V.int 0))] (b % 6) = some x ∧ NwE K (fr H (upd (upd (upd H p (.tup [.int v])) p2 (.lst [.int v])) p3 (.lst [.bl (decide (V.int v = V.int 1)), .non, .str (Str.ofString (toString v)), .ref p, .ref p2, .bl (decide (V.int v = V.int 0))]))) x := by
      rcases six (Int.emod_nonneg b (show (6 : Int) ≠ 0 by decide)) (Int.emod_lt_of_pos b (show (0 : Int) < 6 by decide)) with e | e | e | e | e | e <;> rw [e]
      · exact ⟨_, atI_nat rfl, nwe_bl _⟩
      · exact ⟨_, atI_nat rfl, nwe_non⟩
      · exact ⟨_, atI_nat rfl, nwe_str _⟩
      · exact ⟨_, atI_nat rfl, nwe_tup (ns := [v]) (fr_at np e1) (by show 1 ≤ 1000; decide)⟩
      · exact ⟨_, atI_nat rfl, nwe_lst (ns := [v]) (fr_at ((same_upd np).free np2) e2) (by show 1 ≤ 1000; decide)⟩
      · exact ⟨_, atI_nat rfl, nwe_bl _⟩
    exact ⟨_, rfl, .inl ⟨_, rfl, _, _, rfl, rfl, by show (0 : Int) < 6; decide, p3, _, _, _, rfl, rfl, .inl (.inl upd_same), ex, q _ _ sm hx⟩⟩
def spNoRow (K : PySem.W.Frag) : Sp := fun vs H Q _ => ∃ z b : Int, vs = [.int z, .int b] ∧ 0 ≤ z ∧ z ≤ 1000 ∧ ∀ H' x, Same H H' → UX K (fr H H') x → Q x H'
theorem ok_norow {f : Addr} {fd : FuncData} (F : Fun K "_law_no_row" "_law_no_row" s__law_no_row f fd) (T : Bi mg) : FnOk P w K mg base CX0 1 f fd ["_law_size", "_law_by"] (spNoRow K) := by
  refine F.ok sc__law_no_row (fun vs H Q E h => ?_) (fun cdv A outer s H vs Q E hr h => ?_)
  · obtain ⟨v, b, rfl, _⟩ := h
    rfl
  · obtain ⟨v, b, rfl, v0, v1, q⟩ := h
    refine ⟨_, (pss_one (ps_ret (pe_ix (r := rIxL K) ix_list (pe_lst (pa_cons pe_non (pa_cons pe_int (pa_cons pe_bl (pa_cons (pe_op op_mul_str pe_str (pv 0)) (pa_cons (pe_disp (pps_cons pe_int pe_int pps_nil) (by rfl) (by rfl) (by simp) (by decide)) (pa_cons pe_str pa_nil))))))) (pe_op op_mod (pe_callTy call_int1 (by rfl) T.b_int (by decide +kernel) (pa_cons (pv 1) pa_nil)) pe_int) (fun _ _ => rfl)))), ?_⟩
    refine ⟨_, rfl, _, v, rfl, rfl, mulok (by decide +kernel) v0 v1, ?_⟩
    refine fun p np => ⟨upd_same, [(.inl 0, .int 0)], rfl, by show 1 ≤ 15; decide, ?_⟩
    rw [upd_upd]
    refine ⟨by show 6 ≤ sizeLine; decide, fun p3 np3 => ?_⟩
    generalize hd : mergeK [] [(.inl 0, V.int 0)] = kvs
    have ok : DOk kvs := by
      subst hd
      intro q hq
      have : q = (.inl 0, V.int 0) := List.mem_singleton.mp hq
      subst this
      exact ⟨rfl, .inl rfl⟩
    rw [hd] at np3
    generalize Txt.mul (Str.ofString "0") v = zz at np3 ⊢
    obtain ⟨xs, exs⟩ : ∃ xs, [V.non, .int 0, .bl true, .str zz, .ref p, .str (Str.ofString "")] = xs := ⟨_, rfl⟩
    rw [exs]
    have ed := (same_upd (o := .lst xs) np3) _ _ (upd_same (H := H) (a := p) (o := .dK kvs))
    have sm := (same_upd (o := .dK kvs) np).trans (same_upd (o := .lst xs) np3)
    obtain ⟨x, ex, hx⟩ : ∃ x, atI xs (b % 6) = some x ∧ UX K (fr H (upd (upd H p (.dK kvs)) p3 (.lst xs))) x := by
      rw [← exs] at ed ⊢
      rcases six (Int.emod_nonneg b (show (6 : Int) ≠ 0 by decide)) (Int.emod_lt_of_pos b (show (0 : Int) < 6 by decide)) with e | e | e | e | e | e <;> rw [e]
      · exact ⟨_, atI_nat rfl, ux_non⟩
      · exact ⟨_, atI_nat rfl, ux_int _⟩
      · exact ⟨_, atI_nat rfl, ux_bl _⟩
      · exact ⟨_, atI_nat rfl, ux_str _⟩
      · exact ⟨_, atI_nat rfl, ux_dict (fr_at np ed) ok⟩
      · exact ⟨_, atI_nat rfl, ux_str _⟩
    exact ⟨_, rfl, .inl ⟨_, rfl, _, _, rfl, rfl, by show (0 : Int) < 6; decide, p3, _, _, _, rfl, rfl, .inl (.inl upd_same), ex, q _ _ sm hx⟩⟩
def spBehind (K : PySem.W.Frag) : Sp := fun vs H Q _ => ∃ z b : Int, vs = [.int z, .int b] ∧ 0 ≤ z ∧ z ≤ 1000 ∧ ∀ H' p xs, Same H H' → H' p = some (.lst xs) → xs.length ≤ 2 → (∀ x ∈ xs, ItX K (fr H H') 1 x) → Q (.ref p) H'
theorem ok_behind {f : Addr} {fd : FuncData} (F : Fun K "_law_behind" "_law_behind" s__law_behind f fd) (T : Bi mg) : FnOk P w K mg base CX0 1 f fd ["_law_size", "_law_by"] (spBehind K) := by
  refine F.ok sc__law_behind (fun vs H Q E h => ?_) (fun cdv A outer s H vs Q E hr h => ?_)
  · obtain ⟨v, b, rfl, _⟩ := h
    rfl
  · obtain ⟨v, b, rfl, v0, v1, q⟩ := h
    refine ⟨_, (pss_one (ps_ret (pe_ix (r := rIxL K) ix_list (pe_lst (pa_cons (pe_lst (pa_cons pe_int pa_nil)) (pa_cons (pe_lst (pa_cons pe_int (pa_cons pe_int pa_nil))) (pa_cons (pe_lst (pa_cons pe_int pa_nil)) (pa_cons (pe_lst (pa_cons pe_non pa_nil)) (pa_cons (pe_lst (pa_cons pe_bl pa_nil)) (pa_cons (pe_lst (pa_cons (pe_lc (own := [("_law_k", 2)]) (g := gName 2) (tt := tYes) rfl sc__law_behind.nd (pi_range1 (by rfl) T.b_range (pa_cons (pv 0) pa_nil)) (blkOk_by (own := [("_law_k", 2)]) (N := ["_law_size", "_law_by", "_law_k"]) (sc := defScope s__law_behind) (by decide +kernel)) (fun _ _ _ _ _ => (pg_name (i := 2) sc__law_behind.nd rfl (.inl rfl))) (fun _ _ _ _ _ => pts_nil) (fun _ _ _ _ _ => pe_int)) pa_nil)) pa_nil))))))) (pe_op op_mod (pe_callTy call_int1 (by rfl) T.b_int (by decide +kernel) (pa_cons (pv 1) pa_nil)) pe_int) (fun _ _ => rfl)))), ?_⟩
    refine ⟨by show 1 ≤ sizeLine; decide, fun p0 n0 => ⟨by show 2 ≤ sizeLine; decide, fun p1 n1 => ⟨by show 1 ≤ sizeLine; decide, fun p2 n2 => ⟨by show 1 ≤ sizeLine; decide, fun p3 n3 => ⟨by show 1 ≤ sizeLine; decide, fun p4 n4 => ?_⟩⟩⟩⟩⟩
    have E0' := upd_same (H := H) (a := p0) (o := .lst [.int 0])
    have S0 := same_upd (o := .lst [.int 0]) n0
    generalize upd H p0 (.lst [.int 0]) = H0 at *
    have E1' := upd_same (H := H0) (a := p1) (o := .lst [.int 0, .int 0])
    have S1 := same_upd (o := .lst [.int 0, .int 0]) n1
    generalize upd H0 p1 (.lst [.int 0, .int 0]) = H1 at *
    have E2' := upd_same (H := H1) (a := p2) (o := .lst [.int 1])
    have S2 := same_upd (o := .lst [.int 1]) n2
    generalize upd H1 p2 (.lst [.int 1]) = H2 at *
    have E3' := upd_same (H := H2) (a := p3) (o := .lst [.non])
    have S3 := same_upd (o := .lst [.non]) n3
    generalize upd H2 p3 (.lst [.non]) = H3 at *
    have E4' := upd_same (H := H3) (a := p4) (o := .lst [.bl true])
    have S4 := same_upd (o := .lst [.bl true]) n4
    generalize upd H3 p4 (.lst [.bl true]) = H4 at *
    refine ⟨_, rfl, v, rfl, by omega, by omega, fun D hD => ?_⟩
    refine lc_range (lo := 0) (n := v.toNat) (fun k H5 => H5 = upd H4 D (.lst ((gl v fun _ => 0).take k))) rfl (fun k H5 hk pv => ?_) (fun H5 pv => ?_)
    · subst pv
      refine ⟨rfl, ?_⟩
      refine ⟨_, upd_same, ?_, ?_⟩
      · rw [List.length_take, gl_len]
        exact Nat.lt_of_le_of_lt (Nat.min_le_right _ _) (small1000 (by omega))
      · rw [upd_upd, List.take_add_one]
        have : (gl v fun _ => 0)[k]? = some (.int 0) := by
          unfold gl
          rw [List.getElem?_map, List.getElem?_range hk]
          rfl
        rw [this]
        rfl
    subst pv
    rw [List.take_of_length_le (by rw [gl_len]; exact Nat.le_refl _)]
    have S5 := same_upd (o := .lst (gl v fun _ => 0)) hD
    have E5' : upd H4 D (.lst (gl v fun _ => 0)) D = some (.lst ((List.replicate v.toNat (0 : Int)).map V.int)) := by
      rw [upd_same]
      unfold gl
      congr 2
      rw [List.map_replicate, List.map_const', List.length_range]
    generalize upd H4 D (.lst (gl v fun _ => 0)) = H5 at *
    refine ⟨by show 1 ≤ sizeLine; decide, fun p5 n5 => ?_⟩
    have E6' := upd_same (H := H5) (a := p5) (o := .lst [.ref D])
    have S6 := same_upd (o := .lst [.ref D]) n5
    generalize upd H5 p5 (.lst [.ref D]) = H6 at *
    refine ⟨by show 6 ≤ sizeLine; decide, fun p6 n6 => ?_⟩
    have S7 := same_upd (o := .lst [.ref p0, .ref p1, .ref p2, .ref p3, .ref p4, .ref p5]) n6
    have E7' := upd_same (H := H6) (a := p6) (o := .lst [.ref p0, .ref p1, .ref p2, .ref p3, .ref p4, .ref p5])
    generalize upd H6 p6 (.lst [.ref p0, .ref p1, .ref p2, .ref p3, .ref p4, .ref p5]) = H7 at *
    have S57 := S6.trans S7
    have S47 := S5.trans S57
    have S37 := S4.trans S47
    have S27 := S3.trans S37
    have S17 := S2.trans S27
    have S07 := S1.trans S17
    have fD : H D = none := (S0.trans (S1.trans (S2.trans (S3.trans S4)))).free hD
    have one : ∀ k : Int, -1 ≤ k → k ≤ 1 → ItX K (fr H H7) 1 (.int k) := fun k h0 h1 => .inl ⟨k, rfl, h0, h1⟩
    obtain ⟨p, xs, ex, hp, l2, hx⟩ : ∃ p xs, atI [V.ref p0, .ref p1, .ref p2, .ref p3, .ref p4, .ref p5] (b % 6) = some (.ref p) ∧ H7 p = some (.lst xs) ∧ xs.length ≤ 2 ∧ ∀ x ∈ xs, ItX K (fr H H7) 1 x := by
      rcases six (Int.emod_nonneg b (show (6 : Int) ≠ 0 by decide)) (Int.emod_lt_of_pos b (show (0 : Int) < 6 by decide)) with e | e | e | e | e | e <;> rw [e]
      · exact ⟨_, _, atI_nat rfl, S07 _ _ E0', by decide, fun x hx => by rw [List.mem_singleton.mp hx]; exact one 0 (by decide) (by decide)⟩
      · exact ⟨_, _, atI_nat rfl, S17 _ _ E1', by decide, fun x hx => by
          simp only [List.mem_cons, List.not_mem_nil, or_false, or_self] at hx
          rw [hx]; exact one 0 (by decide) (by decide)⟩
      · exact ⟨_, _, atI_nat rfl, S27 _ _ E2', by show 1 ≤ 2; decide, fun x hx => by rw [List.mem_singleton.mp hx]; exact one 1 (by decide) (by decide)⟩
      · exact ⟨_, _, atI_nat rfl, S37 _ _ E3', by show 1 ≤ 2; decide, fun x hx => by rw [List.mem_singleton.mp hx]; exact .inr nwe_non⟩
      · exact ⟨_, _, atI_nat rfl, S47 _ _ E4', by show 1 ≤ 2; decide, fun x hx => by rw [List.mem_singleton.mp hx]; exact .inr (nwe_bl _)⟩
      · exact ⟨_, _, atI_nat rfl, S7 _ _ E6', by show 1 ≤ 2; decide, fun x hx => by rw [List.mem_singleton.mp hx]; exact .inr (nwe_lst (fr_at fD (S57 _ _ E5')) (by rw [List.length_replicate]; omega))⟩
    exact ⟨_, rfl, .inl ⟨_, rfl, _, _, rfl, rfl, by show (0 : Int) < 6; decide, p6, _, _, _, rfl, rfl, .inl (.inl E7'), ex, q _ _ _ (S0.trans S07) hp l2 hx⟩⟩
def spChanged : Sp := fun vs H Q _ => ∃ v y b B : Int, vs = [.int v, .int y, .int b] ∧ -B ≤ v ∧ v ≤ B ∧ B < 2 ^ 60 ∧ 0 ≤ b ∧ b ≤ 40000000 ∧ ∀ k : Int, -B ≤ k → k ≤ B + 80000001 → Q (.int k) H
theorem ok_changed {f : Addr} {fd : FuncData} (F : Fun K "_law_changed" "_law_changed" s__law_changed f fd) (T : Bi mg) : FnOk P w K mg base CX0 1 f fd ["_law_value", "_law_way", "_law_by"] spChanged := by
  refine F.ok sc__law_changed (fun vs H Q E h => ?_) (fun cdv A outer s H vs Q E hr h => ?_)
  · obtain ⟨v, y, b, B, rfl, _⟩ := h
    rfl
  · obtain ⟨v, y, b, B, rfl, v0, v1, vB, b0, b1, q⟩ := h
    refine ⟨_, (pss_cons (ps_set (i := 3) sc__law_changed.nd rfl (.inl rfl) (pe_op op_add (pv 0) (pe_op op_mul (pv 2) (pe_op op_add pe_int (pe_op op_mod (pe_callTy call_int1 (by rfl) T.b_int (by decide +kernel) (pa_cons (pv 1) pa_nil)) pe_int)))))
        (pss_cons (ps_set (i := 4) sc__law_changed.nd rfl (.inl rfl) (pe_op op_modN (pe_callTy call_int1 (by rfl) T.b_int (by decide +kernel) (pa_cons (pv 2) pa_nil)) (pe_callB (call_max2 rfl) (by rfl) T.b_max (by decide +kernel) (pa_cons (pe_op op_add (pv 0) pe_int) (pa_cons pe_int pa_nil)))))
        (pss_cons (ps_if (pt_cmpR op_lt (pv 1) pe_int (nomark _)) (pss_one (ps_ret (pe_op op_sub (pv 3) (pe_op op_mul (pe_op op_sub (pv 3) (pv 0)) (pe_callTy call_int1 (by rfl) T.b_int (by decide +kernel) (pa_cons (pe_cmpR op_gt (pv 3) (pe_op op_pow pe_int pe_int) (nomark _)) pa_nil)))))) pss_nil)
        (pss_one (ps_ret (pe_op op_add (pe_op op_sub (pv 0) (pv 4)) (pe_op op_mul (pe_op op_mod (pe_callTy call_int1 (by rfl) T.b_int (by decide +kernel) (pa_cons (pv 4) pa_nil)) pe_int) (pe_callTy call_int1 (by rfl) T.b_int (by decide +kernel) (pa_cons (pe_cmpR op_eq (pv 1) pe_int (nomark _)) pa_nil))))))))), ?_⟩
    refine ⟨_, rfl, _, rfl, _, rfl, .inl ⟨_, rfl, _, _, rfl, rfl, by show (0 : Int) < 2; decide, _, _, rfl, rfl, _, _, rfl, rfl, .inl ⟨by omega, by omega⟩, _, _, rfl, rfl, ?_⟩⟩
    have hd : 0 ≤ b * (1 + y % 2) ∧ b * (1 + y % 2) ≤ 80000000 := by
      have : y % 2 = 0 ∨ y % 2 = 1 := by omega
      rcases this with e | e <;> rw [e] <;> omega
    generalize b * (1 + y % 2) = d at hd
    have hh := lo_hi (v + 1) 1
    have hz : 0 < hi (v + 1) 1 := by omega
    refine ⟨_, rfl, .inl ⟨_, rfl, _, rfl, _, _, rfl, rfl, v + 1, 1, rfl, _, _, rfl, rfl, Int.ne_of_gt hz, ?_⟩⟩
    have hf := fmod_in b hz
    have ehi : (if (1 : Int) > v + 1 then 1 else v + 1) = hi (v + 1) 1 := rfl
    dsimp only [tSeq, tAsg, gName]
    rw [ehi]
    generalize b.fmod (hi (v + 1) 1) = l at hf ⊢
    refine ⟨_, rfl, y, 2, rfl, rfl, _, rfl, ite2 (fun e => ?_) (fun e => ?_)⟩
    · refine ⟨_, rfl, _, rfl, _, rfl, _, _, rfl, rfl, _, rfl, _, _, rfl, rfl, ⟨by decide, by decide, by decide⟩, _, _, rfl, rfl, .inr ⟨_, rfl, _, _, rfl, rfl, .inl ⟨by omega, by omega⟩, _, _, rfl, rfl, ?_⟩⟩
      refine q _ ?_ ?_ <;> split <;> omega
    · refine ⟨_, rfl, _, rfl, _, _, rfl, rfl, _, rfl, .inl ⟨_, rfl, _, _, rfl, rfl, by show (0 : Int) < 2; decide, _, rfl, rfl, .inr ⟨_, rfl, _, _, rfl, rfl, .inl ⟨by omega, by omega⟩, _, _, rfl, rfl, ?_⟩⟩⟩
      refine q _ ?_ ?_ <;> split <;> omega
end
end Own

namespace Own
open PySem PySem.Spec PyProof.Rows L2
theorem small2000 {n : Nat} (h : n ≤ 2000) : n < sizeLine := Nat.lt_of_le_of_lt h (by decide)
section
variable {P : Program} {w : World} {K : PySem.W.Frag} {mg : Str → Option Value} {base : Heap} {C : Addr}
def spDigsW (K : PySem.W.Frag) : Sp := fun vs H Q _ => ∃ (c : Int) (b : Addr) (szs : List Int), vs = [.int c, .ref b] ∧ SqL K H b (szs.map V.int) ∧ szs.length ≤ 2000 ∧ (∀ s ∈ szs, 0 < s ∧ s < 1073741824) ∧ ∀ H' p ds, Same H H' → H p = none → H' p = some (.lst (ds.map V.int)) → Digs ds szs → Q (.ref p) H'
theorem ok_digitsW {f : Addr} {fd : FuncData} (F : Fun K "_law_digits" "_law_digits" s__law_digits f fd) (T : Bi mg) : FnOk P w K mg base CX0 1 f fd ["_law_cell_here", "_law_sizes"] (spDigsW K) := by
  refine F.ok sc__law_digits (fun vs H Q E h => ?_) (fun cdv A outer s H vs Q E hr h => ?_)
  · obtain ⟨c, b, szs, rfl, _⟩ := h
    rfl
  · obtain ⟨c, b, szs, rfl, hb, hl, hsz, q⟩ := h
    refine ⟨_, (pss_cons (ps_set (i := 2) sc__law_digits.nd rfl (.inl rfl) (pe_lst pa_nil))
        (pss_cons (ps_set (i := 3) sc__law_digits.nd rfl (.inl rfl) (pe_callTy call_int1 (by rfl) T.b_int (by decide +kernel) (pa_cons (pv 0) pa_nil)))
        (pss_cons (ps_if (pt_cmpR op_ge (pv 3) (pe_op op_pow pe_int pe_int) (nomark _)) (pss_cons (ps_set (i := 3) sc__law_digits.nd rfl (.inl rfl) (pe_op op_sub (pv 3) (pe_op op_pow pe_int pe_int)))
        (pss_cons (ps_for PassesOwn.never rfl (pi_list (pv 1)) (pg_name (i := 6) sc__law_digits.nd rfl (.inl rfl))
        (pss_cons (ps_expr (pe_bm PySem.F.plainAttrs_list PySem.F.slot_list_append PySem.F.type_list_append mt_append (pv 2) (pa_cons (pe_op op_modN (pe_callTy call_int1 (by rfl) T.b_int (by decide +kernel) (pa_cons (pv 3) pa_nil)) (pv 6)) pa_nil)))
        (pss_one (ps_set (i := 3) sc__law_digits.nd rfl (.inl rfl) (pe_op op_fdivN (pe_callTy call_int1 (by rfl) T.b_int (by decide +kernel) (pa_cons (pv 3) pa_nil)) (pv 6))))))
        (pss_one (ps_ret (pv 2))))) pss_nil)
        (pss_cons (ps_set (i := 4) sc__law_digits.nd rfl (.inl rfl) (pe_op op_mod (pe_callTy call_int1 (by rfl) T.b_int (by decide +kernel) (pa_cons (pv 3) pa_nil)) pe_int))
        (pss_cons (ps_for PassesOwn.never rfl (pi_range1 (by rfl) T.b_range (pa_cons (pe_callB call_len_seq (by rfl) T.b_len PySem.boot_len (pa_cons (pv 1) pa_nil)) pa_nil)) (pg_name (i := 5) sc__law_digits.nd rfl (.inl rfl))
        (pss_cons (ps_set (i := 4) sc__law_digits.nd rfl (.inl rfl) (pe_op op_mod (pe_callTy call_int1 (by rfl) T.b_int (by decide +kernel) (pa_cons (pe_op op_add (pe_op op_add (pe_op op_mul (pv 4) pe_int) (pe_op op_mul pe_int (pv 5))) pe_int) pa_nil)) pe_int))
        (pss_cons (ps_set (i := 7) sc__law_digits.nd rfl (.inl rfl) (pe_op op_mod (pe_callTy call_int1 (by rfl) T.b_int (by decide +kernel) (pa_cons (pe_op op_mul (pv 4) (pe_op op_add (pe_op op_fdiv (pv 4) pe_int) pe_int)) pa_nil)) pe_int))
        (pss_one (ps_expr (pe_bm PySem.F.plainAttrs_list PySem.F.slot_list_append PySem.F.type_list_append mt_append (pv 2) (pa_cons (pe_op op_modN (pe_op op_fdiv (pv 7) pe_int) (pe_ix (r := rIxL K) ix_list (pv 1) (pv 5) (fun _ _ => rfl))) pa_nil)))))))
        (pss_one (ps_ret (pv 2)))))))), ?_⟩
    refine ⟨Nat.zero_le _, fun p np => ?_⟩
    have sp : Same H (upd H p (.lst [])) := same_upd np
    refine ⟨_, rfl, .inl ⟨_, rfl, ?_⟩⟩
    refine ⟨_, rfl, _, _, rfl, rfl, ⟨by decide, by decide, by decide⟩, _, _, rfl, rfl, _, rfl, ite2 (fun e => ?_) (fun e => ?_)⟩
    · refine ⟨_, rfl, _, _, rfl, rfl, ⟨by decide, by decide, by decide⟩, _, _, rfl, rfl, ?_⟩
      refine ⟨_, rfl, b, rfl, ⟨_, sp.seq hb⟩, for_list (xs := szs.map V.int) (fun i σ H' => (∃ (z : Int) (ds : List Int) (y4 y5 y6 y7 : Option V), σ = [some (.int c), some (.ref b), some (.ref p), some (.int z), y4, y5, y6, y7] ∧ H' = upd H p (.lst (ds.map V.int)) ∧ Digs ds (szs.take i))) ⟨_, [], _, _, _, _, rfl, rfl, rfl, fun j d s h => by simp at h⟩ (fun i σ H' _ p => by obtain ⟨_, _, _, _, _, _, _, rfl, _⟩ := p; exact (same_upd np).seq hb) (fun i x σ H' hx pv => ?_) (fun σ H' pv => ?_)⟩
      · obtain ⟨z, ds, y4, y5, y6, y7, rfl, rfl, dg⟩ := pv
        obtain ⟨sz, rfl, hsi⟩ := int_at hx
        have hs := hsz sz (List.mem_of_getElem? hsi)
        have hi : i < szs.length := (List.getElem?_eq_some_iff.mp hsi).1
        refine ⟨_, rfl, .inl ⟨rfl, _, .inl (.inl upd_same)⟩, _, rfl, .inl ⟨_, rfl, _, rfl, _, _, rfl, rfl, by omega, p, _, _, rfl, rfl, upd_same, ?_, ?_⟩⟩
        · rw [List.length_map, dg.1, List.length_take]
          exact Nat.lt_of_le_of_lt (Nat.min_le_right _ _) (small2000 hl)
        refine ⟨_, rfl, .inl ⟨_, rfl, _, rfl, _, _, rfl, rfl, ⟨by omega, by omega⟩, ?_⟩⟩
        have hm := fmod_in z hs.1
        refine ⟨_, ds ++ [z.fmod sz], _, _, _, _, rfl, ?_, dg.snoc hsi hm.1 hm.2⟩
        rw [upd_upd, List.map_append]
        rfl
      · obtain ⟨z, ds, y4, y5, y6, y7, rfl, rfl, dg⟩ := pv
        rw [List.length_map, List.take_length] at dg
        exact ⟨_, rfl, q _ p ds (same_upd np) np upd_same dg⟩
    · refine ⟨_, rfl, .inl ⟨_, rfl, _, _, rfl, rfl, by show (0 : Int) < 2147483629; decide, ?_⟩⟩
      refine ⟨_, rfl, b, _, rfl, .inl (sp.seq hb), _, rfl, by omega, by rw [List.length_map]; omega, ?_⟩
      rw [show ((szs.map V.int).length : Int).toNat = szs.length by rw [List.length_map]; omega]
      refine for_range (lo := 0) (n := szs.length) (fun i σ H' => (∃ (z : Int) (ds : List Int) (y3 y4 y6 y7 : Option V), 0 ≤ z ∧ z < 2147483647 ∧ σ = [some (.int c), some (.ref b), some (.ref p), y3, some (.int z), y4, y6, y7] ∧ H' = upd H p (.lst (ds.map V.int)) ∧ Digs ds (szs.take i))) ⟨_, [], _, _, _, _, Int.emod_nonneg _ (by decide), Int.lt_of_lt_of_le (Int.emod_lt_of_pos _ (by decide)) (by decide), rfl, rfl, rfl, fun j d s h => by simp at h⟩ (fun i σ H' hi pv => ?_) (fun σ H' pv => ?_)
      · obtain ⟨z, ds, y3, y4, y6, y7, z0, z1, rfl, rfl, dg⟩ := pv
        have hsi : szs[i]? = some szs[i] := List.getElem?_eq_getElem hi
        have hs := hsz szs[i] (List.mem_of_getElem? hsi)
        generalize szs[i] = sz at hsi hs
        refine ⟨_, rfl, _, _, rfl, rfl, .inl ⟨by omega, by omega⟩, _, rfl, _, _, rfl, rfl, .inl ⟨by decide, by decide⟩, _, _, rfl, rfl, _, _, rfl, rfl, .inl ⟨_, rfl, _, _, rfl, rfl, by show (0 : Int) < 2147483647; decide, ?_⟩⟩
        generalize hz : (z * 48271 + 974711 * (0 + (i : Int)) + 12345) % 2147483647 = z2
        have z20 : 0 ≤ z2 := by rw [← hz]; exact Int.emod_nonneg _ (by decide)
        have z21 : z2 < 2147483647 := by rw [← hz]; exact Int.emod_lt_of_pos _ (by decide)
        refine ⟨_, rfl, _, rfl, _, _, rfl, rfl, ⟨by decide, by decide⟩, _, _, rfl, rfl, _, _, rfl, rfl, .inl ⟨?_, ?_⟩, .inl ⟨_, rfl, _, _, rfl, rfl, by show (0 : Int) < 2147483629; decide, ?_⟩⟩
        · show -(2 ^ 64) < (z * 48271 + 974711 * (0 + (i : Int)) + 12345) % 2147483647
          rw [hz]
          omega
        · show (z * 48271 + 974711 * (0 + (i : Int)) + 12345) % 2147483647 < 2 ^ 64
          rw [hz]
          omega
        refine ⟨_, rfl, .inl ⟨rfl, _, .inl (.inl upd_same)⟩, _, rfl, _, _, rfl, rfl, ⟨by decide, by decide⟩, _, rfl, _, rfl, b, _, _, _, rfl, rfl, (same_upd np).seq hb, at_of (j := i) (by omega) (by rw [List.getElem?_map, hsi]; rfl), _, _, rfl, rfl, by omega, p, _, _, rfl, rfl, upd_same, ?_, ?_⟩
        · rw [List.length_map, dg.1, List.length_take]
          exact Nat.lt_of_le_of_lt (Nat.min_le_right _ _) (small2000 hl)
        have hm := fun x : Int => fmod_in x hs.1
        refine ⟨_, ds ++ [((((z * 48271 + 974711 * (0 + (i : Int)) + 12345) % 2147483647) * (((z * 48271 + 974711 * (0 + (i : Int)) + 12345) % 2147483647) / 65537 + 3)) % 2147483629 / 19).fmod sz], _, _, _, _, ?_, ?_, rfl, ?_, dg.snoc hsi (hm _).1 (hm _).2⟩
        · exact Int.emod_nonneg _ (by decide)
        · exact Int.emod_lt_of_pos _ (by decide)
        · rw [upd_upd, List.map_append]
          rfl
      · obtain ⟨z, ds, y3, y4, y6, y7, z0, z1, rfl, rfl, dg⟩ := pv
        rw [List.take_length] at dg
        exact ⟨_, rfl, q _ p ds (same_upd np) np upd_same dg⟩
end
end Own

namespace Own
open PySem PySem.Spec PyProof.Rows L2
theorem gl_rep (z k : Int) : gl z (fun _ => k) = (List.replicate z.toNat k).map V.int := by
  unfold gl
  rw [List.map_replicate, List.map_const', List.length_range]
section
variable {P : Program} {w : World} {K : PySem.W.Frag} {mg : Str → Option Value} {base : Heap} {C : Addr}
def spFree (K : PySem.W.Frag) : Sp := fun vs H Q _ => ∃ c z t : Int, vs = [.int c, .int z, .int t] ∧ 1 ≤ z ∧ z ≤ 40 ∧ 0 ≤ t ∧ t ≤ 1000 ∧ ∀ H' p rr f, Same H H' → Grid H' p rr z z f → (∀ x y, 0 ≤ f x y ∧ f x y ≤ 4000) → Q (.ref p) H'
set_option maxHeartbeats 0 in
theorem ok_free {f : Addr} {fd : FuncData} (F : Fun K "_law_free" "_law_free" s__law_free f fd) (T : Bi mg) {f_d : Addr} {d_d : FuncData} (D_d : Df K mg "_law_digits" s__law_digits ["_law_cell_here", "_law_sizes"] f_d d_d) (G_d : FnOk P w K mg base CX0 1 f_d d_d ["_law_cell_here", "_law_sizes"] (spDigsW K)) : FnOk P w K mg base CX0 2 f fd ["_law_cell_here", "_law_size", "_law_times"] (spFree K) := by
  refine F.ok sc__law_free (fun vs H Q E h => ?_) (fun cdv A outer s H vs Q E hr h => ?_)
  · obtain ⟨c, z, t, rfl, _⟩ := h
    rfl
  · obtain ⟨c, z, t, rfl, z0, z1, t0, t1, q⟩ := h
    refine ⟨_, (pss_cons (ps_set (i := 3) sc__law_free.nd rfl (.inl rfl) (pe_call G_d hr (by rfl) D_d.g D_d.F.kp D_d.b .nil pass0 (pa_cons (pv 0) (pa_cons (pe_lc (own := [("_law_k", 7)]) (g := gName 7) (tt := tYes) rfl sc__law_free.nd (pi_range1 (by rfl) T.b_range (pa_cons (pe_op op_mul (pv 1) (pv 1)) pa_nil)) (blkOk_by (own := [("_law_k", 7)]) (N := ["_law_cell_here", "_law_size", "_law_times", "_law_draw", "_law_rows", "_law_i", "_law_j", "_law_k"]) (sc := defScope s__law_free) (by decide +kernel)) (fun _ _ _ _ _ => (pg_name (i := 7) sc__law_free.nd rfl (.inl rfl))) (fun _ _ _ _ _ => pts_nil) (fun _ _ _ _ _ => pe_int)) pa_nil))))
        (pss_cons (ps_setLc (i := 4) (own := [("_law_i", 5)]) (g := gName 5) (tt := tYes) rfl sc__law_free.nd rfl rfl (sw_true rfl rfl rfl (by decide +kernel)) (pi_range1 (by rfl) T.b_range (pa_cons (pv 1) pa_nil)) (blkOk_by (own := [("_law_i", 5)]) (N := ["_law_cell_here", "_law_size", "_law_times", "_law_draw", "_law_rows", "_law_i", "_law_j", "_law_k"]) (sc := defScope s__law_free) (by decide +kernel)) (fun _ _ _ _ _ => (pg_name (i := 5) sc__law_free.nd rfl (.inl rfl))) (fun _ _ _ _ _ => pts_nil) (fun _ _ _ _ _ => (show PE _ _ (tLc (iRng1 (tCons (tVar 1) tNil)) (gName 6) tYes (tC (.int 0)) [6]) from pe_lc (own := [("_law_j", 6)]) (g := gName 6) (tt := tYes) rfl sc__law_free.nd (pi_range1 (by rfl) T.b_range (pa_cons (pv 1) pa_nil)) (blkOk_by (own := [("_law_j", 6)]) (N := ["_law_cell_here", "_law_size", "_law_times", "_law_draw", "_law_rows", "_law_i", "_law_j", "_law_k"]) (sc := scI) (by decide +kernel)) (fun _ _ _ _ _ => pg_name (i := 6) sc__law_free.nd rfl (Or.inl rfl)) (fun _ _ _ _ _ => pts_nil) (fun _ _ _ _ _ => pe_int))))
        (pss_cons (ps_for PassesOwn.never rfl (pi_range1 (by rfl) T.b_range (pa_cons (pv 1) pa_nil)) (pg_name (i := 5) sc__law_free.nd rfl (.inl rfl))
        (pss_one (ps_for PassesOwn.never rfl (pi_range1 (by rfl) T.b_range (pa_cons (pv 5) pa_nil)) (pg_name (i := 6) sc__law_free.nd rfl (.inl rfl))
        (pss_cons (ps_asg (pe_op op_mul (pe_ix (r := rIxL K) ix_list (pv 3) (pe_op op_add (pe_op op_mul (pv 5) (pv 1)) (pv 6)) (fun _ _ => rfl)) (pv 2)) (pg_sub (pe_ix (r := rIxL K) ix_list (pv 4) (pv 5) (fun _ _ => rfl)) (pv 6) set_list))
        (pss_one (ps_asg (pe_op op_mul (pe_ix (r := rIxL K) ix_list (pv 3) (pe_op op_add (pe_op op_mul (pv 5) (pv 1)) (pv 6)) (fun _ _ => rfl)) (pv 2)) (pg_sub (pe_ix (r := rIxL K) ix_list (pv 4) (pv 6) (fun _ _ => rfl)) (pv 5) set_list)))))))
        (pss_one (ps_ret (pv 4)))))), ?_⟩
    have hzz : 1 ≤ z * z ∧ z * z ≤ 1600 := ⟨Int.mul_pos (by omega) (by omega), Int.le_trans (Int.mul_le_mul z1 z1 (by omega) (by decide)) (by decide)⟩
    refine ⟨_, rfl, _, rfl, _, rfl, _, _, rfl, rfl, .inl ⟨by omega, by omega⟩, z * z, rfl, by omega, by omega, fun D hD => ?_⟩
    refine lc_range (lo := 0) (n := (z * z).toNat) (fun k H5 => H5 = upd H D (.lst ((gl (z * z) fun _ => 4).take k))) rfl (fun k H5 hk pv => ?_) (fun H5 pv => ?_)
    · subst pv
      refine ⟨rfl, ?_⟩
      refine ⟨_, upd_same, ?_, ?_⟩
      · rw [List.length_take, gl_len]
        exact Nat.lt_of_le_of_lt (Nat.min_le_right _ _) (small2000 (by omega))
      · rw [upd_upd, List.take_add_one]
        have : (gl (z * z) fun _ => 4)[k]? = some (.int 4) := by
          unfold gl
          rw [List.getElem?_map, List.getElem?_range hk]
          rfl
        rw [this]
        rfl
    subst pv
    rw [List.take_of_length_le (by rw [gl_len]; exact Nat.le_refl _)]
    have sD : Same H (upd H D (.lst (gl (z * z) fun _ => 4))) := same_upd hD
    refine ⟨c, D, List.replicate (z * z).toNat 4, rfl, .inl (.inl (by rw [upd_same, gl_rep])), by rw [List.length_replicate]; omega, fun x hx => by rw [List.eq_of_mem_replicate hx]; decide, fun H1 p ds s1 np ep dg => ?_⟩
    have s01 := sD.trans s1
    clear sD s1 np hD
    have dlen : ds.length = (z * z).toNat := by rw [dg.1, List.length_replicate]
    have dat : ∀ i j : Int, 0 ≤ i → i < z → 0 ≤ j → j < z → ∃ d, atI (ds.map V.int) (i * z + j) = some (.int d) ∧ 0 ≤ d ∧ d < 4 := fun i j i0 i1 j0 j1 => by
      have h1 : 0 ≤ i * z := Int.mul_nonneg i0 (by omega)
      have h2 : (i + 1) * z ≤ z * z := Int.mul_le_mul_of_nonneg_right (by omega) (by omega)
      have h3 : (i + 1) * z = i * z + z := by rw [Int.add_mul, Int.one_mul]
      have hk : (i * z + j).toNat < ds.length := by omega
      have ek : i * z + j = (((i * z + j).toNat : Nat) : Int) := by omega
      generalize (i * z + j).toNat = m at hk ek
      rw [ek]
      exact ⟨ds[m], atI_nat (by rw [List.getElem?_map, List.getElem?_eq_getElem hk]; rfl), dg.2 m _ 4 (List.getElem?_eq_getElem hk) (by rw [List.getElem?_replicate, if_pos (by omega)])⟩
    refine ⟨_, rfl, z, rfl, by omega, by omega, fun R hR => ?_⟩
    refine lc_range (lo := 0) (n := z.toNat) (fun i H3 => ∃ rr, ZInv H1 R z i rr H3) ⟨[], same_upd hR, upd_same, rfl, List.nodup_nil, by simp, by simp, by simp⟩ (fun i H3 hi3 pv => ?_) (fun H3 pv => ?_)
    · obtain ⟨rr, zi⟩ := pv
      refine ⟨rfl, ?_⟩
      refine ⟨_, rfl, z, rfl, by omega, by omega, fun D hD => ?_⟩
      refine lc_range (lo := 0) (n := z.toNat) (fun k H4 => H4 = upd H3 D (.lst ((gl z fun _ => 0).take k))) rfl (fun k H4 hk pv => ?_) (fun H4 pv => ?_)
      · subst pv
        refine ⟨rfl, ?_⟩
        refine ⟨_, upd_same, ?_, ?_⟩
        · rw [List.length_take, gl_len]
          exact Nat.lt_of_le_of_lt (Nat.min_le_right _ _) (small1000 (by omega))
        · rw [upd_upd, List.take_add_one]
          have : (gl z fun _ => 0)[k]? = some (.int 0) := by
            unfold gl
            rw [List.getElem?_map, List.getElem?_range hk]
            rfl
          rw [this]
          rfl
      · subst pv
        rw [List.take_of_length_le (by rw [gl_len]; exact Nat.le_refl _)]
        have sA : Same H3 (upd H3 D (.lst (gl z fun _ => 0))) := same_upd hD
        refine ⟨_, sA _ _ zi.at_, ?_, _, zi.step hR sA hD upd_same⟩
        rw [List.length_map, zi.len]
        exact small1000 (by omega)
    obtain ⟨rr, zi⟩ := pv
    have gz : Grid H3 R rr z z (fun _ _ => 0) := ⟨zi.at_, zi.len, zi.nd, zi.out, fun j r e => zi.row j r e⟩
    refine ⟨_, rfl, z, rfl, by omega, by omega, for_range (lo := 0) (n := z.toNat) (fun i σ H4 => (∃ y5 y6 y7, σ = [some (.int c), some (.int z), some (.int t), some (.ref p), some (.ref R), y5, y6, y7]) ∧ Same H1 H4 ∧ ∃ f, Grid H4 R rr z z f ∧ ∀ x y, 0 ≤ f x y ∧ f x y ≤ 4000) ⟨⟨none, none, none, rfl⟩, zi.sm, _, gz, fun _ _ => ⟨by decide, by decide⟩⟩ (fun i σ H4 hi4 pv => ?_) (fun σ H4 pv => ?_)⟩
    · obtain ⟨⟨y5, y6, y7, rfl⟩, s4, f4, g4, b4⟩ := pv
      rw [Int.zero_add]
      refine ⟨_, rfl, (i : Int), rfl, by omega, by omega, for_range (lo := 0) (n := ((i : Nat) : Int).toNat) (fun j σ H4 => (∃ y6 y7, σ = [some (.int c), some (.int z), some (.int t), some (.ref p), some (.ref R), some (.int (i : Int)), y6, y7]) ∧ Same H1 H4 ∧ ∃ f, Grid H4 R rr z z f ∧ ∀ x y, 0 ≤ f x y ∧ f x y ≤ 4000) ⟨⟨_, _, rfl⟩, s4, _, g4, b4⟩ (fun j σ H4 hj4 pv => ?_) (fun σ H4 pv => ?_)⟩
      · obtain ⟨⟨y6, y7, rfl⟩, s4, f4, g4, b4⟩ := pv
        rw [Int.zero_add]
        obtain ⟨d, da, d0, d1⟩ := dat (i : Int) (j : Int) (by omega) (by omega) (by omega) (by omega)
        have hdt : 0 ≤ d * t ∧ d * t ≤ 4000 := ⟨Int.mul_nonneg d0 t0, Int.le_trans (Int.mul_le_mul (show d ≤ 4 by omega) t1 t0 (by decide)) (by decide)⟩
        refine ⟨_, rfl, _, rfl, _, rfl, _, _, rfl, rfl, .inl ⟨by omega, by omega⟩, _, rfl, _, _, rfl, rfl, p, _, _, _, rfl, rfl, .inl (.inl (s4 _ _ ep)), da, _, rfl, _, _, rfl, rfl, .inl ⟨by omega, by omega⟩, ?_⟩
        obtain ⟨r1, e1, a1, h1⟩ := g4.get (a := (i : Int)) (by omega) (by omega)
        refine ⟨_, rfl, _, rfl, R, _, _, _, rfl, rfl, .inl (.inl g4.at_), a1, _, rfl, r1, _, _, _, rfl, rfl, h1, gl_ix _ (by omega) (by omega), ?_⟩
        have g5 := g4.set (b := (j : Int)) (v := d * t) (by omega) (by omega) (by omega) e1
        have s5 := same_put (H1 := H1) (o := .lst ((gl z (f4 (i : Int))).set ((j : Nat) : Int).toNat (.int (d * t)))) (zi.fr r1 (List.mem_of_getElem? e1)) s4
        have b5 : ∀ x y, 0 ≤ (fun x y => if x = (i : Int) ∧ y = (j : Int) then d * t else f4 x y) x y ∧ (fun x y => if x = (i : Int) ∧ y = (j : Int) then d * t else f4 x y) x y ≤ 4000 := fun x y => by
          dsimp only
          split
          · exact hdt
          · exact b4 x y
        generalize (fun x y => if x = (i : Int) ∧ y = (j : Int) then d * t else f4 x y) = f5 at g5 b5
        generalize upd H4 r1 (.lst ((gl z (f4 (i : Int))).set ((j : Nat) : Int).toNat (.int (d * t)))) = H5 at g5 s5 ⊢
        refine ⟨_, rfl, _, rfl, _, rfl, _, _, rfl, rfl, .inl ⟨by omega, by omega⟩, _, rfl, _, _, rfl, rfl, p, _, _, _, rfl, rfl, .inl (.inl (s5 _ _ ep)), da, _, rfl, _, _, rfl, rfl, .inl ⟨by omega, by omega⟩, ?_⟩
        obtain ⟨r2, e2, a2, h2⟩ := g5.get (a := (j : Int)) (by omega) (by omega)
        refine ⟨_, rfl, _, rfl, R, _, _, _, rfl, rfl, .inl (.inl g5.at_), a2, _, rfl, r2, _, _, _, rfl, rfl, h2, gl_ix _ (by omega) (by omega), ?_⟩
        have g6 := g5.set (b := (i : Int)) (v := d * t) (by omega) (by omega) (by omega) e2
        refine ⟨⟨_, _, rfl⟩, same_put (H1 := H1) (zi.fr r2 (List.mem_of_getElem? e2)) s5, _, g6, fun x y => ?_⟩
        split
        · exact hdt
        · exact b5 x y
      · obtain ⟨⟨y6, y7, rfl⟩, s4, f4, g4, b4⟩ := pv
        exact ⟨⟨_, _, _, rfl⟩, s4, f4, g4, b4⟩
    · obtain ⟨⟨y5, y6, y7, rfl⟩, s4, f4, g4, b4⟩ := pv
      exact ⟨_, rfl, q _ _ _ _ (s01.trans s4) g4 b4⟩
end
end Own

namespace Own
open PySem PySem.Spec PyProof.Rows L2
/-! ### a heap without two lists that still change -/
def er (N R : Addr) (H : Hp) : Hp := fun c => if c = N ∨ c = R then none else H c
section
variable {N R : Addr} {H H' H1 H2 : Hp} {o : HO}
theorem er_at {c : Addr} {o : HO} (h : H c = some o) (n : c ≠ N) (r : c ≠ R) : er N R H c = some o := by
  unfold er
  rw [if_neg (fun z => z.elim n r)]
  exact h
theorem er_same (s : Same H H') : Same (er N R H) (er N R H') := fun c o e => by
  unfold er at e ⊢
  by_cases h : c = N ∨ c = R
  · rw [if_pos h] at e
    cases e
  · rw [if_neg h] at e ⊢
    exact s _ _ e
theorem er_le : Same (er N R H) H := fun c o e => by
  unfold er at e
  by_cases h : c = N ∨ c = R
  · rw [if_pos h] at e
    cases e
  · rw [if_neg h] at e
    exact e
theorem er_updN : er N R (upd H N o) = er N R H := by
  funext c
  unfold er
  by_cases h : c = N ∨ c = R
  · rw [if_pos h, if_pos h]
  · rw [if_neg h, if_neg h, upd_ne (fun z => h (.inl z))]
theorem er_updR : er N R (upd H R o) = er N R H := by
  funext c
  unfold er
  by_cases h : c = N ∨ c = R
  · rw [if_pos h, if_pos h]
  · rw [if_neg h, if_neg h, upd_ne (fun z => h (.inr z))]
theorem same_er (nN : H N = none) (nR : H R = none) (s : Same H H1) : Same H (er N R H1) := fun c o e => er_at (s _ _ e) (fun z => by rw [z, nN] at e; cases e) (fun z => by rw [z, nR] at e; cases e)
theorem fr_er {x y : HO} (eN : H1 N = some x) (eR : H1 R = some y) : Same (fr H1 H2) (er N R H2) := fun c o e => by
  unfold fr at e
  cases h : H1 c with
  | none =>
    rw [h] at e
    exact er_at e (fun z => by rw [z, eN] at h; cases h) (fun z => by rw [z, eR] at h; cases h)
  | some u =>
    rw [h] at e
    cases e
end
/-! ### a table of the law's: every row a list of items, or a value that is no sequence -/
def GoodRow (K : PySem.W.Frag) (H : Hp) (m : Nat) (b : Int) (v : V) : Prop := (∃ c ys, v = .ref c ∧ H c = some (.lst ys) ∧ ys.length ≤ m ∧ ∀ x ∈ ys, ItX K H b x) ∨ UX K H v
theorem GoodRow.same {K : PySem.W.Frag} {H H' : Hp} {m : Nat} {b : Int} {v : V} (s : Same H H') (h : GoodRow K H m b v) : GoodRow K H' m b v := h.elim (fun ⟨c, ys, e, h1, h2, h3⟩ => .inl ⟨c, ys, e, s _ _ h1, h2, fun x hx => (h3 x hx).same s⟩) fun u => .inr (u.same s)
theorem GoodRow.le {K : PySem.W.Frag} {H : Hp} {m m' : Nat} {b b' : Int} {v : V} (l : m ≤ m') (l' : b ≤ b') (h : GoodRow K H m b v) : GoodRow K H m' b' v := h.elim (fun ⟨c, ys, e, h1, h2, h3⟩ => .inl ⟨c, ys, e, h1, Nat.le_trans h2 l, fun x hx => (h3 x hx).le l'⟩) .inr
def TabX (K : PySem.W.Frag) (H : Hp) (m : Nat) (b : Int) (a : Addr) : Prop := ∃ ws, H a = some (.lst ws) ∧ ws.length ≤ m ∧ ∀ v ∈ ws, GoodRow K H m b v
theorem TabX.same {K : PySem.W.Frag} {H H' : Hp} {m : Nat} {b : Int} {a : Addr} (s : Same H H') (h : TabX K H m b a) : TabX K H' m b a := by
  obtain ⟨ws, e, l, g⟩ := h
  exact ⟨ws, s _ _ e, l, fun v hv => (g v hv).same s⟩
theorem TabX.le {K : PySem.W.Frag} {H : Hp} {m m' : Nat} {b b' : Int} {a : Addr} (l : m ≤ m') (l' : b ≤ b') (h : TabX K H m b a) : TabX K H m' b' a := by
  obtain ⟨ws, e, l2, g⟩ := h
  exact ⟨ws, e, Nat.le_trans l2 l, fun v hv => (g v hv).le l l'⟩
def RwB (K : PySem.W.Frag) (H : Hp) (m : Nat) (b : Int) : RwA → Prop
  | .inl ys => ys.length ≤ m ∧ ∀ x ∈ ys, ItX K H b x
  | .inr u => UX K H u
def RsB (K : PySem.W.Frag) (H : Hp) (m : Nat) (b : Int) (rs : List RwA) : Prop := ∀ r ∈ rs, RwB K H m b r
theorem rowsL_cons {K : PySem.W.Frag} {H : Hp} {v : V} {ws : List V} {r : RwA} {rs : List RwA} (h0 : match r with
  | .inl xs => ∃ b, v = .ref b ∧ H b = some (.lst xs)
  | .inr u => v = u ∧ NotSq K H u) (h : RowsL K H ws rs) : RowsL K H (v :: ws) (r :: rs) := by
  refine ⟨by rw [List.length_cons, List.length_cons, h.1], fun i q e => ?_⟩
  match i, e with
  | 0, e =>
    cases e
    match r, h0 with
    | .inl xs, ⟨b, e1, e2⟩ => exact ⟨b, by rw [e1]; rfl, e2⟩
    | .inr u, ⟨e1, e2⟩ => exact ⟨by rw [e1]; rfl, e2⟩
  | i + 1, e => exact h.2 i q e
theorem good_rows {K : PySem.W.Frag} {H : Hp} {m : Nat} {b : Int} : ∀ {ws : List V}, (∀ v ∈ ws, GoodRow K H m b v) → ∃ rs, RowsL K H ws rs ∧ RsB K H m b rs
  | [], _ => ⟨[], ⟨rfl, fun i r e => by simp at e⟩, fun r h => nomatch h⟩
  | v :: ws, h => by
    obtain ⟨rs, h1, h2⟩ := good_rows fun u hu => h u (List.mem_cons_of_mem _ hu)
    rcases h v List.mem_cons_self with ⟨c, ys, e, hc, hl, hx⟩ | u
    · exact ⟨.inl ys :: rs, rowsL_cons (r := .inl ys) ⟨c, e, hc⟩ h1, fun r hr => (List.mem_cons.mp hr).elim (fun z => by rw [z]; exact ⟨hl, hx⟩) (h2 r)⟩
    · exact ⟨.inr v :: rs, rowsL_cons (r := .inr v) ⟨rfl, u.1⟩ h1, fun r hr => (List.mem_cons.mp hr).elim (fun z => by rw [z]; exact u) (h2 r)⟩
theorem TabX.rows {K : PySem.W.Frag} {H : Hp} {m : Nat} {b : Int} {a : Addr} (h : TabX K H m b a) : ∃ ws rs, H a = some (.lst ws) ∧ ws.length ≤ m ∧ RowsL K H ws rs ∧ RsB K H m b rs := by
  obtain ⟨ws, e, l, g⟩ := h
  obtain ⟨rs, h1, h2⟩ := good_rows g
  exact ⟨ws, rs, e, l, h1, h2⟩
/-- a table that is being spoilt: the new list of rows N, and the new row R -/
structure WS (K : PySem.W.Frag) (H H1 : Hp) (N R : Addr) (m : Nat) (b : Int) (ws xs : List V) : Prop where
  nN : H N = none
  nR : H R = none
  ne : N ≠ R
  sm : Same H H1
  eN : H1 N = some (.lst ws)
  eR : H1 R = some (.lst xs)
  lw : ws.length ≤ m
  lx : xs.length ≤ m
  rows : ∀ v ∈ ws, v = .ref R ∨ GoodRow K (er N R H1) m b v
  its : ∀ x ∈ xs, ItX K (er N R H1) b x
section
variable {K : PySem.W.Frag} {H H1 H2 : Hp} {N R : Addr} {m : Nat} {b : Int} {ws xs : List V}
theorem WS.same (W : WS K H H1 N R m b ws xs) (s : Same H1 H2) : WS K H H2 N R m b ws xs :=
  ⟨W.nN, W.nR, W.ne, W.sm.trans s, s _ _ W.eN, s _ _ W.eR, W.lw, W.lx, fun v hv => (W.rows v hv).elim .inl fun g => .inr (g.same (er_same s)), fun x hx => (W.its x hx).same (er_same s)⟩
theorem WS.setR (W : WS K H H1 N R m b ws xs) {j : Nat} {x : V} (hx : ItX K (er N R H1) b x) : WS K H (upd H1 R (.lst (xs.set j x))) N R m b ws (xs.set j x) := by
  refine ⟨W.nN, W.nR, W.ne, same_put (H1 := H) W.nR W.sm, by rw [upd_ne W.ne]; exact W.eN, upd_same, W.lw, by rw [List.length_set]; exact W.lx, fun v hv => ?_, fun y hy => ?_⟩
  · rw [er_updR]
    exact W.rows v hv
  · rw [er_updR]
    rcases List.mem_or_eq_of_mem_set hy with h | h
    · exact W.its y h
    · rw [h]
      exact hx
theorem WS.setN (W : WS K H H1 N R m b ws xs) {i : Nat} {v : V} (hv : v = .ref R ∨ GoodRow K (er N R H1) m b v) : WS K H (upd H1 N (.lst (ws.set i v))) N R m b (ws.set i v) xs := by
  refine ⟨W.nN, W.nR, W.ne, same_put (H1 := H) W.nN W.sm, upd_same, by rw [upd_ne W.ne.symm]; exact W.eR, by rw [List.length_set]; exact W.lw, W.lx, fun u hu => ?_, fun y hy => ?_⟩
  · rw [er_updN]
    rcases List.mem_or_eq_of_mem_set hu with h | h
    · exact W.rows u h
    · rw [h]
      exact hv
  · rw [er_updN]
    exact W.its y hy
theorem WS.row (W : WS K H H1 N R m b ws xs) {v : V} (hv : v ∈ ws) : (∃ c ys, v = .ref c ∧ H1 c = some (.lst ys) ∧ ys.length ≤ m ∧ ∀ x ∈ ys, ItX K (er N R H1) b x) ∨ UX K (er N R H1) v := by
  rcases W.rows v hv with e | ⟨c, ys, e, h1, h2, h3⟩ | u
  · exact .inl ⟨R, xs, e, W.eR, W.lx, W.its⟩
  · exact .inl ⟨c, ys, e, er_le _ _ h1, h2, h3⟩
  · exact .inr u
theorem WS.tab (W : WS K H H1 N R m b ws xs) : TabX K H1 m b N := by
  refine ⟨ws, W.eN, W.lw, fun v hv => ?_⟩
  rcases W.row hv with ⟨c, ys, e, h1, h2, h3⟩ | u
  · exact .inl ⟨c, ys, e, h1, h2, fun x hx => (h3 x hx).same er_le⟩
  · exact .inr (u.same er_le)
/-- a row that is made anew -/
theorem WS.fresh (W : WS K H H1 N R m b ws xs) {p : Addr} {ys : List V} (np : H1 p = none) (s : Same H1 H2) (e : H2 p = some (.lst ys)) (hl : ys.length ≤ m) (hx : ∀ x ∈ ys, ItX K (er N R H2) b x) : GoodRow K (er N R H2) m b (.ref p) :=
  .inl ⟨p, ys, rfl, er_at e (fun z => by rw [z, W.eN] at np; cases np) (fun z => by rw [z, W.eR] at np; cases np), hl, hx⟩
end
/-- the items of a list that are told by an index -/
theorem isl_row {K : PySem.W.Frag} {H : Hp} {v : V} (h : UX K H v) : ∃ T, TyX K H v (.type T) ∧ PySem.W.kitOne K (.type T) (.type "list") = some false := by
  obtain ⟨⟨T, ty, m⟩, _⟩ := h
  refine ⟨T, ty, ?_⟩
  simp only [List.mem_cons, List.not_mem_nil, or_false] at m
  rcases m with rfl | rfl | rfl | rfl | rfl <;> exact kit_ty (by decide +kernel)
end Own

namespace Own
open PySem PySem.Spec PyProof.Rows L2
theorem cut_mem (xs : List V) (lo hi : Option Int) {x : V} (h : x ∈ cutV xs lo hi) : x ∈ xs := by
  unfold cutV at h
  exact List.mem_of_mem_drop (List.mem_of_mem_take h)
theorem cut_len (xs : List V) (lo hi : Option Int) : (cutV xs lo hi).length ≤ xs.length := by
  unfold cutV
  rw [List.length_take, List.length_drop]
  omega
theorem int_not {K : PySem.W.Frag} {H : Hp} {k : Int} {T : String} (m : T ∈ ["bool", "NoneType", "str", "list", "tuple", "dict"]) : ¬ TyX K H (.int k) (.type T) := fun h => by
  generalize hv : V.int k = v at h
  generalize ht : Value.type T = t at h
  cases h with
  | base h =>
    cases h <;> first | (injection ht with e; subst e; revert m; decide) | cases hv
  | _ => cases hv
section
variable {P : Program} {w : World} {K : PySem.W.Frag} {mg : Str → Option Value} {base : Heap} {C : Addr}
def spSpoilt (K : PySem.W.Frag) : Sp := fun vs H Q _ => ∃ (a : Addr) (kd : Int) (i j : Nat) (bY : Int) (m : Nat) (b : Int), vs = [.ref a, .int kd, .int (i : Int), .int (j : Int), .int bY] ∧ TabX K H m b a ∧ m ≤ 100 ∧ 0 ≤ b ∧ b < 2 ^ 59 ∧ 0 ≤ bY ∧ bY ≤ 40000000 ∧ ∀ H' p, Same H H' → TabX K H' (m + 2) (b + 80000010) p → Q (.ref p) H'
set_option maxHeartbeats 0 in
theorem ok_spoilt {f : Addr} {fd : FuncData} (F : Fun K "_law_spoilt" "_law_spoilt" s__law_spoilt f fd) (T : Bi mg) 
    {f_w : Addr} {d_w : FuncData} (D_w : Df K mg "_law_whole" s__law_whole ["_law_value"] f_w d_w) (G_w : FnOk P w K mg base CX0 1 f_w d_w ["_law_value"] (spWholeY K)) 
    {f_st : Addr} {d_st : FuncData} (D_st : Df K mg "_law_strange" s__law_strange ["_law_value", "_law_by"] f_st d_st) (G_st : FnOk P w K mg base CX0 1 f_st d_st ["_law_value", "_law_by"] (spStrange K)) 
    {f_nr : Addr} {d_nr : FuncData} (D_nr : Df K mg "_law_no_row" s__law_no_row ["_law_size", "_law_by"] f_nr d_nr) (G_nr : FnOk P w K mg base CX0 1 f_nr d_nr ["_law_size", "_law_by"] (spNoRow K)) 
    {f_be : Addr} {d_be : FuncData} (D_be : Df K mg "_law_behind" s__law_behind ["_law_size", "_law_by"] f_be d_be) (G_be : FnOk P w K mg base CX0 1 f_be d_be ["_law_size", "_law_by"] (spBehind K)) 
    {f_ch : Addr} {d_ch : FuncData} (D_ch : Df K mg "_law_changed" s__law_changed ["_law_value", "_law_way", "_law_by"] f_ch d_ch) (G_ch : FnOk P w K mg base CX0 1 f_ch d_ch ["_law_value", "_law_way", "_law_by"] spChanged) : FnOk P w K mg base CX0 2 f fd ["_law_rows", "_law_kind", "_law_i", "_law_j", "_law_by"] (spSpoilt K) := by
  refine F.ok sc__law_spoilt (fun vs H Q E h => ?_) (fun cdv A outer s H vs Q E hr h => ?_)
  · obtain ⟨a, kd, i, j, bY, m, b, rfl, _⟩ := h
    rfl
  · obtain ⟨a, kd, i, j, bY, m, b, rfl, ⟨w0, ea, l0, g0⟩, hm, b0, b1, y0, y1, q⟩ := h
    obtain ⟨tZ, hZ, qZ⟩ : ∃ tR, PSs (cxOf CX0 P w K mg base ["_law_rows", "_law_kind", "_law_i", "_law_j", "_law_by", "_law_new", "_law_row", "_law_value", "_law_far", "_law_k"] "_law_spoilt" (defScope s__law_spoilt) f cdv A outer s H E).nox ((defBody s__law_spoilt).drop 17) tR ∧ ∀ (N R : Addr) (ws xs : List V) (y7 y8 y9 : Option V) (H1 : Hp), WS K H H1 N R (m + 2) (b + 80000010) ws xs → tR { nx := fun _ H' => Q .non H', rt := Q } [some (.ref a), some (.int kd), some (.int (i : Int)), some (.int (j : Int)), some (.int bY), some (.ref N), some (.ref R), y7, y8, y9] H1 := by
      refine ⟨_, (pss_one (ps_ret (pv 5))), ?_⟩
      intro N R ws xs y7 y8 y9 H1 W
      exact ⟨_, rfl, q _ _ W.sm W.tab⟩
    obtain ⟨tY, hY, qY⟩ : ∃ tR, PSs (cxOf CX0 P w K mg base ["_law_rows", "_law_kind", "_law_i", "_law_j", "_law_by", "_law_new", "_law_row", "_law_value", "_law_far", "_law_k"] "_law_spoilt" (defScope s__law_spoilt) f cdv A outer s H E).nox ((defBody s__law_spoilt).drop 16) tR ∧ ∀ (N R : Addr) (ws xs : List V) (y7 y8 y9 : Option V) (H1 : Hp), WS K H H1 N R (m + 2) (b + 80000010) ws xs → j < xs.length → tR { nx := fun _ H' => Q .non H', rt := Q } [some (.ref a), some (.int kd), some (.int (i : Int)), some (.int (j : Int)), some (.int bY), some (.ref N), some (.ref R), y7, y8, y9] H1 := by
      refine ⟨_, (pss_cons (ps_if (PW.pt (pw_and (pt_cmpR (r := rIn K false) op_in_seq (pv 1) (pe_lst (pa_cons pe_int (pa_cons pe_int (pa_cons pe_int (pa_cons pe_int (pa_cons pe_int (pa_cons pe_int pa_nil))))))) (by rfl)) (pw_and (pt_cmpR op_lt (pv 3) (pe_callB call_len_seq (by rfl) T.b_len PySem.boot_len (pa_cons (pv 5) pa_nil)) (nomark _)) (pw_and (pt_val (pe_callB call_isi (by rfl) T.b_isinstance (by decide +kernel) (pa_cons (pe_ix (r := rIxL K) ix_list (pv 5) (pv 3) (fun _ _ => rfl)) (pa_cons (pe_bltn (v := .ty "list") (by rfl) T.b_list (by decide +kernel) rfl) pa_nil)))) (pw_and1 (pt_cmpR op_lt (pv 2) (pe_callB call_len_seq (by rfl) T.b_len PySem.boot_len (pa_cons (pe_ix (r := rIxL K) ix_list (pv 5) (pv 3) (fun _ _ => rfl)) pa_nil)) (nomark _))))))) (pss_cons (ps_set (i := 8) sc__law_spoilt.nd rfl (.inl rfl) (pe_callTy call_list_of (by rfl) T.b_list (by decide +kernel) (pa_cons (pe_ix (r := rIxL K) ix_list (pv 5) (pv 3) (fun _ _ => rfl)) pa_nil)))
        (pss_cons (ps_asg (pe_ix (r := rIxL K) ix_list (pv 6) (pv 3) (fun _ _ => rfl)) (pg_sub (pv 8) (pv 2) set_list))
        (pss_one (ps_asg (pv 8) (pg_sub (pv 5) (pv 3) set_list))))) pss_nil)
        hZ), ?_⟩
      intro N R ws xs y7 y8 y9 H1 W hj
      refine ⟨_, rfl, by show 6 ≤ sizeLine; decide, fun g hg => ⟨g, _, rfl, .inl (.inl (.inl upd_same)), rfl, rfl, _, rfl, ite2 (fun e1 => ?_) (fun e1 => qZ _ _ _ _ _ _ _ _ (W.same (same_upd hg)))⟩⟩
      have W := W.same (same_upd (o := .lst [.int 6, .int 8, .int 11, .int 12, .int 13, .int 14]) hg)
      generalize upd H1 g (.lst [.int 6, .int 8, .int 11, .int 12, .int 13, .int 14]) = H1 at W ⊢
      have qR : SqL K H1 R xs := .inl (.inl W.eR)
      have qN : SqL K H1 N ws := .inl (.inl W.eN)
      refine ⟨_, rfl, _, rfl, N, ws, rfl, .inl qN, _, _, rfl, rfl, _, rfl, ite2 (fun e2 => ?_) (fun e2 => qZ _ _ _ _ _ _ _ _ W)⟩
      have jl : j < ws.length := by have := of_decide_eq_true e2; omega
      have ej : ws[j]? = some ws[j] := List.getElem?_eq_getElem jl
      have rj := W.row (List.mem_of_getElem? ej)
      generalize ws[j] = v at ej rj
      rcases rj with ⟨c, ys, rfl, ec, lc, iy⟩ | u
      · refine ⟨_, rfl, _, rfl, N, ws, _, _, rfl, rfl, qN, atI_nat ej, _, _, _, _, true, rfl, .ty "list", .base (.lst ec), kit_ty (by decide +kernel), true, rfl, ?_⟩
        refine ⟨_, rfl, _, rfl, _, rfl, N, ws, _, _, rfl, rfl, qN, atI_nat ej, c, ys, rfl, .inl (.inl (.inl ec)), _, _, rfl, rfl, _, rfl, ite2 (fun e3 => ?_) (fun e3 => qZ _ _ _ _ _ _ _ _ W)⟩
        have il : i < ys.length := by have := of_decide_eq_true e3; omega
        refine ⟨_, rfl, _, rfl, N, ws, _, _, rfl, rfl, qN, atI_nat ej, c, ys, rfl, .inl (.inl (.inl ec)), fun p np => ?_⟩
        have sp := same_upd (o := .lst ys) np
        have ex : xs[j]? = some xs[j] := List.getElem?_eq_getElem hj
        have ix := W.its _ (List.mem_of_getElem? ex)
        generalize xs[j] = x at ex ix
        refine ⟨_, rfl, _, rfl, R, xs, _, _, rfl, rfl, .inl (.inl (sp _ _ W.eR)), atI_nat ex, _, rfl, _, rfl, p, ys, _, i, rfl, rfl, upd_same, ixN_own il, ?_⟩
        rw [upd_upd]
        have W2 := W.same (same_upd (o := .lst (ys.set i x)) np)
        refine ⟨_, rfl, _, rfl, _, rfl, N, ws, _, j, rfl, rfl, W2.eN, ixN_own jl, ?_⟩
        have s2 := er_same (N := N) (R := R) (same_upd (o := .lst (ys.set i x)) np)
        refine qZ _ _ _ _ _ _ _ _ (W2.setN (.inr (W.fresh np (same_upd np) upd_same (by rw [List.length_set]; exact lc) fun z hz => ?_)))
        rcases List.mem_or_eq_of_mem_set hz with h | h
        · exact (iy z h).same s2
        · rw [h]
          exact ix.same s2
      · obtain ⟨T_, ty, no⟩ := isl_row (u.same er_le)
        refine ⟨_, rfl, _, rfl, N, ws, _, _, rfl, rfl, qN, atI_nat ej, _, _, _, _, false, rfl, .ty "list", ty, no, false, rfl, ?_⟩
        exact qZ _ _ _ _ _ _ _ _ W
    obtain ⟨tX15, hX15, qX15⟩ : ∃ tR, PSs (cxOf CX0 P w K mg base ["_law_rows", "_law_kind", "_law_i", "_law_j", "_law_by", "_law_new", "_law_row", "_law_value", "_law_far", "_law_k"] "_law_spoilt" (defScope s__law_spoilt) f cdv A outer s H E).nox ((defBody s__law_spoilt).drop 15) tR ∧ ∀ (N R : Addr) (ws xs : List V) (y7 y8 y9 : Option V) (H1 : Hp) (v : Int), WS K H H1 N R (m + 2) (b + 80000010) ws xs → j < xs.length → -b ≤ v → v ≤ b → tR { nx := fun _ H' => Q .non H', rt := Q } [some (.ref a), some (.int kd), some (.int (i : Int)), some (.int (j : Int)), some (.int bY), some (.ref N), some (.ref R), some (.int v), y8, y9] H1 := by
      refine ⟨_, (pss_cons (ps_if (pt_cmpR op_ge (pv 1) pe_int (nomark _)) (pss_one (ps_asg (pe_call G_ch (hr.mono (by decide)) (by rfl) D_ch.g D_ch.F.kp D_ch.b .nil pass0 (pa_cons (pv 7) (pa_cons (pe_op op_sub (pv 1) pe_int) (pa_cons (pv 4) pa_nil)))) (pg_sub (pv 6) (pv 3) set_list))) pss_nil)
        hY), ?_⟩
      intro N R ws xs y7 y8 y9 H1 v W hj v0 v1
      have qR : SqL K H1 R xs := .inl (.inl W.eR)
      have qN : SqL K H1 N ws := .inl (.inl W.eN)
      refine ⟨_, rfl, kd, 11, rfl, rfl, _, rfl, ite2 (fun e1 => ?_) (fun e1 => qY _ _ _ _ _ _ _ _ W hj)⟩
      refine ⟨_, rfl, _, rfl, _, _, rfl, rfl, _, rfl, v, _, bY, b, rfl, v0, v1, by omega, y0, y1, fun k k0 k1 => ?_⟩
      refine ⟨_, rfl, _, rfl, R, xs, _, j, rfl, rfl, W.eR, ixN_own hj, ?_⟩
      exact qY _ _ _ _ _ _ _ _ (W.setR (.inl ⟨k, rfl, by omega, by omega⟩)) (by rw [List.length_set]; exact hj)
    obtain ⟨tX14, hX14, qX14⟩ : ∃ tR, PSs (cxOf CX0 P w K mg base ["_law_rows", "_law_kind", "_law_i", "_law_j", "_law_by", "_law_new", "_law_row", "_law_value", "_law_far", "_law_k"] "_law_spoilt" (defScope s__law_spoilt) f cdv A outer s H E).nox ((defBody s__law_spoilt).drop 14) tR ∧ ∀ (N R : Addr) (ws xs : List V) (y7 y8 y9 : Option V) (H1 : Hp) (v : Int), WS K H H1 N R (m + 2) (b + 80000010) ws xs → j < xs.length → -b ≤ v → v ≤ b → tR { nx := fun _ H' => Q .non H', rt := Q } [some (.ref a), some (.int kd), some (.int (i : Int)), some (.int (j : Int)), some (.int bY), some (.ref N), some (.ref R), some (.int v), y8, y9] H1 := by
      refine ⟨_, (pss_cons (ps_if (PW.pt (pw_and (pt_cmpR op_eq (pv 1) pe_int (nomark _)) (pw_and1 (pt_cmpR op_lt (pv 2) (pe_callB call_len_seq (by rfl) T.b_len PySem.boot_len (pa_cons (pv 6) pa_nil)) (nomark _))))) (pss_one (ps_asg (pe_ix (r := rIxL K) ix_list (pe_lst (pa_cons (pe_op op_add pe_int (pv 4)) (pa_cons pe_bl (pa_cons (pe_op op_sub (pe_un un_neg pe_int) (pv 4)) (pa_cons pe_non (pa_cons pe_int pa_nil)))))) (pe_op op_mod (pe_callTy call_int1 (by rfl) T.b_int (by decide +kernel) (pa_cons (pv 4) pa_nil)) pe_int) (fun _ _ => rfl)) (pg_sub (pv 6) (pv 2) set_list))) pss_nil)
        hX15), ?_⟩
      intro N R ws xs y7 y8 y9 H1 v W hj v0 v1
      have qR : SqL K H1 R xs := .inl (.inl W.eR)
      have qN : SqL K H1 N ws := .inl (.inl W.eN)
      refine ⟨_, rfl, rfl, _, rfl, ite2 (fun e1 => ?_) (fun e1 => qX15 _ _ _ _ none _ _ _ _ W hj v0 v1)⟩
      refine ⟨_, rfl, _, rfl, R, xs, rfl, .inl qR, _, _, rfl, rfl, _, rfl, ite2 (fun e2 => ?_) (fun e2 => qX15 _ _ _ _ none _ _ _ _ W hj v0 v1)⟩
      have il : i < xs.length := by have := of_decide_eq_true e2; omega
      refine ⟨_, rfl, _, _, rfl, rfl, _, rfl, _, rfl, _, _, rfl, rfl, by show 5 ≤ sizeLine; decide, fun g hg => ?_⟩
      have W2 := W.same (same_upd (o := .lst [.int (1 + bY), .bl false, .int (-1 - bY), .non, .int 1]) hg)
      obtain ⟨x, ex, hx⟩ : ∃ x, atI [V.int (1 + bY), .bl false, .int (-1 - bY), .non, .int 1] (bY % 5) = some x ∧ ∀ H', ItX K H' (b + 80000010) x := by
        have hd : bY % 5 = ((0 : Nat) : Int) ∨ bY % 5 = ((1 : Nat) : Int) ∨ bY % 5 = ((2 : Nat) : Int) ∨ bY % 5 = ((3 : Nat) : Int) ∨ bY % 5 = ((4 : Nat) : Int) := by omega
        rcases hd with e | e | e | e | e <;> rw [e]
        · exact ⟨_, atI_nat rfl, fun H' => .inl ⟨_, rfl, by omega, by omega⟩⟩
        · exact ⟨_, atI_nat rfl, fun H' => .inr (nwe_bl _)⟩
        · exact ⟨_, atI_nat rfl, fun H' => .inl ⟨_, rfl, by omega, by omega⟩⟩
        · exact ⟨_, atI_nat rfl, fun H' => .inr nwe_non⟩
        · exact ⟨_, atI_nat rfl, fun H' => .inl ⟨_, rfl, by omega, by omega⟩⟩
      refine ⟨_, rfl, .inl ⟨_, rfl, _, _, rfl, rfl, by show (0 : Int) < 5; decide, g, _, _, _, rfl, rfl, .inl (.inl upd_same), ex, ?_⟩⟩
      refine ⟨_, rfl, _, rfl, R, xs, _, i, rfl, rfl, W2.eR, ixN_own il, ?_⟩
      exact qX15 _ _ _ _ none _ _ _ _ (W2.setR (hx _)) (by rw [List.length_set]; exact hj) v0 v1
    obtain ⟨tX13, hX13, qX13⟩ : ∃ tR, PSs (cxOf CX0 P w K mg base ["_law_rows", "_law_kind", "_law_i", "_law_j", "_law_by", "_law_new", "_law_row", "_law_value", "_law_far", "_law_k"] "_law_spoilt" (defScope s__law_spoilt) f cdv A outer s H E).nox ((defBody s__law_spoilt).drop 13) tR ∧ ∀ (N R : Addr) (ws xs : List V) (y7 y8 y9 : Option V) (H1 : Hp) (v : Int), WS K H H1 N R (m + 2) (b + 80000010) ws xs → j < xs.length → -b ≤ v → v ≤ b → tR { nx := fun _ H' => Q .non H', rt := Q } [some (.ref a), some (.int kd), some (.int (i : Int)), some (.int (j : Int)), some (.int bY), some (.ref N), some (.ref R), some (.int v), y8, y9] H1 := by
      refine ⟨_, (pss_cons (ps_if (pt_cmpR op_eq (pv 1) pe_int (nomark _)) (pss_one (ps_asg (pe_op op_sub (pe_op op_add (pe_op op_add (pv 7) pe_int) (pe_op op_mul (pv 4) (pe_callTy call_int1 (by rfl) T.b_int (by decide +kernel) (pa_cons (pe_cmpR op_lt (pe_op op_add (pv 7) (pv 4)) (pe_op op_pow pe_int pe_int) (nomark _)) pa_nil)))) (pe_op op_mul pe_int (pe_callTy call_int1 (by rfl) T.b_int (by decide +kernel) (pa_cons (pe_cmpR op_eq (pv 7) (pe_op op_pow pe_int pe_int) (nomark _)) pa_nil)))) (pg_sub (pv 6) (pv 3) set_list))) pss_nil)
        hX14), ?_⟩
      intro N R ws xs y7 y8 y9 H1 v W hj v0 v1
      have qR : SqL K H1 R xs := .inl (.inl W.eR)
      have qN : SqL K H1 N ws := .inl (.inl W.eN)
      refine ⟨_, rfl, rfl, _, rfl, ite2 (fun e1 => ?_) (fun e1 => qX14 _ _ _ _ none _ _ _ _ W hj v0 v1)⟩
      refine ⟨_, rfl, _, _, rfl, rfl, _, rfl, _, rfl, _, rfl, _, _, rfl, rfl, _, _, rfl, rfl, ⟨by decide, by decide, by decide⟩, _, _, rfl, rfl, .inr ⟨_, rfl, _, _, rfl, rfl, .inl ⟨by omega, by omega⟩, _, _, rfl, rfl, ?_⟩⟩
      refine ⟨_, rfl, _, _, rfl, rfl, ⟨by decide, by decide, by decide⟩, rfl, .inr ⟨_, rfl, _, _, rfl, rfl, .inl ⟨by decide, by decide⟩, _, _, rfl, rfl, ?_⟩⟩
      refine ⟨_, rfl, _, rfl, R, xs, _, j, rfl, rfl, W.eR, ixN_own hj, ?_⟩
      refine qX14 _ _ _ _ none _ _ _ _ (W.setR (.inl ⟨_, rfl, ?_, ?_⟩)) (by rw [List.length_set]; exact hj) v0 v1 <;> split <;> split <;> omega
    obtain ⟨tX12, hX12, qX12⟩ : ∃ tR, PSs (cxOf CX0 P w K mg base ["_law_rows", "_law_kind", "_law_i", "_law_j", "_law_by", "_law_new", "_law_row", "_law_value", "_law_far", "_law_k"] "_law_spoilt" (defScope s__law_spoilt) f cdv A outer s H E).nox ((defBody s__law_spoilt).drop 12) tR ∧ ∀ (N R : Addr) (ws xs : List V) (y7 y8 y9 : Option V) (H1 : Hp) (v : Int), WS K H H1 N R (m + 2) (b + 80000010) ws xs → j < xs.length → -b ≤ v → v ≤ b → tR { nx := fun _ H' => Q .non H', rt := Q } [some (.ref a), some (.int kd), some (.int (i : Int)), some (.int (j : Int)), some (.int bY), some (.ref N), some (.ref R), some (.int v), y8, y9] H1 := by
      refine ⟨_, (pss_cons (ps_if (pt_cmpR (r := rIn K false) op_in_seq (pv 1) (pe_lst (pa_cons pe_int (pa_cons pe_int pa_nil))) (by rfl)) (pss_one (ps_asg (pe_op op_sub (pe_un un_neg pe_int) (pv 4)) (pg_sub (pv 6) (pv 3) set_list))) pss_nil)
        hX13), ?_⟩
      intro N R ws xs y7 y8 y9 H1 v W hj v0 v1
      have qR : SqL K H1 R xs := .inl (.inl W.eR)
      have qN : SqL K H1 N ws := .inl (.inl W.eN)
      refine ⟨_, rfl, by show 2 ≤ sizeLine; decide, fun g hg => ⟨g, _, rfl, .inl (.inl (.inl upd_same)), rfl, rfl, _, rfl, ite2 (fun e1 => ?_) (fun e1 => qX13 _ _ _ _ none _ _ _ _ (W.same (same_upd hg)) hj v0 v1)⟩⟩
      have W2 := W.same (same_upd (o := .lst [.int 7, .int 8]) hg)
      refine ⟨_, rfl, _, rfl, _, _, rfl, rfl, ?_⟩
      refine ⟨_, rfl, _, rfl, R, xs, _, j, rfl, rfl, W2.eR, ixN_own hj, ?_⟩
      exact qX13 _ _ _ _ none _ _ _ _ (W2.setR (.inl ⟨_, rfl, by omega, by omega⟩)) (by rw [List.length_set]; exact hj) v0 v1
    obtain ⟨tX11, hX11, qX11⟩ : ∃ tR, PSs (cxOf CX0 P w K mg base ["_law_rows", "_law_kind", "_law_i", "_law_j", "_law_by", "_law_new", "_law_row", "_law_value", "_law_far", "_law_k"] "_law_spoilt" (defScope s__law_spoilt) f cdv A outer s H E).nox ((defBody s__law_spoilt).drop 11) tR ∧ ∀ (N R : Addr) (ws xs : List V) (y7 y8 y9 : Option V) (H1 : Hp) (v : Int), WS K H H1 N R (m + 2) (b + 80000010) ws xs → j < xs.length → -b ≤ v → v ≤ b → tR { nx := fun _ H' => Q .non H', rt := Q } [some (.ref a), some (.int kd), some (.int (i : Int)), some (.int (j : Int)), some (.int bY), some (.ref N), some (.ref R), some (.int v), y8, y9] H1 := by
      refine ⟨_, (pss_cons (ps_if (pt_cmpR (r := rIn K false) op_in_seq (pv 1) (pe_lst (pa_cons pe_int (pa_cons pe_int pa_nil))) (by rfl)) (pss_one (ps_asg (pe_call G_st (hr.mono (by decide)) (by rfl) D_st.g D_st.F.kp D_st.b .nil pass0 (pa_cons (pv 7) (pa_cons (pv 4) pa_nil))) (pg_sub (pv 6) (pv 3) set_list))) pss_nil)
        hX12), ?_⟩
      intro N R ws xs y7 y8 y9 H1 v W hj v0 v1
      have qR : SqL K H1 R xs := .inl (.inl W.eR)
      have qN : SqL K H1 N ws := .inl (.inl W.eN)
      refine ⟨_, rfl, by show 2 ≤ sizeLine; decide, fun g hg => ⟨g, _, rfl, .inl (.inl (.inl upd_same)), rfl, rfl, _, rfl, ite2 (fun e1 => ?_) (fun e1 => qX12 _ _ _ _ none _ _ _ _ (W.same (same_upd hg)) hj v0 v1)⟩⟩
      have W2 := W.same (same_upd (o := .lst [.int 5, .int 6]) hg)
      refine ⟨_, rfl, _, rfl, v, bY, rfl, by omega, by omega, fun H2 x s2 hx => ?_⟩
      have W3 := W2.same s2
      refine ⟨_, rfl, _, rfl, R, xs, _, j, rfl, rfl, W3.eR, ixN_own hj, ?_⟩
      exact qX12 _ _ _ _ none _ _ _ _ (W3.setR (.inr (hx.same (fr_er W2.eN W2.eR)))) (by rw [List.length_set]; exact hj) v0 v1
    obtain ⟨tX9, hX9, qX9⟩ : ∃ tR, PSs (cxOf CX0 P w K mg base ["_law_rows", "_law_kind", "_law_i", "_law_j", "_law_by", "_law_new", "_law_row", "_law_value", "_law_far", "_law_k"] "_law_spoilt" (defScope s__law_spoilt) f cdv A outer s H E).nox ((defBody s__law_spoilt).drop 9) tR ∧ ∀ (N R : Addr) (ws xs : List V) (y7 y8 y9 : Option V) (H1 : Hp), WS K H H1 N R (m + 2) (b + 80000010) ws xs → (∀ k : Int, V.int k ∈ xs → -b ≤ k ∧ k ≤ b) → tR { nx := fun _ H' => Q .non H', rt := Q } [some (.ref a), some (.int kd), some (.int (i : Int)), some (.int (j : Int)), some (.int bY), some (.ref N), some (.ref R), y7, y8, y9] H1 := by
      refine ⟨_, (pss_cons (ps_if (PW.pt (pw_or (pt_cmpR op_ge (pv 3) (pe_callB call_len_seq (by rfl) T.b_len PySem.boot_len (pa_cons (pv 6) pa_nil)) (nomark _)) (pw_or1 (pt_not (pt_val (pe_call G_w (hr.mono (by decide)) (by rfl) D_w.g D_w.F.kp D_w.b .nil pass0 (pa_cons (pe_ix (r := rIxL K) ix_list (pv 6) (pv 3) (fun _ _ => rfl)) pa_nil))))))) (pss_one (ps_ret (pv 5))) pss_nil)
        (pss_cons (ps_set (i := 7) sc__law_spoilt.nd rfl (.inl rfl) (pe_ix (r := rIxL K) ix_list (pv 6) (pv 3) (fun _ _ => rfl)))
        hX11)), ?_⟩
      intro N R ws xs y7 y8 y9 H1 W hb
      have qR : SqL K H1 R xs := .inl (.inl W.eR)
      have qN : SqL K H1 N ws := .inl (.inl W.eN)
      refine ⟨_, rfl, _, rfl, R, xs, rfl, .inl qR, _, _, rfl, rfl, _, rfl, ite2 (fun e1 => ⟨_, rfl, q _ _ W.sm W.tab⟩) (fun e1 => ?_)⟩
      have hj : j < xs.length := by have := of_decide_eq_false (Bool.not_eq_true _ ▸ e1 : decide _ = false); omega
      have ex : xs[j]? = some xs[j] := List.getElem?_eq_getElem hj
      have ix := W.its _ (List.mem_of_getElem? ex)
      have hm := List.mem_of_getElem? ex
      generalize xs[j] = x at ex ix hm
      rcases ix with ⟨k, rfl, _, _⟩ | n
      · obtain ⟨k0, k1⟩ := hb k hm
        refine ⟨_, rfl, _, rfl, R, xs, _, _, rfl, rfl, qR, atI_nat ex, _, rfl, .inl ⟨k, rfl, true, rfl, ?_⟩⟩
        refine ⟨_, rfl, _, rfl, R, xs, _, _, rfl, rfl, qR, atI_nat ex, ?_⟩
        exact qX11 _ _ _ _ none _ _ _ _ W hj k0 k1
      · refine ⟨_, rfl, _, rfl, R, xs, _, _, rfl, rfl, qR, atI_nat ex, _, rfl, .inr ⟨(n.same er_le).1, false, rfl, ?_⟩⟩
        exact ⟨_, rfl, q _ _ W.sm W.tab⟩
    obtain ⟨tX8, hX8, qX8⟩ : ∃ tR, PSs (cxOf CX0 P w K mg base ["_law_rows", "_law_kind", "_law_i", "_law_j", "_law_by", "_law_new", "_law_row", "_law_value", "_law_far", "_law_k"] "_law_spoilt" (defScope s__law_spoilt) f cdv A outer s H E).nox ((defBody s__law_spoilt).drop 8) tR ∧ ∀ (N R : Addr) (ws xs : List V) (y7 y8 y9 : Option V) (H1 : Hp), WS K H H1 N R (m + 2) (b + 80000010) ws xs → i < ws.length → (∀ k : Int, V.int k ∈ xs → -b ≤ k ∧ k ≤ b) → tR { nx := fun _ H' => Q .non H', rt := Q } [some (.ref a), some (.int kd), some (.int (i : Int)), some (.int (j : Int)), some (.int bY), some (.ref N), some (.ref R), y7, y8, y9] H1 := by
      refine ⟨_, (pss_cons (ps_if (pt_cmpR op_eq (pv 1) pe_int (nomark _)) (pss_one (ps_asg (pe_call G_nr (hr.mono (by decide)) (by rfl) D_nr.g D_nr.F.kp D_nr.b .nil pass0 (pa_cons (pe_callB call_len_seq (by rfl) T.b_len PySem.boot_len (pa_cons (pv 6) pa_nil)) (pa_cons (pv 4) pa_nil))) (pg_sub (pv 5) (pv 2) set_list))) pss_nil)
        hX9), ?_⟩
      intro N R ws xs y7 y8 y9 H1 W il hb
      have qR : SqL K H1 R xs := .inl (.inl W.eR)
      have qN : SqL K H1 N ws := .inl (.inl W.eN)
      refine ⟨_, rfl, rfl, _, rfl, ite2 (fun e1 => ?_) (fun e1 => qX9 _ _ _ _ _ _ _ _ W hb)⟩
      have lx := W.lx
      refine ⟨_, rfl, R, xs, rfl, .inl qR, _, rfl, _, bY, rfl, by omega, by omega, fun H2 u s2 hu => ?_⟩
      have W2 := W.same s2
      refine ⟨_, rfl, _, rfl, N, ws, _, i, rfl, rfl, W2.eN, ixN_own il, ?_⟩
      exact qX9 _ _ _ _ _ _ _ _ (W2.setN (.inr (.inr (hu.same (fr_er W.eN W.eR))))) hb
    obtain ⟨tX7, hX7, qX7⟩ : ∃ tR, PSs (cxOf CX0 P w K mg base ["_law_rows", "_law_kind", "_law_i", "_law_j", "_law_by", "_law_new", "_law_row", "_law_value", "_law_far", "_law_k"] "_law_spoilt" (defScope s__law_spoilt) f cdv A outer s H E).nox ((defBody s__law_spoilt).drop 7) tR ∧ ∀ (N R : Addr) (ws xs : List V) (y7 y8 y9 : Option V) (H1 : Hp), WS K H H1 N R (m + 2) (b + 80000010) ws xs → i < ws.length → xs.length ≤ m → (∀ k : Int, V.int k ∈ xs → -b ≤ k ∧ k ≤ b) → tR { nx := fun _ H' => Q .non H', rt := Q } [some (.ref a), some (.int kd), some (.int (i : Int)), some (.int (j : Int)), some (.int bY), some (.ref N), some (.ref R), y7, y8, y9] H1 := by
      refine ⟨_, (pss_cons (ps_if (pt_cmpR op_eq (pv 1) pe_int (nomark _)) (pss_one (ps_asg (pe_op op_cat (pv 6) (pe_call G_be (hr.mono (by decide)) (by rfl) D_be.g D_be.F.kp D_be.b .nil pass0 (pa_cons (pe_callB call_len_seq (by rfl) T.b_len PySem.boot_len (pa_cons (pv 0) pa_nil)) (pa_cons (pv 4) pa_nil)))) (pg_sub (pv 5) (pv 2) set_list))) pss_nil)
        hX8), ?_⟩
      intro N R ws xs y7 y8 y9 H1 W il lx hb
      have qR : SqL K H1 R xs := .inl (.inl W.eR)
      have qN : SqL K H1 N ws := .inl (.inl W.eN)
      refine ⟨_, rfl, rfl, _, rfl, ite2 (fun e1 => ?_) (fun e1 => qX8 _ _ _ _ _ _ _ _ W il hb)⟩
      refine ⟨_, rfl, _, rfl, a, w0, rfl, .inl (.inl (.inl (W.sm _ _ ea))), _, rfl, _, bY, rfl, by omega, by omega, fun H2 p ys s2 ep l2 hy => ?_⟩
      have W2 := W.same s2
      have sl : 1000 < sizeLine := by decide
      refine ⟨R, p, xs, ys, rfl, rfl, W2.eR, ep, by omega, fun c nc => ?_⟩
      have W3 := W2.same (same_upd (o := .lst (xs ++ ys)) nc)
      refine ⟨_, rfl, _, rfl, N, ws, _, i, rfl, rfl, W3.eN, ixN_own il, ?_⟩
      refine qX8 _ _ _ _ _ _ _ _ (W3.setN (.inr (W2.fresh nc (same_upd nc) upd_same (by rw [List.length_append]; omega) fun z hz => ?_))) (by rw [List.length_set]; exact il) hb
      rcases List.mem_append.mp hz with h | h
      · exact W3.its z h
      · exact (((hy z h).same (fr_er W.eN W.eR)).same (er_same (same_upd nc))).le (by omega)
    obtain ⟨tX6, hX6, qX6⟩ : ∃ tR, PSs (cxOf CX0 P w K mg base ["_law_rows", "_law_kind", "_law_i", "_law_j", "_law_by", "_law_new", "_law_row", "_law_value", "_law_far", "_law_k"] "_law_spoilt" (defScope s__law_spoilt) f cdv A outer s H E).nox ((defBody s__law_spoilt).drop 6) tR ∧ ∀ (N R : Addr) (ws xs : List V) (y7 y8 y9 : Option V) (H1 : Hp), WS K H H1 N R (m + 2) (b + 80000010) ws xs → i < ws.length → xs.length ≤ m → (∀ k : Int, V.int k ∈ xs → -b ≤ k ∧ k ≤ b) → tR { nx := fun _ H' => Q .non H', rt := Q } [some (.ref a), some (.int kd), some (.int (i : Int)), some (.int (j : Int)), some (.int bY), some (.ref N), some (.ref R), y7, y8, y9] H1 := by
      refine ⟨_, (pss_cons (ps_if (pt_cmpR op_eq (pv 1) pe_int (nomark _)) (pss_one (ps_asg (pe_slice sl_list (pv 6) po_none (po_some (pv 3))) (pg_sub (pv 5) (pv 2) set_list))) pss_nil)
        hX7), ?_⟩
      intro N R ws xs y7 y8 y9 H1 W il lx hb
      have qR : SqL K H1 R xs := .inl (.inl W.eR)
      have qN : SqL K H1 N ws := .inl (.inl W.eN)
      refine ⟨_, rfl, rfl, _, rfl, ite2 (fun e1 => ?_) (fun e1 => qX7 _ _ _ _ _ _ _ _ W il lx hb)⟩
      refine ⟨_, rfl, _, rfl, _, rfl, R, xs, rfl, qR, fun c nc => ?_⟩
      have W3 := W.same (same_upd (o := .lst (cutV xs none (some (j : Int)))) nc)
      refine ⟨_, rfl, _, rfl, N, ws, _, i, rfl, rfl, W3.eN, ixN_own il, ?_⟩
      exact qX7 _ _ _ _ _ _ _ _ (W3.setN (.inr (W.fresh nc (same_upd nc) upd_same (Nat.le_trans (cut_len _ _ _) W.lx) fun z hz => W3.its z (cut_mem _ _ _ hz)))) (by rw [List.length_set]; exact il) lx hb
    obtain ⟨tX3, hX3, qX3⟩ : ∃ tR, PSs (cxOf CX0 P w K mg base ["_law_rows", "_law_kind", "_law_i", "_law_j", "_law_by", "_law_new", "_law_row", "_law_value", "_law_far", "_law_k"] "_law_spoilt" (defScope s__law_spoilt) f cdv A outer s H E).nox ((defBody s__law_spoilt).drop 3) tR ∧ ∀ (N : Addr) (y6 y7 y8 y9 : Option V), H N = none → tR { nx := fun _ H' => Q .non H', rt := Q } [some (.ref a), some (.int kd), some (.int (i : Int)), some (.int (j : Int)), some (.int bY), some (.ref N), y6, y7, y8, y9] (upd H N (.lst w0)) := by
      refine ⟨_, (pss_cons (ps_if (PW.pt (pw_or (pt_cmpR op_ge (pv 2) (pe_callB call_len_seq (by rfl) T.b_len PySem.boot_len (pa_cons (pv 5) pa_nil)) (nomark _)) (pw_or1 (pt_not (pt_val (pe_callB call_isi (by rfl) T.b_isinstance (by decide +kernel) (pa_cons (pe_ix (r := rIxL K) ix_list (pv 5) (pv 2) (fun _ _ => rfl)) (pa_cons (pe_bltn (v := .ty "list") (by rfl) T.b_list (by decide +kernel) rfl) pa_nil)))))))) (pss_one (ps_ret (pv 5))) pss_nil)
        (pss_cons (ps_set (i := 6) sc__law_spoilt.nd rfl (.inl rfl) (pe_callTy call_list_of (by rfl) T.b_list (by decide +kernel) (pa_cons (pe_ix (r := rIxL K) ix_list (pv 5) (pv 2) (fun _ _ => rfl)) pa_nil)))
        (pss_cons (ps_asg (pv 6) (pg_sub (pv 5) (pv 2) set_list))
        hX6))), ?_⟩
      intro N y6 y7 y8 y9 nN
      have eN : upd H N (.lst w0) N = some (.lst w0) := upd_same
      have sm : Same H (upd H N (.lst w0)) := same_upd nN
      generalize upd H N (.lst w0) = H1 at eN sm ⊢
      have qN : SqL K H1 N w0 := .inl (.inl eN)
      have ret : TabX K H1 (m + 2) (b + 80000010) N := ⟨w0, eN, by omega, fun v hv => ((g0 v hv).same sm).le (by omega) (by omega)⟩
      refine ⟨_, rfl, _, rfl, N, w0, rfl, .inl qN, _, _, rfl, rfl, _, rfl, ite2 (fun e1 => ⟨_, rfl, q _ _ sm ret⟩) (fun e1 => ?_)⟩
      have il : i < w0.length := by have := of_decide_eq_false (Bool.not_eq_true _ ▸ e1 : decide _ = false); omega
      have ei : w0[i]? = some w0[i] := List.getElem?_eq_getElem il
      have gi := g0 _ (List.mem_of_getElem? ei)
      generalize w0[i] = v at ei gi
      rcases gi with ⟨c, ys, rfl, ec, lc, iy⟩ | u
      · refine ⟨_, rfl, _, rfl, N, w0, _, _, rfl, rfl, qN, atI_nat ei, _, _, _, _, true, rfl, .ty "list", .base (.lst (sm _ _ ec)), kit_ty (by decide +kernel), true, rfl, ?_⟩
        refine ⟨_, rfl, _, rfl, N, w0, _, _, rfl, rfl, qN, atI_nat ei, c, ys, rfl, .inl (.inl (.inl (sm _ _ ec))), fun R nR => ?_⟩
        have sR := same_upd (o := .lst ys) nR
        have sE : Same H (er N R (upd H1 R (.lst ys))) := same_er nN (sm.free nR) (sm.trans sR)
        have W : WS K H (upd H1 R (.lst ys)) N R (m + 2) (b + 80000010) w0 ys := ⟨nN, sm.free nR, (fun z => by rw [z] at eN; rw [eN] at nR; cases nR), sm.trans sR, sR _ _ eN, upd_same, by omega, by omega, fun v hv => .inr (((g0 v hv).same sE).le (by omega) (by omega)), fun x hx => ((iy x hx).same sE).le (by omega)⟩
        refine ⟨_, rfl, _, rfl, _, rfl, N, w0, _, i, rfl, rfl, W.eN, ixN_own il, ?_⟩
        refine qX6 _ _ _ _ _ _ _ _ (W.setN (.inl rfl)) (by rw [List.length_set]; exact il) lc fun k hk => ?_
        rcases iy _ hk with ⟨k2, e, h0, h1⟩ | n
        · cases e
          exact ⟨h0, h1⟩
        · obtain ⟨⟨T_, ty, mm⟩, _⟩ := n
          exact absurd ty (int_not mm)
      · obtain ⟨T_, ty, no⟩ := isl_row (u.same sm)
        refine ⟨_, rfl, _, rfl, N, w0, _, _, rfl, rfl, qN, atI_nat ei, _, _, _, _, false, rfl, .ty "list", ty, no, false, rfl, ?_⟩
        exact ⟨_, rfl, q _ _ sm ret⟩
    obtain ⟨tX2, hX2, qX2⟩ : ∃ tR, PSs (cxOf CX0 P w K mg base ["_law_rows", "_law_kind", "_law_i", "_law_j", "_law_by", "_law_new", "_law_row", "_law_value", "_law_far", "_law_k"] "_law_spoilt" (defScope s__law_spoilt) f cdv A outer s H E).nox ((defBody s__law_spoilt).drop 2) tR ∧ ∀ (N : Addr) (y6 y7 y8 y9 : Option V), H N = none → tR { nx := fun _ H' => Q .non H', rt := Q } [some (.ref a), some (.int kd), some (.int (i : Int)), some (.int (j : Int)), some (.int bY), some (.ref N), y6, y7, y8, y9] (upd H N (.lst w0)) := by
      refine ⟨_, (pss_cons (ps_if (pt_cmpR op_eq (pv 1) pe_int (nomark _)) (pss_one (ps_ret (pe_op op_cat (pv 5) (pe_ix (r := rIxL K) ix_list (pe_lst (pa_cons (pe_lst (pa_cons (pe_lc (own := [("_law_k", 9)]) (g := gName 9) (tt := tYes) rfl sc__law_spoilt.nd (pi_range1 (by rfl) T.b_range (pa_cons (pe_callB call_len_seq (by rfl) T.b_len PySem.boot_len (pa_cons (pv 0) pa_nil)) pa_nil)) (blkOk_by (own := [("_law_k", 9)]) (N := ["_law_rows", "_law_kind", "_law_i", "_law_j", "_law_by", "_law_new", "_law_row", "_law_value", "_law_far", "_law_k"]) (sc := defScope s__law_spoilt) (by decide +kernel)) (fun _ _ _ _ _ => (pg_name (i := 9) sc__law_spoilt.nd rfl (.inl rfl))) (fun _ _ _ _ _ => pts_nil) (fun _ _ _ _ _ => pe_int)) pa_nil)) (pa_cons (pe_lst (pa_cons (pe_lst pa_nil) pa_nil)) (pa_cons (pe_lst (pa_cons pe_non pa_nil)) (pa_cons (pe_lst (pa_cons (pe_lst (pa_cons pe_int pa_nil)) (pa_cons (pe_lst (pa_cons pe_int pa_nil)) pa_nil))) pa_nil))))) (pe_op op_mod (pe_callTy call_int1 (by rfl) T.b_int (by decide +kernel) (pa_cons (pv 4) pa_nil)) pe_int) (fun _ _ => rfl))))) pss_nil)
        hX3), ?_⟩
      intro N y6 y7 y8 y9 nN
      refine ⟨_, rfl, rfl, _, rfl, ite2 (fun e1 => ?_) (fun e1 => qX3 _ _ _ _ _ nN)⟩
      have eN : upd H N (.lst w0) N = some (.lst w0) := upd_same
      have sm : Same H (upd H N (.lst w0)) := same_upd nN
      generalize upd H N (.lst w0) = H1 at eN sm ⊢
      refine ⟨_, rfl, _, rfl, a, w0, rfl, .inl (.inl (.inl (sm _ _ ea))), _, rfl, by omega, by omega, fun D hD => ?_⟩
      refine lc_range (lo := 0) (n := ((w0.length : Nat) : Int).toNat) (fun k H5 => H5 = upd H1 D (.lst ((gl (w0.length : Int) fun _ => 0).take k))) rfl (fun k H5 hk pv => ?_) (fun H5 pv => ?_)
      · subst pv
        refine ⟨rfl, ?_⟩
        refine ⟨_, upd_same, ?_, ?_⟩
        · rw [List.length_take, gl_len]
          exact Nat.lt_of_le_of_lt (Nat.min_le_right _ _) (small1000 (by omega))
        · rw [upd_upd, List.take_add_one]
          have : (gl (w0.length : Int) fun _ => 0)[k]? = some (.int 0) := by
            unfold gl
            rw [List.getElem?_map, List.getElem?_range hk]
            rfl
          rw [this]
          rfl
      subst pv
      rw [List.take_of_length_le (by rw [gl_len]; exact Nat.le_refl _)]
      have S0 := same_upd (o := .lst (gl (w0.length : Int) fun _ => 0)) hD
      have E0' : upd H1 D (.lst (gl (w0.length : Int) fun _ => 0)) D = some (.lst ((List.replicate w0.length (0 : Int)).map V.int)) := by
        rw [upd_same, gl_rep]
        rfl
      generalize upd H1 D (.lst (gl (w0.length : Int) fun _ => 0)) = H2 at *
      refine ⟨by show 1 ≤ sizeLine; decide, fun p0 n0 => ⟨by show 0 ≤ sizeLine; decide, fun p1 n1 => ⟨by show 1 ≤ sizeLine; decide, fun p2 n2 => ⟨by show 1 ≤ sizeLine; decide, fun p3 n3 => ⟨by show 1 ≤ sizeLine; decide, fun p4 n4 => ⟨by show 1 ≤ sizeLine; decide, fun p5 n5 => ⟨by show 2 ≤ sizeLine; decide, fun p6 n6 => ⟨by show 4 ≤ sizeLine; decide, fun p7 n7 => ?_⟩⟩⟩⟩⟩⟩⟩⟩
      have F0 := upd_same (H := H2) (a := p0) (o := .lst [.ref D])
      have U0 := same_upd (o := .lst [.ref D]) n0
      generalize upd H2 p0 (.lst [.ref D]) = H3 at *
      have F1 := upd_same (H := H3) (a := p1) (o := .lst [])
      have U1 := same_upd (o := .lst []) n1
      generalize upd H3 p1 (.lst []) = H4 at *
      have F2 := upd_same (H := H4) (a := p2) (o := .lst [.ref p1])
      have U2 := same_upd (o := .lst [.ref p1]) n2
      generalize upd H4 p2 (.lst [.ref p1]) = H5 at *
      have F3 := upd_same (H := H5) (a := p3) (o := .lst [.non])
      have U3 := same_upd (o := .lst [.non]) n3
      generalize upd H5 p3 (.lst [.non]) = H6 at *
      have F4 := upd_same (H := H6) (a := p4) (o := .lst [.int 0])
      have U4 := same_upd (o := .lst [.int 0]) n4
      generalize upd H6 p4 (.lst [.int 0]) = H7 at *
      have F5 := upd_same (H := H7) (a := p5) (o := .lst [.int 0])
      have U5 := same_upd (o := .lst [.int 0]) n5
      generalize upd H7 p5 (.lst [.int 0]) = H8 at *
      have F6 := upd_same (H := H8) (a := p6) (o := .lst [.ref p4, .ref p5])
      have U6 := same_upd (o := .lst [.ref p4, .ref p5]) n6
      generalize upd H8 p6 (.lst [.ref p4, .ref p5]) = H9 at *
      have F7 := upd_same (H := H9) (a := p7) (o := .lst [.ref p0, .ref p2, .ref p3, .ref p6])
      have U7 := same_upd (o := .lst [.ref p0, .ref p2, .ref p3, .ref p6]) n7
      generalize upd H9 p7 (.lst [.ref p0, .ref p2, .ref p3, .ref p6]) = H10 at *
      have T6 := U6.trans U7
      have T5 := U5.trans T6
      have T4 := U4.trans T5
      have T3 := U3.trans T4
      have T2 := U2.trans T3
      have T1 := U1.trans T2
      have T0 := U0.trans T1
      have zs : ∀ (c : Addr) (n : Nat), H10 c = some (.lst ((List.replicate n (0 : Int)).map V.int)) → n ≤ m + 2 → GoodRow K H10 (m + 2) (b + 80000010) (.ref c) := fun c n e l => .inl ⟨c, _, rfl, e, by rw [List.length_map, List.length_replicate]; exact l, fun x hx => by
        obtain ⟨k, hk, rfl⟩ := List.mem_map.mp hx
        rw [List.eq_of_mem_replicate hk]
        exact .inl ⟨0, rfl, by omega, by omega⟩⟩
      obtain ⟨p, ys, ex, ep, l2, hy⟩ : ∃ p ys, atI [V.ref p0, .ref p2, .ref p3, .ref p6] (bY % 4) = some (.ref p) ∧ H10 p = some (.lst ys) ∧ ys.length ≤ 2 ∧ ∀ v ∈ ys, GoodRow K H10 (m + 2) (b + 80000010) v := by
        have hd : bY % 4 = ((0 : Nat) : Int) ∨ bY % 4 = ((1 : Nat) : Int) ∨ bY % 4 = ((2 : Nat) : Int) ∨ bY % 4 = ((3 : Nat) : Int) := by omega
        rcases hd with e | e | e | e <;> rw [e]
        · exact ⟨p0, _, atI_nat rfl, T1 _ _ F0, by show 1 ≤ 2; decide, fun v hv => by
            rw [List.mem_singleton.mp hv]
            exact zs D w0.length (T0 _ _ E0') (by omega)⟩
        · exact ⟨p2, _, atI_nat rfl, T3 _ _ F2, by show 1 ≤ 2; decide, fun v hv => by
            rw [List.mem_singleton.mp hv]
            exact zs p1 0 (T2 _ _ F1) (by omega)⟩
        · exact ⟨p3, _, atI_nat rfl, T4 _ _ F3, by show 1 ≤ 2; decide, fun v hv => by
            rw [List.mem_singleton.mp hv]
            exact .inr ux_non⟩
        · exact ⟨p6, _, atI_nat rfl, U7 _ _ F6, by show 2 ≤ 2; decide, fun v hv => by
            rcases List.mem_cons.mp hv with h | h
            · rw [h]
              exact zs p4 1 (T5 _ _ F4) (by omega)
            · rw [List.mem_singleton.mp h]
              exact zs p5 1 (T6 _ _ F5) (by omega)⟩
      have sA := sm.trans (S0.trans T0)
      have sl : 1000 < sizeLine := by decide
      refine ⟨_, rfl, .inl ⟨_, rfl, _, _, rfl, rfl, by show (0 : Int) < 4; decide, p7, _, _, _, rfl, rfl, .inl (.inl F7), ex, N, p, w0, ys, rfl, rfl, (S0.trans T0) _ _ eN, ep, by omega, fun c nc => ?_⟩⟩
      have sc := same_upd (o := .lst (w0 ++ ys)) nc
      refine q _ _ (sA.trans sc) ⟨_, upd_same, by rw [List.length_append]; omega, fun v hv => ?_⟩
      rcases List.mem_append.mp hv with h | h
      · exact ((g0 v h).same (sA.trans sc)).le (by omega) (by omega)
      · exact (hy v h).same sc
    obtain ⟨tX1, hX1, qX1⟩ : ∃ tR, PSs (cxOf CX0 P w K mg base ["_law_rows", "_law_kind", "_law_i", "_law_j", "_law_by", "_law_new", "_law_row", "_law_value", "_law_far", "_law_k"] "_law_spoilt" (defScope s__law_spoilt) f cdv A outer s H E).nox ((defBody s__law_spoilt).drop 1) tR ∧ ∀ (N : Addr) (y6 y7 y8 y9 : Option V), H N = none → tR { nx := fun _ H' => Q .non H', rt := Q } [some (.ref a), some (.int kd), some (.int (i : Int)), some (.int (j : Int)), some (.int bY), some (.ref N), y6, y7, y8, y9] (upd H N (.lst w0)) := by
      refine ⟨_, (pss_cons (ps_if (pt_cmpR op_eq (pv 1) pe_int (nomark _)) (pss_one (ps_ret (pe_slice sl_list (pv 5) po_none (po_some (pv 2))))) pss_nil)
        hX2), ?_⟩
      intro N y6 y7 y8 y9 nN
      refine ⟨_, rfl, rfl, _, rfl, ite2 (fun e1 => ?_) (fun e1 => qX2 _ _ _ _ _ nN)⟩
      refine ⟨_, rfl, _, rfl, _, rfl, N, w0, rfl, .inl (.inl upd_same), fun c nc => ?_⟩
      have sc := (same_upd (o := .lst w0) nN).trans (same_upd (o := .lst (cutV w0 none (some (i : Int)))) nc)
      exact q _ _ sc ⟨_, upd_same, Nat.le_trans (cut_len _ _ _) (by omega), fun v hv => ((g0 v (cut_mem _ _ _ hv)).same sc).le (by omega) (by omega)⟩
    refine ⟨_, (pss_cons (ps_setLc (i := 5) (own := [("_law_row", 6)]) (g := gName 6) (tt := tYes) rfl sc__law_spoilt.nd rfl rfl (sw_true rfl rfl rfl (by decide +kernel)) (pi_list (pv 0)) (blkOk_by (own := [("_law_row", 6)]) (N := ["_law_rows", "_law_kind", "_law_i", "_law_j", "_law_by", "_law_new", "_law_row", "_law_value", "_law_far", "_law_k"]) (sc := defScope s__law_spoilt) (by decide +kernel)) (fun _ _ _ _ _ => (pg_name (i := 6) sc__law_spoilt.nd rfl (.inl rfl))) (fun _ _ _ _ _ => pts_nil) (fun _ _ _ _ _ => (pv 6)))
        hX1), ?_⟩
    refine ⟨_, rfl, a, rfl, ⟨_, .inl (.inl ea)⟩, fun D hD => ?_⟩
    refine lc_list (K := K) (a := a) (xs := w0) (fun i H5 => H5 = upd H D (.lst (w0.take i))) rfl (fun i H5 _ p => by subst p; exact .inl (.inl (same_upd hD _ _ ea))) (fun i x H5 hxi p => ?_) (fun H5 p => ?_)
    · subst p
      refine ⟨rfl, ?_⟩
      refine ⟨_, rfl, _, upd_same, ?_, ?_⟩
      · rw [List.length_take]
        exact Nat.lt_of_le_of_lt (Nat.min_le_right _ _) (small1000 (by omega))
      · rw [upd_upd, List.take_add_one, hxi]
        rfl
    subst p
    rw [List.take_length]
    exact qX1 _ _ _ _ _ hD
end
end Own

/-! A list taken over item by item while an error is handled: `g = [r for r in rows]`. -/
namespace Own
open PySem PySem.Spec PyProof.Rows L2 HotX L2H
section
variable {prog : Program} {w : World} {A : Around} {E : Value → Shared → Prop} {s : Shared}
/-- a list's iterator has no more items, an error being handled -/
theorem list_end_hot {it l x1 : Addr} {k : Nat} {its : Array Value} {Q : Option Value → Shared → Prop} (hot : HotAt A x1 s.heap) (ti : s.heap.IsListIter it l k) (tl : s.heap.IsList l its) (no : its[k]? = none)
    (q : ∀ h', Heap.ExtBut it s.heap h' → Q none { s with heap := h' }) : wpAny (model prog w) A (pyNext (.ref it)) Q E s := by
  obtain ⟨oi, gi, ci, di⟩ := id ti
  obtain ⟨ol, gl, _, nl, dl⟩ := tl
  obtain ⟨hh, ox, vx, gx, dx, cx⟩ := hot
  have nx : x1 ≠ it := fun z => by
    rw [z, gi] at gx
    have e := Option.some.inj gx
    rw [← e, di] at dx
    injection dx with e2
    rw [← e2] at cx
    simp at cx
  unfold pyNext
  refine wpAny_bind (wpAny_attempt (wpAny_callSpecial?_slot (name := Str.ofString "__next__") ti.typeIs slot_listiter_next (wpAny_call_entry slot_listiter_next ti.typeIs entry_listiter_next ?_ (args_listiter_next _))))
  refine wpAny_bind (m := field (.ref it) 0) (wpAny_field gi di (x := .ref l) rfl ?_)
  dsimp only
  rw [if_neg (fun z : (Value.ref l == Value.none) = true => Bool.false_ne_true z)]
  refine wpAny_bind (m := field (.ref it) 1) (wpAny_field gi di (x := .int k 0) rfl (wpAny_bind (m := seqItems? (.ref l)) (wpAny_seqItems gl dl ?_)))
  simp only [Int.toNat_natCast, no]
  refine wpAny_bind (wpAny_rule (wpAny_bind (wpAny_setField gi di (by simp) (wpAny_bind (m := newExc (.type "StopIteration") []) ?_))))
  simp only [newExc, newTuple]
  have up : ∀ (b : Addr) (o : Obj), b ≠ it → s.heap.get? b = some o → (s.heap.update it (Obj.mapFields (·.setIfInBounds 0 .none))).get? b = some o := fun b o n e => (Heap.get?_update_other _ _ (fun z => n z.symm)).trans e
  refine wpAny_bind (wpAny_newObj_type (wpAny_bind (m := firstArgMember _ _) (wpAny_of_eq (a := Value.none) (by first | rfl | (simp only [firstArgMember]; rfl)) (wpAny_newObj_type ?_ (by size_fits)))) (by size_fits))
  refine raiseNew_hot (x1 := x1) ⟨hh, ox, vx, Heap.get?_push_of_some _ (Heap.get?_push_of_some _ (up x1 ox nx gx)), dx, cx⟩ (Nat.ne_of_lt (Heap.lt_size (Heap.get?_push_of_some _ (up x1 ox nx gx)))) (Heap.get?_push_size _ rfl) rfl (by first | (simp; done) | (simp; omega) | (simp only [Array.size_append]; simp; omega)) ?_
  refine wpAny_bind (wpAny_isInstance (T := "StopIteration") (b := true) ⟨_, Heap.get?_update_self _ (Heap.get?_push_size _ rfl) rfl, rfl⟩ isSubtype_stop (wpAny_pure (q _ fun b o n e => ?_)))
  have e2 := Heap.get?_push_of_some { cls := .type "tuple", data := .seq #[] } (up b o n e)
  exact (Heap.get?_update_other _ _ (Nat.ne_of_gt (Heap.lt_size e2))).trans (Heap.get?_push_of_some _ e2)
end
end Own

namespace Own
open PySem PySem.Spec PyProof.Rows L2 HotX L2H
section
variable {X : Cx}
/-- [v for v in rows]: a new list of the same items -/
def tCopy (K : PySem.W.Frag) (tl : TE) : TE := fun σ H Q => tl σ H fun x H1 => ∃ a xs, x = .ref a ∧ H1 a = some (.lst xs) ∧ xs.length ≤ 1000 ∧ ∀ D, H1 D = none → Q (.ref D) (upd H1 D (.lst xs))
theorem copy_core {pins : List (Addr × Obj)} {s : Shared} {σ : L2.St} {H : Hp} {Q : VK} {l : Expr} {v : Str} {j : Nat} {p1 p2 pos pos' : Pos} {scope : Scope} {tl : TE} {use : Option (Value → Sem Unit)} {Qf : Value → Shared → Prop}
    (hc : HotC X) (hN : X.N.Nodup) (I : Inv X pins σ H s) (hl : PE X l tl) (ok : BlkOk X.N X.env.scope scope [(v, j)])
    (hg : ∀ (s : Shared) (H : Hp) (C : Addr) (cl : List (Str × Addr)) (fp : List Addr), PG (X.blk s H scope (compEnvC scope cl C X.env) fp) (.Name v p2) (gName j))
    (he : ∀ (s : Shared) (H : Hp) (C : Addr) (cl : List (Str × Addr)) (fp : List Addr), PE (X.blk s H scope (compEnvC scope cl C X.env) fp) (.Name v p1) (tVar j)) (hs : ∀ x, foldedSetIterable l X.env x = pure x)
    (h : tCopy X.K tl σ H Q)
    (fin : ∀ D C s' m H', Inv X pins σ H' s' → Q (.ref D) H' → s'.heap.Ns C m → FpOk X pins H' C → compPost (model X.prog X.w) X.A X.xe use Qf (.ref D) C (.ok .next) s') :
    wpAny (model X.prog X.w) X.A (comprehension (.ListComp (.Name v p1) [⟨.Name v p2, l, [], 0⟩] scope pos) scope X.env pos' (newList []) false (eval l X.env) use) Qf X.xe s := by
  refine wpAny_comprehension_free (use := use) rfl hs (closure_ok fun y hy e => (ok.free y hy e).elim (fun k => I.ok.has _ (.inl k)) fun k => I.ok.has _ (.inr k)) ok.kind (fun y hy e => by rw [ok.uniq y hy, e]) ?_
  refine thn (hl.run pins s σ H _ I h) fun v1 s1 ⟨x, H1, I1, r1, a, xs, ex, hq, hlen, q⟩ => ?_
  subst ex
  cases r1
  obtain ⟨its, rv, pl, hz⟩ := I1.list (show SqL X.K H1 a xs from .inl (.inl hq))
  refine wpAny_pyIter_list pl.isList ?_
  change wpAny _ _ _ _ _ ({ s1 with heap := s1.heap.push { cls := .type "list_iterator", data := .fields #[.ref a, rawInt 0] } } : Shared)
  have it1 : ({ s1 with heap := s1.heap.push { cls := .type "list_iterator", data := .fields #[.ref a, rawInt 0] } } : Shared).heap.IsListIter s1.heap.objs.size a 0 := ⟨_, Heap.get?_push_size _ rfl, rfl, rfl⟩
  have I2 : Inv X pins σ H1 { s1 with heap := s1.heap.push { cls := .type "list_iterator", data := .fields #[.ref a, rawInt 0] } } := I1.kept (t' := s1.toks) fun b o e => Heap.get?_push_of_some _ e
  have fi : FpOk X pins H1 s1.heap.objs.size := I1.fpOk (Nat.le_refl _) (I1.hok.fresh (Nat.le_refl _))
  have li : s1.heap.objs.size < ({ s1 with heap := s1.heap.push { cls := .type "list_iterator", data := .fields #[.ref a, rawInt 0] } } : Shared).heap.objs.size := by
    show _ < (s1.heap.push _).objs.size
    rw [Heap.size_push]
    exact Nat.lt_succ_self _
  generalize hs2 : ({ s1 with heap := s1.heap.push { cls := .type "list_iterator", data := .fields #[.ref a, rawInt 0] } } : Shared) = s2 at it1 I2 li
  generalize s1.heap.objs.size = it at it1 fi li
  have nit : H1 it = none := fi.1
  refine wpAny_newObj_type (newEnv_comp ?_) (by show 0 ≤ sizeLine; decide)
  have hDn : H1 s2.heap.objs.size = none := I2.hok.fresh (Nat.le_refl _)
  have qD := q _ hDn
  have I3 : Inv X pins σ (upd H1 s2.heap.objs.size (.lst [])) { s2 with heap := s2.heap.push { cls := .type "list", data := .seq ([] : List Value).toArray } } := I2.laid (t' := s2.toks) (fun b o e => Heap.get?_push_of_some _ e) (Nat.le_refl _) ⟨Nat.zero_le _, [], 0, .nil, Heap.get?_push_size _ rfl⟩
  have itD : it ≠ s2.heap.objs.size := Nat.ne_of_lt li
  have f3 : FpOk X pins (upd H1 s2.heap.objs.size (.lst [])) it := ⟨by rw [upd_ne itD]; exact nit, fi.2⟩
  have it3 : ({ s2 with heap := s2.heap.push { cls := .type "list", data := .seq ([] : List Value).toArray } } : Shared).heap.IsListIter it a 0 := by
    obtain ⟨o, e, c, d⟩ := it1
    exact ⟨o, Heap.get?_push_of_some _ e, c, d⟩
  have l3 : it < ({ s2 with heap := s2.heap.push { cls := .type "list", data := .seq ([] : List Value).toArray } } : Shared).heap.objs.size := by
    show _ < (s2.heap.push _).objs.size
    rw [Heap.size_push]
    exact Nat.lt_succ_of_lt li
  generalize hs3 : ({ s2 with heap := s2.heap.push { cls := .type "list", data := .seq ([] : List Value).toArray } } : Shared) = s3 at I3 it3 l3 ⊢
  clear hs2 I2 it1 li
  generalize s2.heap.objs.size = D at hDn qD I3 itD f3 ⊢
  have aD : a ≠ D := fun z => by
    rw [z, hDn] at hq
    cases hq
  have f3' : ∀ b ∈ [it], FpOk X pins (upd H1 D (.lst [])) b ∧ b < s3.heap.objs.size := fun b hb => by
    rw [List.mem_singleton.mp hb]
    exact ⟨f3, l3⟩
  have I4 := block_start I3 ok hN f3'
  have pg := hg s3 (upd H1 D (.lst [])) s3.heap.objs.size (cellsFrom (s3.heap.objs.size + 1) scope.names (cloFrom X.env.cells scope.names [])) [it]
  have pe := he s3 (upd H1 D (.lst [])) s3.heap.objs.size (cellsFrom (s3.heap.objs.size + 1) scope.names (cloFrom X.env.cells scope.names [])) [it]
  have it4 : ({ s3 with heap := pushCells (s3.heap.push { cls := .type "dict", data := .dict #[] }) scope.names } : Shared).heap.IsListIter it a 0 := by
    obtain ⟨o, e, c, d⟩ := it3
    exact ⟨o, pushCells_keeps _ _ _ _ (Heap.get?_push_of_some _ e), c, d⟩
  change codeAny _ _ (.compStart (.ListComp (.Name v p1) [⟨.Name v p2, l, [], 0⟩] scope pos) 0 (.ref it) (.ref D) (compEnvC scope (cellsFrom (s3.heap.objs.size + 1) scope.names (cloFrom X.env.cells scope.names [])) s3.heap.objs.size X.env)) (compPost (model X.prog X.w) X.A X.xe use Qf (.ref D) s3.heap.objs.size) { s3 with heap := pushCells (s3.heap.push { cls := .type "dict", data := .dict #[] }) scope.names }
  generalize hce : compEnvC scope (cellsFrom (s3.heap.objs.size + 1) scope.names (cloFrom X.env.cells scope.names [])) s3.heap.objs.size X.env = ce at I4 pg pe ⊢
  have cL : ce.locals = s3.heap.objs.size := by subst hce; rfl
  generalize hs4 : ({ s3 with heap := pushCells (s3.heap.push { cls := .type "dict", data := .dict #[] }) scope.names } : Shared) = s4 at I4 it4 ⊢
  generalize hwp : wipe σ (List.map (fun x => x.snd) [(v, j)]) = σw at I4
  have jN : X.N[j]? = some v := ok.ix (v, j) (by simp)
  have jl : j < σw.length := by
    have := I4.len
    rw [this]
    exact (List.getElem?_eq_some_iff.mp jN).1
  have turns : codeAny (model X.prog X.w) X.A (.compLoop (.ListComp (.Name v p1) [⟨.Name v p2, l, [], 0⟩] scope pos) 0 (.ref it) (.ref D) ce) (compPost (model X.prog X.w) X.A X.xe use Qf (.ref D) s3.heap.objs.size) s4 := by
    refine compLoop_any (fun n s' => ∃ k, n + k = xs.length ∧ Inv (X.blk s3 (upd H1 D (.lst [])) scope ce [it]) [] σw (upd H1 D (.lst (xs.take k))) s' ∧ s'.heap.IsListIter it a k) ?_ xs.length ⟨0, rfl, I4, it4⟩
    rintro n s5 ⟨k, hk, I5, t5⟩
    have q5 : SqL X.K (upd H1 D (.lst (xs.take k))) a xs := .inl (.inl (by rw [upd_ne aD]; exact hq))
    obtain ⟨its5, rv5, p5, hz5⟩ := I5.list q5
    have h5 : upd H1 D (.lst (xs.take k)) it = none := by rw [upd_ne itD]; exact nit
    have own5 : ∀ b ∈ [it], FpOk (X.blk s3 (upd H1 D (.lst [])) scope ce [it]) [] (upd H1 D (.lst (xs.take k))) b := fun b hb => by
      have e := List.mem_singleton.mp hb
      exact ⟨by rw [e]; exact h5, (I5.ok.exf b hb).1, I5.ok.exfs b hb, .inl hb, fun x c e => (I5.ok.exf b hb).2 x c e, fun p hp => nomatch hp⟩
    obtain ⟨g0, g1, g2, g3, g4, g5⟩ := own5 it (List.mem_singleton.mpr rfl)
    by_cases hlt : k < xs.length
    · have hx : xs[k]? = some xs[k] := List.getElem?_eq_getElem hlt
      generalize xs[k] = x at hx
      obtain ⟨u, hu, ru⟩ := rv5.get hx
      refine wpAny_pyNext_list_item t5 p5.isList (x := u) (by simpa using hu) fun h' t6 sb => ?_
      have I6 := I5.turned (t' := s5.toks) (fun b o hb e => (sb.2 b hb).trans e) g0 g1 g3 g4 g5
      obtain ⟨o6, e6, c6, d6⟩ := id t6
      refine go_of (s := { s5 with heap := h' }) e6 c6 d6 (by decide) ?_
      have I7 := I6.pinned own5 (fun b hb => by
        rw [List.mem_singleton.mp hb]
        exact ⟨o6, e6, fun y z => by rw [d6] at z; cases z⟩)
      refine thnF (pg.run _ _ _ _ x u (fun σ2 H2 => σ2 = σw.set j (some x) ∧ H2 = upd H1 D (.lst (xs.take k))) I7 ru ⟨rfl, rfl⟩) fun _ s8 ⟨σ8, H8, I8, es8, eh8⟩ => ?_
      subst es8 eh8
      refine wpAny_tests_nil ?_
      rw [if_pos rfl]
      refine thnF (pe.run _ s8 _ _ (fun y H9 => y = x ∧ H9 = upd H1 D (.lst (xs.take k))) I8 ⟨x, by rw [List.getElem?_set_self jl], rfl, rfl⟩) fun z s9 ⟨y, H9, I9, r9, ey, eh9⟩ => ?_
      subst ey eh9
      refine app_ok (X := X.blk s3 (upd H1 D (.lst [])) scope ce [it]) I9 upd_same (by rw [List.length_take]; exact Nat.lt_of_le_of_lt (Nat.min_le_right _ _) (small1000 hlen)) r9 fun s10 I10 => ?_
      rw [upd_upd, show xs.take k ++ [y] = xs.take (k + 1) by rw [List.take_add_one, hx]; rfl] at I10
      have kp := (I10.pin (it, o6) (List.mem_append_right _ (List.mem_append_right _ (mem_pinsAt (List.mem_singleton.mpr rfl) e6)))).1
      refine ⟨n - 1, by omega, k + 1, by omega, (I10.unpinned (pins := [])).weak (by rw [List.length_set]) (fun m w e => ?_), ⟨o6, kp, c6, d6⟩⟩
      rw [← hwp] at e
      have hm := (wipe_some e).2
      rw [hwp] at e
      rw [List.getElem?_set_ne (fun z => hm (by rw [← z]; simp))]
      exact e
    · have ek : xs.take k = xs := List.take_of_length_le (by omega)
      have back : ∀ {H' : Hp} {s' : Shared}, Inv (X.blk s3 (upd H1 D (.lst [])) scope ce [it]) [] σw H' s' → Inv X pins σ H' s' := fun I' => I3.call' (ch := [it]) I'.os I'.base I'.hok I'.bare fun b hb => ⟨(f3' b hb).1.2.2.2.1, (f3' b hb).1.2.1, (f3' b hb).1.2.2.2.2.1, (f3' b hb).1.2.2.2.2.2⟩
      obtain ⟨x1, hot⟩ := hc.at (back I5)
      refine list_end_hot hot t5 p5.isList (by have := rv5.length; simp; omega) fun h' eb => ?_
      have I6 := I5.turned (t' := s5.toks) (fun b o hb e => eb b o hb e) g0 g1 g3 g4 g5
      rw [ek] at I6
      obtain ⟨m, hn, _⟩ := I6.loc
      rw [show (X.blk s3 (upd H1 D (.lst [])) scope ce [it]).env.locals = s3.heap.objs.size from cL] at hn
      have nC : upd H1 D (.lst xs) s3.heap.objs.size = none := by
        have z := I6.free
        rw [show (X.blk s3 (upd H1 D (.lst [])) scope ce [it]).env.locals = s3.heap.objs.size from cL] at z
        exact z
      exact fin D s3.heap.objs.size _ m _ (back I6) qD hn (I3.fpOk (Nat.le_refl _) nC)
  exact codeAny_compStart_list turns (wpAny_pyIter_listiter it4 turns)
/-- g = [v for v in rows], an error being handled -/
theorem ps_copyH {i j : Nat} {y v : Str} {py p1 p2 pos spos : Pos} {l : Expr} {scope : Scope} {tl : TE} (hc : HotC X) (hN : X.N.Nodup) (hy : X.N[i]? = some y) (hyl : X.env.scope.names.lookup y = some .local)
    (hsw : swapsWith (.ListComp (.Name v p1) [⟨.Name v p2, l, [], 0⟩] scope pos) (some (.Name y py)) spos.line X.env = pure true) (hl : PE X l tl) (ok : BlkOk X.N X.env.scope scope [(v, j)])
    (hg : ∀ (s : Shared) (H : Hp) (C : Addr) (cl : List (Str × Addr)) (fp : List Addr), PG (X.blk s H scope (compEnvC scope cl C X.env) fp) (.Name v p2) (gName j))
    (he : ∀ (s : Shared) (H : Hp) (C : Addr) (cl : List (Str × Addr)) (fp : List Addr), PE (X.blk s H scope (compEnvC scope cl C X.env) fp) (.Name v p1) (tVar j)) (hs : ∀ x, foldedSetIterable l X.env x = pure x := by intro _; rfl) :
    PS X (.Assign [.Name y py] (.ListComp (.Name v p1) [⟨.Name v p2, l, [], 0⟩] scope pos) spos) (tAsg (tCopy X.K tl) (gName i)) := by
  constructor
  intro pins s σ H D I h
  rw [exec_Assign_Name_used _ _ _ _ hsw]
  have made : wpAny (model X.prog X.w) X.A (comprehension (.ListComp (.Name v p1) [⟨.Name v p2, l, [], 0⟩] scope pos) scope X.env (firstIterPos [⟨.Name v p2, l, [], 0⟩] pos) (newList []) false (eval l X.env) (some (assign (.Name y py) X.env))) (fun _ s' => SP X pins D .next s') X.xe s := by
    refine copy_core (Q := fun x H1 => gName i x σ H1 D.nx) hc hN I hl ok hg he hs h fun L C s' m H' I' q hn f => ?_
    refine wpAny_assign_Name (store_ok2 (v := V.ref L) I' hN hy (.inl hyl) rfl (fun s2 I2 ⟨a, sb, ha⟩ => ⟨m, hn.sameBut sb ?_, fun h3 sb3 => ⟨_, H', I2.turned (t' := s2.toks) (fun b o hb e => (sb3.2 b hb).trans e) f.1 f.2.1 f.2.2.2.1 f.2.2.2.2.1 f.2.2.2.2.2, q⟩⟩) (.inr hyl))
    exact ha.elim (fun z => by rw [z]; exact f.2.1) fun z e => f.2.2.2.2.1 y a z e.symm
  exact wpAny_bind (wpAny_standAt (wpAny_bind (wpAny_bind (thn made fun _ s' hq => wpAny_pure (wpAny_pure hq)))))
end
end Own

namespace Own
open PySem PySem.Spec PyProof.Rows L2 L2H
section
variable {P : Program} {w : World} {K : PySem.W.Frag} {mg : Str → Option Value} {base : Heap} {C : Addr}
set_option maxHeartbeats 0 in
theorem okH_pasg {f : Addr} {fd : FuncData} (F : Fun K "_law_passed" "_law_passed" s__law_passed f fd) (T : Bi mg) : L2H.FnH P w K mg base CX0 1 f fd ["_law_rows", "_law_form"] (spPasG K) := by
  refine okH F sc__law_passed (fun vs H Q E h => ?_) (fun cdv A outer s H vs Q E p hot hr h => ?_)
  · obtain ⟨a, ws, rs, form, rfl, _⟩ := h
    rfl
  · obtain ⟨a, ws, rs, form, rfl, ea, hR, hl, q⟩ := h
    refine ⟨_, (pss_cons (ps_copyH (i := 2) (j := 4) hot sc__law_passed.nd rfl rfl (sw_true rfl rfl rfl (by decide +kernel)) (pv 0) (blkOk_by (own := [("_law_row", 4)]) (N := ["_law_rows", "_law_form", "_law_grid", "_law_k", "_law_row"]) (sc := defScope s__law_passed) (by decide +kernel)) (fun _ _ _ _ _ => pg_name (i := 4) sc__law_passed.nd rfl (Or.inl rfl)) (fun _ _ _ _ _ => pv 4))
        (pss_cons (ps_forH PassesOwn.never hot (pi_range1H (by rfl) T.b_range (pa_cons (pe_callB call_len_seq (by rfl) T.b_len PySem.boot_len (pa_cons (pv 0) pa_nil)) pa_nil)) (pg_name (i := 3) sc__law_passed.nd rfl (.inl rfl))
        (pss_one (ps_if (pt_val (pe_callB call_isi (by rfl) T.b_isinstance (by decide +kernel) (pa_cons (pe_ix (r := rIxL K) ix_list (pv 0) (pv 3) (fun _ _ => rfl)) (pa_cons (pe_bltn (v := .ty "list") (by rfl) T.b_list (by decide +kernel) rfl) pa_nil)))) (pss_cons (ps_asg (pe_callTy call_list_of (by rfl) T.b_list (by decide +kernel) (pa_cons (pe_ix (r := rIxL K) ix_list (pv 0) (pv 3) (fun _ _ => rfl)) pa_nil)) (pg_sub (pv 2) (pv 3) set_list))
        (pss_one (ps_if (pt_cmpR op_eq (pe_op op_mod (pe_callTy call_int1 (by rfl) T.b_int (by decide +kernel) (pa_cons (pe_op op_add (pe_op op_fdiv (pv 1) pe_int) (pe_op op_mul (pv 3) (pe_op op_fdiv (pv 1) pe_int))) pa_nil)) pe_int) pe_int (nomark _)) (pss_one (ps_asg (pe_callTy call_tuple_of (by rfl) T.b_tuple (by decide +kernel) (pa_cons (pe_ix (r := rIxL K) ix_list (pv 0) (pv 3) (fun _ _ => rfl)) pa_nil)) (pg_sub (pv 2) (pv 3) set_list))) pss_nil))) pss_nil)))
        (pss_cons (ps_if (pt_cmpR op_eq (pe_op op_mod (pe_callTy call_int1 (by rfl) T.b_int (by decide +kernel) (pa_cons (pv 1) pa_nil)) pe_int) pe_int (nomark _)) (pss_one (ps_ret (pe_callTy call_tuple_of (by rfl) T.b_tuple (by decide +kernel) (pa_cons (pv 2) pa_nil)))) pss_nil)
        (pss_one (ps_ret (pv 2)))))), ?_⟩
    have lw : ws.length = rs.length := hR.1
    have lwb : ws.length ≤ 1000 := by omega
    refine ⟨_, rfl, a, ws, rfl, ea, lwb, fun D hD => ?_⟩
    have sD : Same H (upd H D (.lst ws)) := same_upd hD
    have keep : ∀ (H' H2 : Hp) (t : Bool) (r : RwA) (v : V) (o : HO), Same H' H2 → PasR H H' t r v → (∀ xs, r = .inl xs → v ≠ .ref D) → PasR H (upd H2 D o) t r v := fun H' H2 t r v o s h ne => by
      match r, h, ne with
      | .inl xs, ⟨b, e, h⟩, ne =>
        have bD : b ≠ D := fun z => ne xs rfl (by rw [e, z])
        refine ⟨b, e, ?_⟩
        rw [upd_ne bD]
        split
        · rename_i hp
          rw [if_pos hp] at h
          exact s _ _ h
        · rename_i hp
          rw [if_neg hp] at h
          exact ⟨s _ _ h.1, h.2⟩
      | .inr u, h, _ => exact h
    refine ⟨_, rfl, a, ws, rfl, .inl (.inl (.inl (sD _ _ ea))), (ws.length : Int), rfl, by omega, by omega, for_range (lo := 0) (n := ((ws.length : Nat) : Int).toNat) (fun i σ H' => (∃ y3 y4, σ = [some (.ref a), some (.int form), some (.ref D), y3, y4]) ∧ Same H H' ∧ ∃ us : List V, H' D = some (.lst us) ∧ us.length = ws.length ∧ (∀ k, i ≤ k → us[k]? = ws[k]?) ∧ ∀ (k : Nat) (r : RwA), k < i → rs[k]? = some r → ∃ v, us[k]? = some v ∧ PasR H H' (par form k) r v ∧ ∀ xs, r = .inl xs → v ≠ .ref D) ⟨⟨_, _, rfl⟩, sD, ws, upd_same, rfl, fun _ _ => rfl, fun k r z => absurd z (Nat.not_lt_zero _)⟩ (fun i σ H' hi pv => ?_) (fun σ H' pv => ?_)⟩
    · obtain ⟨⟨y3, y4, rfl⟩, sm, us, eD, lu, hge, hlt⟩ := pv
      rw [Int.zero_add]
      have il : i < rs.length := by omega
      have er : rs[i]? = some rs[i] := List.getElem?_eq_getElem il
      have hr2 := hR.2 i _ er
      generalize rs[i] = r at er hr2
      have qa : ∀ H2, Same H' H2 → SqL K H2 a ws := fun H2 s2 => .inl (.inl (s2 _ _ (sm _ _ ea)))
      match r, er, hr2 with
      | .inr u, er, ⟨ew, T_, ty, m⟩ =>
        have no : PySem.W.kitOne K (.type T_) (.type "list") = some false := by
          simp only [List.mem_cons, List.not_mem_nil, or_false] at m
          rcases m with rfl | rfl | rfl | rfl | rfl <;> exact kit_ty (by decide +kernel)
        refine ⟨_, rfl, _, rfl, a, ws, _, _, rfl, rfl, qa _ (Same.refl H'), atI_nat ew, _, _, _, _, false, rfl, .ty "list", tyx_same sm ty, no, false, rfl, ?_⟩
        refine ⟨⟨_, _, rfl⟩, sm, us, eD, lu, fun k hk => hge k (by omega), fun k r hk e => ?_⟩
        by_cases ki : k < i
        · exact hlt k r ki e
        · rw [show k = i by omega] at e ⊢
          rw [er] at e
          cases e
          exact ⟨u, by rw [hge i (Nat.le_refl _)]; exact ew, rfl, fun xs z => nomatch z⟩
      | .inl xs, er, ⟨b, ew, eb⟩ =>
        have ai : atI ws (i : Int) = some (.ref b) := atI_nat ew
        have qb : ∀ H2, Same H' H2 → SqL K H2 b xs := fun H2 s2 => .inl (.inl (s2 _ _ (sm _ _ eb)))
        have iu : i < us.length := by omega
        -- the list with a new row at i
        have next : ∀ (H2 : Hp) (us2 : List V) (c : Addr), Same H (upd H2 D (.lst us2)) → us2 = us.set i (.ref c) → Same H' H2 → c ≠ D → (if par form (i : Int) = true then H2 c = some (.tup xs) else H2 c = some (.lst xs) ∧ H c = none) →
            (∃ us3 : List V, (upd H2 D (.lst us2)) D = some (.lst us3) ∧ us3.length = ws.length ∧ (∀ k, i + 1 ≤ k → us3[k]? = ws[k]?) ∧ ∀ (k : Nat) (r : RwA), k < i + 1 → rs[k]? = some r → ∃ v, us3[k]? = some v ∧ PasR H (upd H2 D (.lst us2)) (par form k) r v ∧ ∀ xs, r = .inl xs → v ≠ .ref D) := fun H2 us2 c _ eu s2 cD hc => by
          subst eu
          refine ⟨_, upd_same, by rw [List.length_set]; exact lu, fun k hk => by rw [List.getElem?_set_ne (by omega)]; exact hge k (by omega), fun k r hk e => ?_⟩
          by_cases ki : k < i
          · obtain ⟨v, e1, e2, e3⟩ := hlt k r ki e
            exact ⟨v, by rw [List.getElem?_set_ne (by omega)]; exact e1, keep _ _ _ _ _ _ s2 e2 e3, e3⟩
          · have ek : k = i := by omega
            subst ek
            rw [er] at e
            cases e
            refine ⟨.ref c, by rw [List.getElem?_set_self iu], ⟨c, rfl, ?_⟩, fun xs _ z => cD (V.ref.inj z)⟩
            rw [upd_ne cD]
            exact hc
        refine ⟨_, rfl, _, rfl, a, ws, _, _, rfl, rfl, qa _ (Same.refl H'), ai, _, _, _, _, true, rfl, .ty "list", .base (.lst (sm _ _ eb)), kit_ty (by decide +kernel), true, rfl, ?_⟩
        refine ⟨_, rfl, _, rfl, a, ws, _, _, rfl, rfl, qa _ (Same.refl H'), ai, b, xs, rfl, .inl (qb _ (Same.refl H')), fun c nc => ?_⟩
        have sc : Same H' (upd H' c (.lst xs)) := same_upd nc
        have cD : c ≠ D := fun z => by rw [z, eD] at nc; cases nc
        refine ⟨_, rfl, _, rfl, D, us, _, i, rfl, rfl, sc _ _ eD, ixN_own iu, ?_⟩
        have s1 : Same H (upd (upd H' c (.lst xs)) D (.lst (us.set i (.ref c)))) := same_put (H1 := H) hD (sm.trans sc)
        refine ⟨_, rfl, _, _, rfl, rfl, ⟨by show (0 : Int) < 2; decide, by show (2 : Int) < 1073741824; decide⟩, _, rfl, _, rfl, _, _, rfl, rfl, ⟨by show (0 : Int) < 4; decide, by show (4 : Int) < 1073741824; decide⟩, _, _, rfl, rfl, .inl ⟨by omega, by omega⟩, _, _, rfl, rfl, .inl ⟨_, rfl, _, _, rfl, rfl, by show (0 : Int) < 2; decide, rfl, _, rfl, ite2 (fun e2 => ?_) (fun e2 => ?_)⟩⟩
        · have pp : par form (i : Int) = true := decide_eq_true (V.int.inj (of_decide_eq_true e2))
          have qa1 : SqL K (upd (upd H' c (.lst xs)) D (.lst (us.set i (.ref c)))) a ws := .inl (.inl (s1 _ _ ea))
          have qb1 : SqL K (upd (upd H' c (.lst xs)) D (.lst (us.set i (.ref c)))) b xs := .inl (.inl (s1 _ _ eb))
          refine ⟨_, rfl, _, rfl, a, ws, _, _, rfl, rfl, qa1, ai, b, xs, rfl, .inl ⟨qb1, fun c2 nc2 => ?_⟩⟩
          have eDx : (upd (upd H' c (.lst xs)) D (.lst (us.set i (.ref c)))) D = some (.lst (us.set i (.ref c))) := upd_same
          have c2D : c2 ≠ D := fun z => by rw [z, eDx] at nc2; cases nc2
          have nc2' : (upd H' c (.lst xs)) c2 = none := by rw [upd_ne c2D] at nc2; exact nc2
          refine ⟨_, rfl, _, rfl, D, us.set i (.ref c), _, i, rfl, rfl, same_upd nc2 _ _ eDx, ixN_own (by rw [List.length_set]; exact iu), ?_⟩
          rw [upd_swap c2D, List.set_set]
          have s2 : Same H' (upd (upd H' c (.lst xs)) c2 (.tup xs)) := sc.trans (same_upd nc2')
          have s3 : Same H (upd (upd (upd H' c (.lst xs)) c2 (.tup xs)) D (.lst (us.set i (.ref c2)))) := same_put (H1 := H) hD (sm.trans s2)
          exact ⟨⟨_, _, rfl⟩, s3, next _ _ c2 s3 rfl s2 c2D (by rw [if_pos pp]; exact upd_same)⟩
        · have pp : ¬ par form (i : Int) = true := fun z => e2 (decide_eq_true (congrArg V.int (of_decide_eq_true z)))
          exact ⟨⟨_, _, rfl⟩, s1, next _ _ c s1 rfl sc cD (by rw [if_neg pp]; exact ⟨upd_same, sm.free nc⟩)⟩
    · obtain ⟨⟨y3, y4, rfl⟩, sm, us, eD, lu, hge, hlt⟩ := pv
      have all : ∀ H2, Same H' H2 → ∀ (i : Nat) (r : RwA), rs[i]? = some r → ∃ v, us[i]? = some v ∧ PasR H H2 (par form i) r v := fun H2 s2 i r e => by
        obtain ⟨v, e1, e2, _⟩ := hlt i r (by have := (List.getElem?_eq_some_iff.mp e).1; omega) e
        exact ⟨v, e1, e2.same s2⟩
      refine ⟨_, rfl, .inl ⟨_, rfl, ?_⟩⟩
      refine ⟨_, _, rfl, rfl, by show (0 : Int) < 2; decide, rfl, _, rfl, ite2 (fun e2 => ?_) (fun e2 => ?_)⟩
      · have f1 : form % 2 = 1 := V.int.inj (of_decide_eq_true e2)
        refine ⟨_, rfl, D, us, rfl, .inl ⟨.inl (.inl eD), fun c nc => ?_⟩⟩
        exact q _ c (sm.trans (same_upd nc)) ⟨sm.free nc, us, by rw [if_pos f1]; exact upd_same, by omega, all _ (same_upd nc)⟩
      · have f1 : ¬ form % 2 = 1 := fun z => e2 (decide_eq_true (congrArg V.int z))
        exact ⟨_, rfl, q _ D sm ⟨hD, us, by rw [if_neg f1]; exact eD, by omega, all _ (Same.refl H')⟩⟩
end
end Own

namespace Own
open PySem PySem.Spec PyProof.Rows L2
section
variable {K : PySem.W.Frag} {H H' H0 H1 H2 : Hp} {rs : List RwA} {sz r c m : Nat} {b : Int}
theorem PlA.same {xs : List V} {t : Bool} (s : Same H H') (h : PlA K H rs r c xs t) : PlA K H' rs r c xs t := by
  cases h with
  | miss h => exact .miss h
  | bad h hw => exact .bad h (hw.elim .inl fun n => .inr (n.same s))
  | low h i0 cr h2 hj => exact .low h i0 cr h2 hj
  | up h i0 rc => exact .up h i0 rc
  | diag h i0 rc => exact .diag h i0 rc
theorem OkA.same (s : Same H H') (h : OkA K H rs sz r) : OkA K H' rs sz r := by
  obtain ⟨xs, e, l, p⟩ := h
  exact ⟨xs, e, l, fun c hc => (p c hc).same s⟩
theorem DtA.same (s : Same H H') (h : DtA K H rs sz r c) : DtA K H' rs sz r c := by
  rcases h with h | ⟨xs, e, h⟩
  · exact .inl h
  · refine .inr ⟨xs, e, ?_⟩
    rcases h with ⟨h1, h2, h3⟩ | ⟨h1, h2, h3⟩
    · exact .inl ⟨h1, fun k hk => (h2 k hk).same s, h3.same s⟩
    · exact .inr ⟨h1, fun k hk => (h2 k hk).same s, h3⟩
theorem VdA.same {o : Option (Nat × Nat)} (s : Same H H') (h : VdA K H rs sz o) : VdA K H' rs sz o := by
  match o, h with
  | none, h => exact ⟨h.1, fun r hr => (h.2 r hr).same s⟩
  | some (r, c), h => exact ⟨fun k h1 h2 => (h.1 k h1 h2).same s, h.2.elim (fun x => .inl ⟨x.1, x.2.same s⟩) .inr⟩
theorem RwB.same {r : RwA} (s : Same H H') (h : RwB K H m b r) : RwB K H' m b r := by
  match r, h with
  | .inl ys, h => exact ⟨h.1, fun x hx => (h.2 x hx).same s⟩
  | .inr u, h => exact UX.same s h
theorem RsB.same (s : Same H H') (h : RsB K H m b rs) : RsB K H' m b rs := fun r hr => (h r hr).same s
theorem RsB.ita (h : RsB K H m b rs) : ItA K H rs := fun i xs e x hx => ((h _ (List.mem_of_getElem? e)).2 x hx).elim (fun ⟨k, e, _⟩ => .inl ⟨k, e⟩) fun n => .inr n.1
theorem PasG.same {c : Addr} {form : Int} (s : Same H1 H2) (h : PasG H0 H1 c rs form) : PasG H0 H2 c rs form := by
  obtain ⟨n, us, e, l, g⟩ := h
  refine ⟨n, us, ?_, l, fun i r e => ?_⟩
  · split
    · rename_i hp
      rw [if_pos hp] at e
      exact s _ _ e
    · rename_i hp
      rw [if_neg hp] at e
      exact s _ _ e
  · obtain ⟨v, e1, e2⟩ := g i r e
    exact ⟨v, e1, e2.same s⟩
/-- what is passed has the rows -/
theorem PasG.rows {c : Addr} {form : Int} (s : Same H0 H1) (hB : RsB K H0 m b rs) (h : PasG H0 H1 c rs form) : ∃ us, SqH H1 c us ∧ us.length = rs.length ∧ RowsP K H1 us rs := by
  obtain ⟨n, us, e, l, g⟩ := h
  refine ⟨us, ?_, l, l, fun i r er => ?_⟩
  · split at e
    · exact .inr e
    · exact .inl e
  · obtain ⟨v, e1, e2⟩ := g i r er
    match r, er, e2 with
    | .inl xs, er, ⟨b, ev, hb⟩ =>
      refine ⟨b, by rw [e1, ev], ?_⟩
      split at hb
      · exact .inr hb
      · exact .inl hb.1
    | .inr u, er, ev =>
      have := hB _ (List.mem_of_getElem? er)
      exact ⟨by rw [e1, ev], (UX.same s this).1⟩
theorem ItX.eqv {x : V} (h : ItX K H b x) : EqV 1 H x x := h.elim (fun ⟨k, e, _⟩ => by rw [e]; exact EqV.int k) fun n => n.2
theorem eqv_self {xs : List V} (hl : xs.length ≤ 1000) (h : ∀ x ∈ xs, ItX K H b x) {p q : Addr} (e : (H p = some (.tup xs) ∧ H q = some (.tup xs)) ∨ (H p = some (.lst xs) ∧ H q = some (.lst xs))) : EqV 2 H (.ref p) (.ref q) := by
  refine .inr ⟨p, q, xs, xs, rfl, rfl, e, rfl, hl, fun i x y hx hy => ?_⟩
  rw [hx] at hy
  cases hy
  exact (h x (List.mem_of_getElem? hx)).eqv
/-- passed twice in one form it is the same -/
theorem PasG.eqv {G0 : Hp} {c d : Addr} {form : Int} (s : Same H0 H1) (hB : RsB K H0 m b rs) (hm : m ≤ 1000) (hl : rs.length ≤ 1000) (h : PasG H0 H1 c rs form) (k : PasG G0 H1 d rs form) : EqV 3 H1 (.ref c) (.ref d) := by
  obtain ⟨_, us, e1, l1, g1⟩ := h
  obtain ⟨_, ws, e2, l2, g2⟩ := k
  refine .inr ⟨c, d, us, ws, rfl, rfl, ?_, by rw [l1, l2], by omega, fun i x y hx hy => ?_⟩
  · split at e1
    · rename_i hp
      rw [if_pos hp] at e2
      exact .inl ⟨e1, e2⟩
    · rename_i hp
      rw [if_neg hp] at e2
      exact .inr ⟨e1, e2⟩
  · have hi : i < rs.length := by
      have := (List.getElem?_eq_some_iff.mp hx).1
      omega
    have er : rs[i]? = some rs[i] := List.getElem?_eq_getElem hi
    obtain ⟨v, ev, hv⟩ := g1 i _ er
    obtain ⟨u, eu, hu⟩ := g2 i _ er
    rw [hx] at ev
    rw [hy] at eu
    cases ev
    cases eu
    have hb := (hB _ (List.mem_of_getElem? er)).same s
    generalize rs[i] = r at er hv hu hb
    match r, hv, hu, hb with
    | .inl xs, ⟨p, ep, hp⟩, ⟨q, eq, hq⟩, hb =>
      rw [ep, eq]
      refine eqv_self (by have := hb.1; omega) hb.2 ?_
      split at hp
      · rename_i hh
        rw [if_pos hh] at hq
        exact .inl ⟨hp, hq⟩
      · rename_i hh
        rw [if_neg hh] at hq
        exact .inr ⟨hp.1, hq.1⟩
    | .inr w, hp, hq, hb =>
      have e1 : x = w := hp
      have e2 : y = w := hq
      rw [e1, e2]
      exact hb.2.up
/-- a table whose form is right, as a function -/
structure TabF (rs : List RwA) (sz : Nat) (f : Int → Int → Int) : Prop where
  len : rs.length = sz
  row : ∀ i : Nat, i < sz → rs[i]? = some (.inl (gl (sz : Int) (f (i : Int))))
  nn : ∀ x y : Int, 0 ≤ x → x < sz → 0 ≤ y → y < sz → 0 ≤ f x y
  sy : ∀ x y : Int, 0 ≤ x → x < sz → 0 ≤ y → y < sz → f x y = f y x
  dg : ∀ x : Int, 0 ≤ x → x < sz → f x x = 0
def numAt (rs : List RwA) (x y : Int) : Int := match rs[x.toNat]? with
  | some (.inl xs) => (match xs[y.toNat]? with
    | some (.int k) => k
    | _ => 0)
  | _ => 0
theorem numAt_of {x y : Nat} {xs : List V} {k : Int} (h : rs[x]? = some (.inl xs)) (e : xs[y]? = some (.int k)) : numAt rs x y = k := by
  unfold numAt
  rw [Int.toNat_natCast, Int.toNat_natCast, h]
  dsimp only
  rw [e]
theorem VdA.tab (h : VdA K H rs sz none) : TabF rs sz (numAt rs) := by
  have num : ∀ x y : Nat, x < sz → y < sz → ∃ xs k, rs[x]? = some (.inl xs) ∧ xs.length = sz ∧ xs[y]? = some (.int k) ∧ 0 ≤ k ∧ numAt rs x y = k := fun x y hx hy => by
    obtain ⟨xs, e, l, p⟩ := h.2 x hx
    have py := p y hy
    obtain ⟨k, ek, k0⟩ : ∃ k : Int, xs[y]? = some (.int k) ∧ 0 ≤ k := by
      generalize ht : true = t at py
      cases py with
      | miss h => cases ht
      | bad h hw => cases ht
      | low h i0 cr h2 hj => exact ⟨_, h, i0⟩
      | up h i0 rc => exact ⟨_, h, i0⟩
      | diag h i0 rc => exact ⟨_, h, i0⟩
    exact ⟨xs, k, e, l, ek, k0, numAt_of e ek⟩
  have nat : ∀ x : Int, 0 ≤ x → x < sz → ∃ n : Nat, x = (n : Int) ∧ n < sz := fun x h0 h1 => ⟨x.toNat, by omega, by omega⟩
  refine ⟨h.1, fun i hi => ?_, fun x y x0 x1 y0 y1 => ?_, fun x y x0 x1 y0 y1 => ?_, fun x x0 x1 => ?_⟩
  · obtain ⟨xs, e, l, p⟩ := h.2 i hi
    rw [e]
    congr 2
    refine List.ext_getElem? fun j => ?_
    by_cases hj : j < sz
    · obtain ⟨ys, k, e2, _, ek, _, en⟩ := num i j hi hj
      rw [e] at e2
      cases e2
      unfold gl
      rw [ek, List.getElem?_map, List.getElem?_range (by omega)]
      show _ = some (V.int (numAt rs i j))
      rw [en]
    · rw [List.getElem?_eq_none (by omega), List.getElem?_eq_none (by rw [gl_len]; omega)]
  · obtain ⟨a, rfl, ha⟩ := nat x x0 x1
    obtain ⟨b, rfl, hb⟩ := nat y y0 y1
    obtain ⟨_, k, _, _, _, k0, e⟩ := num a b ha hb
    rw [e]
    exact k0
  · obtain ⟨a, rfl, ha⟩ := nat x x0 x1
    obtain ⟨b, rfl, hb⟩ := nat y y0 y1
    have low : ∀ a b : Nat, a < sz → b < sz → b < a → numAt rs a b = numAt rs b a := fun a b ha hb lt => by
      obtain ⟨xs, k, e, _, ek, _, en⟩ := num a b ha hb
      obtain ⟨ys, j, e2, _, ej, _, ej2⟩ := num b a hb ha
      obtain ⟨zs, e3, l, p⟩ := h.2 a ha
      rw [e] at e3
      cases e3
      have pb := p b hb
      rw [en, ej2]
      generalize ht : true = t at pb
      cases pb with
      | miss h => cases ht
      | bad h hw => cases ht
      | low h1 i0 cr h2 hj =>
        rw [h1] at ek
        cases ek
        rw [h2] at e2
        cases e2
        rw [hj] at ej
        cases ej
        exact of_decide_eq_true ht.symm
      | up h i0 rc => omega
      | diag h i0 rc => omega
    by_cases lt : b < a
    · exact low a b ha hb lt
    · by_cases gt : a < b
      · exact (low b a hb ha gt).symm
      · rw [show a = b by omega]
  · obtain ⟨a, rfl, ha⟩ := nat x x0 x1
    obtain ⟨xs, k, e, _, ek, _, en⟩ := num a a ha ha
    obtain ⟨zs, e3, l, p⟩ := h.2 a ha
    rw [e] at e3
    cases e3
    have pa := p a ha
    rw [en]
    generalize ht : true = t at pa
    cases pa with
    | miss h => cases ht
    | bad h hw => cases ht
    | low h1 i0 cr h2 hj => omega
    | up h i0 rc => omega
    | diag h1 i0 rc =>
      rw [h1] at ek
      cases ek
      exact of_decide_eq_true ht.symm
theorem TabF.grid {n : Int} {f : Int → Int → Int} {us : List V} {p : Addr} (T : TabF rs (hi n 1).toNat f) (hu : SqH H p us) (hR : RowsP K H us rs) : GridB H p n f := by
  refine ⟨us, hu, fun i h => ?_⟩
  have hh := lo_hi n 1
  have hs : ((hi n 1).toNat : Int) = n := by omega
  have := hR.2 i _ (T.row i (by omega))
  obtain ⟨b, e1, e2⟩ := this
  rw [hs] at e2
  exact ⟨b, e1, e2⟩
theorem TabF.le {f : Int → Int → Int} (T : TabF rs sz f) (hB : RsB K H m b rs) {x y : Int} (x0 : 0 ≤ x) (x1 : x < sz) (y0 : 0 ≤ y) (y1 : y < sz) : f x y ≤ b := by
  obtain ⟨i, rfl⟩ : ∃ i : Nat, x = (i : Int) := ⟨x.toNat, by omega⟩
  obtain ⟨j, rfl⟩ : ∃ j : Nat, y = (j : Int) := ⟨y.toNat, by omega⟩
  have h1 := hB _ (List.mem_of_getElem? (T.row i (by omega)))
  have h2 := h1.2 (.int (f i j)) (List.mem_map.mpr ⟨j, List.mem_range.mpr (by omega), rfl⟩)
  rcases h2 with ⟨k, e, h⟩ | ⟨⟨T_, ty, mm⟩, _⟩
  · cases e
    exact h.2
  · exact absurd ty (int_not mm)
theorem tw_bound {n b : Int} {f : Int → Int → Int} (nn : ∀ x y : Int, 0 ≤ x → x < n → 0 ≤ y → y < n → 0 ≤ f x y ∧ f x y ≤ b) (hb : b < 2 ^ 59) {x y : Int} (x0 : 0 ≤ x) (x1 : x < n) (y0 : 0 ≤ y) (y1 : y < n) : -(2 ^ 60) < tw n f x y ∧ tw n f x y < 2 ^ 60 := by
  have ha := fmod_in (x - 1) (show 0 < n by omega)
  have hc := fmod_in (y - 1) (show 0 < n by omega)
  have h1 := nn x y x0 x1 y0 y1
  have h2 := nn _ _ ha.1 ha.2 hc.1 hc.2
  have h3 := nn x _ x0 x1 hc.1 hc.2
  have h4 := nn _ y ha.1 ha.2 y0 y1
  unfold tw pv1
  omega
end
end Own

namespace Own
open PySem PySem.Spec PyProof.Rows L2
theorem sc_nl : FnScope ["_law_rim", "_law_rows", "_law_form", "_law_due", "_law_grid", "e"] ["_law_rim", "_law_rows", "_law_form", "_law_due"] (defScope s__law_no_lot) := ⟨rfl, rfl, rfl, by decide +kernel, rfl, by decide +kernel, by decide +kernel⟩
def sc_nl_s (K : PySem.W.Frag) (D : Addr) (c_ : String → Addr) (a : Addr) (cls : Value) (d : Option Addr) : TS := (tSeq (tIfS (tOr (tB (tCB (rIsX K D a cls d) (tCons (tVar 5) (tCons (tC (.ref (c_ "BadTable"))) tNil)))) (tOr (tB (tCB (rIsX K D a cls d) (tCons (tVar 5) (tCons (tC (.ref (c_ "BadPins"))) tNil)))) (tOr (tB (tCB (rIsX K D a cls d) (tCons (tVar 5) (tCons (tC (.ref (c_ "BadCord"))) tNil)))) (tB (tCB (rIsX K D a cls d) (tCons (tVar 5) (tCons (tC (.ref (c_ "BadNumber"))) tNil))))))) (tRet (tC (.bl false))) tNext) (tSeq (tIfS (tOr (tNot (tB (tCB (rIsX K D a cls d) (tCons (tVar 5) (tCons (tC (.ref (c_ "RimError"))) tNil))))) (tNot (tB (tCB (rIsX K D a cls d) (tCons (tVar 5) (tCons (tC (.ty "ValueError")) tNil)))))) (tRet (tC (.bl false))) tNext) (tRet (tAndV (tCallS (spSame 3) (fun _ => E0) (tCons (tTup (tCons (tXf a cls d D "a" (tVar 5)) (tCons (tXf a cls d D "b" (tVar 5)) (tCons (tXf a cls d D "twice" (tVar 5)) tNil)))) (tCons (tVar 3) tNil))) (tCallS (spSame 3) (fun _ => E0) (tCons (tVar 4) (tCons (tCallS (spPasG K) (fun _ => E0) (tCons (tVar 1) (tCons (tVar 2) tNil))) tNil)))))))
theorem sc_bp : FnScope ["_law_rim", "_law_rows", "_law_grid", "e"] ["_law_rim", "_law_rows"] (defScope s__law_bad_pins) := ⟨rfl, rfl, rfl, by decide +kernel, rfl, by decide +kernel, by decide +kernel⟩
def sc_bp_s (K : PySem.W.Frag) (D : Addr) (c_ : String → Addr) (a : Addr) (cls : Value) (d : Option Addr) : TS := (tSeq (tIfS (tOr (tB (tCB (rIsX K D a cls d) (tCons (tVar 3) (tCons (tC (.ref (c_ "BadTable"))) tNil)))) (tOr (tB (tCB (rIsX K D a cls d) (tCons (tVar 3) (tCons (tC (.ref (c_ "NoLot"))) tNil)))) (tOr (tB (tCB (rIsX K D a cls d) (tCons (tVar 3) (tCons (tC (.ref (c_ "BadCord"))) tNil)))) (tB (tCB (rIsX K D a cls d) (tCons (tVar 3) (tCons (tC (.ref (c_ "BadNumber"))) tNil))))))) (tRet (tC (.bl false))) tNext) (tSeq (tIfS (tOr (tNot (tB (tCB (rIsX K D a cls d) (tCons (tVar 3) (tCons (tC (.ref (c_ "RimError"))) tNil))))) (tNot (tB (tCB (rIsX K D a cls d) (tCons (tVar 3) (tCons (tC (.ty "ValueError")) tNil)))))) (tRet (tC (.bl false))) tNext) (tRet (tAndV (tCallS (spSame 3) (fun _ => E0) (tCons (tXf a cls d D "pins" (tVar 3)) (tCons (tVar 0) tNil))) (tCallS (spSame 3) (fun _ => E0) (tCons (tVar 2) (tCons (tCallS (spPasG K) (fun _ => E0) (tCons (tVar 1) (tCons (tC (.int 0)) tNil))) tNil)))))))
section
variable {P : Program} {w : World} {K : PySem.W.Frag} {mg : Str → Option Value} {base : Heap} {C D D1 D3 DL : Addr}
def spNoLot (K : PySem.W.Frag) : Sp := fun vs H Q _ => ∃ (n form : Int) (a pl : Addr) (ws : List V) (rs : List RwA) (m : Nat) (b : Int) (f : Int → Int → Int) (x y : Int), vs = [.int n, .ref a, .int form, .ref pl] ∧ H a = some (.lst ws) ∧ RowsL K H ws rs ∧ RsB K H m b rs ∧ m ≤ 1000 ∧ b < 2 ^ 59 ∧ 0 ≤ n ∧ n ≤ 40 ∧
  VdA K H rs (hi n 1).toNat none ∧ TabF rs (hi n 1).toNat f ∧ TwV n f (some (x, y)) ∧ H pl = some (.tup [.int x, .int y, .int (tw n f x y)]) ∧ ∀ H', Same H H' → Q (.bl true) H'
set_option maxHeartbeats 0 in
theorem ok_nolot {f : Addr} {fd : FuncData} (F : Fun K "_law_no_lot" "_law_no_lot" s__law_no_lot f fd) (T : Bi mg) (U : mg "NoLot" = some (.ref D)) {c_ : String → Addr} (T_ve : mg "ValueError" = none) (N_ : ∀ n ∈ errs, mg n = some (.ref (c_ n))) (X_c : XcE K D c_ ["a", "b", "twice"] ["BadTable", "BadPins", "BadCord", "BadNumber"]) {f_lo : Addr} {d_lo : FuncData} (D_lo : Df K mg "lot_of" s_lot_of ["pins", "table"] f_lo d_lo) (G_lo : FnOk P w K mg base (L2N.CX P w) 8 f_lo d_lo ["pins", "table"] (spLotOf K C D D1 D3)) {f_ps : Addr} {d_ps : FuncData} (D_ps : Df K mg "_law_passed" s__law_passed ["_law_rows", "_law_form"] f_ps d_ps) (G_ps : FnOk P w K mg base CX0 1 f_ps d_ps ["_law_rows", "_law_form"] (spPasG K)) (H_ps : L2H.FnH P w K mg base CX0 1 f_ps d_ps ["_law_rows", "_law_form"] (spPasG K)) {f_s : Addr} {d_s : FuncData} (D_s : Df K mg "_law_same" s__law_same ["_law_value", "_law_due"] f_s d_s) (H_s : L2H.FnH P w K mg base CX0 5 f_s d_s ["_law_value", "_law_due"] (spSame 3)) : FnOk P w K mg base CX0 9 f fd ["_law_rim", "_law_rows", "_law_form", "_law_due"] (spNoLot K) := by
  refine F.ok sc_nl (fun vs H Q E h => ?_) (fun cdv A outer s H vs Q E hr h => ?_)
  · obtain ⟨n, form, a, pl, ws, rs, m, b, f, x, y, rfl, _⟩ := h
    rfl
  · obtain ⟨n, form, a, pl, ws, rs, m, b, f, x, y, rfl, ea, hR, hB, hm, hb, n0, n1, vd, tf, tv, epl, q⟩ := h
    refine ⟨_, (pss_cons (ps_set (i := 4) sc_nl.nd rfl (.inl rfl) (pe_call G_ps (hr.mono (by decide)) (by rfl) D_ps.g D_ps.F.kp D_ps.b .nil pass0 (pa_cons (pv 1) (pa_cons (pv 2) pa_nil))))
        (pss_cons (L2N.ps_try_as (i := 5) (Wout := fun _ _ _ _ => False) rfl rfl sc_nl.nd rfl rfl ⟨by rfl, by decide, .inl U⟩ takesN
        (tb := fun W => tDrop (tCallS (spLotOf K C D D1 D3) (WE W) (tCons (tVar 0) (tCons (tVar 4) tNil))))
        (ts := fun a cls d => sc_nl_s K D c_ a cls d)
        (fun W pn xe tk _ => (pss_one (ps_expr (by exact (pe_callS G_lo (hr.mono (by decide)) (by rfl) D_lo.g D_lo.F.kp D_lo.b (fun σ => L2N.passAt tk σ) (pa_cons (pv 0) (pa_cons (pv 4) pa_nil)))))))
        (fun a oe cls d pn hz hf => (pss_cons (ps_if (PW.pt (pw_or (pt_val (pe_callB (call_isX X_c.c hz.zc hf) (by rfl) T.b_isinstance (by decide +kernel) (pa_cons (pv 5) (pa_cons (pe_glob (v := .ref (c_ "BadTable")) (by rfl) (N_ "BadTable" (by decide +kernel)) rfl) pa_nil)))) (pw_or (pt_val (pe_callB (call_isX X_c.c hz.zc hf) (by rfl) T.b_isinstance (by decide +kernel) (pa_cons (pv 5) (pa_cons (pe_glob (v := .ref (c_ "BadPins")) (by rfl) (N_ "BadPins" (by decide +kernel)) rfl) pa_nil)))) (pw_or (pt_val (pe_callB (call_isX X_c.c hz.zc hf) (by rfl) T.b_isinstance (by decide +kernel) (pa_cons (pv 5) (pa_cons (pe_glob (v := .ref (c_ "BadCord")) (by rfl) (N_ "BadCord" (by decide +kernel)) rfl) pa_nil)))) (pw_or1 (pt_val (pe_callB (call_isX X_c.c hz.zc hf) (by rfl) T.b_isinstance (by decide +kernel) (pa_cons (pv 5) (pa_cons (pe_glob (v := .ref (c_ "BadNumber")) (by rfl) (N_ "BadNumber" (by decide +kernel)) rfl) pa_nil))))))))) (pss_one (ps_ret pe_bl)) pss_nil) (pss_cons (ps_if (PW.pt (pw_or (pt_not (pt_val (pe_callB (call_isX X_c.c hz.zc hf) (by rfl) T.b_isinstance (by decide +kernel) (pa_cons (pv 5) (pa_cons (pe_glob (v := .ref (c_ "RimError")) (by rfl) (N_ "RimError" (by decide +kernel)) rfl) pa_nil))))) (pw_or1 (pt_not (pt_val (pe_callB (call_isX X_c.c hz.zc hf) (by rfl) T.b_isinstance (by decide +kernel) (pa_cons (pv 5) (pa_cons (pe_bltn (v := .ty "ValueError") (by rfl) T_ve (by decide +kernel) rfl) pa_nil)))))))) (pss_one (ps_ret pe_bl)) pss_nil) (pss_one (ps_ret (pe_and (L2H.pe_callH H_s ⟨(L2H.RoomH.mono (j := 5) (L2H.roomH_of hr) (by decide)).dp, (L2H.RoomH.mono (j := 5) (L2H.roomH_of hr) (by decide)).un⟩ (hotS hz hf) (by rfl) D_s.g D_s.F.kp D_s.b (E := fun _ => E0) (fun _ => pass0A) (pa_cons (pe_tup (pa_cons (pe_xf X_c.x (X_c.n "a" (by decide +kernel)) hz.zc hf (pv 5)) (pa_cons (pe_xf X_c.x (X_c.n "b" (by decide +kernel)) hz.zc hf (pv 5)) (pa_cons (pe_xf X_c.x (X_c.n "twice" (by decide +kernel)) hz.zc hf (pv 5)) pa_nil)))) (pa_cons (pv 3) pa_nil))) (pe_one (L2H.pe_callH H_s ⟨(L2H.RoomH.mono (j := 5) (L2H.roomH_of hr) (by decide)).dp, (L2H.RoomH.mono (j := 5) (L2H.roomH_of hr) (by decide)).un⟩ (hotS hz hf) (by rfl) D_s.g D_s.F.kp D_s.b (E := fun _ => E0) (fun _ => pass0A) (pa_cons (pv 4) (pa_cons (L2H.pe_callH H_ps ⟨(L2H.RoomH.mono (j := 1) (L2H.roomH_of hr) (by decide)).dp, (L2H.RoomH.mono (j := 1) (L2H.roomH_of hr) (by decide)).un⟩ (hotS hz hf) (by rfl) D_ps.g D_ps.F.kp D_ps.b (E := fun _ => E0) (fun _ => pass0A) (pa_cons (pv 1) (pa_cons (pv 2) pa_nil))) pa_nil)))))))))))
        (pss_one (ps_ret pe_bl)))), ?_⟩
    have lr : rs.length ≤ 1000 := by
      have := tf.len
      have := lo_hi n 1
      omega
    refine ⟨_, rfl, _, rfl, a, ws, rs, form, rfl, ea, hR, lr, fun H1 c s1 pg => ?_⟩
    obtain ⟨us, hu, lu, hP⟩ := pg.rows s1 hB
    have fin : ∀ H2, Same H1 H2 → ∀ d, H2 d = none → (wAs K (.ref D) 5 (fun a cls d => sc_nl_s K D c_ a cls d) (fun _ _ _ _ => False) { nx := fun σ' H' => (tRet (tC (.bl false))) { nx := fun _ H' => Q .non H', rt := Q } σ' H', rt := Q }) (.ref D) (some d) [some (.int n), some (.ref a), some (.int form), some (.ref pl), some (.ref c), none] (upd H2 d (.xd (flE ["a", "b", "twice"] [.int x, .int y, .int (tw n f x y)]))) := fun H2 sH d nd => by
      refine ⟨true, X_c.ex, fun _ ax na => ?_, fun z => by cases z⟩
      have sd := same_upd (o := .xd (flE ["a", "b", "twice"] [.int x, .int y, .int (tw n f x y)])) nd
      have ed : upd H2 d (.xd (flE ["a", "b", "twice"] [.int x, .int y, .int (tw n f x y)])) d = some (.xd (flE ["a", "b", "twice"] [.int x, .int y, .int (tw n f x y)])) := upd_same
      refine ⟨_, rfl, rfl, d, .ref (c_ "BadTable"), .ref (c_ "BadTable"), false, _, rfl, rfl, ed, fun u h => h, X_c.no "BadTable" (by decide +kernel), false, rfl, ?_⟩
      refine ⟨_, rfl, rfl, d, .ref (c_ "BadPins"), .ref (c_ "BadPins"), false, _, rfl, rfl, ed, fun u h => h, X_c.no "BadPins" (by decide +kernel), false, rfl, ?_⟩
      refine ⟨_, rfl, rfl, d, .ref (c_ "BadCord"), .ref (c_ "BadCord"), false, _, rfl, rfl, ed, fun u h => h, X_c.no "BadCord" (by decide +kernel), false, rfl, ?_⟩
      refine ⟨_, rfl, rfl, d, .ref (c_ "BadNumber"), .ref (c_ "BadNumber"), false, _, rfl, rfl, ed, fun u h => h, X_c.no "BadNumber" (by decide +kernel), false, rfl, ?_⟩
      refine ⟨_, rfl, rfl, d, .ref (c_ "RimError"), .ref (c_ "RimError"), true, _, rfl, rfl, ed, fun u h => h, X_c.re , true, rfl, ?_⟩
      refine ⟨_, rfl, rfl, d, .ty "ValueError", .type "ValueError", true, _, rfl, rfl, ed, fun u h => h, X_c.ve, true, rfl, ?_⟩
      refine ⟨_, rfl, rfl, rfl, d, _, _, rfl, ed, rfl, _, rfl, rfl, rfl, d, _, _, rfl, ed, rfl, _, rfl, rfl, rfl, d, _, _, rfl, ed, rfl, by show 3 ≤ sizeLine; decide, fun u nu => ?_⟩
      have su := same_upd (o := .tup [.int x, .int y, .int (tw n f x y)]) nu
      have sA := (sH.trans sd).trans su
      have s0 := s1.trans sA
      refine ⟨_, rfl, _, _, rfl, .inl (.inl (EqV.ints (ns := [x, y, tw n f x y]) upd_same (s0 _ _ epl) (by show 3 ≤ 1000; decide))), true, rfl, ?_⟩
      exact ⟨_, rfl, _, rfl, _, rfl, a, ws, rs, form, rfl, s0 _ _ ea, hR.same s0, lr, fun H3 e s3 pe => ⟨_, _, rfl, (pg.same (sA.trans s3)).eqv (s0.trans s3) hB hm lr pe, q _ (s0.trans s3)⟩⟩
    have gr := tf.grid hu hP
    have hh := lo_hi n 1
    refine ⟨_, rfl, _, rfl, _, _, rfl, .inr ⟨n, us, rfl, n0, n1, .inl ⟨c, rfl, hu⟩, by omega, .inr ⟨c, f, rfl, (vd.same s1).vd hP, gr, fun p r p0 p1 r0 r1 => tw_bound (b := b) (fun i j i0 i1 j0 j1 => ⟨tf.nn i j i0 (by omega) j0 (by omega), tf.le hB i0 (by omega) j0 (by omega)⟩) hb p0 p1 r0 r1, .inr ⟨x, y, tv.1.1, tv.1.2.1, tv.1.2.2, tv.2.1, tv.2.2, fun H2 s2 d nd => fin H2 s2 d nd⟩⟩⟩⟩
def spBadP (K : PySem.W.Frag) : Sp := fun vs H Q _ => ∃ (v : V) (a : Addr) (ws : List V) (rs : List RwA) (m : Nat) (b : Int), vs = [v, .ref a] ∧ ((∃ i : Int, v = .int i ∧ i < 0) ∨ NotWh K H v) ∧ ShoD K H 3 v ∧ EqV 3 H v v ∧ H a = some (.lst ws) ∧ RowsL K H ws rs ∧ RsB K H m b rs ∧ m ≤ 1000 ∧ rs.length ≤ 1000 ∧ ∀ H', Same H H' → Q (.bl true) H'
set_option maxHeartbeats 0 in
theorem ok_badp {f : Addr} {fd : FuncData} (F : Fun K "_law_bad_pins" "_law_bad_pins" s__law_bad_pins f fd) (T : Bi mg) (U : mg "BadPins" = some (.ref D)) {c_ : String → Addr} (T_ve : mg "ValueError" = none) (N_ : ∀ n ∈ errs, mg n = some (.ref (c_ n))) (X_c : XcE K D c_ ["pins"] ["BadTable", "NoLot", "BadCord", "BadNumber"]) {f_lo : Addr} {d_lo : FuncData} (D_lo : Df K mg "lot_of" s_lot_of ["pins", "table"] f_lo d_lo) (G_lo : FnOk P w K mg base (L2N.CX P w) 8 f_lo d_lo ["pins", "table"] (spLotOf K C DL D D3)) {f_ps : Addr} {d_ps : FuncData} (D_ps : Df K mg "_law_passed" s__law_passed ["_law_rows", "_law_form"] f_ps d_ps) (G_ps : FnOk P w K mg base CX0 1 f_ps d_ps ["_law_rows", "_law_form"] (spPasG K)) (H_ps : L2H.FnH P w K mg base CX0 1 f_ps d_ps ["_law_rows", "_law_form"] (spPasG K)) {f_s : Addr} {d_s : FuncData} (D_s : Df K mg "_law_same" s__law_same ["_law_value", "_law_due"] f_s d_s) (H_s : L2H.FnH P w K mg base CX0 5 f_s d_s ["_law_value", "_law_due"] (spSame 3)) : FnOk P w K mg base CX0 9 f fd ["_law_rim", "_law_rows"] (spBadP K) := by
  refine F.ok sc_bp (fun vs H Q E h => ?_) (fun cdv A outer s H vs Q E hr h => ?_)
  · obtain ⟨v, a, ws, rs, m, b, rfl, _⟩ := h
    rfl
  · obtain ⟨v, a, ws, rs, m, b, rfl, hv, hsh, hev, ea, hR, hB, hm, lr, q⟩ := h
    refine ⟨_, (pss_cons (ps_set (i := 2) sc_bp.nd rfl (.inl rfl) (pe_call G_ps (hr.mono (by decide)) (by rfl) D_ps.g D_ps.F.kp D_ps.b .nil pass0 (pa_cons (pv 1) (pa_cons pe_int pa_nil))))
        (pss_cons (L2N.ps_try_as (i := 3) (Wout := fun _ _ _ _ => False) rfl rfl sc_bp.nd rfl rfl ⟨by rfl, by decide, .inl U⟩ takesN
        (tb := fun W => tDrop (tCallS (spLotOf K C DL D D3) (WE W) (tCons (tVar 0) (tCons (tVar 2) tNil))))
        (ts := fun a cls d => sc_bp_s K D c_ a cls d)
        (fun W pn xe tk _ => (pss_one (ps_expr (by exact (pe_callS G_lo (hr.mono (by decide)) (by rfl) D_lo.g D_lo.F.kp D_lo.b (fun σ => L2N.passAt tk σ) (pa_cons (pv 0) (pa_cons (pv 2) pa_nil)))))))
        (fun a oe cls d pn hz hf => (pss_cons (ps_if (PW.pt (pw_or (pt_val (pe_callB (call_isX X_c.c hz.zc hf) (by rfl) T.b_isinstance (by decide +kernel) (pa_cons (pv 3) (pa_cons (pe_glob (v := .ref (c_ "BadTable")) (by rfl) (N_ "BadTable" (by decide +kernel)) rfl) pa_nil)))) (pw_or (pt_val (pe_callB (call_isX X_c.c hz.zc hf) (by rfl) T.b_isinstance (by decide +kernel) (pa_cons (pv 3) (pa_cons (pe_glob (v := .ref (c_ "NoLot")) (by rfl) (N_ "NoLot" (by decide +kernel)) rfl) pa_nil)))) (pw_or (pt_val (pe_callB (call_isX X_c.c hz.zc hf) (by rfl) T.b_isinstance (by decide +kernel) (pa_cons (pv 3) (pa_cons (pe_glob (v := .ref (c_ "BadCord")) (by rfl) (N_ "BadCord" (by decide +kernel)) rfl) pa_nil)))) (pw_or1 (pt_val (pe_callB (call_isX X_c.c hz.zc hf) (by rfl) T.b_isinstance (by decide +kernel) (pa_cons (pv 3) (pa_cons (pe_glob (v := .ref (c_ "BadNumber")) (by rfl) (N_ "BadNumber" (by decide +kernel)) rfl) pa_nil))))))))) (pss_one (ps_ret pe_bl)) pss_nil) (pss_cons (ps_if (PW.pt (pw_or (pt_not (pt_val (pe_callB (call_isX X_c.c hz.zc hf) (by rfl) T.b_isinstance (by decide +kernel) (pa_cons (pv 3) (pa_cons (pe_glob (v := .ref (c_ "RimError")) (by rfl) (N_ "RimError" (by decide +kernel)) rfl) pa_nil))))) (pw_or1 (pt_not (pt_val (pe_callB (call_isX X_c.c hz.zc hf) (by rfl) T.b_isinstance (by decide +kernel) (pa_cons (pv 3) (pa_cons (pe_bltn (v := .ty "ValueError") (by rfl) T_ve (by decide +kernel) rfl) pa_nil)))))))) (pss_one (ps_ret pe_bl)) pss_nil) (pss_one (ps_ret (pe_and (L2H.pe_callH H_s ⟨(L2H.RoomH.mono (j := 5) (L2H.roomH_of hr) (by decide)).dp, (L2H.RoomH.mono (j := 5) (L2H.roomH_of hr) (by decide)).un⟩ (hotS hz hf) (by rfl) D_s.g D_s.F.kp D_s.b (E := fun _ => E0) (fun _ => pass0A) (pa_cons (pe_xf X_c.x (X_c.n "pins" (by decide +kernel)) hz.zc hf (pv 3)) (pa_cons (pv 0) pa_nil))) (pe_one (L2H.pe_callH H_s ⟨(L2H.RoomH.mono (j := 5) (L2H.roomH_of hr) (by decide)).dp, (L2H.RoomH.mono (j := 5) (L2H.roomH_of hr) (by decide)).un⟩ (hotS hz hf) (by rfl) D_s.g D_s.F.kp D_s.b (E := fun _ => E0) (fun _ => pass0A) (pa_cons (pv 2) (pa_cons (L2H.pe_callH H_ps ⟨(L2H.RoomH.mono (j := 1) (L2H.roomH_of hr) (by decide)).dp, (L2H.RoomH.mono (j := 1) (L2H.roomH_of hr) (by decide)).un⟩ (hotS hz hf) (by rfl) D_ps.g D_ps.F.kp D_ps.b (E := fun _ => E0) (fun _ => pass0A) (pa_cons (pv 1) (pa_cons pe_int pa_nil))) pa_nil)))))))))))
        (pss_one (ps_ret pe_bl)))), ?_⟩
    refine ⟨_, rfl, a, ws, rs, 0, rfl, ea, hR, lr, fun H1 c s1 pg => ?_⟩
    have fin : ∀ H2, Same H1 H2 → ∀ d, H2 d = none → (wAs K (.ref D) 3 (fun a cls d => sc_bp_s K D c_ a cls d) (fun _ _ _ _ => False) { nx := fun σ' H' => (tRet (tC (.bl false))) { nx := fun _ H' => Q .non H', rt := Q } σ' H', rt := Q }) (.ref D) (some d) [some v, some (.ref a), some (.ref c), none] (upd H2 d (.xd (flE ["pins"] [v]))) := fun H2 sH d nd => by
      refine ⟨true, X_c.ex, fun _ ax na => ?_, fun z => by cases z⟩
      have sd := same_upd (o := .xd (flE ["pins"] [v])) nd
      have ed : upd H2 d (.xd (flE ["pins"] [v])) d = some (.xd (flE ["pins"] [v])) := upd_same
      refine ⟨_, rfl, rfl, d, .ref (c_ "BadTable"), .ref (c_ "BadTable"), false, _, rfl, rfl, ed, fun u h => h, X_c.no "BadTable" (by decide +kernel), false, rfl, ?_⟩
      refine ⟨_, rfl, rfl, d, .ref (c_ "NoLot"), .ref (c_ "NoLot"), false, _, rfl, rfl, ed, fun u h => h, X_c.no "NoLot" (by decide +kernel), false, rfl, ?_⟩
      refine ⟨_, rfl, rfl, d, .ref (c_ "BadCord"), .ref (c_ "BadCord"), false, _, rfl, rfl, ed, fun u h => h, X_c.no "BadCord" (by decide +kernel), false, rfl, ?_⟩
      refine ⟨_, rfl, rfl, d, .ref (c_ "BadNumber"), .ref (c_ "BadNumber"), false, _, rfl, rfl, ed, fun u h => h, X_c.no "BadNumber" (by decide +kernel), false, rfl, ?_⟩
      refine ⟨_, rfl, rfl, d, .ref (c_ "RimError"), .ref (c_ "RimError"), true, _, rfl, rfl, ed, fun u h => h, X_c.re , true, rfl, ?_⟩
      refine ⟨_, rfl, rfl, d, .ty "ValueError", .type "ValueError", true, _, rfl, rfl, ed, fun u h => h, X_c.ve, true, rfl, ?_⟩
      have s0 := s1.trans (sH.trans sd)
      refine ⟨_, rfl, rfl, rfl, d, _, _, rfl, ed, rfl, _, rfl, _, _, rfl, hev.same s0, true, rfl, ?_⟩
      exact ⟨_, rfl, _, rfl, a, ws, rs, 0, rfl, s0 _ _ ea, hR.same s0, lr, fun H3 e s3 pe => ⟨_, _, rfl, (pg.same ((sH.trans sd).trans s3)).eqv (s0.trans s3) hB hm lr pe, q _ (s0.trans s3)⟩⟩
    exact ⟨_, rfl, _, rfl, _, _, rfl, .inl ⟨hv.elim .inl fun h => .inr (h.same s1), hsh.keep s1, fun H2 s2 d nd => fin H2 s2 d nd⟩⟩
end
end Own

/-! `a < b < c < d` as a test. -/
namespace Own
open PySem PySem.Spec PyProof.Rows L2
section
variable {X : Cx} {a b c d : Expr} {ta tb tc td : TE} {pos : Pos}
/-- three comparisons in a row -/
def tCh3 (r1 r2 r3 : R2) (ta tb tc td : TE) : TE := fun σ H Q => ta σ H fun x G1 => tb σ G1 fun y G2 => r1 x y G2 fun z G3 => ∃ k : Bool, z = .bl k ∧
  (if k = true then tc σ G3 fun u G4 => r2 y u G4 fun z2 G5 => ∃ k2 : Bool, z2 = .bl k2 ∧ (if k2 = true then td σ G5 fun w G6 => r3 u w G6 Q else Q (.bl false) G5) else Q (.bl false) G3)
theorem pt_ch3 {o1 o2 o3 : CmpOp} {r1 r2 r3 : R2} (h1 : OpR X (compareOp o1) r1) (h2 : OpR X (compareOp o2) r2) (h3 : OpR X (compareOp o3) r3) (pa : PE X a ta) (pb : PE X b tb) (pc : PE X c tc) (pd : PE X d td)
    (hm : lastMarks [o1, o2, o3] [b, c, d] = false := by with_unfolding_all rfl) : PT X (.Compare a [o1, o2, o3] [b, c, d] pos) (tTest (tCh3 r1 r2 r3 ta tb tc td)) := by
  constructor
  intro pins s σ H Q I h
  refine isTrue_chain (thn (pa.run pins s σ H _ I h) ?_) hm
  rintro va s1 ⟨x, G1, I1, ra, q1⟩
  refine test_link (thn (pb.run pins s1 σ G1 _ I1 q1) ?_)
  rintro vb s2 ⟨y, G2, I2, rb, q2⟩
  refine thn (h1 pins s2 σ G2 x y va vb _ I2 ra rb q2) ?_
  rintro v1 s3 ⟨z, G3, I3, rz, k, ez, q3⟩
  subst ez
  cases rz
  refine wpAny_truthy_bool ?_
  cases k with
  | false =>
    obtain ⟨k', e', q'⟩ := q3
    cases e'
    exact ite_ff ⟨G3, I3, q'⟩
  | true =>
    refine ite_tt (test_link (thn (pc.run pins s3 σ G3 _ I3 q3) ?_))
    rintro vc s4 ⟨u, G4, I4, rc, q4⟩
    refine thn (h2 pins s4 σ G4 y u vb vc _ I4 rb rc q4) ?_
    rintro v2 s5 ⟨z2, G5, I5, rz2, k2, ez2, q5⟩
    subst ez2
    cases rz2
    refine wpAny_truthy_bool ?_
    cases k2 with
    | false =>
      obtain ⟨k', e', q'⟩ := q5
      cases e'
      exact ite_ff ⟨G5, I5, q'⟩
    | true =>
      refine ite_tt (test_last (thn (pd.run pins s5 σ G5 _ I5 q5) ?_))
      rintro vd s6 ⟨w, G6, I6, rd, q6⟩
      refine thn (h3 pins s6 σ G6 u w vc vd _ I6 rc rd q6) ?_
      rintro v3 s7 ⟨z3, G7, I7, rz3, k3, ez3, q7⟩
      subst ez3
      cases rz3
      exact wpAny_truthy_bool ⟨G7, I7, q7⟩
end
end Own

namespace Own
open PySem PySem.Spec PyProof.Rows L2
theorem lex_lt {x y a b : Int} (h : Lex (x, y) (a, b)) : HT.lexLt [x, y] [a, b] = true := by
  have h : x < a ∨ (x = a ∧ y < b) := h
  unfold HT.lexLt
  by_cases e : x = a
  · rw [if_pos e]
    unfold HT.lexLt
    rw [if_neg (by omega)]
    exact decide_eq_true (by omega)
  · rw [if_neg e]
    exact decide_eq_true (by omega)
section
variable {P : Program} {w : World} {K : PySem.W.Frag} {mg : Str → Option Value} {base : Heap} {C : Addr}
def spNormal (C : Addr) : Sp := fun vs H Q _ => ∃ (p : Addr) (n : Int) (cs : List Tr), vs = [.ref p, .int n] ∧ LotAt C H p n cs ∧ Good n cs ∧ cs.length ≤ 1000 ∧ ∀ H', Same H H' → Q (.bl true) H'
set_option maxHeartbeats 0 in
theorem ok_normal {f : Addr} {fd : FuncData} (F : Fun K "_law_normal" "_law_normal" s__law_normal f fd) (T : Bi mg) (L : LotC K mg C) {f_s : Addr} {d_s : FuncData} (D_s : Df K mg "_law_same" s__law_same ["_law_value", "_law_due"] f_s d_s) (G_s : FnOk P w K mg base CX0 4 f_s d_s ["_law_value", "_law_due"] (spSame 2)) {f_w : Addr} {d_w : FuncData} (D_w : Df K mg "_law_whole" s__law_whole ["_law_value"] f_w d_w) (G_w : FnOk P w K mg base CX0 1 f_w d_w ["_law_value"] (spWholeY K)) : FnOk P w K mg base CX0 5 f fd ["_law_lot_here", "_law_rim"] (spNormal C) := by
  refine F.ok sc__law_normal (fun vs H Q E h => ?_) (fun cdv A outer s H vs Q E hr h => ?_)
  · obtain ⟨p, n, cs, rfl, _⟩ := h
    rfl
  · obtain ⟨p, n, cs, rfl, hL, hG, hl, q⟩ := h
    refine ⟨_, (pss_cons (ps_if (PW.pt (pw_or (pt_not (pt_val (pe_call G_s (hr.mono (by decide)) (by rfl) D_s.g D_s.F.kp D_s.b .nil pass0 (pa_cons (pe_fld (pv 0) rfl) (pa_cons (pv 1) pa_nil))))) (pw_or1 (pt_not (pt_val (pe_callB call_isi (by rfl) T.b_isinstance (by decide +kernel) (pa_cons (pe_fld (pv 0) rfl) (pa_cons (pe_bltn (v := .ty "tuple") (by rfl) T.b_tuple (by decide +kernel) rfl) pa_nil)))))))) (pss_one (ps_ret pe_bl)) pss_nil)
        (pss_cons (ps_set (i := 2) sc__law_normal.nd rfl (.inl rfl) (pe_tup (pa_cons (pe_un un_neg pe_int) (pa_cons (pe_un un_neg pe_int) pa_nil))))
        (pss_cons (ps_for PassesOwn.never rfl (pi_tup (pe_fld (pv 0) rfl)) (pg_name (i := 3) sc__law_normal.nd rfl (.inl rfl))
        (pss_cons (ps_if (PW.pt (pw_or (pt_not (pt_val (pe_callB call_isi (by rfl) T.b_isinstance (by decide +kernel) (pa_cons (pv 3) (pa_cons (pe_bltn (v := .ty "tuple") (by rfl) T.b_tuple (by decide +kernel) rfl) pa_nil))))) (pw_or1 (pt_cmpR op_ne (pe_callB call_len_seq (by rfl) T.b_len PySem.boot_len (pa_cons (pv 3) pa_nil)) pe_int (nomark _))))) (pss_one (ps_ret pe_bl)) pss_nil)
        (pss_cons (ps_if (PW.pt (pw_or (pt_not (pt_val (pe_call G_w (hr.mono (by decide)) (by rfl) D_w.g D_w.F.kp D_w.b .nil pass0 (pa_cons (pe_ix (r := rIxT K) ix_tup (pv 3) pe_int (fun _ _ => rfl)) pa_nil)))) (pw_or (pt_not (pt_val (pe_call G_w (hr.mono (by decide)) (by rfl) D_w.g D_w.F.kp D_w.b .nil pass0 (pa_cons (pe_ix (r := rIxT K) ix_tup (pv 3) pe_int (fun _ _ => rfl)) pa_nil)))) (pw_or1 (pt_not (pt_val (pe_call G_w (hr.mono (by decide)) (by rfl) D_w.g D_w.F.kp D_w.b .nil pass0 (pa_cons (pe_ix (r := rIxT K) ix_tup (pv 3) pe_int (fun _ _ => rfl)) pa_nil)))))))) (pss_one (ps_ret pe_bl)) pss_nil)
        (pss_cons (ps_if (PW.pt (pw_or (pt_not (pt_cmpR (op_ltT hr.units0) (pv 2) (pe_tup (pa_cons (pe_ix (r := rIxT K) ix_tup (pv 3) pe_int (fun _ _ => rfl)) (pa_cons (pe_ix (r := rIxT K) ix_tup (pv 3) pe_int (fun _ _ => rfl)) pa_nil))) (nomark _))) (pw_or (pt_not (pt_ch3 op_le op_lt op_lt pe_int (pe_ix (r := rIxT K) ix_tup (pv 3) pe_int (fun _ _ => rfl)) (pe_ix (r := rIxT K) ix_tup (pv 3) pe_int (fun _ _ => rfl)) (pv 1))) (pw_or1 (pt_cmpR op_lt (pe_ix (r := rIxT K) ix_tup (pv 3) pe_int (fun _ _ => rfl)) pe_int (nomark _)))))) (pss_one (ps_ret pe_bl)) pss_nil)
        (pss_one (ps_set (i := 2) sc__law_normal.nd rfl (.inl rfl) (pe_tup (pa_cons (pe_ix (r := rIxT K) ix_tup (pv 3) pe_int (fun _ _ => rfl)) (pa_cons (pe_ix (r := rIxT K) ix_tup (pv 3) pe_int (fun _ _ => rfl)) pa_nil)))))))))
        (pss_one (ps_ret pe_bl))))), ?_⟩
    obtain ⟨dx, c, e, vs, ec, tV⟩ := id hL
    refine ⟨_, rfl, p, C, dx, _, _, rfl, e, L.cl, L.nP, flds_pins _ _, _, rfl, _, _, rfl, EqV.int n, true, rfl, ?_⟩
    refine ⟨_, rfl, p, C, dx, _, _, rfl, e, L.cl, L.nC, flds_cords _ _, _, _, _, _, true, rfl, .ty "tuple", .base (.tup ec), kit_ty (by decide +kernel), true, rfl, ?_⟩
    refine ⟨_, rfl, _, rfl, by show 2 ≤ sizeLine; decide, fun B nB => ?_⟩
    have sB := same_upd (o := .tup [.int (-1), .int (-1)]) nB
    refine ⟨_, rfl, p, C, dx, _, _, rfl, sB _ _ e, L.cl, L.nC, flds_cords _ _, c, rfl, ⟨vs, .inl (.inl (sB _ _ ec))⟩, for_tup (K := K) (a := c) (xs := vs) (fun i σ H' => ∃ (B : Addr) (x y : Int) (y3 : Option V), σ = [some (.ref p), some (.int n), some (.ref B), y3] ∧ H' B = some (.tup [.int x, .int y]) ∧ Same H H' ∧ ∀ (j : Nat) (t : Tr), i ≤ j → cs[j]? = some t → Lex (x, y) (pr t)) ⟨B, -1, -1, none, rfl, upd_same, sB, fun j t _ ht => .inl (by have := hG.ord t (List.mem_of_getElem? ht); show (-1 : Int) < t.1; omega)⟩ (fun i σ H' _ pv => by obtain ⟨_, _, _, _, _, _, s, _⟩ := pv; exact .inl (.inl (s _ _ ec))) (fun i v σ H' hxi pv => ?_) (fun σ H' pv => ?_)⟩
    · obtain ⟨B, x, y, y3, rfl, eB, sm, lx⟩ := pv
      obtain ⟨u, t, rfl, hti, hu⟩ := (tV.same sm).at_ hxi
      have ho := hG.ord t (List.mem_of_getElem? hti)
      have ll := lx i t (Nat.le_refl _) hti
      have qu : SqT K H' u (tv t) := .inl (.inl hu)
      have a0 : atI (tv t) 0 = some (.int t.1) := atI_nat (j := 0) rfl
      have a1 : atI (tv t) 1 = some (.int t.2.1) := atI_nat (j := 1) rfl
      have a2 : atI (tv t) 2 = some (.int t.2.2) := atI_nat (j := 2) rfl
      refine ⟨_, rfl, _, _, _, _, true, rfl, .ty "tuple", .base (.tup hu), kit_ty (by decide +kernel), true, rfl, ?_⟩
      refine ⟨_, rfl, u, _, rfl, .inr qu, rfl, _, rfl, ?_⟩
      refine ⟨_, rfl, u, _, 0, _, rfl, rfl, qu, a0, _, rfl, .inl ⟨_, rfl, true, rfl, ?_⟩⟩
      refine ⟨_, rfl, u, _, 1, _, rfl, rfl, qu, a1, _, rfl, .inl ⟨_, rfl, true, rfl, ?_⟩⟩
      refine ⟨_, rfl, u, _, 2, _, rfl, rfl, qu, a2, _, rfl, .inl ⟨_, rfl, true, rfl, ?_⟩⟩
      refine ⟨_, rfl, _, rfl, u, _, 0, _, rfl, rfl, qu, a0, _, rfl, u, _, 1, _, rfl, rfl, qu, a1, by show 2 ≤ sizeLine; decide, fun g ng => ⟨B, g, [x, y], [t.1, t.2.1], rfl, rfl, .inl (.inl (same_upd ng _ _ eB)), .inl (.inl upd_same), _, rfl, ?_⟩⟩
      have sg := same_upd (o := .tup [.int t.1, .int t.2.1]) ng
      rw [lex_lt ll]
      have qg : SqT K (upd H' g (.tup [.int t.1, .int t.2.1])) u (tv t) := .inl (.inl (sg _ _ hu))
      refine ⟨_, rfl, u, _, 0, _, rfl, rfl, qg, a0, _, _, rfl, rfl, _, rfl, ?_⟩
      rw [decide_eq_true ho.1]
      refine ⟨_, rfl, u, _, 1, _, rfl, rfl, qg, a1, _, _, rfl, rfl, _, rfl, ?_⟩
      rw [decide_eq_true ho.2.1]
      refine ⟨_, rfl, _, _, rfl, rfl, _, rfl, ?_⟩
      rw [decide_eq_true ho.2.2.1]
      refine ⟨_, rfl, u, _, 2, _, rfl, rfl, qg, a2, _, _, rfl, rfl, _, rfl, ?_⟩
      rw [decide_eq_false (show ¬ t.2.2 < 1 by omega)]
      refine ⟨_, rfl, u, _, 0, _, rfl, rfl, qg, a0, _, rfl, u, _, 1, _, rfl, rfl, qg, a1, by show 2 ≤ sizeLine; decide, fun g2 ng2 => ⟨g2, t.1, t.2.1, _, rfl, upd_same, sm.trans (sg.trans (same_upd ng2)), fun j t' hj ht' => ?_⟩⟩
      have i1 := (List.getElem?_eq_some_iff.mp hti)
      have j1 := (List.getElem?_eq_some_iff.mp ht')
      obtain ⟨li, ei⟩ := i1
      obtain ⟨lj, ej⟩ := j1
      have := (List.pairwise_iff_getElem.mp hG.srt) i j (by rw [List.length_map]; exact li) (by rw [List.length_map]; exact lj) (by omega)
      rw [List.getElem_map, List.getElem_map, ei, ej] at this
      exact this
    · obtain ⟨B, x, y, y3, rfl, eB, sm, lx⟩ := pv
      exact q _ sm
end
end Own

namespace Own
open PySem PySem.Spec PyProof.Rows L2
theorem norm_nil {r : List Tr} (h : IsNorm [] r) : r = [] := List.eq_nil_of_length_eq_zero (Nat.le_zero.mp h.len)
theorem good_nil (n : Int) : Good n [] := ⟨List.Pairwise.nil, fun e he => by cases he⟩
/-- the cords between the two pins -/
def cnt (cs : List Tr) (p : Int × Int) : Int := bs (fun q => decide (q = p)) cs
theorem cnt_cons (t : Tr) (cs : List Tr) (p : Int × Int) : cnt (t :: cs) p = (if pr t = p then t.2.2 else 0) + cnt cs p := by
  unfold cnt
  rw [bs]
  by_cases h : pr t = p <;> simp [h]
theorem cnt_snoc (t : Tr) (cs : List Tr) (p : Int × Int) : cnt (cs ++ [t]) p = cnt cs p + (if pr t = p then t.2.2 else 0) := by
  unfold cnt
  rw [bs_append]
  show _ + ((if decide (pr t = p) = true then t.2.2 else 0) + 0) = _
  by_cases h : pr t = p <;> simp [h]
theorem cnt_out {cs : List Tr} {p : Int × Int} (h : p ∉ cs.map pr) : cnt cs p = 0 := bs_none fun e he => decide_eq_false fun z => h (by rw [← z]; exact List.mem_map.mpr ⟨e, he, rfl⟩)
theorem cnt_nn {cs : List Tr} (h : ∀ e ∈ cs, 1 ≤ e.2.2) (p : Int × Int) : 0 ≤ cnt cs p := by
  induction cs with
  | nil => exact Int.le_refl 0
  | cons t r ih =>
    rw [cnt_cons]
    have h1 := h t List.mem_cons_self
    have h2 := ih fun u hu => h u (List.mem_cons_of_mem _ hu)
    split <;> omega
theorem Good.pos {n : Int} {cs : List Tr} (g : Good n cs) : ∀ e ∈ cs, 1 ≤ e.2.2 := fun e he => (g.ord e he).2.2.2
theorem Good.cnt {n : Int} {cs : List Tr} (g : Good n cs) {e : Tr} (h : e ∈ cs) : cnt cs (pr e) = e.2.2 := (self_cnt (srt_nodup g.srt) e h).symm
theorem Good.mem {n : Int} {cs : List Tr} (g : Good n cs) (p : Int × Int) : p ∈ cs.map pr ↔ 1 ≤ Own.cnt cs p := by
  constructor
  · intro h
    obtain ⟨e, he, rfl⟩ := List.mem_map.mp h
    rw [g.cnt he]
    exact g.pos e he
  · intro h
    by_cases m : p ∈ cs.map pr
    · exact m
    · rw [cnt_out m] at h
      omega
theorem good_ext {n : Int} {r s : List Tr} (g : Good n r) (h : Good n s) (e : ∀ p, cnt r p = cnt s p) : r = s := by
  have em : r.map pr = s.map pr := sorted_uniq g.srt h.srt fun p => by rw [g.mem, h.mem, e]
  have e1 := of_pairs (r := r) (g := fun p => cnt s p) fun u hu => (g.cnt hu).symm.trans (e _)
  have e2 := of_pairs (r := s) (g := fun p => cnt s p) fun u hu => (h.cnt hu).symm
  exact e1.trans ((congrArg (List.map _) em).trans e2.symm)
theorem cnt_norm {l r : List Tr} (i : IsNorm l r) (o : ∀ e ∈ l, e.1 < e.2.1) (p : Int × Int) : cnt r p = cnt l p := by
  unfold cnt
  rw [bs_norm _ i, bk_bs _ o]
def keep (ps : List (Int × Int)) (v : Int × Int → Int) : List Tr := (ps.filter fun p => decide (0 < v p)).map fun p => (p.1, p.2, v p)
theorem keep_cnt (v : Int × Int → Int) (q : Int × Int) : ∀ {ps : List (Int × Int)}, ps.Nodup → cnt (keep ps v) q = if q ∈ ps ∧ 0 < v q then v q else 0
  | [], _ => by
    rw [if_neg fun z => by cases z.1]
    rfl
  | p :: ps, hn => by
    have hc := List.nodup_cons.mp hn
    have ih := keep_cnt v q hc.2
    unfold keep at ih ⊢
    rw [List.filter_cons]
    by_cases h : 0 < v p
    · rw [if_pos (decide_eq_true h), List.map_cons, cnt_cons, ih]
      show (if (p.1, p.2) = q then v p else 0) + _ = _
      by_cases e : p = q
      · subst e
        rw [if_pos rfl, if_neg fun z => hc.1 z.1, if_pos ⟨List.mem_cons_self, h⟩]
        omega
      · rw [if_neg e]
        have e1 : (q ∈ p :: ps ∧ 0 < v q) ↔ (q ∈ ps ∧ 0 < v q) := ⟨fun m => ⟨(List.mem_cons.mp m.1).resolve_left fun z => e z.symm, m.2⟩, fun m => ⟨List.mem_cons_of_mem _ m.1, m.2⟩⟩
        simp only [e1]
        omega
    · rw [if_neg (by rw [decide_eq_false h]; decide), ih]
      by_cases e : p = q
      · subst e
        rw [if_neg fun z => h z.2, if_neg fun z => h z.2]
      · have e1 : (q ∈ p :: ps ∧ 0 < v q) ↔ (q ∈ ps ∧ 0 < v q) := ⟨fun m => ⟨(List.mem_cons.mp m.1).resolve_left fun z => e z.symm, m.2⟩, fun m => ⟨List.mem_cons_of_mem _ m.1, m.2⟩⟩
        simp only [e1]
end Own

namespace Own
open PySem PySem.Spec PyProof.Rows L2
theorem pv1_zero {n : Int} (h : 0 < n) : pv1 n 0 = n - 1 := by
  unfold pv1
  have e : (0 - 1 : Int).fmod n = (n - 1).fmod n := by
    have := Int.add_mul_fmod_self_left (a := -1) (b := n) (c := 1)
    rw [Int.mul_one] at this
    rw [show n - 1 = -1 + n by omega, this]
    rfl
  rw [e]
  exact fmod_lo (by omega) (by omega)
theorem sep_if (i j p q : Int) : (sepB i j p != sepB i j q) = decide (¬ ((lo i j < p ∧ p ≤ hi i j) ↔ (lo i j < q ∧ q ≤ hi i j))) := bne_dec _ _
set_option maxHeartbeats 0 in
/-- one cord, one formula -/
theorem tw_one {n a b p q m : Int} (ha : 0 ≤ a) (hab : a < b) (hb : b < n) (hp : 0 ≤ p) (hpq : p < q) (hq : q < n) :
    (if (sepB a b p != sepB a b q) = true then m else 0) + (if (sepB (pv1 n a) (pv1 n b) p != sepB (pv1 n a) (pv1 n b) q) = true then m else 0) - (if (sepB a (pv1 n b) p != sepB a (pv1 n b) q) = true then m else 0) - (if (sepB (pv1 n a) b p != sepB (pv1 n a) b q) = true then m else 0) = 2 * (if (p, q) = (a, b) then m else 0) := by
  rw [sep_if, sep_if, sep_if, sep_if, pv1_pos (a := b) (by omega) hb]
  simp only [decide_eq_true_eq, Prod.mk.injEq]
  have v1 : lo a b = a ∧ hi a b = b := by have := lo_hi a b; omega
  have v2 : lo a (b - 1) = a ∧ hi a (b - 1) = b - 1 := by have := lo_hi a (b - 1); omega
  rw [v1.1, v1.2, v2.1, v2.2]
  by_cases h0 : a = 0
  · subst h0
    rw [pv1_zero (by omega)]
    have v3 : lo (n - 1) (b - 1) = b - 1 ∧ hi (n - 1) (b - 1) = n - 1 := by have := lo_hi (n - 1) (b - 1); omega
    have v4 : lo (n - 1) b = b ∧ hi (n - 1) b = n - 1 := by have := lo_hi (n - 1) b; omega
    rw [v3.1, v3.2, v4.1, v4.2]
    clear v1 v2 v3 v4
    by_cases p0 : p = 0 <;> by_cases p1 : p < b <;> by_cases p2 : p = b <;> by_cases q1 : q < b <;> by_cases q2 : q = b <;>
      first
        | (exfalso; omega)
        | (split <;> split <;> split <;> split <;> split <;> omega)
  · rw [pv1_pos (a := a) (by omega) (by omega)]
    have v3 : lo (a - 1) (b - 1) = a - 1 ∧ hi (a - 1) (b - 1) = b - 1 := by have := lo_hi (a - 1) (b - 1); omega
    have v4 : lo (a - 1) b = a - 1 ∧ hi (a - 1) b = b := by have := lo_hi (a - 1) b; omega
    rw [v3.1, v3.2, v4.1, v4.2]
    clear v1 v2 v3 v4
    by_cases p0 : p < a <;> by_cases p1 : p = a <;> by_cases p2 : p < b <;> by_cases p3 : p = b <;> by_cases q0 : q < a <;> by_cases q1 : q = a <;> by_cases q2 : q < b <;> by_cases q3 : q = b <;>
      first
        | (exfalso; omega)
        | (split <;> split <;> split <;> split <;> split <;> omega)
/-- the formula, of a lot's own table -/
theorem tw_tab {n : Int} {cs : List Tr} (h : ∀ e ∈ cs, 0 ≤ e.1 ∧ e.1 < e.2.1 ∧ e.2.1 < n) {a b : Int} (ha : 0 ≤ a) (hab : a < b) (hb : b < n) : tw n (tabE cs) a b = 2 * cnt cs (a, b) := by
  induction cs with
  | nil =>
    unfold tw tabE cnt
    simp [bs]
  | cons t r ih =>
    have ih := ih fun e he => h e (List.mem_cons_of_mem _ he)
    obtain ⟨h1, h2, h3⟩ := h t List.mem_cons_self
    have one := tw_one (m := t.2.2) ha hab hb h1 h2 h3
    unfold tw tabE at ih ⊢
    rw [cnt_cons, bs, bs, bs, bs]
    unfold pr
    dsimp only at ih one ⊢
    generalize (if (sepB a b t.1 != sepB a b t.2.1) = true then t.2.2 else 0) = u1 at one ⊢
    generalize (if (sepB (pv1 n a) (pv1 n b) t.1 != sepB (pv1 n a) (pv1 n b) t.2.1) = true then t.2.2 else 0) = u2 at one ⊢
    generalize (if (sepB a (pv1 n b) t.1 != sepB a (pv1 n b) t.2.1) = true then t.2.2 else 0) = u3 at one ⊢
    generalize (if (sepB (pv1 n a) b t.1 != sepB (pv1 n a) b t.2.1) = true then t.2.2 else 0) = u4 at one ⊢
    generalize (if (t.1, t.2.1) = (a, b) then t.2.2 else 0) = u5 at one ⊢
    omega
/-- the lot that a table tells, over these pairs -/
def ofT (n : Int) (T : Int → Int → Int) (ps : List (Int × Int)) : List Tr := keep ps fun p => (tw n T p.1 p.2) / 2
/-- the table of the lot that a table tells is the table -/
theorem tab_zero {n : Int} {W : Int → Int → Int} (sy : ∀ i j, 0 ≤ i → i < n → 0 ≤ j → j < n → W i j = W j i) (dg : ∀ i, 0 ≤ i → i < n → W i i = 0) (z : ∀ a b, 0 ≤ a → a < b → b < n → tw n W a b = 0) : ∀ i j, 0 ≤ i → i < n → 0 ≤ j → j < n → W i j = 0 := by
  -- the steps along a row are the same in all rows
  have step : ∀ (a : Nat) (b : Int), (a : Int) < b → b < n → W a b - W a (b - 1) = W 0 b - W 0 (b - 1) := by
    intro a
    induction a with
    | zero => exact fun b _ _ => rfl
    | succ a ih =>
      intro b h1 h2
      have e := z ((a + 1 : Nat) : Int) b (by omega) h1 h2
      unfold tw at e
      rw [pv1_pos (by omega) (by omega), pv1_pos (by omega) h2, show ((a + 1 : Nat) : Int) - 1 = (a : Int) by omega] at e
      have := ih b (by omega) h2
      omega
  -- the first row's steps are 0
  have last : ∀ (k : Nat) (b : Int), b = n - 1 - (k : Int) → 0 ≤ b → ∀ c : Int, c = n - 1 → W b c = W 0 c - W 0 b := by
    intro k
    induction k with
    | zero =>
      intro b e hb c hc
      subst hc
      rw [show b = n - 1 by omega, dg _ (by omega) (by omega)]
      omega
    | succ k ih =>
      intro b e hb c hc
      have i1 := ih (b + 1) (by omega) (by omega) c hc
      -- W b c - W b b telescopes: use rows b and b + 1
      obtain ⟨bn, rfl⟩ : ∃ bn : Nat, b = (bn : Int) := ⟨b.toNat, by omega⟩
      -- along row b from b to c
      have tel : ∀ (m : Nat) (d : Int), d = (bn : Int) + (m : Int) → d < n → W bn d = W 0 d - W 0 bn := by
        intro m
        induction m with
        | zero =>
          intro d ed hd
          rw [show d = (bn : Int) by omega, dg _ (by omega) (by omega)]
          omega
        | succ m im =>
          intro d ed hd
          have s := step bn d (by omega) hd
          have := im (d - 1) (by omega) (by omega)
          omega
      exact tel (k + 1) c (by omega) (by omega)
  have first : ∀ b, 1 ≤ b → b < n → W 0 b = W 0 (b - 1) := by
    intro b h1 h2
    have e := z 0 b (by omega) (by omega) h2
    unfold tw at e
    rw [pv1_zero (by omega), pv1_pos h1 h2] at e
    have w1 := last (n - 1 - b).toNat b (by omega) (by omega) (n - 1) rfl
    have w2 := last (n - 1 - (b - 1)).toNat (b - 1) (by omega) (by omega) (n - 1) rfl
    have y1 := sy (n - 1) b (by omega) (by omega) (by omega) h2
    have y2 := sy (n - 1) (b - 1) (by omega) (by omega) (by omega) (by omega)
    omega
  have row0 : ∀ (m : Nat), (m : Int) < n → W 0 m = 0 := by
    intro m
    induction m with
    | zero => exact fun h => dg 0 (by omega) (by omega)
    | succ m im =>
      intro h
      have := first ((m + 1 : Nat) : Int) (by omega) h
      rw [show ((m + 1 : Nat) : Int) - 1 = (m : Int) by omega] at this
      rw [this]
      exact im (by omega)
  have up : ∀ (i : Nat) (m : Nat), (i : Int) + (m : Int) < n → W i ((i : Int) + (m : Int)) = 0 := by
    intro i m
    induction m with
    | zero =>
      intro h
      rw [show (i : Int) + ((0 : Nat) : Int) = (i : Int) by omega]
      exact dg _ (by omega) (by omega)
    | succ m im =>
      intro h
      have s := step i ((i : Int) + ((m + 1 : Nat) : Int)) (by omega) h
      have e1 := row0 (i + (m + 1)) (by omega)
      have e2 := row0 (i + m) (by omega)
      rw [show ((i : Int) + ((m + 1 : Nat) : Int)) - 1 = (i : Int) + (m : Int) by omega] at s
      rw [show ((i + (m + 1) : Nat) : Int) = (i : Int) + ((m + 1 : Nat) : Int) by omega] at e1
      rw [show ((i + m : Nat) : Int) = (i : Int) + (m : Int) by omega] at e2
      have := im (by omega)
      omega
  intro i j i0 i1 j0 j1
  by_cases h : i ≤ j
  · have := up i.toNat (j - i).toNat (by omega)
    rw [show ((i.toNat : Nat) : Int) = i by omega, show i + (((j - i).toNat : Nat) : Int) = j by omega] at this
    exact this
  · have := up j.toNat (i - j).toNat (by omega)
    rw [show ((j.toNat : Nat) : Int) = j by omega, show j + (((i - j).toNat : Nat) : Int) = i by omega] at this
    rw [sy i j i0 i1 j0 j1]
    exact this
theorem tw_sub (n : Int) (T U : Int → Int → Int) (a b : Int) : tw n (fun i j => T i j - U i j) a b = tw n T a b - tw n U a b := by
  unfold tw
  dsimp only
  omega
/-- the pairs of a rim: all of these, and each once -/
structure Prs (n : Int) (ps : List (Int × Int)) : Prop where
  nd : ps.Nodup
  mem : ∀ p, p ∈ ps ↔ 0 ≤ p.1 ∧ p.1 < p.2 ∧ p.2 < n
theorem ofT_ord {n : Int} {T : Int → Int → Int} {ps : List (Int × Int)} (h : Prs n ps) : ∀ e ∈ ofT n T ps, 0 ≤ e.1 ∧ e.1 < e.2.1 ∧ e.2.1 < n ∧ 1 ≤ e.2.2 := fun e he => by
  obtain ⟨p, hp, rfl⟩ := List.mem_map.mp he
  obtain ⟨h1, h2⟩ := List.mem_filter.mp hp
  have := (h.mem p).mp h1
  have h3 : 0 < tw n T p.1 p.2 / 2 := of_decide_eq_true h2
  exact ⟨this.1, this.2.1, this.2.2, h3⟩
theorem tab_ofT {n : Int} {T : Int → Int → Int} {ps : List (Int × Int)} (h : Prs n ps) (sy : ∀ i j, 0 ≤ i → i < n → 0 ≤ j → j < n → T i j = T j i) (dg : ∀ i, 0 ≤ i → i < n → T i i = 0) (ev : ∀ a b, 0 ≤ a → a < b → b < n → 0 ≤ tw n T a b ∧ tw n T a b % 2 = 0) : ∀ i j, 0 ≤ i → i < n → 0 ≤ j → j < n → tabE (ofT n T ps) i j = T i j := by
  have hw : ∀ a b, 0 ≤ a → a < b → b < n → tw n (fun i j => T i j - tabE (ofT n T ps) i j) a b = 0 := fun a b a0 ab bn => by
    rw [tw_sub, tw_tab (fun e he => by have := ofT_ord h e he; exact ⟨this.1, this.2.1, this.2.2.1⟩) a0 ab bn]
    unfold ofT
    rw [keep_cnt _ _ h.nd]
    have e := ev a b a0 ab bn
    split
    · dsimp only
      omega
    · rename_i z
      have : ¬ 0 < tw n T a b / 2 := fun k => z ⟨(h.mem (a, b)).mpr ⟨a0, ab, bn⟩, k⟩
      omega
  intro i j i0 i1 j0 j1
  have := tab_zero (W := fun i j => T i j - tabE (ofT n T ps) i j) (fun i j a b c d => by
    rw [sy i j a b c d, tabE_comm]) (fun i a b => by
    rw [dg i a b, tabE_same]
    omega) hw i j i0 i1 j0 j1
  omega
/-- the lot of a lot's table -/
theorem ofT_tab {n : Int} {cs : List Tr} {ps : List (Int × Int)} (h : Prs n ps) (g : Good n cs) (p : Int × Int) : cnt (ofT n (tabE cs) ps) p = cnt cs p := by
  unfold ofT
  rw [keep_cnt _ _ h.nd]
  by_cases hp : p ∈ ps
  · obtain ⟨p0, p1, p2⟩ := (h.mem p).mp hp
    have e := tw_tab (fun e he => by have := g.ord e he; exact ⟨this.1, this.2.1, this.2.2.1⟩) p0 p1 p2
    have nn := cnt_nn (fun e he => (g.ord e he).2.2.2) p
    have e2 : tw n (tabE cs) p.1 p.2 / 2 = cnt cs p := by
      rw [e]
      show 2 * cnt cs p / 2 = cnt cs p
      omega
    rw [e2]
    split
    · rfl
    · rename_i z
      have : ¬ 0 < cnt cs p := fun k => z ⟨hp, k⟩
      omega
  · rw [if_neg fun z => hp z.1]
    refine (cnt_out fun z => hp ?_).symm
    obtain ⟨e, he, rfl⟩ := List.mem_map.mp z
    exact (h.mem _).mpr ⟨(g.ord e he).1, (g.ord e he).2.1, (g.ord e he).2.2.1⟩

theorem prs_prs {n : Int} (n0 : 0 ≤ n) : Prs n (prs n n.toNat) := by
  refine ⟨?_, fun p => ⟨fun h => prs_mem (by omega) h, fun h => ?_⟩⟩
  · unfold prs
    refine List.pairwise_flatMap.mpr ⟨fun a ha => ?_, ?_⟩
    · unfold prA
      refine List.Pairwise.map _ (fun x y h => ?_) List.nodup_range
      intro e
      injection e with e1 e2
      omega
    · refine List.Pairwise.imp ?_ (List.nodup_range)
      intro a b hab x hx y hy e
      unfold prA at hx hy
      obtain ⟨k, _, rfl⟩ := List.mem_map.mp hx
      obtain ⟨m, _, rfl⟩ := List.mem_map.mp hy
      injection e with e1 e2
      omega
  · obtain ⟨a, b⟩ := p
    have h0 : 0 ≤ a ∧ a < b ∧ b < n := h
    unfold prs
    refine List.mem_flatMap.mpr ⟨a.toNat, List.mem_range.mpr (by omega), ?_⟩
    unfold prA
    refine List.mem_map.mpr ⟨(b - a - 1).toNat, List.mem_range.mpr (by omega), ?_⟩
    refine Prod.ext ?_ ?_
    · show ((a.toNat : Nat) : Int) = a
      omega
    · dsimp only
      omega
theorem cotE_ofT {n : Int} (f : Int → Int → Int) : cotE n f = ofT n f (prs n n.toNat) := by
  unfold cotE ofT keep
  rw [List.filter_map]
  rfl
/-- the lot that the program makes of a table has the table -/
theorem cot_tab {n : Int} {f : Int → Int → Int} {cs : List Tr} (n0 : 0 ≤ n) (sy : ∀ i j, 0 ≤ i → i < n → 0 ≤ j → j < n → f i j = f j i) (dg : ∀ i, 0 ≤ i → i < n → f i i = 0) (ev : ∀ a b, 0 ≤ a → a < b → b < n → TwOk n f a b) (hN : IsNorm (cotE n f) cs) :
    ∀ i j, 0 ≤ i → i < n → 0 ≤ j → j < n → tabE cs i j = f i j := fun i j i0 i1 j0 j1 => by
  have hP := prs_prs n0
  rw [← tab_ofT hP sy dg ev i j i0 i1 j0 j1, ← cotE_ofT]
  have ho : ∀ e ∈ cotE n f, e.1 < e.2.1 := fun e he => by
    rw [cotE_ofT] at he
    exact (ofT_ord hP e he).2.1
  unfold tabE
  rw [bs_norm _ hN, bk_bs _ ho]
/-- a lot's own table gives the lot again -/
theorem cot_own {n : Int} {f : Int → Int → Int} {cs r : List Tr} (n0 : 0 ≤ n) (g : Good n cs) (e : ∀ i j, 0 ≤ i → i < n → 0 ≤ j → j < n → f i j = tabE cs i j) (hN : IsNorm (cotE n f) r) : r = cs := by
  have hP := prs_prs n0
  have hg : Good n r := hN.good (cotE_vld n0 f)
  have et : ∀ a b, 0 ≤ a → a < b → b < n → tw n f a b = tw n (tabE cs) a b := fun a b a0 ab bn => by
    have ha : 0 ≤ pv1 n a ∧ pv1 n a < n := fmod_in (a - 1) (show 0 < n by omega)
    have hb : 0 ≤ pv1 n b ∧ pv1 n b < n := fmod_in (b - 1) (show 0 < n by omega)
    unfold tw
    rw [e a b a0 (by omega) (by omega) bn, e _ _ ha.1 ha.2 hb.1 hb.2, e a _ a0 (by omega) hb.1 hb.2, e _ b ha.1 ha.2 (by omega) bn]
  have ec : cotE n f = cotE n (tabE cs) := by
    unfold cotE
    congr 1
    refine List.map_congr_left fun p hp => ?_
    have hm := prs_mem (by omega) hp
    unfold ent
    rw [et p.1 p.2 hm.1 hm.2.1 hm.2.2]
  refine good_ext hg g fun p => ?_
  have ho : ∀ e ∈ cotE n f, e.1 < e.2.1 := fun e he => by
    rw [cotE_ofT] at he
    exact (ofT_ord hP e he).2.1
  rw [cnt_norm hN ho, ec, cotE_ofT, ofT_tab hP g]
theorem own_tw {n : Int} {f : Int → Int → Int} {cs : List Tr} (g : Good n cs) (e : ∀ i j, 0 ≤ i → i < n → 0 ≤ j → j < n → f i j = tabE cs i j) : ∀ a b, 0 ≤ a → a < b → b < n → TwOk n f a b := fun a b a0 ab bn => by
  have ha : 0 ≤ pv1 n a ∧ pv1 n a < n := fmod_in (a - 1) (show 0 < n by omega)
  have hb : 0 ≤ pv1 n b ∧ pv1 n b < n := fmod_in (b - 1) (show 0 < n by omega)
  have et : tw n f a b = tw n (tabE cs) a b := by
    unfold tw
    rw [e a b a0 (by omega) (by omega) bn, e _ _ ha.1 ha.2 hb.1 hb.2, e a _ a0 (by omega) hb.1 hb.2, e _ b ha.1 ha.2 (by omega) bn]
  have := tw_tab (fun e he => by have := g.ord e he; exact ⟨this.1, this.2.1, this.2.2.1⟩) a0 ab bn
  have nn := cnt_nn (fun e he => (g.ord e he).2.2.2) (a, b)
  unfold TwOk
  rw [et, this]
  omega
end Own

namespace Own
open PySem PySem.Spec PyProof.Rows L2
/-! ### == by an own __eq__ -/
def rOwnEq (K : PySem.W.Frag) (C : Addr) (sp : Sp) : R2 := fun x y H Q => ∃ (a dx : Addr) (fs : List (Str × V)) (tb : Value), x = .ref a ∧ H a = some (.ins C dx fs) ∧ (TyX K H y tb ∨ ∃ (b dy : Addr) (gs : List (Str × V)), y = .ref b ∧ H b = some (.ins C dy gs) ∧ tb = .ref C) ∧ PySem.W.notFirst K C tb = true ∧
  sp [.ref a, y] H (fun v H' => ∃ c : Bool, v = .bl c ∧ Q (.bl c) H') E0
theorem op_ownEq {X : Cx} {C g : Addr} {k : Nat} {fd : FuncData} {ps : List Str} {sp : Sp} (hs : PySem.W.findIn X.K (.ref C) "__eq__" = some (some (.ref g))) (hf : PySem.W.isFn X.K (.ref g) = true) (F : FnOk X.prog X.w X.K X.mg X.base CX0 k g fd ps sp) (room : Room k X.A) (hb : Binds X.K fd ps []) :
    OpR X (compareOp .Eq) (rOwnEq X.K C sp) := by
  intro pins s σ H x y v u Q inv rx ry ask
  obtain ⟨a, dx, fs, tb, rfl, ha, ty, nf, q⟩ := ask
  cases (show v = Value.ref a from rx)
  obtain ⟨_, O, _, _, _, _⟩ := ins_get inv.hok ha
  obtain ⟨od, J, _⟩ := O.look
  obtain ⟨m, hF⟩ := inv.fr
  have look : PySem.W.Looks (model X.prog X.w) s.heap (typeOf u) tb := by
    rcases ty with ty | ⟨b, dy, gs, rfl, hb, rfl⟩
    · obtain ⟨Pp, kx, hp, _⟩ := kit_of inv ry ty
      exact kx.ty _ _ inv.kIn hp
    · cases (show u = Value.ref b from ry)
      obtain ⟨_, O2, _, _, _, _⟩ := ins_get inv.hok hb
      obtain ⟨od2, J2, _⟩ := O2.look
      exact J2.type
  show wpAny (model X.prog X.w) X.A (richCompare .Eq (.ref a) u) (EP X pins σ Q) X.xe s
  refine PySem.W.cmp_K (op := .Eq) (tb := tb) room.units0 hF inv.ok.mod.kin J look nf hs hf ?_
  refine wpAny_mono (run_fnS (E := fun _ => E0) (us := [.ref a, u]) (vs := [.ref a, y]) F room hb pass0A inv (.cons rfl (.cons ry .nil)) q) (fun w s' z => ?_) fun _ _ x => x
  obtain ⟨z', H', I', rz, c, rfl, qz⟩ := z
  cases (show w = Value.bool c from rz)
  exact ⟨.bl c, H', I', rfl, qz⟩

section
variable {X : Cx}
theorem op_eqDK {K : PySem.W.Frag} (hK : X.K = K) (hu : X.A.units + 64 < cLine) : OpR X (compareOp .Eq) (rEqD K) := by
  subst hK
  exact op_eqD hu
end
def td (t : Tr) : PyData := .tuple [.int t.1, .int t.2.1, .int t.2.2]
theorem td_dp {K : PySem.W.Frag} {H : Hp} {u : Addr} {t : Tr} (h : H u = some (.tup (tv t))) : Dp K H (.ref u) (td t) := .tup (.inl (.inl h)) (.cons (.int _) (.cons (.int _) (.cons (.int _) .nil)))
theorem td_eqv (p q : Tr) : PyData.eqv (td p) (td q) = decide (p = q) := by
  unfold td
  simp only [PyData.eqv, PyData.eqvAll, Bool.and_true]
  obtain ⟨a, b, c⟩ := p
  obtain ⟨d, e, f⟩ := q
  rw [Bool.eq_iff_iff]
  simp
theorem tds_eqv : ∀ (l r : List Tr), PyData.eqvAll (l.map td) (r.map td) = decide (l = r)
  | [], [] => by simp [PyData.eqvAll]
  | [], _ :: _ => by simp [PyData.eqvAll]
  | _ :: _, [] => by simp [PyData.eqvAll]
  | x :: l, y :: r => by
    rw [List.map_cons, List.map_cons, PyData.eqvAll, td_eqv, tds_eqv l r]
    rw [Bool.eq_iff_iff]
    simp
theorem lay_tds : ∀ ps : List Tr, PyData.canLayAll0 (ps.map td) = true ∧ PyData.depthAll (ps.map td) ≤ 1
  | [] => ⟨rfl, Nat.zero_le _⟩
  | p :: r => by
    obtain ⟨h1, h2⟩ := lay_tds r
    refine ⟨?_, ?_⟩
    · show (PyData.canLay0 (td p) && PyData.canLayAll0 (r.map td)) = true
      rw [h1]
      rfl
    · show max (PyData.depth (td p)) (PyData.depthAll (r.map td)) ≤ 1
      have : PyData.depth (td p) = 1 := rfl
      omega
theorem shaped_tds (ps : List Tr) : SeqAt.shaped (.tuple (ps.map td)) = true := by
  obtain ⟨h1, h2⟩ := lay_tds ps
  unfold SeqAt.shaped
  have e1 : PyData.canLay0 (.tuple (ps.map td)) = true := h1
  have e2 : PyData.depth (.tuple (ps.map td)) ≤ 64 := by
    show PyData.depthAll (ps.map td) + 1 ≤ 64
    omega
  rw [e1, decide_eq_true e2]
  rfl
theorem TrV.dp {K : PySem.W.Frag} {H : Hp} : ∀ (l : List Tr) (vs : List V), TrV H vs l → DpAll K H vs (l.map td)
  | [], vs, h => by
    have : vs = [] := List.length_eq_zero_iff.mp h.1
    subst this
    exact .nil
  | t :: r, [], h => absurd h.1 (by simp)
  | t :: r, v :: vs, h => by
    obtain ⟨b, e1, e2⟩ := h.2 0 t rfl
    cases Option.some.inj e1
    exact .cons (td_dp e2) (TrV.dp r vs ⟨Nat.succ.inj h.1, fun i u e => h.2 (i + 1) u e⟩)
theorem Trip.dp {K : PySem.W.Frag} {H : Hp} {a : Addr} {l : List Tr} (h : Trip H a l) : Dp K H (.ref a) (.tuple (l.map td)) := by
  obtain ⟨vs, e, t⟩ := h
  exact .tup (.inl (.inl e)) (t.dp l vs)
section
variable {P : Program} {w : World} {K : PySem.W.Frag} {mg : Str → Option Value} {base : Heap} {C : Addr}
def spEqL (K : PySem.W.Frag) (C : Addr) : Sp := fun vs H Q _ => ∃ (p : Addr) (y : V) (n : Int) (cs : List Tr), vs = [.ref p, y] ∧ LotAt C H p n cs ∧
  ((∃ (o : Addr) (m : Int) (ds : List Tr), y = .ref o ∧ LotAt C H o m ds ∧ Q (.bl (decide (n = m ∧ cs = ds))) H) ∨ (∃ t : Value, TyX K H y t ∧ PySem.W.kitOne K t (.ref C) = some false ∧ Q (.bl false) H))
theorem ok_eqL {f : Addr} {fd : FuncData} (F : Fun K "__eq__" "Lot.__eq__" s_Lot_eq f fd) (T : Bi mg) (L : LotC K mg C) (I : C8.InsC K C) : FnOk P w K mg base CX0 1 f fd ["self", "other"] (spEqL K C) := by
  refine F.ok sc_Lot_eq (fun vs H Q E h => ?_) (fun cdv A outer s H vs Q E hr h => ?_)
  · obtain ⟨p, y, n, cs, rfl, _⟩ := h
    rfl
  · obtain ⟨p, y, n, cs, rfl, hp, h⟩ := h
    have hu64 : (A.deeper (envOfC "Lot.__eq__" (defScope s_Lot_eq) s.heap.objs.size f cdv)).units + 64 < cLine := hr.units
    refine ⟨_, (pss_one (ps_ret (pe_and (pe_callB call_isi (by rfl) T.b_isinstance (by decide +kernel) (pa_cons (pv 1) (pa_cons (pe_glob (v := .ref C) (by rfl) L.g rfl) pa_nil))) (pe_and (pe_cmpR op_eq (pe_fld (pv 0) rfl) (pe_fld (pv 1) rfl) (nomark _)) (pe_one (pe_cmpR (op_eqDK (K := K) rfl hu64) (pe_fld (pv 0) rfl) (pe_fld (pv 1) rfl) (nomark _))))))), ?_⟩
    obtain ⟨dx, c, e, t⟩ := hp
    rcases h with ⟨o, m, ds, rfl, ho, q⟩ | ⟨t2, ty, kt, q⟩
    · obtain ⟨dy, c2, e2, t2⟩ := ho
      refine ⟨_, rfl, _, _, _, _, true, rfl, .own C, .base (.ins e2 I.cl I.ha I.hn I.htk I.hm), I.me, true, rfl, ?_⟩
      refine ⟨_, rfl, p, C, dx, _, _, rfl, e, L.cl, L.nP, flds_pins _ _, _, rfl, o, C, dy, _, _, rfl, e2, L.cl, L.nP, flds_pins _ _, rfl, ?_⟩
      refine ⟨_, rfl, ?_⟩
      by_cases en : n = m
      · subst en
        rw [show decide (V.int n = V.int n) = true from decide_eq_true rfl]
        refine ⟨_, rfl, p, C, dx, _, _, rfl, e, L.cl, L.nC, flds_cords _ _, _, rfl, o, C, dy, _, _, rfl, e2, L.cl, L.nC, flds_cords _ _, _, _, t.dp, t2.dp, shaped_tds _, shaped_tds _, ?_⟩
        rw [PyData.eqv, tds_eqv]
        by_cases ec : cs = ds
        · rw [decide_eq_true ec]
          rw [decide_eq_true (show n = n ∧ cs = ds from ⟨rfl, ec⟩)] at q
          exact q
        · rw [decide_eq_false ec]
          rw [decide_eq_false (show ¬ (n = n ∧ cs = ds) from fun z => ec z.2)] at q
          exact q
      · rw [decide_eq_false (show ¬ (n = m ∧ cs = ds) from fun z => en z.1)] at q
        rw [show decide (V.int n = V.int m) = false from decide_eq_false fun z => en (V.int.inj z)]
        exact q
    · exact ⟨_, rfl, _, _, _, _, false, rfl, .own C, ty, kt, false, rfl, q⟩
end
section
variable {P : Program} {w : World} {K : PySem.W.Frag} {mg : Str → Option Value} {base : Heap} {C : Addr}
theorem nfC : PySem.W.notFirst K C (.ref C) = true := by
  unfold PySem.W.notFirst
  rw [beq_self_eq_true]
  rfl
theorem eqLot {H : Hp} {Q : VK} {p o : Addr} {n m : Int} {cs ds : List Tr} (hp : LotAt C H p n cs) (ho : LotAt C H o m ds) (q : Q (.bl (decide (n = m ∧ cs = ds))) H) : rOwnEq K C (spEqL K C) (.ref p) (.ref o) H Q := by
  obtain ⟨dx, c, e, t⟩ := id hp
  obtain ⟨dy, c2, e2, t2⟩ := id ho
  exact ⟨p, dx, _, .ref C, rfl, e, .inr ⟨o, dy, _, rfl, e2, rfl⟩, nfC, p, _, n, cs, rfl, hp, .inl ⟨o, m, ds, rfl, ho, _, rfl, q⟩⟩
end
section
variable {X : Cx} {K : PySem.W.Frag} {C g : Addr} {k : Nat} {fd : FuncData} {ps : List Str} {sp : Sp}
theorem op_ownEqK (hK : X.K = K) (hs : PySem.W.findIn K (.ref C) "__eq__" = some (some (.ref g))) (hf : PySem.W.isFn K (.ref g) = true) (F : FnOk X.prog X.w K X.mg X.base CX0 k g fd ps sp) (room : Room k X.A) (hb : Binds K fd ps []) : OpR X (compareOp .Eq) (rOwnEq K C sp) := by
  subst hK
  exact op_ownEq hs hf F room hb
end
end Own

namespace Own
open PySem PySem.Spec PyProof.Rows L2
def gdat (sz : Int) (f : Int → Int) : List PyData := (List.range sz.toNat).map fun j : Nat => PyData.int (f (j : Int))
def tdat (sz : Int) (f : Int → Int → Int) : PyData := .tuple ((List.range sz.toNat).map fun j : Nat => PyData.tuple (gdat sz (f (j : Int))))
theorem dp_all {K : PySem.W.Frag} {H : Hp} : ∀ {vs : List V} {ds : List PyData}, vs.length = ds.length → (∀ (i : Nat) (v : V) (d : PyData), vs[i]? = some v → ds[i]? = some d → Dp K H v d) → DpAll K H vs ds
  | [], [], _, _ => .nil
  | v :: vs, d :: ds, l, h => .cons (h 0 v d rfl rfl) (dp_all (by simpa using l) fun i x y hx hy => h (i + 1) x y hx hy)
theorem gdat_dp {K : PySem.W.Frag} {H : Hp} (sz : Int) (f : Int → Int) : DpAll K H (gl sz f) (gdat sz f) := by
  unfold gl gdat
  generalize List.range sz.toNat = r
  induction r with
  | nil => exact .nil
  | cons a r ih => exact .cons (.int _) ih
theorem TabAt.dp {K : PySem.W.Frag} {H : Hp} {a : Addr} {sz : Int} {f : Int → Int → Int} (h : TabAt H a sz f) : Dp K H (.ref a) (tdat sz f) := by
  obtain ⟨vs, e, l, r⟩ := h
  refine .tup (.inl (.inl e)) (dp_all (by rw [l, List.length_map, List.length_range]) fun i v d hv hd => ?_)
  have hi : i < sz.toNat := by
    rw [← l]
    exact (List.getElem?_eq_some_iff.mp hv).1
  obtain ⟨b, e1, e2⟩ := r i hi
  rw [e1] at hv
  rw [List.getElem?_map, List.getElem?_range hi] at hd
  cases hv
  cases hd
  exact .tup (.inl (.inl e2)) (gdat_dp sz _)
theorem gdat_ok (sz : Int) (f : Int → Int) : PyData.canLayAll0 (gdat sz f) = true ∧ PyData.depthAll (gdat sz f) = 0 ∧ PyData.eqvAll (gdat sz f) (gdat sz f) = true := by
  unfold gdat
  generalize List.range sz.toNat = r
  induction r with
  | nil => exact ⟨rfl, rfl, rfl⟩
  | cons a r ih =>
    obtain ⟨h1, h2, h3⟩ := ih
    refine ⟨?_, ?_, ?_⟩
    · simp [PyData.canLayAll0, PyData.canLay0, h1]
    · simp [PyData.depthAll, PyData.depth, h2]
    · simp [PyData.eqvAll, PyData.eqv, h3]
theorem rows_ok (sz : Int) (f : Int → Int → Int) (r : List Nat) : PyData.canLayAll0 (r.map fun j : Nat => PyData.tuple (gdat sz (f (j : Int)))) = true ∧ PyData.depthAll (r.map fun j : Nat => PyData.tuple (gdat sz (f (j : Int)))) ≤ 1 ∧ PyData.eqvAll (r.map fun j : Nat => PyData.tuple (gdat sz (f (j : Int)))) (r.map fun j : Nat => PyData.tuple (gdat sz (f (j : Int)))) = true := by
  induction r with
  | nil => exact ⟨rfl, by simp [PyData.depthAll], rfl⟩
  | cons a r ih =>
    obtain ⟨h1, h2, h3⟩ := ih
    obtain ⟨g1, g2, g3⟩ := gdat_ok sz (f (a : Int))
    refine ⟨?_, ?_, ?_⟩
    · simp [PyData.canLayAll0, PyData.canLay0, h1, g1]
    · simp only [List.map_cons, PyData.depthAll, PyData.depth, g2]
      omega
    · simp [PyData.eqvAll, PyData.eqv, h3, g3]
theorem tdat_shaped (sz : Int) (f : Int → Int → Int) : SeqAt.shaped (tdat sz f) = true := by
  obtain ⟨h1, h2, _⟩ := rows_ok sz f (List.range sz.toNat)
  unfold SeqAt.shaped tdat
  rw [Bool.and_eq_true]
  refine ⟨?_, decide_eq_true ?_⟩
  · unfold PyData.canLay0
    exact h1
  · unfold PyData.depth
    omega
theorem tdat_eqv (sz : Int) (f : Int → Int → Int) : (!PyData.eqv (tdat sz f) (tdat sz f)) = false := by
  have := (rows_ok sz f (List.range sz.toNat)).2.2
  unfold tdat
  unfold PyData.eqv
  rw [this]
  rfl
theorem TabAt.congr {H : Hp} {a : Addr} {sz : Int} {f g : Int → Int → Int} (h : TabAt H a sz f) (e : ∀ x y, 0 ≤ x → x < sz → 0 ≤ y → y < sz → f x y = g x y) : TabAt H a sz g := by
  obtain ⟨vs, e1, l, r⟩ := h
  refine ⟨vs, e1, l, fun j hj => ?_⟩
  obtain ⟨b, h1, h2⟩ := r j hj
  refine ⟨b, h1, ?_⟩
  rw [h2]
  congr 2
  exact gl_congr fun y y0 y1 => e _ y (by omega) (by omega) y0 y1
/-! ### lists that are changed: what is no list stays -/
/-- what is no list stays -/
def SameN (H H' : Hp) : Prop := ∀ b o, H b = some o → (∀ xs, o ≠ .lst xs) → H' b = some o
theorem SameN.refl (H : Hp) : SameN H H := fun _ _ e _ => e
theorem SameN.put {H H' : Hp} {b : Addr} {xs : List V} {o : HO} (s : SameN H H') (e : H' b = some (.lst xs)) : SameN H (upd H' b o) := fun c o' h n => by
  have h' := s c o' h n
  have : c ≠ b := fun z => by
    rw [z, e] at h'
    cases h'
    exact n _ rfl
  rw [upd_ne this]
  exact h'
theorem SameN.new {H H' : Hp} {b : Addr} {o : HO} (s : SameN H H') (e : H' b = none) : SameN H (upd H' b o) := fun c o' h n => same_upd e _ _ (s c o' h n)
theorem Trip.sameN {H H' : Hp} {a : Addr} {l : List Tr} (s : SameN H H') (h : Trip H a l) : Trip H' a l := by
  obtain ⟨vs, e, t⟩ := h
  refine ⟨vs, s _ _ e (fun _ z => nomatch z), t.1, fun i u hu => ?_⟩
  obtain ⟨b, e1, e2⟩ := t.2 i u hu
  exact ⟨b, e1, s _ _ e2 (fun _ z => nomatch z)⟩
theorem LotAt.sameN {C : Addr} {H H' : Hp} {p : Addr} {n : Int} {cs : List Tr} (s : SameN H H') (h : LotAt C H p n cs) : LotAt C H' p n cs := by
  obtain ⟨dx, c, e, t⟩ := h
  exact ⟨dx, c, s _ _ e (fun _ z => nomatch z), t.sameN s⟩
theorem TabAt.sameN {H H' : Hp} {a : Addr} {sz : Int} {f : Int → Int → Int} (s : SameN H H') (h : TabAt H a sz f) : TabAt H' a sz f := by
  obtain ⟨vs, e1, l, r⟩ := h
  refine ⟨vs, s _ _ e1 (fun _ z => nomatch z), l, fun j hj => ?_⟩
  obtain ⟨b, h1, h2⟩ := r j hj
  exact ⟨b, h1, s _ _ h2 (fun _ z => nomatch z)⟩
/-- the rows that were passed, as they stand when the lists among them are changed -/
structure MuT (H0 H1 H' : Hp) (c : Addr) (us : List V) (sz : Nat) (form : Int) : Prop where
  nc : H0 c = none
  sm : Same H0 H'
  sn : SameN H1 H'
  at_ : if form % 2 = 1 then H' c = some (.tup us) else H' c = some (.lst us)
  len : us.length = sz
  it : ∀ i : Nat, i < sz → ∃ b, us[i]? = some (.ref b) ∧ if par form i = true then ∃ xs, H' b = some (.tup xs) else (∃ (k : Int) (r : List V), H' b = some (.lst (.int k :: r))) ∧ H0 b = none
theorem MuT.start {H0 H : Hp} {c : Addr} {rs : List RwA} {sz : Nat} {f : Int → Int → Int} {form : Int} (s : Same H0 H) (T : TabF rs sz f) (h : PasG H0 H c rs form) : ∃ us, MuT H0 H H c us sz form := by
  obtain ⟨n, us, e, ll, a⟩ := h
  refine ⟨us, n, s, SameN.refl H, e, by rw [ll, T.len], fun i hi => ?_⟩
  obtain ⟨v, e1, b, e2, e3⟩ := a i _ (T.row i hi)
  refine ⟨b, by rw [e1, e2], ?_⟩
  split
  · rename_i hp
    rw [if_pos hp] at e3
    exact ⟨_, e3⟩
  · rename_i hp
    rw [if_neg hp] at e3
    refine ⟨?_, e3.2⟩
    have : ∃ r, gl (sz : Int) (f (i : Int)) = V.int (f (i : Int) 0) :: r := by
      unfold gl
      obtain ⟨m, hm⟩ : ∃ m, (sz : Int).toNat = m + 1 := ⟨sz - 1, by omega⟩
      rw [hm, List.range_succ_eq_map]
      exact ⟨_, rfl⟩
    obtain ⟨r, er⟩ := this
    rw [er] at e3
    exact ⟨_, r, e3.1⟩
/-- one of the lists gets another first number -/
theorem MuT.put {H0 H1 H' : Hp} {c b : Addr} {us : List V} {sz : Nat} {form k k' : Int} {r : List V} (h : MuT H0 H1 H' c us sz form) (s0 : 0 < sz) (e : H' b = some (.lst (.int k :: r))) (n : H0 b = none) : MuT H0 H1 (upd H' b (.lst (.int k' :: r))) c us sz form := by
  have cb : ∀ {o}, H' c = some o → (o = .tup us ∨ o = .lst us) → c ≠ b := fun {o} hc ho z => by
    rw [z, e] at hc
    cases hc
    rcases ho with ho | ho
    · cases ho
    · cases ho
      obtain ⟨q, e1, _⟩ := h.it 0 s0
      cases e1
  refine ⟨h.nc, same_put (H1 := H0) n h.sm, h.sn.put e, ?_, h.len, fun i hi => ?_⟩
  · have ha := h.at_
    split
    · rename_i hp
      rw [if_pos hp] at ha
      rw [upd_ne (cb ha (.inl rfl))]
      exact ha
    · rename_i hp
      rw [if_neg hp] at ha
      rw [upd_ne (cb ha (.inr rfl))]
      exact ha
  · obtain ⟨b2, e1, e2⟩ := h.it i hi
    refine ⟨b2, e1, ?_⟩
    split
    · rename_i hp
      rw [if_pos hp] at e2
      obtain ⟨xs, e3⟩ := e2
      have hb : b2 ≠ b := fun z => by
        rw [z, e] at e3
        cases e3
      rw [upd_ne hb]
      exact ⟨xs, e3⟩
    · rename_i hp
      rw [if_neg hp] at e2
      obtain ⟨⟨p, q, e3⟩, n3⟩ := e2
      refine ⟨?_, n3⟩
      by_cases hb : b2 = b
      · rw [hb]
        exact ⟨_, _, upd_same⟩
      · rw [upd_ne hb]
        exact ⟨p, q, e3⟩
end Own

namespace Own
open PySem PySem.Spec PyProof.Rows L2
section
variable {P : Program} {w : World} {K : PySem.W.Frag} {mg : Str → Option Value} {base : Heap} {C D0 D1 D2 D3 : Addr}
def gsum : Nat → Nat
  | 0 => 0
  | i + 1 => gsum i + (39 - i)
theorem prs_lenG {n : Int} (h : n ≤ 40) : ∀ i : Nat, (prs n i).length ≤ gsum i
  | 0 => Nat.le_refl _
  | i + 1 => by
    have ih := prs_lenG h i
    rw [prs_succ, List.length_append]
    unfold prA
    rw [List.length_map, List.length_range]
    show _ ≤ gsum i + (39 - i)
    omega
theorem gsum_le : ∀ i : Nat, i < 41 → gsum i ≤ 1000 := by decide
theorem cotE_len {n : Int} (h : n ≤ 40) (f : Int → Int → Int) : (cotE n f).length ≤ 1000 := by
  unfold cotE
  refine Nat.le_trans (List.length_filter_le _ _) ?_
  rw [List.length_map]
  exact Nat.le_trans (prs_lenG h _) (gsum_le _ (by omega))
def spFound (K : PySem.W.Frag) : Sp := fun vs H Q _ => ∃ (n form : Int) (a : Addr) (ws : List V) (rs : List RwA) (m : Nat) (b : Int) (f : Int → Int → Int), vs = [.int n, .ref a, .int form] ∧ H a = some (.lst ws) ∧ RowsL K H ws rs ∧ RsB K H m b rs ∧ m ≤ 1000 ∧ b < 2 ^ 59 ∧ 0 ≤ n ∧ n ≤ 40 ∧
  VdA K H rs (hi n 1).toNat none ∧ TabF rs (hi n 1).toNat f ∧ (∀ x y, 0 ≤ x → x < y → y < n → TwOk n f x y) ∧ ∀ H', Same H H' → Q (.bl true) H'
set_option maxHeartbeats 0 in
theorem ok_found {f : Addr} {fd : FuncData} (F : Fun K "_law_found" "_law_found" s__law_found f fd) (T : Bi mg) (L : LotC K mg C) 
    {f_ps : Addr} {d_ps : FuncData} (D_ps : Df K mg "_law_passed" s__law_passed ["_law_rows", "_law_form"] f_ps d_ps) (G_ps : FnOk P w K mg base CX0 1 f_ps d_ps ["_law_rows", "_law_form"] (spPasG K)) 
    {f_no : Addr} {d_no : FuncData} (D_no : Df K mg "_law_normal" s__law_normal ["_law_lot_here", "_law_rim"] f_no d_no) (G_no : FnOk P w K mg base CX0 5 f_no d_no ["_law_lot_here", "_law_rim"] (spNormal C)) 
    {f_lt : Addr} {d_lt : FuncData} (D_lt : Df K mg "_law_table" s__law_table ["_law_rim", "_law_bunch"] f_lt d_lt) (G_lt : FnOk P w K mg base CX0 1 f_lt d_lt ["_law_rim", "_law_bunch"] spLTab) 
    {f_s : Addr} {d_s : FuncData} (D_s : Df K mg "_law_same" s__law_same ["_law_value", "_law_due"] f_s d_s) (G_s : FnOk P w K mg base CX0 5 f_s d_s ["_law_value", "_law_due"] (spSame 3)) 
    {f_li : Addr} {d_li : FuncData} (D_li : Df K mg "_law_lot_is" s__law_lot_is ["_law_lot_here", "_law_rim", "_law_bunch"] f_li d_li) (G_li : FnOk P w K mg base CX0 5 f_li d_li ["_law_lot_here", "_law_rim", "_law_bunch"] (spLotIs K C)) 
    {f_lo : Addr} {d_lo : FuncData} (D_lo : Df K mg "lot_of" s_lot_of ["pins", "table"] f_lo d_lo) (G_lo : FnOk P w K mg base (L2N.CX P w) 8 f_lo d_lo ["pins", "table"] (spLotOf K C D0 D1 D3)) {f_i : Addr} {d_i : FuncData} (M : Mk K C f_i) (b_i : Binds K d_i ["self", "pins", "cords"] []) (G_i : GIY P w K mg base C D1 D2 f_i d_i) {f_t : Addr} {d_t : FuncData} (M_t : Mt K C "total" "Lot.total" s_Lot_total ["self"] f_t d_t) (G_t : FnOk P w K mg base CX0 1 f_t d_t ["self"] (spTotal C)) {f_tb p_t : Addr} {d_tb : FuncData} (P_t : PropOf K C "table" p_t f_tb) (b_t : Binds K d_tb ["self"] []) (G_tb : FnOk P w K mg base CX0 3 f_tb d_tb ["self"] (spTab C)) 
    {f_eq : Addr} {d_eq : FuncData} (i_eq : PySem.W.findIn K (.ref C) "__eq__" = some (some (.ref f_eq))) (n_eq : PySem.W.isFn K (.ref f_eq) = true) (b_eq : Binds K d_eq ["self", "other"] []) (G_eq : FnOk P w K mg base CX0 1 f_eq d_eq ["self", "other"] (spEqL K C)) : FnOk P w K mg base CX0 9 f fd ["_law_rim", "_law_rows", "_law_form"] (spFound K) := by
  refine F.ok sc__law_found (fun vs H Q E h => ?_) (fun cdv A outer s H vs Q E hr h => ?_)
  · obtain ⟨n, form, a, ws, rs, m, b, f0, rfl, _⟩ := h
    rfl
  · obtain ⟨n, form, a, ws, rs, m, b, f0, rfl, ea, hR, hB, hm, hb, n0, n1, vd, tf, tw, q⟩ := h
    have hu64 : (A.deeper (envOfC "_law_found" (defScope s__law_found) s.heap.objs.size f cdv)).units + 64 < cLine := hr.units
    have hh := lo_hi n 1
    have hsz : ((hi n 1).toNat : Int) = hi n 1 := by omega
    have lr : rs.length ≤ 1000 := by
      have := tf.len
      omega
    have cl := cotE_len n1 f0
    have et : ∀ cs, IsNorm (cotE n f0) cs → ∀ i j, 0 ≤ i → i < hi n 1 → 0 ≤ j → j < hi n 1 → tabE cs i j = f0 i j := fun cs hN i j i0 i1 j0 j1 => by
      by_cases hn : 1 ≤ n
      · exact cot_tab n0 (fun i j a b c d => tf.sy i j a (by omega) c (by omega)) (fun i a b => tf.dg i a (by omega)) tw hN i j i0 (by omega) j0 (by omega)
      · have ei : i = 0 := by omega
        have ej : j = 0 := by omega
        rw [ei, ej, tabE_same, tf.dg 0 (by decide) (by omega)]
    obtain ⟨tZ, hZ, qZ⟩ : ∃ tR, PSs (cxOf CX0 P w K mg base ["_law_rim", "_law_rows", "_law_form", "_law_grid", "_law_due", "_law_lot_here", "_law_bunch", "_law_k", "_law_row", "_law_entry"] "_law_found" (defScope s__law_found) f cdv A outer s H E).nox ((defBody s__law_found).drop 8) tR ∧ ∀ (c d x bn : Addr) (cs : List Tr) (y7 y8 y9 : Option V) (H6 : Hp), LotAt C H6 x n cs → Trip H6 bn cs → TabAt H6 d (hi n 1) f0 → Good n cs → cs.length ≤ 1000 → IsNorm (cotE n f0) cs → Same H H6 → tR { nx := fun _ H' => Q .non H', rt := Q } [some (.int n), some (.ref a), some (.int form), some (.ref c), some (.ref d), some (.ref x), some (.ref bn), y7, y8, y9] H6 := by
      refine ⟨_, (pss_cons (ps_if (PW.pt (pw_or (pt_not (pt_val (pe_call G_s (hr.mono (by decide)) (by rfl) D_s.g D_s.F.kp D_s.b .nil pass0 (pa_cons (pe_meth0 (pv 5) L.cl M_t.m G_t (hr.mono (by decide)) M_t.b .nil pass0) (pa_cons (pe_callB (cr_sum rfl) (by rfl) T.b_sum (by decide +kernel) (pa_cons (pe_lc (own := [("_law_entry", 9)]) (g := gName 9) (tt := tYes) rfl sc__law_found.nd (pi_tup (pv 6)) (blkOk_by (own := [("_law_entry", 9)]) (N := ["_law_rim", "_law_rows", "_law_form", "_law_grid", "_law_due", "_law_lot_here", "_law_bunch", "_law_k", "_law_row", "_law_entry"]) (sc := defScope s__law_found) (by decide +kernel)) (fun _ _ _ _ _ => (pg_name (i := 9) sc__law_found.nd rfl (.inl rfl))) (fun _ _ _ _ _ => pts_nil) (fun _ _ _ _ _ => (pe_ix (r := rIxT K) ix_tup (pv 9) pe_int (fun _ _ => rfl)))) pa_nil)) pa_nil))))) (pw_or1 (pt_not (pt_val (pe_call G_s (hr.mono (by decide)) (by rfl) D_s.g D_s.F.kp D_s.b .nil pass0 (pa_cons (pe_prop (pv 5) L.cl P_t G_tb (hr.mono (by decide)) b_t .nil pass0 (by rfl)) (pa_cons (pv 4) pa_nil)))))))) (pss_one (ps_ret pe_bl)) pss_nil)
        (pss_one (ps_ret (pe_and (pe_call G_li (hr.mono (by decide)) (by rfl) D_li.g D_li.F.kp D_li.b .nil pass0 (pa_cons (pv 5) (pa_cons (pv 0) (pa_cons (pv 6) pa_nil)))) (pe_one (pe_call G_s (hr.mono (by decide)) (by rfl) D_s.g D_s.F.kp D_s.b .nil pass0 (pa_cons (pe_cmpR (by exact op_ownEqK rfl i_eq n_eq G_eq (hr.mono (by decide)) b_eq) (pv 5) (pe_make M G_i (hr.mono (by decide)) (by rfl) L.g b_i .nil passN (pa_cons (pv 0) (pa_cons (pv 6) pa_nil))) (nomark _)) (pa_cons pe_bl pa_nil)))))))), ?_⟩
      intro c d x bn cs y7 y8 y9 H6 hL hb hd hG hl hN sm
      obtain ⟨vb, eb, tb⟩ := id hb
      obtain ⟨dx, c2, eL, tL⟩ := id hL
      refine ⟨_, rfl, x, dx, _, rfl, eL, flds_no _ _ (by decide +kernel) (by decide +kernel), x, n, cs, rfl, hL, hl, fun H7 s7 => ?_⟩
      refine ⟨_, rfl, bn, rfl, ⟨vb, .inl (.inl (s7 _ _ eb))⟩, fun D hD => ?_⟩
      refine lc_tup (K := K) (a := bn) (xs := vb) (fun i H2 => H2 = upd H7 D (.lst (((cs.map fun t => t.2.2).take i).map V.int))) rfl (fun i H2 _ p => by subst p; exact .inl (.inl (same_upd hD _ _ (s7 _ _ eb)))) (fun i x H2 hxi p => ?_) (fun H2 p => ?_)
      · subst p
        obtain ⟨u, t, rfl, hti, hu⟩ := (tb.same s7).at_ hxi
        refine ⟨rfl, ?_⟩
        refine ⟨_, rfl, u, _, 2, _, rfl, rfl, .inl (.inl (same_upd hD _ _ hu)), atI_nat (j := 2) rfl, _, upd_same, ?_, ?_⟩
        · rw [List.length_map, List.length_take, List.length_map]
          exact Nat.lt_of_le_of_lt (Nat.min_le_right _ _) (small1000 hl)
        · rw [upd_upd, List.take_add_one, List.getElem?_map, hti, List.map_append]
          rfl
      subst p
      rw [show vb.length = (cs.map fun t => t.2.2).length by rw [List.length_map]; exact tb.1, List.take_length]
      have s8 := s7.trans (same_upd (o := .lst ((cs.map fun t => t.2.2).map V.int)) hD)
      refine ⟨D, _, rfl, .inl (.inl upd_same), .int (totOf cs), .int (cs.map fun t => t.2.2).sum, rfl, EqV.int _, true, rfl, ?_⟩
      generalize (upd H7 D (.lst ((cs.map fun t => t.2.2).map V.int))) = H8 at s8
      refine ⟨_, rfl, x, dx, _, rfl, s8 _ _ eL, x, n, cs, rfl, hL.same s8, n0, by omega, hG, fun H9 u s9 hu => ?_⟩
      have s69 := s8.trans s9
      refine ⟨_, rfl, _, _, rfl, (EqV.tab hu (hd.same s69) (by omega) (fun i j i0 i1 j0 j1 => et cs hN i j i0 i1 j0 j1)).up, true, rfl, ?_⟩
      refine ⟨_, rfl, _, rfl, _, rfl, x, n, bn, cs, rfl, hL.same s69, hb.same s69, hl, true, rfl, ?_⟩
      refine ⟨_, rfl, _, rfl, _, rfl, fun x4 dx4 nx4 nd4 ne4 => rd_mk n0 (.inr (.inl (.inl (s69 _ _ eb)))) (tb.same s69).en hG.vld hl nx4 nd4 ne4 fun H13 r13 s13 hL13 hN13 => ⟨rfl, ?_⟩⟩
      obtain rfl := norm_uniq hN13 hG.self
      refine eqLot ((hL.same s69).same s13) hL13 ?_
      rw [decide_eq_true (show n = n ∧ r13 = r13 from ⟨rfl, rfl⟩)]
      exact ⟨_, _, rfl, EqV.bl true, q _ ((sm.trans s69).trans s13)⟩
    refine ⟨_, (pss_cons (ps_set (i := 3) sc__law_found.nd rfl (.inl rfl) (pe_call G_ps (hr.mono (by decide)) (by rfl) D_ps.g D_ps.F.kp D_ps.b .nil pass0 (pa_cons (pv 1) (pa_cons (pv 2) pa_nil))))
        (pss_cons (ps_set (i := 4) sc__law_found.nd rfl (.inl rfl) (pe_callTy call_tuple_of (by rfl) T.b_tuple (by decide +kernel) (pa_cons (pe_lc (own := [("_law_row", 8)]) (g := gName 8) (tt := tYes) rfl sc__law_found.nd (pi_list (pv 1)) (blkOk_by (own := [("_law_row", 8)]) (N := ["_law_rim", "_law_rows", "_law_form", "_law_grid", "_law_due", "_law_lot_here", "_law_bunch", "_law_k", "_law_row", "_law_entry"]) (sc := defScope s__law_found) (by decide +kernel)) (fun _ _ _ _ _ => (pg_name (i := 8) sc__law_found.nd rfl (.inl rfl))) (fun _ _ _ _ _ => pts_nil) (fun _ _ _ _ _ => (pe_callTy (r := rTupOf K) cr_tupOf (by rfl) T.b_tuple (by decide +kernel) (pa_cons (pv 8) pa_nil)))) pa_nil)))
        (pss_cons (ps_set (i := 5) sc__law_found.nd rfl (.inl rfl) (pe_call G_lo (hr.mono (by decide)) (by rfl) D_lo.g D_lo.F.kp D_lo.b .nil passN (pa_cons (pv 0) (pa_cons (pv 3) pa_nil))))
        (pss_cons (ps_if (PW.pt (pw_or (pt_not (pt_val (pe_call G_no (hr.mono (by decide)) (by rfl) D_no.g D_no.F.kp D_no.b .nil pass0 (pa_cons (pv 5) (pa_cons (pv 0) pa_nil))))) (pw_or (pt_cmpR (op_neD hu64) (pe_call G_lt (hr.mono (by decide)) (by rfl) D_lt.g D_lt.F.kp D_lt.b .nil pass0 (pa_cons (pv 0) (pa_cons (pe_fld (pv 5) rfl) pa_nil))) (pv 4) (nomark _)) (pw_or1 (pt_not (pt_val (pe_call G_s (hr.mono (by decide)) (by rfl) D_s.g D_s.F.kp D_s.b .nil pass0 (pa_cons (pe_prop (pv 5) L.cl P_t G_tb (hr.mono (by decide)) b_t .nil pass0 (by rfl)) (pa_cons (pv 4) pa_nil))))))))) (pss_one (ps_ret pe_bl)) pss_nil)
        (pss_cons (ps_set (i := 6) sc__law_found.nd rfl (.inl rfl) (pe_callTy call_tuple_of (by rfl) T.b_tuple (by decide +kernel) (pa_cons (pe_lc (own := [("_law_entry", 9)]) (g := gName 9) (tt := tYes) rfl sc__law_found.nd (pi_tup (pe_fld (pv 5) rfl)) (blkOk_by (own := [("_law_entry", 9)]) (N := ["_law_rim", "_law_rows", "_law_form", "_law_grid", "_law_due", "_law_lot_here", "_law_bunch", "_law_k", "_law_row", "_law_entry"]) (sc := defScope s__law_found) (by decide +kernel)) (fun _ _ _ _ _ => (pg_name (i := 9) sc__law_found.nd rfl (.inl rfl))) (fun _ _ _ _ _ => pts_nil) (fun _ _ _ _ _ => (pv 9))) pa_nil)))
        (pss_cons (ps_if (pt_not (pt_val (pe_call G_s (hr.mono (by decide)) (by rfl) D_s.g D_s.F.kp D_s.b .nil pass0 (pa_cons (pv 3) (pa_cons (pe_call G_ps (hr.mono (by decide)) (by rfl) D_ps.g D_ps.F.kp D_ps.b .nil pass0 (pa_cons (pv 1) (pa_cons (pv 2) pa_nil))) pa_nil))))) (pss_one (ps_ret pe_bl)) pss_nil)
        (pss_cons (ps_for PassesOwn.never rfl (pi_range1 (by rfl) T.b_range (pa_cons (pe_callB call_len_seq (by rfl) T.b_len PySem.boot_len (pa_cons (pv 1) pa_nil)) pa_nil)) (pg_name (i := 7) sc__law_found.nd rfl (.inl rfl))
        (pss_one (ps_if (pt_val (pe_callB call_isi (by rfl) T.b_isinstance (by decide +kernel) (pa_cons (pe_ix (r := rIxB K) ix_seqB (pv 3) (pv 7) (fun _ _ => rfl)) (pa_cons (pe_bltn (v := .ty "list") (by rfl) T.b_list (by decide +kernel) rfl) pa_nil)))) (pss_one (ps_asg (pe_op op_add (pe_ix (r := rIxL K) ix_list (pe_ix (r := rIxB K) ix_seqB (pv 3) (pv 7) (fun _ _ => rfl)) pe_int (fun _ _ => rfl)) pe_int) (pg_sub (pe_ix (r := rIxB K) ix_seqB (pv 3) (pv 7) (fun _ _ => rfl)) pe_int set_list))) pss_nil)))
        (pss_cons (ps_if (pt_val (pe_callB call_isi (by rfl) T.b_isinstance (by decide +kernel) (pa_cons (pv 3) (pa_cons (pe_bltn (v := .ty "list") (by rfl) T.b_list (by decide +kernel) rfl) pa_nil)))) (pss_one (ps_expr (pe_bm PySem.F.plainAttrs_list PySem.F.slot_list_append PySem.F.type_list_append mt_append (pv 3) (pa_cons pe_int pa_nil)))) pss_nil)
        hZ)))))))), ?_⟩
    refine ⟨_, rfl, _, rfl, a, ws, rs, form, rfl, ea, hR, lr, fun H1 c s1 pg => ?_⟩
    obtain ⟨us0, hu, lu, hP⟩ := pg.rows s1 hB
    have ea1 := s1 _ _ ea
    -- due
    refine ⟨_, rfl, a, rfl, ⟨ws, .inl (.inl ea1)⟩, fun O hO => ?_⟩
    have rowAt : ∀ (i : Nat) (x : V), ws[i]? = some x → ∃ b, x = .ref b ∧ H b = some (.lst (gl (hi n 1) (f0 i))) := fun i x hx => by
      have hi2 : i < (hi n 1).toNat := by
        have := (List.getElem?_eq_some_iff.mp hx).1
        have := hR.1
        have := tf.len
        omega
      obtain ⟨b, e1, e2⟩ := hR.2 i _ (tf.row i hi2)
      rw [hx] at e1
      cases e1
      rw [hsz] at e2
      exact ⟨b, rfl, e2⟩
    refine lc_list (K := K) (a := a) (xs := ws) (fun i H5 => Same H1 H5 ∧ ∃ us : List Addr, H5 O = some (.lst (us.map V.ref)) ∧ us.length = i ∧ ∀ (j : Nat) (u : Addr), us[j]? = some u → H5 u = some (.tup (gl (hi n 1) (f0 j)))) ⟨same_upd hO, [], upd_same, rfl, by simp⟩ (fun i H5 _ p => .inl (.inl (p.1 _ _ ea1))) (fun i x H5 hxi p => ?_) (fun H5 p => ?_)
    · obtain ⟨s5, us, eO, hul, hus⟩ := p
      obtain ⟨r, rfl, hr0⟩ := rowAt i x hxi
      have il : i < ws.length := (List.getElem?_eq_some_iff.mp hxi).1
      refine ⟨rfl, ?_⟩
      refine ⟨_, rfl, r, _, rfl, .inl ⟨.inl (.inl (s5 _ _ (s1 _ _ hr0))), fun u nu => ?_⟩⟩
      have nuO : u ≠ O := fun z => by
        rw [z, eO] at nu
        cases nu
      refine ⟨_, same_upd nu _ _ eO, ?_, same_put (H1 := H1) hO (s5.trans (same_upd nu)), us ++ [u], ?_, ?_, ?_⟩
      · rw [List.length_map, hul]
        have := hR.1
        exact small1000 (by omega)
      · rw [upd_same, List.map_append]
        rfl
      · rw [List.length_append, hul]
        rfl
      · intro j v e
        by_cases hj : j < us.length
        · rw [List.getElem?_append_left hj] at e
          have h5 := hus j v e
          have hv : v ≠ O := fun z => by
            rw [z, eO] at h5
            cases h5
          rw [upd_ne hv]
          exact same_upd nu _ _ h5
        · rw [List.getElem?_append_right (by omega)] at e
          have hk : j - us.length = 0 := by
            cases hk : j - us.length with
            | zero => rfl
            | succ k =>
              rw [hk] at e
              simp at e
          rw [hk] at e
          obtain rfl : u = v := Option.some.inj e
          have ej : j = i := by omega
          subst ej
          rw [upd_ne nuO, upd_same]
    obtain ⟨s5, us, eO, hul, hus⟩ := p
    refine ⟨O, _, rfl, .inl ⟨.inl (.inl eO), fun d nd => ?_⟩⟩
    have s2 : Same H1 (upd H5 d (.tup (us.map V.ref))) := s5.trans (same_upd nd)
    have due : TabAt (upd H5 d (.tup (us.map V.ref))) d (hi n 1) f0 := by
      refine ⟨_, upd_same, ?_, fun j hj => ?_⟩
      · have := hR.1
        have := tf.len
        rw [List.length_map, hul]
        omega
      · have hj2 : j < us.length := by
          have := hR.1
          have := tf.len
          omega
        exact ⟨us[j], by rw [List.getElem?_map, List.getElem?_eq_getElem hj2]; rfl, same_upd nd _ _ (hus j _ (List.getElem?_eq_getElem hj2))⟩
    generalize upd H5 d (.tup (us.map V.ref)) = H2 at s2 due ⊢
    clear hus eO s5 hO nd hul us
    have s02 := s1.trans s2
    -- the lot
    have gr := (tf.grid hu hP).same s2
    refine ⟨_, rfl, _, rfl, _, _, rfl, .inr ⟨n, us0, rfl, n0, n1, .inl ⟨c, rfl, hu.same s2⟩, by omega, .inr ⟨c, f0, rfl, ((vd.same s02).vd (hP.same s2)), gr, fun p r p0 p1 r0 r1 => tw_bound (b := b) (fun i j i0 i1 j0 j1 => ⟨tf.nn i j i0 (by omega) j0 (by omega), tf.le hB i0 (by omega) j0 (by omega)⟩) hb p0 p1 r0 r1, .inl ⟨tw, cl, fun H3 x cs s3 hL hN => ?_⟩⟩⟩⟩
    have hG : Good n cs := hN.good (cotE_vld n0 f0)
    have hl : cs.length ≤ 1000 := Nat.le_trans hN.len cl
    obtain ⟨dx, c2, eL, tL⟩ := id hL
    -- normal, the table, the property
    refine ⟨_, rfl, _, rfl, x, n, cs, rfl, hL, hG, hl, fun H4 s4 => ⟨true, rfl, ?_⟩⟩
    refine ⟨_, rfl, _, rfl, x, C, dx, _, _, rfl, s4 _ _ eL, L.cl, L.nC, flds_cords _ _, n, c2, cs, rfl, n0, by omega, tL.same s4, hG, hl, fun H6 t s6 ht => ?_⟩
    have s26 := (s3.trans s4).trans s6
    refine ⟨_, rfl, tdat (hi n 1) f0, tdat (hi n 1) f0, (ht.congr (fun i j i0 i1 j0 j1 => et cs hN i j i0 i1 j0 j1)).dp, (due.same s26).dp, tdat_shaped _ _, tdat_shaped _ _, _, rfl, ?_⟩
    rw [tdat_eqv]
    have L6 := (hL.same s4).same s6
    refine ⟨_, rfl, x, dx, _, rfl, s6 _ _ (s4 _ _ eL), x, n, cs, rfl, L6, n0, by omega, hG, fun H7 u s7 hu7 => ?_⟩
    have s27 := s26.trans s7
    refine ⟨_, rfl, _, _, rfl, (EqV.tab hu7 (due.same s27) (by omega) (fun i j i0 i1 j0 j1 => et cs hN i j i0 i1 j0 j1)).up, true, rfl, ?_⟩
    -- the bunch
    have L7 := L6.same s7
    have T7 := ((tL.same s4).same s6).same s7
    have eL7 := s7 _ _ (s6 _ _ (s4 _ _ eL))
    obtain ⟨vc, ec, tc⟩ := id T7
    refine ⟨_, rfl, x, C, dx, _, _, rfl, eL7, L.cl, L.nC, flds_cords _ _, c2, rfl, ⟨vc, .inl (.inl ec)⟩, fun B hB2 => ?_⟩
    refine lc_tup (K := K) (a := c2) (xs := vc) (fun i H8 => H8 = upd H7 B (.lst (vc.take i))) rfl (fun i H8 _ p => by subst p; exact .inl (.inl (same_upd hB2 _ _ ec))) (fun i v H8 hxi p => ?_) (fun H8 p => ?_)
    · subst p
      refine ⟨rfl, ?_⟩
      refine ⟨_, rfl, _, upd_same, ?_, ?_⟩
      · rw [List.length_take]
        exact Nat.lt_of_le_of_lt (Nat.min_le_right _ _) (small1000 (by have := tc.1; omega))
      · rw [upd_upd, List.take_add_one, hxi]
        rfl
    subst p
    rw [List.take_length]
    refine ⟨B, _, rfl, .inl ⟨.inl (.inl upd_same), fun bn nbn => ?_⟩⟩
    have s8 := (same_upd (o := .lst vc) hB2).trans (same_upd (o := .tup vc) nbn)
    have T8 : Trip (upd (upd H7 B (.lst vc)) bn (.tup vc)) bn cs := ⟨vc, upd_same, tc.same s8⟩
    have L8 := L7.same s8
    generalize upd (upd H7 B (.lst vc)) bn (.tup vc) = H8 at s8 T8 L8 ⊢
    have s28 := s27.trans s8
    have s08 := s02.trans s28
    have D8 := due.same s28
    -- what was passed stays
    refine ⟨_, rfl, _, rfl, _, rfl, a, ws, rs, form, rfl, s08 _ _ ea, hR.same s08, lr, fun H9 g9 s9 pg9 => ?_⟩
    have s09 := s08.trans s9
    refine ⟨_, _, rfl, (pg.same ((s2.trans s28).trans s9)).eqv s09 hB hm lr pg9, true, rfl, ?_⟩
    have L9 := L8.same s9
    have T9 := T8.same s9
    have D9 := D8.same s9
    -- what was passed is changed
    obtain ⟨us, mu⟩ := MuT.start s09 tf (pg.same ((s2.trans s28).trans s9))
    have hU2 : ∀ H', MuT H H9 H' c us (hi n 1).toNat form → SqH H' c us := fun H' m => by
      have := m.at_
      split at this
      · exact .inr this
      · exact .inl this
    have sz0 : 0 < (hi n 1).toNat := by omega
    refine ⟨_, rfl, a, ws, rfl, .inl (.inl (.inl (s09 _ _ ea))), (ws.length : Int), rfl, by omega, by have := hR.1; omega, for_range (lo := 0) (n := ((ws.length : Nat) : Int).toNat) (fun i σ H' => (∃ y7 y8 y9, σ = [some (.int n), some (.ref a), some (.int form), some (.ref c), some (.ref d), some (.ref x), some (.ref bn), y7, y8, y9]) ∧ MuT H H9 H' c us (hi n 1).toNat form) ⟨⟨_, _, _, rfl⟩, mu⟩ (fun i σ H' hi_ pv => ?_) (fun σ H' pv => ?_)⟩
    · obtain ⟨⟨y7, y8, y9, rfl⟩, mu⟩ := pv
      have hil : i < (hi n 1).toNat := by
        have := hR.1
        have := tf.len
        omega
      obtain ⟨b, eb, hb⟩ := mu.it i hil
      have ai : atI us (0 + (i : Int)) = some (.ref b) := by
        rw [Int.zero_add]
        exact atI_nat eb
      have qB : ∀ H', MuT H H9 H' c us (hi n 1).toNat form → SqB K H' c us := fun H' m => (hU2 H' m).b
      split at hb
      · obtain ⟨xs, e3⟩ := hb
        refine ⟨_, rfl, _, rfl, c, us, _, _, rfl, rfl, qB H' mu, ai, _, _, _, _, false, rfl, .ty "list", .base (.tup e3), kit_ty (by decide +kernel), false, rfl, ?_⟩
        exact ⟨⟨_, _, _, rfl⟩, mu⟩
      · obtain ⟨⟨k, r, e3⟩, nb⟩ := hb
        refine ⟨_, rfl, _, rfl, c, us, _, _, rfl, rfl, qB H' mu, ai, _, _, _, _, true, rfl, .ty "list", .base (.lst e3), kit_ty (by decide +kernel), true, rfl, ?_⟩
        exact ⟨_, rfl, _, rfl, c, us, _, _, rfl, rfl, qB H' mu, ai, b, _, 0, _, rfl, rfl, .inl (.inl e3), atI_nat (j := 0) rfl, _, _, rfl, rfl, _, rfl, _, rfl, c, us, _, _, rfl, rfl, qB H' mu, ai, b, _, 0, 0, rfl, rfl, e3, ixN_own (j := 0) (Nat.succ_pos _), ⟨_, _, _, rfl⟩, mu.put (k' := k + 7) sz0 e3 nb⟩
    · obtain ⟨⟨y7, y8, y9, rfl⟩, mu⟩ := pv
      have hat := mu.at_
      split at hat
      · refine ⟨_, rfl, _, _, _, _, false, rfl, .ty "list", .base (.tup hat), kit_ty (by decide +kernel), false, rfl, ?_⟩
        exact qZ c d x bn cs _ _ _ H' (L9.sameN mu.sn) (T9.sameN mu.sn) (D9.sameN mu.sn) hG hl hN mu.sm
      · refine ⟨_, rfl, _, _, _, _, true, rfl, .ty "list", .base (.lst hat), kit_ty (by decide +kernel), true, rfl, ?_⟩
        have sn := mu.sn.put (o := .lst (us ++ [.int 7])) hat
        refine ⟨_, rfl, .inl ⟨rfl, _, .inl (.inl hat)⟩, c, us, _, rfl, rfl, hat, by rw [mu.len]; exact small1000 (by omega), ?_⟩
        exact qZ c d x bn cs _ _ _ _ (L9.sameN sn) (T9.sameN sn) (D9.sameN sn) hG hl hN (same_put (H1 := H) mu.nc mu.sm)
end
end Own

namespace Own
open PySem PySem.Spec PyProof.Rows L2
section
variable {P : Program} {w : World} {K : PySem.W.Frag} {mg : Str → Option Value} {base : Heap}
def spJudged (K : PySem.W.Frag) : Sp := fun vs H Q _ => ∃ (n form : Int) (a : Addr) (m : Nat) (b : Int), vs = [.int n, .ref a, .int form] ∧ TabX K H m b a ∧ m ≤ 1000 ∧ b < 2 ^ 59 ∧ 0 ≤ n ∧ n ≤ 40 ∧ ∀ H', Same H H' → Q (.bl true) H'
set_option maxHeartbeats 0 in
theorem ok_judged {f : Addr} {fd : FuncData} (F : Fun K "_law_judged" "_law_judged" s__law_judged f fd) (T : Bi mg) 
    {f_ps : Addr} {d_ps : FuncData} (D_ps : Df K mg "_law_passed" s__law_passed ["_law_rows", "_law_form"] f_ps d_ps) (G_ps : FnOk P w K mg base CX0 1 f_ps d_ps ["_law_rows", "_law_form"] (spPasG K)) 
    {f_wr : Addr} {d_wr : FuncData} (D_wr : Df K mg "_law_wrong" s__law_wrong ["_law_size", "_law_rows"] f_wr d_wr) (G_wr : FnOk P w K mg base CX0 2 f_wr d_wr ["_law_size", "_law_rows"] (spWrong K)) 
    {f_nn : Addr} {d_nn : FuncData} (D_nn : Df K mg "_law_none" s__law_none ["_law_rim", "_law_rows"] f_nn d_nn) (G_nn : FnOk P w K mg base CX0 1 f_nn d_nn ["_law_rim", "_law_rows"] spNone) 
    {f_rf : Addr} {d_rf : FuncData} (D_rf : Df K mg "_law_refused" s__law_refused ["_law_rim", "_law_grid", "_law_kept", "_law_place"] f_rf d_rf) (G_rf : FnOk P w K mg base CX0 9 f_rf d_rf ["_law_rim", "_law_grid", "_law_kept", "_law_place"] (spRefd K)) 
    {f_nl : Addr} {d_nl : FuncData} (D_nl : Df K mg "_law_no_lot" s__law_no_lot ["_law_rim", "_law_rows", "_law_form", "_law_due"] f_nl d_nl) (G_nl : FnOk P w K mg base CX0 9 f_nl d_nl ["_law_rim", "_law_rows", "_law_form", "_law_due"] (spNoLot K)) 
    {f_fo : Addr} {d_fo : FuncData} (D_fo : Df K mg "_law_found" s__law_found ["_law_rim", "_law_rows", "_law_form"] f_fo d_fo) (G_fo : FnOk P w K mg base CX0 9 f_fo d_fo ["_law_rim", "_law_rows", "_law_form"] (spFound K)) : FnOk P w K mg base CX0 10 f fd ["_law_rim", "_law_rows", "_law_form"] (spJudged K) := by
  refine F.ok sc__law_judged (fun vs H Q E h => ?_) (fun cdv A outer s H vs Q E hr h => ?_)
  · obtain ⟨n, form, a, m, b, rfl, _⟩ := h
    rfl
  · obtain ⟨n, form, a, m, b, rfl, hX, hm, hb, n0, n1, q⟩ := h
    refine ⟨_, (pss_cons (ps_set (i := 3) sc__law_judged.nd rfl (.inl rfl) (pe_call G_wr (hr.mono (by decide)) (by rfl) D_wr.g D_wr.F.kp D_wr.b .nil pass0 (pa_cons (pe_callB (call_max2 rfl) (by rfl) T.b_max (by decide +kernel) (pa_cons (pv 0) (pa_cons pe_int pa_nil))) (pa_cons (pv 1) pa_nil))))
        (pss_cons (ps_if (pt_cmpR op_notN (pv 3) pe_non (nomark _)) (pss_one (ps_ret (pe_call G_rf (hr.mono (by decide)) (by rfl) D_rf.g D_rf.F.kp D_rf.b .nil pass0 (pa_cons (pv 0) (pa_cons (pe_call G_ps (hr.mono (by decide)) (by rfl) D_ps.g D_ps.F.kp D_ps.b .nil pass0 (pa_cons (pv 1) (pa_cons (pv 2) pa_nil))) (pa_cons (pe_call G_ps (hr.mono (by decide)) (by rfl) D_ps.g D_ps.F.kp D_ps.b .nil pass0 (pa_cons (pv 1) (pa_cons (pv 2) pa_nil))) (pa_cons (pv 3) pa_nil))))))) pss_nil)
        (pss_cons (ps_set (i := 4) sc__law_judged.nd rfl (.inl rfl) (pe_call G_nn (hr.mono (by decide)) (by rfl) D_nn.g D_nn.F.kp D_nn.b .nil pass0 (pa_cons (pv 0) (pa_cons (pv 1) pa_nil))))
        (pss_cons (ps_if (pt_cmpR op_notN (pv 4) pe_non (nomark _)) (pss_one (ps_ret (pe_call G_nl (hr.mono (by decide)) (by rfl) D_nl.g D_nl.F.kp D_nl.b .nil pass0 (pa_cons (pv 0) (pa_cons (pv 1) (pa_cons (pv 2) (pa_cons (pv 4) pa_nil))))))) pss_nil)
        (pss_one (ps_ret (pe_call G_fo (hr.mono (by decide)) (by rfl) D_fo.g D_fo.F.kp D_fo.b .nil pass0 (pa_cons (pv 0) (pa_cons (pv 1) (pa_cons (pv 2) pa_nil)))))))))), ?_⟩
    obtain ⟨ws, rs, ea, lw, hR, hB⟩ := hX.rows
    have hh := lo_hi n 1
    have hsz : ((hi n 1).toNat : Int) = hi n 1 := by omega
    have lr : rs.length ≤ 1000 := by
      have := hR.1
      omega
    refine ⟨_, rfl, n, 1, rfl, _, rfl, (hi n 1).toNat, a, ws, rs, by rw [hsz]; rfl, ea, hR, hB.ita, by omega, fun o v H1 s1 vd rv => ?_⟩
    match o, vd, rv with
    | some (r, c), vd, ⟨pl, ev, epl⟩ =>
      subst ev
      refine ⟨_, rfl, rfl, _, rfl, ?_⟩
      refine ⟨_, rfl, _, rfl, _, rfl, a, ws, rs, form, rfl, s1 _ _ ea, hR.same s1, lr, fun H2 c1 s2 pg1 => ?_⟩
      refine ⟨_, rfl, _, rfl, a, ws, rs, form, rfl, s2 _ _ (s1 _ _ ea), (hR.same s1).same s2, lr, fun H3 c2 s3 pg2 => ?_⟩
      have s13 := s2.trans s3
      have s03 := s1.trans s13
      have hB1 := hB.same s1
      obtain ⟨us, hu, lu, hP⟩ := (pg1.same s3).rows s13 hB1
      refine ⟨_, rfl, n, .ref c1, .ref c2, pl, us, r, c, rfl, n0, n1, .inl ⟨c1, rfl, hu⟩, by omega, (vd.same s03).vd hP, s13 _ _ epl, (pg1.same s3).eqv s13 hB1 hm lr pg2, fun H4 s4 => q _ (s03.trans s4)⟩
    | none, vd, ev =>
      have ev : v = .non := ev
      subst ev
      refine ⟨_, rfl, rfl, _, rfl, ?_⟩
      have tf := vd.tab
      have ea1 := s1 _ _ ea
      have hR1 := hR.same s1
      have hB1 := hB.same s1
      have vd1 := vd.same s1
      have gr : GridB H1 a n (numAt rs) := tf.grid (.inl ea1) hR1.p
      refine ⟨_, rfl, _, rfl, n, a, numAt rs, rfl, gr, n0, by omega, fun o2 v2 H2 s2 tv rv2 => ?_⟩
      have s02 := s1.trans s2
      match o2, tv, rv2 with
      | some (x, y), tv, ⟨pl, ev2, epl⟩ =>
        subst ev2
        refine ⟨_, rfl, rfl, _, rfl, ?_⟩
        exact ⟨_, rfl, _, rfl, _, rfl, _, rfl, n, form, a, pl, ws, rs, m, b, numAt rs, x, y, rfl, s2 _ _ ea1, hR1.same s2, hB1.same s2, hm, hb, n0, n1, vd1.same s2, tf, tv, epl, fun H3 s3 => q _ (s02.trans s3)⟩
      | none, tv, ev2 =>
        have ev2 : v2 = .non := ev2
        subst ev2
        refine ⟨_, rfl, rfl, _, rfl, ?_⟩
        exact ⟨_, rfl, _, rfl, _, rfl, n, form, a, ws, rs, m, b, numAt rs, rfl, s2 _ _ ea1, hR1.same s2, hB1.same s2, hm, hb, n0, n1, vd1.same s2, tf, tv, fun H3 s3 => q _ (s02.trans s3)⟩
end
end Own

namespace Own
open PySem PySem.Spec PyProof.Rows L2
theorem Digs.at_ {ds szs : List Int} (h : Digs ds szs) {k : Nat} {s : Int} (e : szs[k]? = some s) : ∃ d, atI (ds.map V.int) (k : Int) = some (.int d) ∧ 0 ≤ d ∧ d < s := by
  have hk : k < ds.length := by
    rw [h.1]
    exact (List.getElem?_eq_some_iff.mp e).1
  have ed : ds[k]? = some ds[k] := List.getElem?_eq_getElem hk
  exact ⟨ds[k], atI_nat (by rw [List.getElem?_map, ed]; rfl), h.2 k _ s ed e⟩
section
variable {P : Program} {w : World} {K : PySem.W.Frag} {mg : Str → Option Value} {base : Heap}
def spAllSp (K : PySem.W.Frag) : Sp := fun vs H Q _ => ∃ (z a e : Addr) (ns : List Int) (n form b : Int), vs = [.ref z, .int n, .ref a, .ref e, .int form] ∧ SqL K H z (ns.map V.int) ∧ ns.length ≤ 1000 ∧ TabX K H 40 b a ∧ TabX K H 40 b e ∧ 0 ≤ b ∧ b ≤ 2 ^ 58 ∧ 0 ≤ n ∧ n ≤ 40 ∧ ∀ H', Same H H' → Q (.bl true) H'
set_option maxHeartbeats 0 in
theorem ok_allsp {f : Addr} {fd : FuncData} (F : Fun K "_law_all_spoilt" "_law_all_spoilt" s__law_all_spoilt f fd) (T : Bi mg) 
    {f_d : Addr} {d_d : FuncData} (D_d : Df K mg "_law_digits" s__law_digits ["_law_cell_here", "_law_sizes"] f_d d_d) (G_d : FnOk P w K mg base CX0 1 f_d d_d ["_law_cell_here", "_law_sizes"] (spDigs K)) 
    {f_c : Addr} {d_c : FuncData} (D_c : Df K mg "_law_cell" s__law_cell ["_law_script", "_law_k"] f_c d_c) (G_c : FnOk P w K mg base CX0 1 f_c d_c ["_law_script", "_law_k"] (spCell K)) 
    {f_sp : Addr} {d_sp : FuncData} (D_sp : Df K mg "_law_spoilt" s__law_spoilt ["_law_rows", "_law_kind", "_law_i", "_law_j", "_law_by"] f_sp d_sp) (G_sp : FnOk P w K mg base CX0 2 f_sp d_sp ["_law_rows", "_law_kind", "_law_i", "_law_j", "_law_by"] (spSpoilt K)) 
    {f_ju : Addr} {d_ju : FuncData} (D_ju : Df K mg "_law_judged" s__law_judged ["_law_rim", "_law_rows", "_law_form"] f_ju d_ju) (G_ju : FnOk P w K mg base CX0 10 f_ju d_ju ["_law_rim", "_law_rows", "_law_form"] (spJudged K)) : FnOk P w K mg base CX0 11 f fd ["_law_script", "_law_rim", "_law_rows", "_law_other", "_law_form"] (spAllSp K) := by
  refine F.ok sc__law_all_spoilt (fun vs H Q E h => ?_) (fun cdv A outer s H vs Q E hr h => ?_)
  · obtain ⟨z, a, e, ns, n, form, b, rfl, _⟩ := h
    rfl
  · obtain ⟨z, a, e, ns, n, form, b, rfl, hs, hn, ha, he, b0, b1, n0, n1, q⟩ := h
    refine ⟨_, (pss_cons (ps_set (i := 5) sc__law_all_spoilt.nd rfl (.inl rfl) (pe_callB (call_max2 rfl) (by rfl) T.b_max (by decide +kernel) (pa_cons (pv 1) (pa_cons pe_int pa_nil))))
        (pss_cons (ps_for PassesOwn.never rfl (pi_range1 (by rfl) T.b_range (pa_cons pe_int pa_nil)) (pg_name (i := 6) sc__law_all_spoilt.nd rfl (.inl rfl))
        (pss_cons (ps_set (i := 7) sc__law_all_spoilt.nd rfl (.inl rfl) (pe_call G_d (hr.mono (by decide)) (by rfl) D_d.g D_d.F.kp D_d.b .nil pass0 (pa_cons (pe_call G_c (hr.mono (by decide)) (by rfl) D_c.g D_c.F.kp D_c.b .nil pass0 (pa_cons (pv 0) (pa_cons (pe_op op_add pe_int (pv 6)) pa_nil))) (pa_cons (pe_lst (pa_cons pe_int (pa_cons (pv 5) (pa_cons (pv 5) (pa_cons pe_int (pa_cons (pv 5) (pa_cons (pv 5) (pa_cons pe_int (pa_cons (pv 5) (pa_cons (pv 5) (pa_cons pe_int (pa_cons pe_int (pa_cons pe_int pa_nil))))))))))))) pa_nil))))
        (pss_cons (ps_set (i := 8) sc__law_all_spoilt.nd rfl (.inl rfl) (pe_ix (r := rIxL K) ix_list (pe_lst (pa_cons (pv 2) (pa_cons (pv 3) pa_nil))) (pe_op op_mod (pe_callTy call_int1 (by rfl) T.b_int (by decide +kernel) (pa_cons (pv 6) pa_nil)) pe_int) (fun _ _ => rfl)))
        (pss_cons (ps_set (i := 9) sc__law_all_spoilt.nd rfl (.inl rfl) (pe_op op_modN (pe_callTy call_int1 (by rfl) T.b_int (by decide +kernel) (pa_cons (pe_ix (r := rIxL K) ix_list (pv 7) pe_int (fun _ _ => rfl)) pa_nil)) (pe_ix (r := rIxL K) ix_list (pe_lst (pa_cons pe_int (pa_cons pe_int (pa_cons pe_int (pa_cons pe_int pa_nil))))) (pe_ix (r := rIxL K) ix_list (pv 7) pe_int (fun _ _ => rfl)) (fun _ _ => rfl))))
        (pss_cons (ps_for PassesOwn.never rfl (pi_range1 (by rfl) T.b_range (pa_cons (pe_ix (r := rIxL K) ix_list (pe_lst (pa_cons pe_int (pa_cons pe_int (pa_cons pe_int (pa_cons pe_int (pa_cons pe_int (pa_cons pe_int pa_nil))))))) (pv 6) (fun _ _ => rfl)) pa_nil)) (pg_name (i := 10) sc__law_all_spoilt.nd rfl (.inl rfl))
        (pss_cons (ps_set (i := 11) sc__law_all_spoilt.nd rfl (.inl rfl) (pe_ix (r := rIxL K) ix_list (pv 7) (pe_op op_add (pe_op op_mul pe_int (pv 10)) pe_int) (fun _ _ => rfl)))
        (pss_cons (ps_if (PW.pt (pw_and (pt_cmpR op_eq (pv 10) pe_int (nomark _)) (pw_and1 (pt_cmpR op_ne (pv 6) pe_int (nomark _))))) (pss_one (ps_set (i := 11) sc__law_all_spoilt.nd rfl (.inl rfl) (pe_ix (r := rIxL K) ix_list (pv 7) pe_int (fun _ _ => rfl)))) pss_nil)
        (pss_one (ps_set (i := 8) sc__law_all_spoilt.nd rfl (.inl rfl) (pe_call G_sp (hr.mono (by decide)) (by rfl) D_sp.g D_sp.F.kp D_sp.b .nil pass0 (pa_cons (pv 8) (pa_cons (pe_ix (r := rIxL K) ix_list (pv 7) (pe_op op_mul pe_int (pv 10)) (fun _ _ => rfl)) (pa_cons (pv 11) (pa_cons (pe_ix (r := rIxL K) ix_list (pv 7) (pe_op op_add (pe_op op_mul pe_int (pv 10)) pe_int) (fun _ _ => rfl)) (pa_cons (pe_op op_fdivN (pv 9) (pe_op op_add pe_int (pv 10))) pa_nil)))))))))))
        (pss_one (ps_if (pt_not (pt_val (pe_call G_ju (hr.mono (by decide)) (by rfl) D_ju.g D_ju.F.kp D_ju.b .nil pass0 (pa_cons (pv 1) (pa_cons (pv 8) (pa_cons (pe_op op_mod (pe_callTy call_int1 (by rfl) T.b_int (by decide +kernel) (pa_cons (pe_op op_add (pv 4) (pe_ix (r := rIxL K) ix_list (pv 7) pe_int (fun _ _ => rfl))) pa_nil)) pe_int) pa_nil)))))) (pss_one (ps_ret pe_bl)) pss_nil)))))))
        (pss_one (ps_ret pe_bl)))), ?_⟩
    have hh := lo_hi n 1
    refine ⟨_, rfl, n, 1, rfl, ?_⟩
    refine ⟨6, rfl, by decide, by decide, for_range (lo := 0) (n := (6 : Int).toNat) (fun i σ H' => (∃ y6 y7 y8 y9 y10 y11, σ = [some (.ref z), some (.int n), some (.ref a), some (.ref e), some (.int form), some (.int (hi n 1)), y6, y7, y8, y9, y10, y11]) ∧ Same H H') ⟨⟨none, none, none, none, none, none, rfl⟩, Same.refl H⟩ (fun k σ H' hk pv => ?_) (fun σ H' pv => ?_)⟩
    · obtain ⟨⟨y6, y7, y8, y9, y10, y11, rfl⟩, sm⟩ := pv
      have k6 : k < 6 := hk
      refine ⟨_, rfl, _, rfl, _, _, rfl, rfl, z, ns, 5 + k, ?_, sm.seq hs, by omega, hn, fun c => ?_⟩
      · show [V.ref z, V.int (5 + (0 + (k : Int)))] = _
        rw [show (5 : Int) + (0 + (k : Int)) = ((5 + k : Nat) : Int) by omega]
      rw [Int.zero_add]
      generalize hsz : hi n 1 = sz at hh ⊢
      refine ⟨_, rfl, _, rfl, _, rfl, _, rfl, _, rfl, _, rfl, by show 12 ≤ sizeLine; decide, fun g ng => ⟨c, g, [15, sz, sz, 15, sz, sz, 15, sz, sz, 4, 40000000, 60], rfl, .inl (.inl upd_same), by show 12 ≤ 1000; decide, fun x hx => ?_, fun H1 p ds s1 np ep dg => ?_⟩⟩
      · simp only [List.mem_cons, List.not_mem_nil, or_false] at hx
        omega
      have s01 := sm.trans ((same_upd (o := .lst [.int 15, .int sz, .int sz, .int 15, .int sz, .int sz, .int 15, .int sz, .int sz, .int 4, .int 40000000, .int 60]) ng).trans s1)
      clear ng np s1
      have any : ∀ j : Nat, j < 9 → ∃ d : Nat, atI (ds.map V.int) (j : Int) = some (.int (d : Int)) := fun j hj => by
        have : ∃ s : Int, [15, sz, sz, 15, sz, sz, 15, sz, sz, 4, 40000000, 60][j]? = some s := by
          have lj : j < ([15, sz, sz, 15, sz, sz, 15, sz, sz, 4, 40000000, 60] : List Int).length := by show j < 12; omega
          exact ⟨_, List.getElem?_eq_getElem lj⟩
        obtain ⟨s, es⟩ := this
        obtain ⟨d, h1, h2, _⟩ := dg.at_ es
        exact ⟨d.toNat, by rw [h1, show ((d.toNat : Nat) : Int) = d by omega]⟩
      obtain ⟨d9, a9, d90, d91⟩ := dg.at_ (k := 9) (s := 4) rfl
      obtain ⟨d10, a10, d100, d101⟩ := dg.at_ (k := 10) (s := 40000000) rfl
      obtain ⟨d11, a11, d110, d111⟩ := dg.at_ (k := 11) (s := 60) rfl
      -- the table that is spoilt
      refine ⟨_, rfl, _, rfl, by show 2 ≤ sizeLine; decide, fun l2 nl2 => ?_⟩
      have sA := s01.trans (same_upd (o := .lst [.ref a, .ref e]) nl2)
      have qp1 : SqL K (upd H1 l2 (.lst [.ref a, .ref e])) p (ds.map V.int) := .inl (.inl (same_upd nl2 _ _ ep))
      obtain ⟨t0, et0, ht0⟩ : ∃ t0, atI [V.ref a, .ref e] ((k : Int) % 2) = some (.ref t0) ∧ TabX K H 40 b t0 := by
        have hd : (k : Int) % 2 = ((0 : Nat) : Int) ∨ (k : Int) % 2 = ((1 : Nat) : Int) := by omega
        rcases hd with e1 | e1 <;> rw [e1]
        · exact ⟨a, atI_nat rfl, ha⟩
        · exact ⟨e, atI_nat rfl, he⟩
      refine ⟨_, rfl, .inl ⟨_, rfl, _, _, rfl, rfl, by show (0 : Int) < 2; decide, l2, _, _, _, rfl, rfl, .inl (.inl upd_same), et0, ?_⟩⟩
      -- by
      refine ⟨_, rfl, p, _, 10, _, rfl, rfl, qp1, a10, .inl ⟨_, rfl, by show 4 ≤ sizeLine; decide, fun l4 nl4 => ?_⟩⟩
      have sB := sA.trans (same_upd (o := .lst [.int 7, .int 13, .int 60, .int 40000000]) nl4)
      have sp := (same_upd (o := .lst [.ref a, .ref e]) nl2).trans (same_upd (o := .lst [.int 7, .int 13, .int 60, .int 40000000]) nl4)
      obtain ⟨mz, emz, mz0, mz1⟩ : ∃ mz : Int, atI [V.int 7, .int 13, .int 60, .int 40000000] d9 = some (.int mz) ∧ 0 < mz ∧ mz ≤ 40000000 := by
        have hd : d9 = ((0 : Nat) : Int) ∨ d9 = ((1 : Nat) : Int) ∨ d9 = ((2 : Nat) : Int) ∨ d9 = ((3 : Nat) : Int) := by omega
        rcases hd with e1 | e1 | e1 | e1 <;> rw [e1] <;> exact ⟨_, atI_nat rfl, by decide, by decide⟩
      refine ⟨_, rfl, p, _, 9, _, rfl, rfl, .inl (.inl (sp _ _ ep)), a9, l4, _, _, _, rfl, rfl, .inl (.inl upd_same), emz, _, _, rfl, rfl, by omega, ?_⟩
      have hby := fmod_in d10 mz0
      dsimp only [tSeq, tAsg, gName]
      generalize d10.fmod mz = bY at hby ⊢
      have epB := sp _ _ ep
      generalize upd (upd H1 l2 (.lst [.ref a, .ref e])) l4 (.lst [.int 7, .int 13, .int 60, .int 40000000]) = H2 at sB epB ⊢
      clear sp sA qp1 s01
      -- the turns
      refine ⟨by show 6 ≤ sizeLine; decide, fun l6 nl6 => ?_⟩
      have sC := sB.trans (same_upd (o := .lst [.int 1, .int 1, .int 2, .int 1, .int 2, .int 3]) nl6)
      have epC := same_upd (o := .lst [.int 1, .int 1, .int 2, .int 1, .int 2, .int 3]) nl6 _ _ epB
      obtain ⟨tn, etn, tn0⟩ : ∃ tn : Nat, atI [V.int 1, .int 1, .int 2, .int 1, .int 2, .int 3] (k : Int) = some (.int (tn : Int)) ∧ tn ≤ 3 := by
        have hd : k = 0 ∨ k = 1 ∨ k = 2 ∨ k = 3 ∨ k = 4 ∨ k = 5 := by omega
        rcases hd with e1 | e1 | e1 | e1 | e1 | e1 <;> subst e1
        · exact ⟨1, atI_nat rfl, by decide⟩
        · exact ⟨1, atI_nat rfl, by decide⟩
        · exact ⟨2, atI_nat rfl, by decide⟩
        · exact ⟨1, atI_nat rfl, by decide⟩
        · exact ⟨2, atI_nat rfl, by decide⟩
        · exact ⟨3, atI_nat rfl, by decide⟩
      refine ⟨_, rfl, l6, _, _, _, rfl, rfl, .inl (.inl upd_same), etn, ?_⟩
      generalize upd H2 l6 (.lst [.int 1, .int 1, .int 2, .int 1, .int 2, .int 3]) = H3 at sC epC ⊢
      refine ⟨(tn : Int), rfl, by omega, by omega, for_range (lo := 0) (n := ((tn : Nat) : Int).toNat) (fun t σ H' => ∃ (u : Addr) (y10 y11 : Option V), σ = [some (.ref z), some (.int n), some (.ref a), some (.ref e), some (.int form), some (.int sz), some (.int (k : Int)), some (.ref p), some (.ref u), some (.int bY), y10, y11] ∧ Same H3 H' ∧ TabX K H' (40 + 2 * t) (b + 80000010 * (t : Int)) u) ⟨t0, y10, y11, rfl, Same.refl _, (ht0.same sC).le (by omega) (by omega)⟩ (fun t σ H' ht pv => ?_) (fun σ H' pv => ?_)⟩
      · obtain ⟨u, y10, y11, rfl, s3, hu⟩ := pv
        have t3 : t < 3 := by omega
        have qp : ∀ H9, Same H' H9 → SqL K H9 p (ds.map V.int) := fun H9 s9 => .inl (.inl (s9 _ _ (s3 _ _ epC)))
        rw [Int.zero_add]
        obtain ⟨i1, e1⟩ := any (3 * t + 1) (by omega)
        obtain ⟨i0, e0⟩ := any (3 * t) (by omega)
        obtain ⟨i2, e2⟩ := any (3 * t + 2) (by omega)
        obtain ⟨i11, e11⟩ := any 1 (by omega)
        have c1 : (3 : Int) * (t : Int) + 1 = ((3 * t + 1 : Nat) : Int) := by omega
        have c0 : (3 : Int) * (t : Int) = ((3 * t : Nat) : Int) := by omega
        have c2 : (3 : Int) * (t : Int) + 2 = ((3 * t + 2 : Nat) : Int) := by omega
        rw [← c1] at e1
        rw [← c0] at e0
        rw [← c2] at e2
        refine ⟨_, rfl, _, rfl, _, _, rfl, rfl, .inl ⟨by decide, by decide⟩, _, _, rfl, rfl, p, _, _, _, rfl, rfl, qp _ (Same.refl _), e1, ?_⟩
        have fd : 0 ≤ bY.fdiv (1 + (t : Int)) ∧ bY.fdiv (1 + (t : Int)) ≤ 40000000 := by
          rw [Int.fdiv_eq_ediv_of_nonneg _ (by omega)]
          exact ⟨Int.ediv_nonneg (by omega) (by omega), Int.le_trans (Int.ediv_le_self _ (by omega)) (by omega)⟩
        refine ⟨_, rfl, rfl, _, rfl, ite2 (fun q1 => ?_) (fun q1 => ⟨_, rfl, _, rfl, _, rfl, _, _, rfl, rfl, .inl ⟨by decide, by decide⟩, p, _, _, _, rfl, rfl, qp _ (Same.refl _), e0, _, rfl, _, rfl, _, rfl, _, _, rfl, rfl, .inl ⟨by decide, by decide⟩, _, _, rfl, rfl, p, _, _, _, rfl, rfl, qp _ (Same.refl _), e2, _, rfl, _, rfl, _, _, rfl, rfl, _, _, rfl, rfl, ⟨by omega, by omega⟩, u, _, i1, i2, _, 40 + 2 * t, b + 80000010 * (t : Int), rfl, hu, by omega, by omega, by omega, fd.1, fd.2, fun H9 v9 s9 h9 => ⟨v9, _, _, rfl, s3.trans s9, h9.le (by omega) (by omega)⟩⟩)⟩
        refine ⟨_, rfl, rfl, _, rfl, ite2 (fun q2 => ?_) (fun q2 => ⟨_, rfl, _, rfl, _, rfl, _, _, rfl, rfl, .inl ⟨by decide, by decide⟩, p, _, _, _, rfl, rfl, qp _ (Same.refl _), e0, _, rfl, _, rfl, _, rfl, _, _, rfl, rfl, .inl ⟨by decide, by decide⟩, _, _, rfl, rfl, p, _, _, _, rfl, rfl, qp _ (Same.refl _), e2, _, rfl, _, rfl, _, _, rfl, rfl, _, _, rfl, rfl, ⟨by omega, by omega⟩, u, _, i1, i2, _, 40 + 2 * t, b + 80000010 * (t : Int), rfl, hu, by omega, by omega, by omega, fd.1, fd.2, fun H9 v9 s9 h9 => ⟨v9, _, _, rfl, s3.trans s9, h9.le (by omega) (by omega)⟩⟩)⟩
        refine ⟨_, rfl, p, _, 1, _, rfl, rfl, qp _ (Same.refl _), e11, ?_⟩
        exact ⟨_, rfl, _, rfl, _, rfl, _, _, rfl, rfl, .inl ⟨by decide, by decide⟩, p, _, _, _, rfl, rfl, qp _ (Same.refl _), e0, _, rfl, _, rfl, _, rfl, _, _, rfl, rfl, .inl ⟨by decide, by decide⟩, _, _, rfl, rfl, p, _, _, _, rfl, rfl, qp _ (Same.refl _), e2, _, rfl, _, rfl, _, _, rfl, rfl, _, _, rfl, rfl, ⟨by omega, by omega⟩, u, _, i11, i2, _, 40 + 2 * t, b + 80000010 * (t : Int), rfl, hu, by omega, by omega, by omega, fd.1, fd.2, fun H9 v9 s9 h9 => ⟨v9, _, _, rfl, s3.trans s9, h9.le (by omega) (by omega)⟩⟩
      · obtain ⟨u, y10, y11, rfl, s3, hu⟩ := pv
        have hu2 : TabX K H' 1000 (2 ^ 58 + 300000000) u := hu.le (by omega) (by omega)
        refine ⟨_, rfl, _, rfl, _, rfl, _, rfl, p, _, 11, _, rfl, rfl, .inl (.inl (s3 _ _ epC)), a11, _, _, rfl, rfl, .inl ⟨_, rfl, _, _, rfl, rfl, by show (0 : Int) < 8; decide, n, _, u, 1000, 2 ^ 58 + 300000000, rfl, hu2, by decide, by decide, n0, n1, fun H9 s9 => ⟨true, rfl, ?_⟩⟩⟩
        exact ⟨⟨_, _, _, _, _, _, by rw [← hsz]⟩, (sC.trans s3).trans s9⟩
    · obtain ⟨_, sm⟩ := pv
      exact q _ sm
end
end Own

/-! max of a tuple of whole numbers. -/
namespace Own
open PySem PySem.Spec PyProof.Rows L2
def rMaxT (K : PySem.W.Frag) : List V → Hp → VK → Prop := fun vs H Q => ∃ (a : Addr) (ns : List Int), vs = [V.ref a] ∧ SqT K H a (ns.map V.int) ∧ 0 < ns.length ∧ ∀ m, m ∈ ns → (∀ y, y ∈ ns → y ≤ m) → Q (.int m) H
theorem cr_maxT {X : Cx} (hc : X.calm = true) : CallR X (.builtin "max") (rMaxT X.K) := by
  intro pins s σ H vs us Q I r h
  obtain ⟨a, ns, rfl, hs, hne, q⟩ := h
  obtain ⟨its, rv, tt, _⟩ := I.tuple hs
  rw [Vals.ref1 r]
  have ia := rv.ints
  obtain ⟨ps, e⟩ := ia.allInts.items
  have en : numsOf (intItems ps).toList = ns := by
    rw [← e]
    exact ia.numsOf
  rw [nums_intItems] at en
  subst en
  rw [e] at tt
  have ttl : s.heap.IsTuple a (intItems ps) := tt
  have p0 : 0 < ps.size := by simpa using hne
  have la : a < s.heap.objs.size := by
    obtain ⟨_, g, _⟩ := tt
    exact Heap.lt_size g
  refine call_max_walk (wpAny_pyIter_tuple ttl ?_)
  refine ⟨_, [_, a], [_], _, _, _, _, rfl, Walks.tuple (A := X.A.in1) (I.ok.hd hc) _ a (Nat.ne_of_lt la) (intItems ps), ⟨⟨_, Heap.get?_push_size _ rfl, rfl, rfl⟩, ttl.push _⟩, fun b hb => ?_, by simpa [intItems] using p0, CmpOf.ints_gt (PySem.numAt ps) (fun _ _ => intItems_at), fun v h' tk hP hk => ?_⟩
  · show b < (s.heap.push _).objs.size
    rw [Heap.size_push]
    simp only [List.mem_cons, List.not_mem_nil, or_false] at hb
    rcases hb with hb | hb
    · rw [hb]
      exact Nat.lt_succ_self _
    · rw [hb]
      exact Nat.lt_succ_of_lt la
  · obtain ⟨t, ev⟩ := intItems_at (by simpa [intItems] using hP)
    subst ev
    obtain ⟨g1, g2⟩ := argBest_gt (PySem.numAt ps) (ps.size - 1)
    have kept : ∀ b o, s.heap.get? b = some o → h'.get? b = some o := fun b o g => by
      refine hk b o (fun hm => ?_) (Heap.get?_push_of_some _ g)
      rw [List.mem_singleton.mp hm] at g
      exact absurd (Heap.lt_size g) (Nat.lt_irrefl _)
    refine ⟨.int _, H, I.kept kept, ⟨t, rfl⟩, q _ ?_ fun y hy => ?_⟩
    · rw [numAt_eq]
      exact PySem.getD_mem (by rw [List.length_map, Array.length_toList]; exact Nat.lt_of_le_of_lt g1 (by omega))
    · obtain ⟨j, hj, rfl⟩ := mem_getD hy
      rw [List.length_map, Array.length_toList] at hj
      rw [← numAt_eq]
      exact g2 j (by omega)
theorem cr_maxTK {X : Cx} {K : PySem.W.Frag} (hK : X.K = K) (hc : X.calm = true) : CallR X (.builtin "max") (rMaxT K) := by
  subst hK
  exact cr_maxT hc
end Own

namespace Own
open PySem PySem.Spec PyProof.Rows L2
section
variable {K : PySem.W.Frag} {H : Hp} {n : Int}
theorem nw_bl (b : Bool) : NotWh K H (.bl b) := ⟨"bool", .base (.bl b), by decide⟩
theorem nw_non : NotWh K H .non := ⟨"NoneType", .base .non, by decide⟩
theorem nw_str (z : Str) : NotWh K H (.str z) := ⟨"str", .base (.str z), by decide⟩
theorem nw_lst {p : Addr} {xs : List V} (h : H p = some (.lst xs)) : NotWh K H (.ref p) := ⟨"list", .base (.lst h), by decide⟩
theorem nw_tup {p : Addr} {xs : List V} (h : H p = some (.tup xs)) : NotWh K H (.ref p) := ⟨"tuple", .base (.tup h), by decide⟩
/-- an item that can be shown and is the same as itself -/
def Kp (K : PySem.W.Frag) (H : Hp) (x : V) : Prop := ShoD K H 2 x ∧ EqV 1 H x x
theorem Kp.same {H' : Hp} {x : V} (s : Same H H') (h : Kp K H x) : Kp K H' x := ⟨h.1.keep s, h.2.same s⟩
theorem kp_int {i : Int} (h0 : -(2 ^ 64) < i) (h1 : i < 2 ^ 64) : Kp K H (.int i) := ⟨ShoD.leaf (.inl ⟨i, rfl, Nat.lt_of_lt_of_le (log_lt (k := 64) (by decide) (by omega)) (by decide)⟩) 2, EqV.int i⟩
theorem kp_bl (b : Bool) : Kp K H (.bl b) := ⟨ShoD.leaf (.inr (.inl ⟨b, rfl⟩)) 2, EqV.bl b⟩
theorem kp_non : Kp K H .non := ⟨ShoD.leaf (.inr (.inr (.inl rfl))) 2, EqV.non⟩
theorem kp_str {z : Str} (h : (reprText z).length ≤ 1000) : Kp K H (.str z) := ⟨ShoD.leaf (.inr (.inr (.inr ⟨z, rfl, h⟩))) 2, EqV.str z⟩
theorem kp_seq {p : Addr} {i : Int} (h : SqH H p [.int i]) (h0 : -(2 ^ 64) < i) (h1 : i < 2 ^ 64) : Kp K H (.ref p) := by
  have l : ∀ x ∈ [V.int i], ShoD K H 1 x := fun x hx => by
    rw [List.mem_singleton.mp hx]
    exact ShoD.leaf (.inl ⟨i, rfl, Nat.lt_of_lt_of_le (log_lt (k := 64) (by decide) (by omega)) (by decide)⟩) 1
  refine ⟨.inr (.inl ⟨p, [.int i], rfl, ?_, by show 1 ≤ 8; decide, l⟩), .inr ⟨p, p, [.int i], [.int i], rfl, rfl, ?_, rfl, by show 1 ≤ 1000; decide, fun k x y hx hy => ?_⟩⟩
  · exact h.elim (fun e => .inl (.inl (.inl e))) fun e => .inr (.inl (.inl e))
  · exact h.elim (fun e => .inr ⟨e, e⟩) fun e => .inl ⟨e, e⟩
  · rw [hx] at hy
    cases hy
    rw [List.mem_singleton.mp (List.mem_of_getElem? hx)]
    exact EqV.int i
end
theorem rep_all : (List.range 1100).all (fun k => decide ((reprText (Str.ofString (toString (Int.ofNat k)))).length ≤ 1000)) = true := by decide +kernel
theorem rep_small {i : Int} (h0 : 0 ≤ i) (h1 : i < 1100) : (reprText (Str.ofString (toString i))).length ≤ 1000 := by
  obtain ⟨k, rfl⟩ : ∃ k : Nat, i = (k : Int) := ⟨i.toNat, by omega⟩
  exact of_decide_eq_true (List.all_eq_true.mp rep_all k (List.mem_range.mpr (by omega)))
def Wr (K : PySem.W.Frag) (H : Hp) (v : V) : Prop := ((∃ i : Int, v = .int i ∧ i < 0) ∨ NotWh K H v) ∧ ShoD K H 3 v ∧ EqV 3 H v v
theorem wr_kp {K : PySem.W.Frag} {H : Hp} {v : V} (h : (∃ i : Int, v = .int i ∧ i < 0) ∨ NotWh K H v) (k : Kp K H v) : Wr K H v := ⟨h, k.1.up, k.2.le (by decide)⟩
theorem Wr.same {K : PySem.W.Frag} {H H' : Hp} {v : V} (s : Same H H') (h : Wr K H v) : Wr K H' v := ⟨h.1.elim .inl fun x => .inr (x.same s), h.2.1.keep s, h.2.2.same s⟩
section
variable {X : Cx} {CX : CXT} {k : Nat} {f : Addr} {fd : FuncData} {ps ks : List Str} {sp : Sp} {E : XK} {x : Str} {p pos : Pos} {kws : List Keyword} {tk : TA} {g : List Value → List Value → List Value} {gV : List V → List V → List V}
theorem pe_callK0 (F : FnOk X.prog X.w X.K X.mg X.base CX k f fd ps sp) (hr : Room k X.A) (hg : Gl X x) (hm : X.mg x = some (.ref f)) (hk : PySem.W.keepIn X.K (.ref f) = true) (hb : KBn X.K fd ps 0 ks g gV) (hx : Passes CX X E)
    (hkw : PK X kws tk) (hall : (backToKw pos (keywordEach kws X.env)).all (·.1.isSome) = true := by rfl) (hks : (backToKw pos (keywordEach kws X.env)).filterMap (·.1) = ks := by rfl)
    (hdb : (x == ("__debug__" : Str)) = false := by decide)
    (hpl : ((backTo pos (starEach [] X.env)).any (·.1) || (backToKw pos (keywordEach kws X.env)).any (·.1.isNone)) = false := by rfl) :
    PE X (.Call (.Name x p) [] kws pos) (tCallN 0 ks.length sp gV E tNil tk) := by
  refine ⟨fun pins s σ H Q I h => ?_⟩
  refine wpAny_Call_Name_kw (ld_glob I hg hm ?_ hdb)
  refine PySem.W.callWith_KW0 (h₀ := X.base) I.ok.mod.kin hk hall ?_ hpl
  refine thn (hkw.run pos pins s σ H _ I h) fun ws s2 ⟨zs, H2, I2, rz, l1, l2, q2⟩ => ⟨I2.kIn, ?_⟩
  rw [hks]
  exact run_fnN (us := []) (vs := []) F hr hb hx I2 .nil rz rfl l2 q2
end
end Own

namespace Own
open PySem PySem.Spec PyProof.Rows L2
/-! ### a lot with its cords multiplied -/
def sc (k : Int) (cs : List Tr) : List Tr := cs.map fun t => (t.1, t.2.1, t.2.2 * k)
theorem sc_bs (f : Int × Int → Bool) (k : Int) : ∀ cs : List Tr, bs f (sc k cs) = bs f cs * k
  | [] => by
    show (0 : Int) = 0 * k
    rw [Int.zero_mul]
  | t :: r => by
    have ih := sc_bs f k r
    show (if f (pr t) = true then t.2.2 * k else 0) + bs f (sc k r) = ((if f (pr t) = true then t.2.2 else 0) + bs f r) * k
    rw [ih, Int.add_mul]
    split
    · rfl
    · rw [Int.zero_mul]
theorem sc_tab (k : Int) (cs : List Tr) (i j : Int) : tabE (sc k cs) i j = tabE cs i j * k := sc_bs _ k cs
theorem sc_good {n k : Int} {cs : List Tr} (g : Good n cs) (h : 1 ≤ k) : Good n (sc k cs) := by
  refine ⟨?_, fun e he => ?_⟩
  · have : (sc k cs).map pr = cs.map pr := by
      unfold sc
      rw [List.map_map]
      rfl
    rw [this]
    exact g.srt
  · obtain ⟨t, ht, rfl⟩ := List.mem_map.mp he
    have := g.ord t ht
    refine ⟨this.1, this.2.1, this.2.2.1, ?_⟩
    show 1 ≤ t.2.2 * k
    have h1 : 1 * 1 ≤ t.2.2 * k := Int.mul_le_mul this.2.2.2 h (by decide) (by omega)
    omega
/-! ### a table given as a function -/
def rowsOf (sz : Nat) (f : Int → Int → Int) : List RwA := (List.range sz).map fun i : Nat => .inl (gl (sz : Int) (f (i : Int)))
theorem rowsOf_at {sz i : Nat} (f : Int → Int → Int) (h : i < sz) : (rowsOf sz f)[i]? = some (.inl (gl (sz : Int) (f (i : Int)))) := by
  unfold rowsOf
  rw [List.getElem?_map, List.getElem?_range h]
  rfl
theorem gl_at0 {sz c : Nat} (g : Int → Int) (h : c < sz) : (gl (sz : Int) g)[c]? = some (.int (g (c : Int))) := by
  unfold gl
  rw [List.getElem?_map, List.getElem?_range (by omega)]
  rfl
section
variable {K : PySem.W.Frag} {H : Hp} {sz : Nat} {f : Int → Int → Int} {b : Int}
theorem rowsOf_tab (nn : ∀ x y : Int, 0 ≤ x → x < sz → 0 ≤ y → y < sz → 0 ≤ f x y) (sy : ∀ x y : Int, 0 ≤ x → x < sz → 0 ≤ y → y < sz → f x y = f y x) (dg : ∀ x : Int, 0 ≤ x → x < sz → f x x = 0) : TabF (rowsOf sz f) sz f :=
  ⟨by unfold rowsOf; rw [List.length_map, List.length_range], fun i hi => rowsOf_at f hi, nn, sy, dg⟩
theorem TabF.vd {rs : List RwA} (T : TabF rs sz f) : VdA K H rs sz none := by
  refine ⟨T.len, fun r hr => ⟨_, T.row r hr, by rw [gl_len]; omega, fun c hc => ?_⟩⟩
  have e := gl_at0 (f (r : Int)) hc
  have n0 := T.nn r c (by omega) (by omega) (by omega) (by omega)
  by_cases h1 : c < r
  · have h2 := PlA.low (K := K) (H := H) e n0 h1 (T.row c hc) (gl_at0 (f (c : Int)) hr)
    rw [decide_eq_true (T.sy r c (by omega) (by omega) (by omega) (by omega))] at h2
    exact h2
  · by_cases h2 : r < c
    · exact .up e n0 h2
    · have ec : r = c := by omega
      have h3 := PlA.diag (K := K) (H := H) (rs := rs) e n0 ec
      rw [decide_eq_true (by rw [ec]; exact T.dg c (by omega) (by omega))] at h3
      exact h3
theorem rowsOf_rsb {m : Nat} (hm : sz ≤ m) (hb : ∀ x y : Int, 0 ≤ x → x < sz → 0 ≤ y → y < sz → -b ≤ f x y ∧ f x y ≤ b) : RsB K H m b (rowsOf sz f) := fun r hr => by
  obtain ⟨i, hi, rfl⟩ := List.mem_map.mp hr
  have hi := List.mem_range.mp hi
  refine ⟨by rw [gl_len]; omega, fun x hx => ?_⟩
  obtain ⟨j, hj, rfl⟩ := List.mem_map.mp hx
  have hj := List.mem_range.mp hj
  have := hb i j (by omega) (by omega) (by omega) (by omega)
  exact .inl ⟨_, rfl, this.1, this.2⟩
/-- the rows as lists of a list -/
structure GrW (H : Hp) (R : Addr) (rr : List Addr) (sz : Nat) (f : Int → Int → Int) : Prop where
  at_ : H R = some (.lst (rr.map V.ref))
  len : rr.length = sz
  row : ∀ (j : Nat) (r : Addr), rr[j]? = some r → H r = some (.lst (gl (sz : Int) (f (j : Int))))
theorem GrW.same {H' : Hp} {R : Addr} {rr : List Addr} (s : Same H H') (g : GrW H R rr sz f) : GrW H' R rr sz f := ⟨s _ _ g.at_, g.len, fun j r e => s _ _ (g.row j r e)⟩
theorem GrW.rowsL {R : Addr} {rr : List Addr} (g : GrW H R rr sz f) : RowsL K H (rr.map V.ref) (rowsOf sz f) := by
  refine ⟨by unfold rowsOf; rw [List.length_map, List.length_map, List.length_range, g.len], fun i r e => ?_⟩
  have hi : i < sz := by
    have := (List.getElem?_eq_some_iff.mp e).1
    unfold rowsOf at this
    rw [List.length_map, List.length_range] at this
    exact this
  rw [rowsOf_at f hi] at e
  cases e
  have hl : i < rr.length := by rw [g.len]; exact hi
  exact ⟨rr[i], by rw [List.getElem?_map, List.getElem?_eq_getElem hl]; rfl, g.row i _ (List.getElem?_eq_getElem hl)⟩
theorem GrW.tabX {R : Addr} {rr : List Addr} {m : Nat} (g : GrW H R rr sz f) (hm : sz ≤ m) (hb : ∀ x y : Int, 0 ≤ x → x < sz → 0 ≤ y → y < sz → -b ≤ f x y ∧ f x y ≤ b) : TabX K H m b R := by
  refine ⟨_, g.at_, by rw [List.length_map, g.len]; exact hm, fun v hv => ?_⟩
  obtain ⟨r, hr, rfl⟩ := List.mem_map.mp hv
  obtain ⟨j, hj, e⟩ := List.mem_iff_getElem.mp hr
  have e2 : rr[j]? = some r := by rw [List.getElem?_eq_getElem hj, e]
  have hj2 : j < sz := by rw [← g.len]; exact hj
  refine .inl ⟨r, _, rfl, g.row j r e2, by rw [gl_len]; omega, fun x hx => ?_⟩
  obtain ⟨i, hi, rfl⟩ := List.mem_map.mp hx
  have hi := List.mem_range.mp hi
  have := hb j i (by omega) (by omega) (by omega) (by omega)
  exact .inl ⟨_, rfl, this.1, this.2⟩
theorem Grid.w {R : Addr} {rr : List Addr} (g : Grid H R rr (sz : Int) (sz : Int) f) : GrW H R rr sz f := ⟨g.at_, by rw [g.len]; exact Int.toNat_natCast sz, g.row⟩
end
/-- what the law has drawn: the lot, its cords multiplied, and its table as rows -/
structure LW (K : PySem.W.Frag) (z : Addr) (ns : List Int) (n : Int) (bn : Addr) (cs : List Tr) (ra : Addr) (rr : List Addr) (H : Hp) : Prop where
  hs : SqL K H z (ns.map V.int)
  hb : Trip H bn cs
  gr : GrW H ra rr (hi n 1).toNat (tabE cs)
  n0 : 0 ≤ n
  n1 : n ≤ 40
  hG : Good n cs
  hl : cs.length ≤ 38
  bd : ∀ x y : Int, 0 ≤ x → x < ((hi n 1).toNat : Int) → 0 ≤ y → y < ((hi n 1).toNat : Int) → 0 ≤ tabE cs x y ∧ tabE cs x y ≤ 2 ^ 58
section
variable {K : PySem.W.Frag} {z bn ra : Addr} {ns : List Int} {n : Int} {cs : List Tr} {rr : List Addr} {H H1 : Hp} {C D0 D1 D3 : Addr}
theorem LW.same (W : LW K z ns n bn cs ra rr H) (s : Same H H1) : LW K z ns n bn cs ra rr H1 := ⟨s.seq W.hs, W.hb.same s, W.gr.same s, W.n0, W.n1, W.hG, W.hl, W.bd⟩
theorem LW.tf (W : LW K z ns n bn cs ra rr H) : TabF (rowsOf (hi n 1).toNat (tabE cs)) (hi n 1).toNat (tabE cs) :=
  rowsOf_tab (fun x y a b c d => (W.bd x y a b c d).1) (fun x y _ _ _ _ => tabE_comm cs x y) (fun x _ _ => tabE_same cs x)
theorem LW.sz (W : LW K z ns n bn cs ra rr H) : (hi n 1).toNat ≤ 40 := by
  have := lo_hi n 1
  have := W.n1
  omega
theorem LW.rsb (W : LW K z ns n bn cs ra rr H) : RsB K H 40 (2 ^ 58) (rowsOf (hi n 1).toNat (tabE cs)) := rowsOf_rsb W.sz fun x y a b c d => ⟨by have := (W.bd x y a b c d).1; omega, (W.bd x y a b c d).2⟩
theorem LW.tabX (W : LW K z ns n bn cs ra rr H) : TabX K H 40 (2 ^ 58) ra := W.gr.tabX W.sz fun x y a b c d => ⟨by have := (W.bd x y a b c d).1; omega, (W.bd x y a b c d).2⟩
theorem LW.tw (W : LW K z ns n bn cs ra rr H) : ∀ x y, 0 ≤ x → x < y → y < n → TwOk n (tabE cs) x y := own_tw W.hG fun _ _ _ _ _ _ => rfl
/-- the program's answer for this table -/
theorem LW.lot {c : Addr} {form : Int} {Q : VK} {E : XK} (W : LW K z ns n bn cs ra rr H) (s : Same H H1) (pg : PasG H H1 c (rowsOf (hi n 1).toNat (tabE cs)) form) (q : ∀ H' x, Same H1 H' → LotAt C H' x n cs → Q (.ref x) H') : spLotOf K C D0 D1 D3 [.int n, .ref c] H1 Q E := by
  have hB := W.rsb
  obtain ⟨us, hu, lu, hP⟩ := pg.rows s hB
  have tf := W.tf
  have hh := lo_hi n 1
  have n0 := W.n0
  have n1 := W.n1
  have ll : us.length ≤ 100000 := by
    have := tf.len
    omega
  refine ⟨_, _, rfl, .inr ⟨n, us, rfl, n0, n1, .inl ⟨c, rfl, hu⟩, ll, .inr ⟨c, tabE cs, rfl, ((TabF.vd (K := K) (H := H1) tf).vd hP), tf.grid hu hP, fun p r p0 p1 r0 r1 => tw_bound (b := 2 ^ 58) (fun i j a b c d => W.bd i j a (by omega) c (by omega)) (by decide) p0 p1 r0 r1, .inl ⟨W.tw, cotE_len n1 _, fun H2 x r s2 hL hN => ?_⟩⟩⟩⟩
  have e := cot_own n0 W.hG (fun _ _ _ _ _ _ => rfl) hN
  rw [e] at hL
  exact q H2 x s2 hL
theorem LW.parts {c : Addr} {form : Int} (W : LW K z ns n bn cs ra rr H) (s : Same H H1) (pg : PasG H H1 c (rowsOf (hi n 1).toNat (tabE cs)) form) : ∃ us : List V, SqH H1 c us ∧ us.length ≤ 100000 ∧ Vd K H1 us (hi n 1).toNat none ∧ GridB H1 c n (tabE cs) ∧ (∀ p r, 0 ≤ p → p < n → 0 ≤ r → r < n → -(2 ^ 60) < Own.tw n (tabE cs) p r ∧ Own.tw n (tabE cs) p r < 2 ^ 60) := by
  have hB := W.rsb
  obtain ⟨us, hu, lu, hP⟩ := pg.rows s hB
  have tf := W.tf
  have hh := lo_hi n 1
  have n0 := W.n0
  have n1 := W.n1
  have ll : us.length ≤ 100000 := by
    have := tf.len
    omega
  exact ⟨us, hu, ll, (TabF.vd (K := K) (H := H1) tf).vd hP, tf.grid hu hP, fun p r p0 p1 r0 r1 => tw_bound (b := 2 ^ 58) (fun i j a b c d => W.bd i j a (by omega) c (by omega)) (by decide) p0 p1 r0 r1⟩
end
end Own

namespace Own
open PySem PySem.Spec PyProof.Rows L2
/-- the scope of the outer of two comprehensions over the table -/
abbrev scR : Scope := { kind := .function, names := [(".0", .local), ("_law_row", .local), ("_law_times", .cell)], isGenerator := false, isCoroutine := false }
theorem put_new {kvs : List (Key × V)} {k : Key} (v : V) (new : ∀ kv ∈ kvs, kv.1 ≠ k) : putK kvs k v = kvs ++ [(k, v)] := by
  unfold putK
  rw [if_neg]
  intro h
  obtain ⟨kv, hm, e⟩ := List.any_eq_true.mp h
  exact new kv hm (of_decide_eq_true e)
theorem DOk.put {kvs : List (Key × V)} {k : Key} {r : Addr} (dk : DOk kvs) (new : ∀ kv ∈ kvs, kv.1 ≠ k) : DOk (putK kvs k (.ref r)) := by
  rw [put_new _ new]
  intro p hp
  rcases List.mem_append.mp hp with h | h
  · obtain ⟨h1, h2⟩ := dk p h
    refine ⟨?_, h2⟩
    unfold valV at h1 ⊢
    rw [List.find?_append]
    cases e : kvs.find? (fun kv => decide (kv.1 = p.1)) with
    | none =>
      rw [e] at h1
      cases h1
    | some q =>
      rw [e] at h1
      exact h1
  · have e := List.mem_singleton.mp h
    subst e
    refine ⟨?_, .inr ⟨r, rfl⟩⟩
    unfold valV
    rw [List.find?_append]
    have : kvs.find? (fun kv => decide (kv.1 = k)) = none := List.find?_eq_none.mpr fun kv hm => by simpa using new kv hm
    rw [this]
    simp
section
variable {P : Program} {w : World} {K : PySem.W.Frag} {mg : Str → Option Value} {base : Heap} {C D0 D1 D3 : Addr}
def spLaw (K : PySem.W.Frag) : Sp := fun vs H Q _ => ∃ (s : Addr) (ns : List Int), vs = [.ref s] ∧ SqL K H s (ns.map V.int) ∧ ns.length ≤ 1000 ∧ ∀ H', Q (.bl true) H'
set_option maxHeartbeats 0 in
theorem ok_law {f : Addr} {fd : FuncData} (F : Fun K "law" "law" s_law f fd) (T : Bi mg) 
    {f_c : Addr} {d_c : FuncData} (D_c : Df K mg "_law_cell" s__law_cell ["_law_script", "_law_k"] f_c d_c) (G_c : FnOk P w K mg base CX0 1 f_c d_c ["_law_script", "_law_k"] (spCell K)) 
    {f_p : Addr} {d_p : FuncData} (D_p : Df K mg "_law_pins" s__law_pins ["_law_cell_here"] f_p d_p) (G_p : FnOk P w K mg base CX0 2 f_p d_p ["_law_cell_here"] (spPins K)) 
    {f_l : Addr} {d_l : FuncData} (D_l : Df K mg "_law_lot" s__law_lot ["_law_script", "_law_rim"] f_l d_l) (G_l : FnOk P w K mg base CX0 2 f_l d_l ["_law_script", "_law_rim"] (spLLot K)) 
    {f_lt : Addr} {d_lt : FuncData} (D_lt : Df K mg "_law_table" s__law_table ["_law_rim", "_law_bunch"] f_lt d_lt) (G_lt : FnOk P w K mg base CX0 1 f_lt d_lt ["_law_rim", "_law_bunch"] spLTab) 
    {f_li : Addr} {d_li : FuncData} (D_li : Df K mg "_law_lot_is" s__law_lot_is ["_law_lot_here", "_law_rim", "_law_bunch"] f_li d_li) (G_li : FnOk P w K mg base CX0 5 f_li d_li ["_law_lot_here", "_law_rim", "_law_bunch"] (spLotIs K C)) 
    {f_ps : Addr} {d_ps : FuncData} (D_ps : Df K mg "_law_passed" s__law_passed ["_law_rows", "_law_form"] f_ps d_ps) (G_ps : FnOk P w K mg base CX0 1 f_ps d_ps ["_law_rows", "_law_form"] (spPasG K)) 
    {f_fo : Addr} {d_fo : FuncData} (D_fo : Df K mg "_law_found" s__law_found ["_law_rim", "_law_rows", "_law_form"] f_fo d_fo) (G_fo : FnOk P w K mg base CX0 9 f_fo d_fo ["_law_rim", "_law_rows", "_law_form"] (spFound K)) 
    {f_fr : Addr} {d_fr : FuncData} (D_fr : Df K mg "_law_free" s__law_free ["_law_cell_here", "_law_size", "_law_times"] f_fr d_fr) (G_fr : FnOk P w K mg base CX0 2 f_fr d_fr ["_law_cell_here", "_law_size", "_law_times"] (spFree K)) 
    {f_ju : Addr} {d_ju : FuncData} (D_ju : Df K mg "_law_judged" s__law_judged ["_law_rim", "_law_rows", "_law_form"] f_ju d_ju) (G_ju : FnOk P w K mg base CX0 10 f_ju d_ju ["_law_rim", "_law_rows", "_law_form"] (spJudged K)) 
    {f_as : Addr} {d_as : FuncData} (D_as : Df K mg "_law_all_spoilt" s__law_all_spoilt ["_law_script", "_law_rim", "_law_rows", "_law_other", "_law_form"] f_as d_as) (G_as : FnOk P w K mg base CX0 11 f_as d_as ["_law_script", "_law_rim", "_law_rows", "_law_other", "_law_form"] (spAllSp K)) 
    {f_rf : Addr} {d_rf : FuncData} (D_rf : Df K mg "_law_refused" s__law_refused ["_law_rim", "_law_grid", "_law_kept", "_law_place"] f_rf d_rf) (G_rf : FnOk P w K mg base CX0 9 f_rf d_rf ["_law_rim", "_law_grid", "_law_kept", "_law_place"] (spRefd K)) 
    {f_bp : Addr} {d_bp : FuncData} (D_bp : Df K mg "_law_bad_pins" s__law_bad_pins ["_law_rim", "_law_rows"] f_bp d_bp) (G_bp : FnOk P w K mg base CX0 9 f_bp d_bp ["_law_rim", "_law_rows"] (spBadP K)) 
    {f_lo : Addr} {d_lo : FuncData} (D_lo : Df K mg "lot_of" s_lot_of ["pins", "table"] f_lo d_lo) (G_lo : FnOk P w K mg base (L2N.CX P w) 8 f_lo d_lo ["pins", "table"] (spLotOf K C D0 D1 D3)) (b_k : KBn K d_lo ["pins", "table"] 0 ["table", "pins"] (fun us ws => us ++ ws.reverse) (fun vs zs => vs ++ zs.reverse)) : FnOk P w K mg base CX0 12 f fd ["_law_script"] (spLaw K) := by
  refine F.ok sc_law (fun vs H Q E h => ?_) (fun cdv A outer s H vs Q E hr h => ?_)
  · obtain ⟨z, ns, rfl, _⟩ := h
    rfl
  · obtain ⟨z, ns, rfl, hs, hn, q⟩ := h
    have hu1 : (A.deeper (envOfC "law" (defScope s_law) s.heap.objs.size f cdv)).units + 1 < cLine := by have := hr.units; omega
    obtain ⟨tE, hE, qE⟩ : ∃ tR, PSs (cxOf CX0 P w K mg base ["_law_script", "_law_rim", "_law_bunch", "_law_form", "_law_size", "_law_own", "_law_times", "_law_rows", "_law_other", "_law_kind", "_law_grid", "_law_k", "_law_thing", "_law_lower", "_law_wrong_here", "_law_row", "_law_c", "_law_value"] "law" (defScope s_law) f cdv A outer s H E).nox ((defBody s_law).drop 21) tR ∧ ∀ (n form : Int) (bn : Addr) (cs : List Tr) (ra : Addr) (rr : List Addr) (y5 y6 y8 y9 y10 y11 y12 y13 y14 y15 y16 y17 : Option V) (H0 : Hp), LW K z ns n bn cs ra rr H0 → tR { nx := fun _ H' => Q .non H', rt := Q } [some (.ref z), some (.int n), some (.ref bn), some (.int form), some (.int (hi n 1)), y5, y6, some (.ref ra), y8, y9, y10, y11, y12, y13, y14, y15, y16, y17] H0 := by
      refine ⟨_, (pss_one (ps_ret (pe_call G_li (hr.mono (by decide)) (by rfl) D_li.g D_li.F.kp D_li.b .nil pass0 (pa_cons (pe_callK0 G_lo (hr.mono (by decide)) (by rfl) D_lo.g D_lo.F.kp b_k passN (pk_cons (pe_call G_ps (hr.mono (by decide)) (by rfl) D_ps.g D_ps.F.kp D_ps.b .nil pass0 (pa_cons (pv 7) (pa_cons (pv 3) pa_nil))) (pk_cons (pv 1) pk_nil))) (pa_cons (pv 1) (pa_cons (pv 2) pa_nil)))))), ?_⟩
      intro n form bn cs ra rr y5 y6 y8 y9 y10 y11 y12 y13 y14 y15 y16 y17 H0 W
      have lr : (rowsOf (hi n 1).toNat (tabE cs)).length ≤ 1000 := by
        have := W.tf.len
        have := W.sz
        omega
      have n0 := W.n0
      have n1 := W.n1
      have hh := lo_hi n 1
      have hsz : ((hi n 1).toNat : Int) = hi n 1 := by omega
      refine ⟨_, rfl, _, rfl, ra, _, _, form, rfl, W.gr.at_, W.gr.rowsL, lr, fun H1 c s1 pg => ?_⟩
      refine ⟨_, rfl, rfl, rfl, W.lot s1 pg fun H2 x s2 hL => ?_⟩
      exact ⟨_, rfl, _, rfl, x, n, bn, cs, rfl, hL, W.hb.same (s1.trans s2), by have := W.hl; omega, q _⟩
    obtain ⟨tD, hD, qD⟩ : ∃ tR, PSs (cxOf CX0 P w K mg base ["_law_script", "_law_rim", "_law_bunch", "_law_form", "_law_size", "_law_own", "_law_times", "_law_rows", "_law_other", "_law_kind", "_law_grid", "_law_k", "_law_thing", "_law_lower", "_law_wrong_here", "_law_row", "_law_c", "_law_value"] "law" (defScope s_law) f cdv A outer s H E).nox ((defBody s_law).drop 18) tR ∧ ∀ (n form : Int) (bn : Addr) (cs : List Tr) (ra : Addr) (rr : List Addr) (oa : Addr) (y5 y6 y9 y10 y11 y12 y13 y14 y15 y16 y17 : Option V) (H0 : Hp), LW K z ns n bn cs ra rr H0 → TabX K H0 40 (2 ^ 58) oa → tR { nx := fun _ H' => Q .non H', rt := Q } [some (.ref z), some (.int n), some (.ref bn), some (.int form), some (.int (hi n 1)), y5, y6, some (.ref ra), some (.ref oa), y9, y10, y11, y12, y13, y14, y15, y16, y17] H0 := by
      refine ⟨_, (pss_cons (ps_set (i := 13) sc_law.nd rfl (.inl rfl) (pe_op op_sub (pe_un un_neg pe_int) (pe_op op_mod (pe_op op_fdiv (pe_callTy call_int1 (by rfl) T.b_int (by decide +kernel) (pa_cons (pe_call G_c (hr.mono (by decide)) (by rfl) D_c.g D_c.F.kp D_c.b .nil pass0 (pa_cons (pv 0) (pa_cons pe_int pa_nil))) pa_nil)) pe_int) pe_int)))
        (pss_cons (ps_set (i := 14) sc_law.nd rfl (.inl rfl) (pe_ix (r := rIxL K) ix_list (pe_lst (pa_cons (pv 13) (pa_cons pe_bl (pa_cons pe_bl (pa_cons pe_non (pa_cons (pe_callTy call_str_int (by rfl) T.b_str (by decide +kernel) (pa_cons (pv 1) pa_nil)) (pa_cons (pe_tup (pa_cons (pv 1) pa_nil)) (pa_cons (pe_lst (pa_cons (pv 1) pa_nil)) pa_nil)))))))) (pe_op op_mod (pe_callTy call_int1 (by rfl) T.b_int (by decide +kernel) (pa_cons (pe_call G_c (hr.mono (by decide)) (by rfl) D_c.g D_c.F.kp D_c.b .nil pass0 (pa_cons (pv 0) (pa_cons pe_int pa_nil))) pa_nil)) pe_int) (fun _ _ => rfl)))
        (pss_cons (ps_if (PW.pt (pw_or (pt_not (pt_val (pe_call G_bp (hr.mono (by decide)) (by rfl) D_bp.g D_bp.F.kp D_bp.b .nil pass0 (pa_cons (pv 14) (pa_cons (pv 7) pa_nil))))) (pw_or (pt_not (pt_val (pe_call G_bp (hr.mono (by decide)) (by rfl) D_bp.g D_bp.F.kp D_bp.b .nil pass0 (pa_cons (pv 14) (pa_cons (pv 8) pa_nil))))) (pw_or1 (pt_not (pt_val (pe_call G_bp (hr.mono (by decide)) (by rfl) D_bp.g D_bp.F.kp D_bp.b .nil pass0 (pa_cons (pv 13) (pa_cons (pe_lst pa_nil) pa_nil))))))))) (pss_one (ps_ret pe_bl)) pss_nil)
        hE))), ?_⟩
      intro n form bn cs ra rr oa y5 y6 y9 y10 y11 y12 y13 y14 y15 y16 y17 H0 W hO
      have lr : (rowsOf (hi n 1).toNat (tabE cs)).length ≤ 1000 := by
        have := W.tf.len
        have := W.sz
        omega
      have n0 := W.n0
      have n1 := W.n1
      have hh := lo_hi n 1
      have hsz : ((hi n 1).toNat : Int) = hi n 1 := by omega
      refine ⟨_, rfl, _, rfl, z, ns, 22, rfl, W.hs, by decide, hn, fun c9 => .inl ⟨_, rfl, _, _, rfl, rfl, ⟨by show (0 : Int) < 7; decide, by show (7 : Int) < 1073741824; decide⟩, _, _, rfl, rfl, by show (0 : Int) < 1000; decide, _, _, rfl, rfl, ?_⟩⟩
      refine ⟨_, rfl, _, rfl, n, rfl, Nat.lt_of_lt_of_le (log_lt (k := 64) (by decide) (by omega)) (by decide), _, rfl, by show 1 ≤ sizeLine; decide, fun pt nt => ⟨_, rfl, by show 1 ≤ sizeLine; decide, fun pl nl => ⟨by show 7 ≤ sizeLine; decide, fun pv np => ?_⟩⟩⟩
      have t1 := same_upd (o := .tup [.int n]) nt
      have t2 := same_upd (o := .lst [.int n]) nl
      have t3 := same_upd (o := .lst [.int (-1 - (c9 / 7) % 1000), .bl true, .bl false, .non, .str (Str.ofString (toString n)), .ref pt, .ref pl]) np
      have S8 := (t1.trans t2).trans t3
      have ept := (t2.trans t3) _ _ (upd_same (H := H0) (a := pt) (o := .tup [.int n]))
      have epl := t3 _ _ (upd_same (H := upd H0 pt (.tup [.int n])) (a := pl) (o := .lst [.int n]))
      have epv := upd_same (H := upd (upd H0 pt (.tup [.int n])) pl (.lst [.int n])) (a := pv) (o := .lst [.int (-1 - (c9 / 7) % 1000), .bl true, .bl false, .non, .str (Str.ofString (toString n)), .ref pt, .ref pl])
      generalize upd (upd (upd H0 pt (.tup [.int n])) pl (.lst [.int n])) pv (.lst [.int (-1 - (c9 / 7) % 1000), .bl true, .bl false, .non, .str (Str.ofString (toString n)), .ref pt, .ref pl]) = H8 at S8 ept epl epv ⊢
      clear t1 t2 t3
      have W := W.same S8
      have hO := hO.same S8
      have wlo : Wr K H8 (.int (-1 - (c9 / 7) % 1000)) := wr_kp (.inl ⟨_, rfl, by omega⟩) (kp_int (by omega) (by omega))
      have pick : ∀ c : Int, ∃ v', atI [V.int (-1 - (c9 / 7) % 1000), .bl true, .bl false, .non, .str (Str.ofString (toString n)), .ref pt, .ref pl] (c % 7) = some v' ∧ Wr K H8 v' := fun c => by
        have hd : c % 7 = ((0 : Nat) : Int) ∨ c % 7 = ((1 : Nat) : Int) ∨ c % 7 = ((2 : Nat) : Int) ∨ c % 7 = ((3 : Nat) : Int) ∨ c % 7 = ((4 : Nat) : Int) ∨ c % 7 = ((5 : Nat) : Int) ∨ c % 7 = ((6 : Nat) : Int) := by omega
        rcases hd with z | z | z | z | z | z | z <;> rw [z]
        · exact ⟨_, atI_nat rfl, wlo⟩
        · exact ⟨_, atI_nat rfl, wr_kp (.inr (nw_bl _)) (kp_bl _)⟩
        · exact ⟨_, atI_nat rfl, wr_kp (.inr (nw_bl _)) (kp_bl _)⟩
        · exact ⟨_, atI_nat rfl, wr_kp (.inr nw_non) kp_non⟩
        · exact ⟨_, atI_nat rfl, wr_kp (.inr (nw_str _)) (kp_str (rep_small (by omega) (by omega)))⟩
        · exact ⟨_, atI_nat rfl, wr_kp (.inr (nw_tup ept)) (kp_seq (.inr ept) (by omega) (by omega))⟩
        · exact ⟨_, atI_nat rfl, wr_kp (.inr (nw_lst epl)) (kp_seq (.inl epl) (by omega) (by omega))⟩
      refine ⟨_, rfl, z, ns, 22, rfl, W.hs, by decide, hn, fun c10 => .inl ⟨_, rfl, _, _, rfl, rfl, by show (0 : Int) < 7; decide, ?_⟩⟩
      obtain ⟨v', ev, wr⟩ := pick c10
      refine ⟨pv, _, _, _, rfl, rfl, .inl (.inl epv), ev, ?_⟩
      refine ⟨_, rfl, _, rfl, v', ra, _, _, 40, 2 ^ 58, rfl, wr.1, wr.2.1, wr.2.2, W.gr.at_, W.gr.rowsL, W.rsb, by decide, lr, fun H9 s9 => ⟨true, rfl, ?_⟩⟩
      obtain ⟨wo, ro, eo, lo_, hRo, hBo⟩ := (hO.same s9).rows
      have wr9 := wr.same s9
      refine ⟨_, rfl, _, rfl, v', oa, wo, ro, 40, 2 ^ 58, rfl, wr9.1, wr9.2.1, wr9.2.2, eo, hRo, hBo, by decide, by have := hRo.1; omega, fun H10 s10 => ⟨true, rfl, ?_⟩⟩
      have wl10 := wlo.same (s9.trans s10)
      refine ⟨_, rfl, by show 0 ≤ sizeLine; decide, fun pz npz => ⟨_, pz, [], [], 40, 2 ^ 58, rfl, (wl10.same (same_upd npz)).1, (wl10.same (same_upd npz)).2.1, (wl10.same (same_upd npz)).2.2, upd_same, ⟨rfl, fun i r e => by simp at e⟩, (fun r h => nomatch h), by decide, by decide, fun H11 s11 => ⟨true, rfl, ?_⟩⟩⟩
      exact qE n form bn cs ra rr _ _ _ _ _ _ _ _ _ _ _ _ H11 (W.same ((s9.trans s10).trans ((same_upd npz).trans s11)))
    obtain ⟨tC, hC, qC⟩ : ∃ tR, PSs (cxOf CX0 P w K mg base ["_law_script", "_law_rim", "_law_bunch", "_law_form", "_law_size", "_law_own", "_law_times", "_law_rows", "_law_other", "_law_kind", "_law_grid", "_law_k", "_law_thing", "_law_lower", "_law_wrong_here", "_law_row", "_law_c", "_law_value"] "law" (defScope s_law) f cdv A outer s H E).nox ((defBody s_law).drop 16) tR ∧ ∀ (n form : Int) (bn : Addr) (cs : List Tr) (ra : Addr) (rr : List Addr) (oa pg : Addr) (kvs : List (Key × V)) (y5 y6 y9 y11 y12 y13 y14 y15 y16 y17 : Option V) (H0 : Hp), LW K z ns n bn cs ra rr H0 → TabX K H0 40 (2 ^ 58) oa → H0 pg = some (.dK kvs) → DOk kvs → tR { nx := fun _ H' => Q .non H', rt := Q } [some (.ref z), some (.int n), some (.ref bn), some (.int form), some (.int (hi n 1)), y5, y6, some (.ref ra), some (.ref oa), y9, some (.ref pg), y11, y12, y13, y14, y15, y16, y17] H0 := by
      refine ⟨_, (pss_cons (ps_set (i := 12) sc_law.nd rfl (.inl rfl) (pe_ix (r := rIxL K) ix_list (pe_lst (pa_cons pe_non (pa_cons pe_int (pa_cons pe_bl (pa_cons pe_str (pa_cons pe_str (pa_cons pe_int (pa_cons pe_dnewK pa_nil)))))))) (pe_op op_mod (pe_callTy call_int1 (by rfl) T.b_int (by decide +kernel) (pa_cons (pe_call G_c (hr.mono (by decide)) (by rfl) D_c.g D_c.F.kp D_c.b .nil pass0 (pa_cons (pv 0) (pa_cons pe_int pa_nil))) pa_nil)) pe_int) (fun _ _ => rfl)))
        (pss_cons (ps_if (PW.pt (pw_or (pt_not (pt_val (pe_call G_rf (hr.mono (by decide)) (by rfl) D_rf.g D_rf.F.kp D_rf.b .nil pass0 (pa_cons (pv 1) (pa_cons (pv 12) (pa_cons (pv 12) (pa_cons (pe_tup (pa_cons pe_int (pa_cons pe_int pa_nil))) pa_nil))))))) (pw_or1 (pt_not (pt_val (pe_call G_rf (hr.mono (by decide)) (by rfl) D_rf.g D_rf.F.kp D_rf.b .nil pass0 (pa_cons (pv 1) (pa_cons (pv 10) (pa_cons (pv 10) (pa_cons (pe_tup (pa_cons pe_int (pa_cons pe_int pa_nil))) pa_nil)))))))))) (pss_one (ps_ret pe_bl)) pss_nil)
        hD)), ?_⟩
      intro n form bn cs ra rr oa pg kvs y5 y6 y9 y11 y12 y13 y14 y15 y16 y17 H0 W hO epg dk
      have lr : (rowsOf (hi n 1).toNat (tabE cs)).length ≤ 1000 := by
        have := W.tf.len
        have := W.sz
        omega
      have n0 := W.n0
      have n1 := W.n1
      have hh := lo_hi n 1
      have hsz : ((hi n 1).toNat : Int) = hi n 1 := by omega
      refine fun pd nd => ⟨by show 7 ≤ sizeLine; decide, fun pv np => ?_⟩
      have t1 := same_upd (o := .dK []) nd
      have t2 := same_upd (o := .lst [.non, .int 7, .bl true, .str (Str.ofString "0"), .str (Str.ofString ""), .int 0, .ref pd]) np
      have epd := t2 _ _ (upd_same (H := H0) (a := pd) (o := .dK []))
      have epv := upd_same (H := upd H0 pd (.dK [])) (a := pv) (o := .lst [.non, .int 7, .bl true, .str (Str.ofString "0"), .str (Str.ofString ""), .int 0, .ref pd])
      have S8 := t1.trans t2
      generalize upd (upd H0 pd (.dK [])) pv (.lst [.non, .int 7, .bl true, .str (Str.ofString "0"), .str (Str.ofString ""), .int 0, .ref pd]) = H8 at S8 epd epv ⊢
      clear t1 t2
      have W := W.same S8
      have hO := hO.same S8
      have epg := S8 _ _ epg
      refine ⟨_, rfl, z, ns, 11, rfl, W.hs, by decide, hn, fun c10 => .inl ⟨_, rfl, _, _, rfl, rfl, by show (0 : Int) < 7; decide, ?_⟩⟩
      obtain ⟨v, ev, ux⟩ : ∃ v, atI [V.non, .int 7, .bl true, .str (Str.ofString "0"), .str (Str.ofString ""), .int 0, .ref pd] (c10 % 7) = some v ∧ UX K H8 v := by
        have hd : c10 % 7 = ((0 : Nat) : Int) ∨ c10 % 7 = ((1 : Nat) : Int) ∨ c10 % 7 = ((2 : Nat) : Int) ∨ c10 % 7 = ((3 : Nat) : Int) ∨ c10 % 7 = ((4 : Nat) : Int) ∨ c10 % 7 = ((5 : Nat) : Int) ∨ c10 % 7 = ((6 : Nat) : Int) := by omega
        rcases hd with z | z | z | z | z | z | z <;> rw [z]
        · exact ⟨_, atI_nat rfl, ux_non⟩
        · exact ⟨_, atI_nat rfl, ux_int _⟩
        · exact ⟨_, atI_nat rfl, ux_bl _⟩
        · exact ⟨_, atI_nat rfl, ux_str _⟩
        · exact ⟨_, atI_nat rfl, ux_str _⟩
        · exact ⟨_, atI_nat rfl, ux_int _⟩
        · exact ⟨_, atI_nat rfl, ux_dict epd (fun p h => nomatch h)⟩
      refine ⟨pv, _, _, _, rfl, rfl, .inl (.inl epv), ev, ?_⟩
      have none_vd : ∀ H', Vd K H' [] (hi n 1).toNat (some (0, 0)) := fun H' => VdA.vd (rs := []) ⟨rfl, fun i r e => by simp at e⟩ ⟨fun k h => absurd h (Nat.not_lt_zero _), .inl ⟨by omega, .inl ⟨rfl, .inl (Nat.le_refl _)⟩⟩⟩
      refine ⟨_, rfl, _, rfl, _, rfl, by show 2 ≤ sizeLine; decide, fun pl npl => ⟨n, v, v, pl, [], 0, 0, rfl, n0, n1, .inr ⟨(ux.same (same_upd npl)).1, rfl⟩, Nat.zero_le _, none_vd _, upd_same, (ux.same (same_upd npl)).2.le (by decide), fun H9 s9 => ⟨true, rfl, ?_⟩⟩⟩
      have s89 := (same_upd (o := .tup [.int 0, .int 0]) npl).trans s9
      have ug : UX K H9 (.ref pg) := ux_dict (s89 _ _ epg) dk
      refine ⟨_, rfl, _, rfl, _, rfl, by show 2 ≤ sizeLine; decide, fun pl2 npl2 => ⟨n, .ref pg, .ref pg, pl2, [], 0, 0, rfl, n0, n1, .inr ⟨(ug.same (same_upd npl2)).1, rfl⟩, Nat.zero_le _, none_vd _, upd_same, (ug.same (same_upd npl2)).2.le (by decide), fun H10 s10 => ⟨true, rfl, ?_⟩⟩⟩
      have s80 := s89.trans ((same_upd (o := .tup [.int 0, .int 0]) npl2).trans s10)
      exact qD n form bn cs ra rr oa _ _ _ _ _ _ _ _ _ _ _ H10 (W.same s80) (hO.same s80)
    obtain ⟨tB, hB, qB⟩ : ∃ tR, PSs (cxOf CX0 P w K mg base ["_law_script", "_law_rim", "_law_bunch", "_law_form", "_law_size", "_law_own", "_law_times", "_law_rows", "_law_other", "_law_kind", "_law_grid", "_law_k", "_law_thing", "_law_lower", "_law_wrong_here", "_law_row", "_law_c", "_law_value"] "law" (defScope s_law) f cdv A outer s H E).nox ((defBody s_law).drop 14) tR ∧ ∀ (n form : Int) (bn : Addr) (cs : List Tr) (ra : Addr) (rr : List Addr) (oa : Addr) (y5 y6 y9 y10 y11 y12 y13 y14 y15 y16 y17 : Option V) (H0 : Hp), LW K z ns n bn cs ra rr H0 → TabX K H0 40 (2 ^ 58) oa → tR { nx := fun _ H' => Q .non H', rt := Q } [some (.ref z), some (.int n), some (.ref bn), some (.int form), some (.int (hi n 1)), y5, y6, some (.ref ra), some (.ref oa), y9, y10, y11, y12, y13, y14, y15, y16, y17] H0 := by
      refine ⟨_, (pss_cons (ps_set (i := 10) sc_law.nd rfl (.inl rfl) pe_dnewK)
        (pss_cons (ps_for PassesOwn.never rfl (pi_range1 (by rfl) T.b_range (pa_cons (pv 4) pa_nil)) (pg_name (i := 11) sc_law.nd rfl (.inl rfl))
        (pss_one (ps_asg (pe_ix (r := rIxL K) ix_list (pv 7) (pv 11) (fun _ _ => rfl)) (pg_sub (pv 10) (pv 11) (set_dict hu1)))))
        hC)), ?_⟩
      intro n form bn cs ra rr oa y5 y6 y9 y10 y11 y12 y13 y14 y15 y16 y17 H0 W hO
      have lr : (rowsOf (hi n 1).toNat (tabE cs)).length ≤ 1000 := by
        have := W.tf.len
        have := W.sz
        omega
      have n0 := W.n0
      have n1 := W.n1
      have hh := lo_hi n 1
      have hsz : ((hi n 1).toNat : Int) = hi n 1 := by omega
      refine fun pg npg => ?_
      refine ⟨_, rfl, hi n 1, rfl, by omega, by omega, for_range (lo := 0) (n := (hi n 1).toNat) (fun i σ H' => (∃ y11, σ = [some (.ref z), some (.int n), some (.ref bn), some (.int form), some (.int (hi n 1)), y5, y6, some (.ref ra), some (.ref oa), y9, some (.ref pg), y11, y12, y13, y14, y15, y16, y17]) ∧ Same H0 H' ∧ ∃ kvs, H' pg = some (.dK kvs) ∧ DOk kvs ∧ kvs.length ≤ i ∧ ∀ kv ∈ kvs, ∃ j : Int, kv.1 = .inl j ∧ j < (i : Int)) ⟨⟨_, rfl⟩, same_upd npg, [], upd_same, (fun p h => nomatch h), Nat.le_refl _, (fun p h => nomatch h)⟩ (fun i σ H' hi_ pv => ?_) (fun σ H' pv => ?_)⟩
      · obtain ⟨⟨y11, rfl⟩, sm, kvs, ek, dk, lk, bk⟩ := pv
        have hil : i < rr.length := by rw [W.gr.len]; exact hi_
        have W2 := W.same sm
        have ai : atI (rr.map V.ref) (0 + (i : Int)) = some (.ref rr[i]) := by
          rw [Int.zero_add]
          exact atI_nat (by rw [List.getElem?_map, List.getElem?_eq_getElem hil]; rfl)
        refine ⟨_, rfl, _, rfl, ra, _, _, _, rfl, rfl, .inl (.inl W2.gr.at_), ai, _, rfl, _, rfl, pg, _, rfl, DPut.k (k := .inl (0 + (i : Int))) ek (small1000 (by have := W.sz; omega)), ?_⟩
        have new : ∀ kv ∈ kvs, kv.1 ≠ .inl (0 + (i : Int)) := fun kv h z => by
          obtain ⟨j, e, lt⟩ := bk kv h
          rw [e] at z
          have := Sum.inl.inj z
          omega
        refine ⟨⟨_, rfl⟩, same_put (H1 := H0) npg sm, _, upd_same, dk.put new, ?_, fun kv h => ?_⟩
        · rw [put_new _ new, List.length_append]
          show _ + 1 ≤ _
          omega
        · rw [put_new _ new] at h
          rcases List.mem_append.mp h with h | h
          · obtain ⟨j, e, lt⟩ := bk kv h
            exact ⟨j, e, by omega⟩
          · rw [List.mem_singleton.mp h]
            exact ⟨_, rfl, by omega⟩
      · obtain ⟨⟨y11, rfl⟩, sm, kvs, ek, dk, _, _⟩ := pv
        exact qC n form bn cs ra rr oa pg kvs _ _ _ _ _ _ _ _ _ _ H' (W.same sm) (hO.same sm) ek dk
    obtain ⟨tA, hA, qA⟩ : ∃ tR, PSs (cxOf CX0 P w K mg base ["_law_script", "_law_rim", "_law_bunch", "_law_form", "_law_size", "_law_own", "_law_times", "_law_rows", "_law_other", "_law_kind", "_law_grid", "_law_k", "_law_thing", "_law_lower", "_law_wrong_here", "_law_row", "_law_c", "_law_value"] "law" (defScope s_law) f cdv A outer s H E).nox ((defBody s_law).drop 13) tR ∧ ∀ (n form : Int) (bn : Addr) (cs : List Tr) (ra : Addr) (rr : List Addr) (oa : Addr) (y5 y6 y9 y10 y11 y12 y13 y14 y15 y16 y17 : Option V) (H0 : Hp), LW K z ns n bn cs ra rr H0 → TabX K H0 40 (2 ^ 58) oa → tR { nx := fun _ H' => Q .non H', rt := Q } [some (.ref z), some (.int n), some (.ref bn), some (.int form), some (.int (hi n 1)), y5, y6, some (.ref ra), some (.ref oa), y9, y10, y11, y12, y13, y14, y15, y16, y17] H0 := by
      refine ⟨_, (pss_cons (ps_if (PW.pt (pw_or (pt_not (pt_val (pe_call G_ju (hr.mono (by decide)) (by rfl) D_ju.g D_ju.F.kp D_ju.b .nil pass0 (pa_cons (pv 1) (pa_cons (pv 8) (pa_cons pe_int pa_nil)))))) (pw_or1 (pt_not (pt_val (pe_call G_as (hr.mono (by decide)) (by rfl) D_as.g D_as.F.kp D_as.b .nil pass0 (pa_cons (pv 0) (pa_cons (pv 1) (pa_cons (pv 7) (pa_cons (pv 8) (pa_cons (pv 3) pa_nil))))))))))) (pss_one (ps_ret pe_bl)) pss_nil)
        hB), ?_⟩
      intro n form bn cs ra rr oa y5 y6 y9 y10 y11 y12 y13 y14 y15 y16 y17 H0 W hO
      have lr : (rowsOf (hi n 1).toNat (tabE cs)).length ≤ 1000 := by
        have := W.tf.len
        have := W.sz
        omega
      have n0 := W.n0
      have n1 := W.n1
      have hh := lo_hi n 1
      have hsz : ((hi n 1).toNat : Int) = hi n 1 := by omega
      refine ⟨_, rfl, _, rfl, n, 0, oa, 40, 2 ^ 58, rfl, hO, by decide, by decide, n0, n1, fun H1 s1 => ⟨true, rfl, ?_⟩⟩
      have W1 := W.same s1
      refine ⟨_, rfl, _, rfl, _, rfl, _, rfl, _, rfl, z, ra, oa, ns, n, form, 2 ^ 58, rfl, W1.hs, hn, W1.tabX, hO.same s1, by decide, by decide, n0, n1, fun H2 s2 => ⟨true, rfl, ?_⟩⟩
      exact qB n form bn cs ra rr oa _ _ _ _ _ _ _ _ _ _ _ H2 (W1.same s2) ((hO.same s1).same s2)
    obtain ⟨tO, hO, qO⟩ : ∃ tR, PSs (cxOf CX0 P w K mg base ["_law_script", "_law_rim", "_law_bunch", "_law_form", "_law_size", "_law_own", "_law_times", "_law_rows", "_law_other", "_law_kind", "_law_grid", "_law_k", "_law_thing", "_law_lower", "_law_wrong_here", "_law_row", "_law_c", "_law_value"] "law" (defScope s_law) f cdv A outer s H E).nox ((defBody s_law).drop 10) tR ∧ ∀ (n form : Int) (bn : Addr) (cs : List Tr) (ra : Addr) (rr : List Addr) (y5 y6 y8 y9 y10 y11 y12 y13 y14 y15 y16 y17 : Option V) (H0 : Hp), LW K z ns n bn cs ra rr H0 → tR { nx := fun _ H' => Q .non H', rt := Q } [some (.ref z), some (.int n), some (.ref bn), some (.int form), some (.int (hi n 1)), y5, y6, some (.ref ra), y8, y9, y10, y11, y12, y13, y14, y15, y16, y17] H0 := by
      refine ⟨_, (pss_cons (ps_set (i := 8) sc_law.nd rfl (.inl rfl) (pv 7))
        (pss_cons (ps_set (i := 9) sc_law.nd rfl (.inl rfl) (pe_op op_mod (pe_callTy call_int1 (by rfl) T.b_int (by decide +kernel) (pa_cons (pe_call G_c (hr.mono (by decide)) (by rfl) D_c.g D_c.F.kp D_c.b .nil pass0 (pa_cons (pv 0) (pa_cons pe_int pa_nil))) pa_nil)) pe_int))
        (pss_cons (ps_if (pt_cmpR op_lt (pv 9) pe_int (nomark _)) (pss_one (ps_set (i := 8) sc_law.nd rfl (.inl rfl) (pe_call G_fr (hr.mono (by decide)) (by rfl) D_fr.g D_fr.F.kp D_fr.b .nil pass0 (pa_cons (pe_call G_c (hr.mono (by decide)) (by rfl) D_c.g D_c.F.kp D_c.b .nil pass0 (pa_cons (pv 0) (pa_cons pe_int pa_nil))) (pa_cons (pv 4) (pa_cons (pe_ix (r := rIxL K) ix_list (pe_lst (pa_cons pe_int (pa_cons pe_int (pa_cons pe_int (pa_cons pe_int pa_nil))))) (pv 9) (fun _ _ => rfl)) pa_nil)))))) pss_nil)
        hA))), ?_⟩
      intro n form bn cs ra rr y5 y6 y8 y9 y10 y11 y12 y13 y14 y15 y16 y17 H0 W
      have lr : (rowsOf (hi n 1).toNat (tabE cs)).length ≤ 1000 := by
        have := W.tf.len
        have := W.sz
        omega
      have n0 := W.n0
      have n1 := W.n1
      have hh := lo_hi n 1
      have hsz : ((hi n 1).toNat : Int) = hi n 1 := by omega
      refine ⟨_, rfl, ?_⟩
      refine ⟨_, rfl, z, ns, 3, rfl, W.hs, by decide, hn, fun c3 => .inl ⟨_, rfl, _, _, rfl, rfl, by show (0 : Int) < 8; decide, ?_⟩⟩
      refine ⟨_, rfl, _, 4, rfl, rfl, _, rfl, ite2 (fun e1 => ?_) (fun e1 => qA n form bn cs ra rr ra _ _ _ _ _ _ _ _ _ _ _ H0 W W.tabX)⟩
      have e2 : c3 % 8 < 4 := of_decide_eq_true e1
      refine ⟨_, rfl, z, ns, 4, rfl, W.hs, by decide, hn, fun c4 => ?_⟩
      refine ⟨_, rfl, by show 4 ≤ sizeLine; decide, fun g ng => ?_⟩
      obtain ⟨tm, et, tm0, tm1⟩ : ∃ tm : Int, atI [V.int 1, .int 2, .int 1000, .int 2] (c3 % 8) = some (.int tm) ∧ 0 ≤ tm ∧ tm ≤ 1000 := by
        have hd : c3 % 8 = ((0 : Nat) : Int) ∨ c3 % 8 = ((1 : Nat) : Int) ∨ c3 % 8 = ((2 : Nat) : Int) ∨ c3 % 8 = ((3 : Nat) : Int) := by omega
        rcases hd with z | z | z | z <;> rw [z] <;> exact ⟨_, atI_nat rfl, by decide, by decide⟩
      refine ⟨_, rfl, g, _, _, _, rfl, rfl, .inl (.inl upd_same), et, ?_⟩
      refine ⟨c4, hi n 1, tm, rfl, by omega, by omega, tm0, tm1, fun H1 p r2 f2 s1 gd bd => ?_⟩
      have s01 := (same_upd (o := .lst [.int 1, .int 2, .int 1000, .int 2]) ng).trans s1
      rw [← hsz] at gd
      exact qA n form bn cs ra rr p _ _ _ _ _ _ _ _ _ _ _ H1 (W.same s01) (gd.w.tabX W.sz fun x y _ _ _ _ => ⟨by have := (bd x y).1; omega, by have := (bd x y).2; omega⟩)
    obtain ⟨tN, hN, qN⟩ : ∃ tR, PSs (cxOf CX0 P w K mg base ["_law_script", "_law_rim", "_law_bunch", "_law_form", "_law_size", "_law_own", "_law_times", "_law_rows", "_law_other", "_law_kind", "_law_grid", "_law_k", "_law_thing", "_law_lower", "_law_wrong_here", "_law_row", "_law_c", "_law_value"] "law" (defScope s_law) f cdv A outer s H E).nox ((defBody s_law).drop 9) tR ∧ ∀ (n form : Int) (bn : Addr) (cs : List Tr) (ra : Addr) (rr : List Addr) (y5 y6 y8 y9 y10 y11 y12 y13 y14 y15 y16 y17 : Option V) (H0 : Hp), LW K z ns n bn cs ra rr H0 → tR { nx := fun _ H' => Q .non H', rt := Q } [some (.ref z), some (.int n), some (.ref bn), some (.int form), some (.int (hi n 1)), y5, y6, some (.ref ra), y8, y9, y10, y11, y12, y13, y14, y15, y16, y17] H0 := by
      refine ⟨_, (pss_cons (ps_if (PW.pt (pw_or (pt_not (pt_val (pe_call G_li (hr.mono (by decide)) (by rfl) D_li.g D_li.F.kp D_li.b .nil pass0 (pa_cons (pe_call G_lo (hr.mono (by decide)) (by rfl) D_lo.g D_lo.F.kp D_lo.b .nil passN (pa_cons (pv 1) (pa_cons (pe_call G_ps (hr.mono (by decide)) (by rfl) D_ps.g D_ps.F.kp D_ps.b .nil pass0 (pa_cons (pv 7) (pa_cons (pv 3) pa_nil))) pa_nil))) (pa_cons (pv 1) (pa_cons (pv 2) pa_nil)))))) (pw_or1 (pt_not (pt_val (pe_call G_fo (hr.mono (by decide)) (by rfl) D_fo.g D_fo.F.kp D_fo.b .nil pass0 (pa_cons (pv 1) (pa_cons (pv 7) (pa_cons (pv 3) pa_nil))))))))) (pss_one (ps_ret pe_bl)) pss_nil)
        hO), ?_⟩
      intro n form bn cs ra rr y5 y6 y8 y9 y10 y11 y12 y13 y14 y15 y16 y17 H0 W
      have lr : (rowsOf (hi n 1).toNat (tabE cs)).length ≤ 1000 := by
        have := W.tf.len
        have := W.sz
        omega
      have n0 := W.n0
      have n1 := W.n1
      have hh := lo_hi n 1
      have hsz : ((hi n 1).toNat : Int) = hi n 1 := by omega
      refine ⟨_, rfl, _, rfl, _, rfl, ra, _, _, form, rfl, W.gr.at_, W.gr.rowsL, lr, fun H1 c s1 pg => ?_⟩
      obtain ⟨us, hu, ll, vd, gr, bb⟩ := W.parts s1 pg
      refine ⟨_, _, rfl, .inr ⟨n, us, rfl, n0, n1, .inl ⟨c, rfl, hu⟩, ll, .inr ⟨c, tabE cs, rfl, vd, gr, bb, .inl ⟨W.tw, cotE_len n1 _, fun H2 x r s2 hL hN => ?_⟩⟩⟩⟩
      have er := cot_own n0 W.hG (fun _ _ _ _ _ _ => rfl) hN
      rw [er] at hL
      have W2 := W.same (s1.trans s2)
      refine ⟨_, rfl, _, rfl, x, n, bn, cs, rfl, hL, W2.hb, by have := W.hl; omega, true, rfl, ?_⟩
      refine ⟨_, rfl, _, rfl, _, rfl, n, form, ra, _, _, 40, 2 ^ 58, tabE cs, rfl, W2.gr.at_, W2.gr.rowsL, W2.rsb, by decide, by decide, n0, n1, W2.tf.vd, W2.tf, W2.tw, fun H3 s3 => ⟨true, rfl, ?_⟩⟩
      exact qO n form bn cs ra rr _ _ _ _ _ _ _ _ _ _ _ _ H3 (W2.same s3)
    obtain ⟨tM, hM, qM⟩ : ∃ tR, PSs (cxOf CX0 P w K mg base ["_law_script", "_law_rim", "_law_bunch", "_law_form", "_law_size", "_law_own", "_law_times", "_law_rows", "_law_other", "_law_kind", "_law_grid", "_law_k", "_law_thing", "_law_lower", "_law_wrong_here", "_law_row", "_law_c", "_law_value"] "law" (defScope s_law) f cdv A outer s H E).nox ((defBody s_law).drop 7) tR ∧ ∀ (n form : Int) (bn : Addr) (cs : List Tr) (ow : Addr) (tm : Int) (y7 y8 y9 y10 y11 y12 y13 y14 y15 y16 y17 : Option V) (H0 : Hp), SqL K H0 z (ns.map V.int) → Trip H0 bn cs → 0 ≤ n → n ≤ 40 → Good n cs → cs.length ≤ 38 → (∀ x y : Int, 0 ≤ tabE cs x y ∧ tabE cs x y ≤ 950000000) → TabAt H0 ow (hi n 1) (tabE cs) → 1 ≤ tm → tm ≤ 1000000000 → (∀ x y : Int, 0 ≤ x → x < hi n 1 → 0 ≤ y → y < hi n 1 → tabE cs x y * tm ≤ 2 ^ 58) → tR { nx := fun _ H' => Q .non H', rt := Q } [some (.ref z), some (.int n), some (.ref bn), some (.int form), some (.int (hi n 1)), some (.ref ow), some (.int tm), y7, y8, y9, y10, y11, y12, y13, y14, y15, y16, y17] H0 := by
      refine ⟨_, (pss_cons (ps_set (i := 2) sc_law.nd rfl (.inl rfl) (pe_callTy call_tuple_of (by rfl) T.b_tuple (by decide +kernel) (pa_cons (pe_lc (own := [("_law_c", 16)]) (g := gName 16) (tt := tYes) rfl sc_law.nd (pi_tup (pv 2)) (blkOk_by (own := [("_law_c", 16)]) (N := ["_law_script", "_law_rim", "_law_bunch", "_law_form", "_law_size", "_law_own", "_law_times", "_law_rows", "_law_other", "_law_kind", "_law_grid", "_law_k", "_law_thing", "_law_lower", "_law_wrong_here", "_law_row", "_law_c", "_law_value"]) (sc := defScope s_law) (by decide +kernel)) (fun _ _ _ _ _ => (pg_name (i := 16) sc_law.nd rfl (.inl rfl))) (fun _ _ _ _ _ => pts_nil) (fun _ _ _ _ _ => (pe_tup (pa_cons (pe_ix (r := rIxT K) ix_tup (pv 16) pe_int (fun _ _ => rfl)) (pa_cons (pe_ix (r := rIxT K) ix_tup (pv 16) pe_int (fun _ _ => rfl)) (pa_cons (pe_op op_mul (pe_ix (r := rIxT K) ix_tup (pv 16) pe_int (fun _ _ => rfl)) (pv 6)) pa_nil)))))) pa_nil)))
        (pss_cons (ps_setLc (i := 7) (own := [("_law_row", 15)]) (g := gName 15) (tt := tYes) rfl sc_law.nd rfl rfl (sw_true rfl rfl rfl (by decide +kernel)) (pi_tup (pv 5)) (blkOk_by (own := [("_law_row", 15)]) (N := ["_law_script", "_law_rim", "_law_bunch", "_law_form", "_law_size", "_law_own", "_law_times", "_law_rows", "_law_other", "_law_kind", "_law_grid", "_law_k", "_law_thing", "_law_lower", "_law_wrong_here", "_law_row", "_law_c", "_law_value"]) (sc := defScope s_law) (by decide +kernel)) (fun _ _ _ _ _ => (pg_name (i := 15) sc_law.nd rfl (.inl rfl))) (fun _ _ _ _ _ => pts_nil) (fun _ _ _ _ _ => (show PE _ _ (tLc (iTup K (tVar 15)) (gName 17) tYes (tOp (rI CMul fun i j => .int (i * j)) (tVar 17) (tVar 6)) [17]) from pe_lc (own := [("_law_value", 17)]) (g := gName 17) (tt := tYes) rfl sc_law.nd (pi_tup (pv 15)) (blkOk_by (own := [("_law_value", 17)]) (N := ["_law_script", "_law_rim", "_law_bunch", "_law_form", "_law_size", "_law_own", "_law_times", "_law_rows", "_law_other", "_law_kind", "_law_grid", "_law_k", "_law_thing", "_law_lower", "_law_wrong_here", "_law_row", "_law_c", "_law_value"]) (sc := scR) (by decide +kernel)) (fun _ _ _ _ _ => pg_name (i := 17) sc_law.nd rfl (Or.inl rfl)) (fun _ _ _ _ _ => pts_nil) (fun _ _ _ _ _ => pe_op op_mul (pv 17) (pv 6)))))
        hN)), ?_⟩
      intro n form bn cs ow tm y7 y8 y9 y10 y11 y12 y13 y14 y15 y16 y17 H0 hs hb n0 n1 hG hl bd hT t0 t1 bt
      have hh := lo_hi n 1
      have hsz : ((hi n 1).toNat : Int) = hi n 1 := by omega
      obtain ⟨vc, ec, tc⟩ := id hb
      -- the cords multiplied
      refine ⟨_, rfl, bn, rfl, ⟨vc, .inl (.inl ec)⟩, fun D hD => ?_⟩
      refine lc_tup (K := K) (a := bn) (xs := vc) (fun i H2 => Same H0 H2 ∧ ∃ vs, H2 D = some (.lst vs) ∧ TrV H2 vs ((sc tm cs).take i)) ⟨same_upd hD, [], upd_same, TrV.nil⟩ (fun i H2 _ p => .inl (.inl (p.1 _ _ ec))) (fun i x H2 hxi p => ?_) (fun H2 p => ?_)
      · obtain ⟨s2, vs, eD, tV⟩ := p
        obtain ⟨u, t, rfl, hti, hu⟩ := (tc.same s2).at_ hxi
        have qu : SqT K H2 u (tv t) := .inl (.inl hu)
        have il : i < cs.length := (List.getElem?_eq_some_iff.mp hti).1
        have b1 := hG.ord t (List.mem_of_getElem? hti)
        refine ⟨rfl, ?_⟩
        refine ⟨_, rfl, u, _, 0, _, rfl, rfl, qu, atI_nat (j := 0) rfl, _, rfl, u, _, 1, _, rfl, rfl, qu, atI_nat (j := 1) rfl, _, rfl, u, _, 2, _, rfl, rfl, qu, atI_nat (j := 2) rfl, _, rfl, _, _, rfl, rfl, .inr ⟨by omega, by omega⟩, by show 3 ≤ sizeLine; decide, fun g ng => ?_⟩
        have sg := same_upd (o := .tup [.int t.1, .int t.2.1, .int (t.2.2 * tm)]) ng
        have gD : g ≠ D := fun z => by
          rw [z, eD] at ng
          cases ng
        refine ⟨_, sg _ _ eD, ?_, same_put (H1 := H0) hD (s2.trans sg), _, upd_same, ?_⟩
        · rw [tV.1, List.length_take]
          exact Nat.lt_of_le_of_lt (Nat.min_le_left _ _) (small1000 (by omega))
        · have et : (sc tm cs).take (i + 1) = (sc tm cs).take i ++ [(t.1, t.2.1, t.2.2 * tm)] := by
            unfold sc
            rw [List.take_add_one, List.getElem?_map, hti]
            rfl
          rw [et]
          refine ((tV.same sg).sameT (sameT_put (sg _ _ eD) (Same.refl _))).snoc ?_
          rw [upd_ne gD, upd_same]
      obtain ⟨s2, vs, eD, tV⟩ := p
      have ll : (sc tm cs).length = cs.length := by
        unfold sc
        rw [List.length_map]
      rw [tc.1, ← ll, List.take_length] at tV
      refine ⟨D, _, rfl, .inl ⟨.inl (.inl eD), fun b2 nb2 => ?_⟩⟩
      have s3 := s2.trans (same_upd (o := .tup vs) nb2)
      have T3 : Trip (upd H2 b2 (.tup vs)) b2 (sc tm cs) := ⟨vs, upd_same, tV.same (same_upd nb2)⟩
      generalize upd H2 b2 (.tup vs) = H3 at s3 T3 ⊢
      clear tV eD s2 hD nb2
      -- the rows
      obtain ⟨vo, eo, lo_, ro⟩ := hT.same s3
      refine ⟨_, rfl, ow, rfl, ⟨vo, .inl (.inl eo)⟩, fun R hR => ?_⟩
      refine lc_tup (K := K) (a := ow) (xs := vo) (fun i H5 => Same H3 H5 ∧ ∃ rr : List Addr, H5 R = some (.lst (rr.map V.ref)) ∧ rr.length = i ∧ ∀ (j : Nat) (u : Addr), rr[j]? = some u → H5 u = some (.lst (gl (hi n 1) (tabE (sc tm cs) j)))) ⟨same_upd hR, [], upd_same, rfl, by simp⟩ (fun i H5 _ p => .inl (.inl (p.1 _ _ eo))) (fun i x H5 hxi p => ?_) (fun H5 p => ?_)
      · obtain ⟨s5, rr, eR, rl, ru⟩ := p
        have il : i < (hi n 1).toNat := by
          have := (List.getElem?_eq_some_iff.mp hxi).1
          omega
        obtain ⟨r, e1, e2⟩ := ro i il
        rw [hxi] at e1
        cases e1
        have er5 := s5 _ _ e2
        refine ⟨rfl, ?_⟩
        refine ⟨_, rfl, r, rfl, ⟨_, .inl (.inl er5)⟩, fun W_ hW => ?_⟩
        have sW : Same H5 (upd H5 W_ (.lst [])) := same_upd hW
        refine lc_tup (K := K) (a := r) (xs := gl (hi n 1) (tabE cs i)) (fun k H6 => H6 = upd H5 W_ (.lst ((gl (hi n 1) (tabE (sc tm cs) i)).take k))) rfl (fun k H6 _ p => by subst p; exact .inl (.inl (same_upd hW _ _ er5))) (fun k x H6 hxk p => ?_) (fun H6 p => ?_)
        · subst p
          have hk : k < (hi n 1).toNat := by
            have := (List.getElem?_eq_some_iff.mp hxk).1
            rw [gl_len] at this
            exact this
          rw [gl_nat _ hk] at hxk
          cases hxk
          refine ⟨rfl, ?_⟩
          have bb := bd (i : Int) (k : Int)
          refine ⟨_, rfl, _, rfl, _, _, rfl, rfl, .inr ⟨by omega, by omega⟩, _, upd_same, ?_, ?_⟩
          · rw [List.length_take, gl_len]
            exact Nat.lt_of_le_of_lt (Nat.min_le_right _ _) (small1000 (by omega))
          · rw [upd_upd, List.take_add_one, gl_nat _ hk, sc_tab]
            rfl
        subst p
        rw [show (gl (hi n 1) (tabE cs i)).length = (gl (hi n 1) (tabE (sc tm cs) i)).length by rw [gl_len, gl_len], List.take_length]
        have sA := same_upd (o := .lst (gl (hi n 1) (tabE (sc tm cs) i))) hW
        have WR : W_ ≠ R := fun z => by
          rw [z, eR] at hW
          cases hW
        refine ⟨_, sA _ _ eR, ?_, same_put (H1 := H3) hR (s5.trans sA), rr ++ [W_], ?_, ?_, ?_⟩
        · rw [List.length_map, rl]
          exact small1000 (by omega)
        · rw [upd_same, List.map_append]
          rfl
        · rw [List.length_append, rl]
          rfl
        · intro j v e
          by_cases hj : j < rr.length
          · rw [List.getElem?_append_left hj] at e
            have h5 := ru j v e
            have hv : v ≠ R := fun z => by
              rw [z, eR] at h5
              have e9 := Option.some.inj h5
              injection e9 with e9
              cases rr with
              | nil => simp at hj
              | cons r0 rr =>
                obtain ⟨m9, hm9⟩ : ∃ m9, (hi n 1).toNat = m9 + 1 := ⟨(hi n 1).toNat - 1, by omega⟩
                unfold gl at e9
                rw [hm9, List.range_succ_eq_map] at e9
                injection e9 with e9 _
                cases e9
            rw [upd_ne hv]
            exact sA _ _ h5
          · rw [List.getElem?_append_right (by omega)] at e
            have hk : j - rr.length = 0 := by
              cases hk : j - rr.length with
              | zero => rfl
              | succ k =>
                rw [hk] at e
                simp at e
            rw [hk] at e
            obtain rfl : W_ = v := Option.some.inj e
            have ej : j = i := by omega
            subst ej
            rw [upd_ne WR, upd_same]
      obtain ⟨s5, rr, eR, rl, ru⟩ := p
      have s05 := s3.trans s5
      have bd2 : ∀ x y : Int, 0 ≤ x → x < ((hi n 1).toNat : Int) → 0 ≤ y → y < ((hi n 1).toNat : Int) → 0 ≤ tabE (sc tm cs) x y ∧ tabE (sc tm cs) x y ≤ 2 ^ 58 := fun x y x0 x1 y0 y1 => by
        rw [sc_tab]
        exact ⟨Int.mul_nonneg (bd x y).1 (by omega), bt x y x0 (by omega) y0 (by omega)⟩
      exact qN n form b2 (sc tm cs) R rr _ _ _ _ _ _ _ _ _ _ _ _ H5 ⟨s05.seq hs, T3.same s5, ⟨eR, by rw [rl]; omega, fun j r e => by rw [hsz]; exact ru j r e⟩, n0, n1, sc_good hG t0, by rw [ll]; exact hl, bd2⟩
    refine ⟨_, (pss_cons (ps_set (i := 1) sc_law.nd rfl (.inl rfl) (pe_call G_p (hr.mono (by decide)) (by rfl) D_p.g D_p.F.kp D_p.b .nil pass0 (pa_cons (pe_call G_c (hr.mono (by decide)) (by rfl) D_c.g D_c.F.kp D_c.b .nil pass0 (pa_cons (pv 0) (pa_cons pe_int pa_nil))) pa_nil)))
        (pss_cons (ps_set (i := 2) sc_law.nd rfl (.inl rfl) (pe_call G_l (hr.mono (by decide)) (by rfl) D_l.g D_l.F.kp D_l.b .nil pass0 (pa_cons (pv 0) (pa_cons (pv 1) pa_nil))))
        (pss_cons (ps_set (i := 3) sc_law.nd rfl (.inl rfl) (pe_op op_mod (pe_callTy call_int1 (by rfl) T.b_int (by decide +kernel) (pa_cons (pe_call G_c (hr.mono (by decide)) (by rfl) D_c.g D_c.F.kp D_c.b .nil pass0 (pa_cons (pv 0) (pa_cons pe_int pa_nil))) pa_nil)) pe_int))
        (pss_cons (ps_set (i := 4) sc_law.nd rfl (.inl rfl) (pe_callB (call_max2 rfl) (by rfl) T.b_max (by decide +kernel) (pa_cons (pv 1) (pa_cons pe_int pa_nil))))
        (pss_cons (ps_set (i := 5) sc_law.nd rfl (.inl rfl) (pe_call G_lt (hr.mono (by decide)) (by rfl) D_lt.g D_lt.F.kp D_lt.b .nil pass0 (pa_cons (pv 1) (pa_cons (pv 2) pa_nil))))
        (pss_cons (ps_set (i := 6) sc_law.nd rfl (.inr rfl) pe_int)
        (pss_cons (ps_if (pt_cmpR op_eq (pe_op op_mod (pe_callTy call_int1 (by rfl) T.b_int (by decide +kernel) (pa_cons (pe_call G_c (hr.mono (by decide)) (by rfl) D_c.g D_c.F.kp D_c.b .nil pass0 (pa_cons (pv 0) (pa_cons pe_int pa_nil))) pa_nil)) pe_int) pe_int (nomark _)) (pss_one (ps_set (i := 6) sc_law.nd rfl (.inr rfl) (pe_op op_fdivN (pe_op op_pow pe_int pe_int) (pe_callB (cr_max rfl) (by rfl) T.b_max (by decide +kernel) (pa_cons (pe_op op_cat (pe_lc (own := [("_law_row", 15)]) (g := gName 15) (tt := tYes) rfl sc_law.nd (pi_tup (pv 5)) (blkOk_by (own := [("_law_row", 15)]) (N := ["_law_script", "_law_rim", "_law_bunch", "_law_form", "_law_size", "_law_own", "_law_times", "_law_rows", "_law_other", "_law_kind", "_law_grid", "_law_k", "_law_thing", "_law_lower", "_law_wrong_here", "_law_row", "_law_c", "_law_value"]) (sc := defScope s_law) (by decide +kernel)) (fun _ _ _ _ _ => (pg_name (i := 15) sc_law.nd rfl (.inl rfl))) (fun _ _ _ _ _ => pts_nil) (fun _ _ _ _ _ => (pe_callB (r := rMaxT K) (cr_maxTK rfl rfl) (by rfl) T.b_max (by decide +kernel) (pa_cons (pv 15) pa_nil)))) (pe_lst (pa_cons pe_int pa_nil))) pa_nil))))) pss_nil)
        hM))))))), ?_⟩
    refine ⟨_, rfl, z, ns, 0, rfl, hs, by decide, hn, fun c0 => ⟨c0, rfl, fun H1 n s1 n0 n1 => ?_⟩⟩
    have hs1 := s1.seq hs
    have hh := lo_hi n 1
    refine ⟨_, rfl, _, rfl, z, ns, n, rfl, hs1, hn, n0, by omega, fun H2 bn cs s2 hb hG hl bd => ?_⟩
    have hs2 := s2.seq hs1
    refine ⟨_, rfl, z, ns, 2, rfl, hs2, by decide, hn, fun c2 => .inl ⟨_, rfl, _, _, rfl, rfl, by show (0 : Int) < 8; decide, ?_⟩⟩
    refine ⟨_, rfl, n, 1, rfl, ?_⟩
    refine ⟨_, rfl, _, rfl, n, bn, cs, rfl, n0, by omega, hb, hG, by omega, fun H3 ow s3 hT => ?_⟩
    have hs3 := s3.seq hs2
    have bd : ∀ x y : Int, 0 ≤ tabE cs x y ∧ tabE cs x y ≤ 950000000 := fun x y => bd _
    refine ⟨_, rfl, z, ns, 23, rfl, hs3, by decide, hn, fun c23 => .inl ⟨_, rfl, _, _, rfl, rfl, by show (0 : Int) < 6; decide, rfl, _, rfl, ite2 (fun e1 => ?_) (fun e1 => qM n _ bn cs ow 1 _ _ _ _ _ _ _ _ _ _ _ H3 hs3 (hb.same s3) n0 n1 hG hl bd hT (by decide) (by decide) (fun x y _ _ _ _ => by have := (bd x y).2; omega))⟩⟩
    -- times
    refine ⟨_, _, rfl, rfl, ⟨by decide, by decide, by decide⟩, ?_⟩
    obtain ⟨vo, eo, lo_, ro⟩ := id hT
    refine ⟨_, rfl, ow, rfl, ⟨vo, .inl (.inl eo)⟩, fun D hD => ?_⟩
    refine lc_tup (K := K) (a := ow) (xs := vo) (fun i H5 => ∃ ms : List Int, H5 = upd H3 D (.lst (ms.map V.int)) ∧ ms.length = i ∧ (∀ m ∈ ms, 0 ≤ m ∧ m ≤ 950000000) ∧ ∀ x y : Nat, x < i → y < (hi n 1).toNat → ∃ m ∈ ms, tabE cs x y ≤ m) ⟨[], rfl, rfl, (fun m h => nomatch h), fun x y h => absurd h (Nat.not_lt_zero _)⟩ (fun i H5 _ p => by obtain ⟨ms, e, _⟩ := p; subst e; exact .inl (.inl (same_upd hD _ _ eo))) (fun i x H5 hxi p => ?_) (fun H5 p => ?_)
    · obtain ⟨ms, e, lm, bm, rm⟩ := p
      subst e
      have il : i < (hi n 1).toNat := by
        have := (List.getElem?_eq_some_iff.mp hxi).1
        omega
      obtain ⟨r, e1, e2⟩ := ro i il
      rw [hxi] at e1
      cases e1
      refine ⟨rfl, ?_⟩
      have eg : gl (hi n 1) (tabE cs i) = ((List.range (hi n 1).toNat).map fun j : Nat => tabE cs i (j : Int)).map V.int := by
        unfold gl
        rw [List.map_map]
        rfl
      refine ⟨_, rfl, r, (List.range (hi n 1).toNat).map fun j : Nat => tabE cs i (j : Int), rfl, .inl (.inl (same_upd hD _ _ (by rw [← eg]; exact e2))), by rw [List.length_map, List.length_range]; omega, fun m hm hx => ?_⟩
      obtain ⟨j, _, ej⟩ := List.mem_map.mp hm
      refine ⟨_, upd_same, ?_, ms ++ [m], ?_, ?_, fun k hk => ?_, fun x y xi yi => ?_⟩
      · rw [List.length_map, lm]
        exact small1000 (by omega)
      · rw [upd_upd, List.map_append]
        rfl
      · rw [List.length_append, lm]
        rfl
      · rcases List.mem_append.mp hk with h | h
        · exact bm k h
        · rw [List.mem_singleton.mp h, ← ej]
          exact bd _ _
      · by_cases lt : x < i
        · obtain ⟨k, hk, le⟩ := rm x y lt yi
          exact ⟨k, List.mem_append_left _ hk, le⟩
        · refine ⟨m, List.mem_append_right _ (List.mem_singleton.mpr rfl), ?_⟩
          rw [show x = i by omega]
          exact hx _ (List.mem_map.mpr ⟨y, List.mem_range.mpr yi, rfl⟩)
    obtain ⟨ms, e, lm, bm, rm⟩ := p
    subst e
    refine ⟨by show 1 ≤ sizeLine; decide, fun b nb => ⟨D, b, _, _, rfl, rfl, same_upd nb _ _ upd_same, upd_same, ?_, fun p np => ⟨p, ms ++ [1], rfl, ?_, ?_, fun m hm hle => ?_⟩⟩⟩
    · rw [List.length_map]
      exact Nat.le_of_lt (small1000 (show ms.length + 1 ≤ 1000 by omega))
    · rw [List.map_append]
      exact .inl (.inl upd_same)
    · rw [List.length_append]
      show 0 < _ + 1
      omega
    have m1 : 1 ≤ m := hle 1 (List.mem_append_right _ (List.mem_singleton.mpr rfl))
    have m2 : m ≤ 950000000 := by
      rcases List.mem_append.mp hm with h | h
      · exact (bm m h).2
      · rw [List.mem_singleton.mp h]
        decide
    have sE := ((same_upd (o := .lst (ms.map V.int)) hD).trans (same_upd (o := .lst [.int 1]) nb)).trans (same_upd (o := .lst (ms.map V.int ++ [.int 1])) np)
    generalize upd (upd (upd H3 D (.lst (ms.map V.int))) b (.lst [.int 1])) p (.lst (ms.map V.int ++ [.int 1])) = H4 at sE ⊢
    refine ⟨_, _, rfl, rfl, ⟨by omega, by omega⟩, ?_⟩
    have e9 : (10 : Int) ^ Int.toNat 9 = 1000000000 := by decide
    rw [e9]
    have fd : 1 ≤ (1000000000 : Int).fdiv m ∧ (1000000000 : Int).fdiv m ≤ 1000000000 := by
      rw [Int.fdiv_eq_ediv_of_nonneg _ (by omega)]
      exact ⟨(Int.le_ediv_iff_mul_le (by omega)).mpr (by omega), Int.ediv_le_self _ (by decide)⟩
    have bt : ∀ x y : Int, 0 ≤ x → x < hi n 1 → 0 ≤ y → y < hi n 1 → tabE cs x y * (1000000000 : Int).fdiv m ≤ 2 ^ 58 := fun x y x0 x1 y0 y1 => by
      obtain ⟨k, hk, le⟩ := rm x.toNat y.toNat (by omega) (by omega)
      rw [show ((x.toNat : Nat) : Int) = x by omega, show ((y.toNat : Nat) : Int) = y by omega] at le
      have km := hle k (List.mem_append_left _ hk)
      have h1 : tabE cs x y * (1000000000 : Int).fdiv m ≤ m * (1000000000 : Int).fdiv m := Int.mul_le_mul_of_nonneg_right (by omega) (by omega)
      have h2 : m * (1000000000 : Int).fdiv m ≤ 1000000000 := by
        rw [Int.fdiv_eq_ediv_of_nonneg _ (by omega)]
        exact Int.mul_ediv_self_le (by omega)
      omega
    exact qM n _ bn cs ow _ _ _ _ _ _ _ _ _ _ _ _ H4 (sE.seq hs3) ((hb.same s3).same sE) n0 n1 hG hl bd (hT.same sE) fd.1 fd.2 bt
end
end Own

namespace Own
open PySem PySem.Spec PyProof.Rows L2
/-! ### an own error's class and its base -/
theorem sup_of {K : PySem.W.Frag} {D R N M : Addr} {n1 n2 n3 n4 : Str} {b1 b2 s1 s2 bm : List Value} {h1 h2 a1 a2 : Bool} {l1 l2 : List Str} {c1 c2 : Option Bool} {d1 d2 : Option Addr} {k0 k1 k2 k3 k5 j0 j1 j2 j3 j5 : Option Value} {i1 i2 : String} {v : Option Value}
    (lD : K.lookup D = some (excClassObj n1 n2 D N b1 (.ref R :: bm) h1 l1 s1 a1 c1 d1 k0 k1 k2 k3 k5 i1)) (lR : K.lookup R = some (excClassObj n3 n4 R M b2 bm h2 l2 s2 a2 c2 d2 j0 j1 j2 j3 j5 i2)) (iR : PySem.W.findIn K (.ref R) "__init__" = some v) : PySem.W.ks_superIn K D D "__init__" = some v := by
  have iR : (match K.lookup R with
      | some ⟨_, _, .cls cd, _⟩ => PySem.W.alongIn K "__init__" cd.mro
      | _ => none) = some v := iR
  rw [lR] at iR
  unfold PySem.W.ks_superIn PySem.W.clsIn
  rw [lD]
  have e : ((Value.ref D :: .ref R :: bm).dropWhile (· != .ref D)).drop 1 = .ref R :: bm := by simp [List.dropWhile]
  show PySem.W.alongIn K "__init__" (((Value.ref D :: .ref R :: bm).dropWhile (· != .ref D)).drop 1) = some v
  rw [e]
  exact iR
theorem kit_ref {K : PySem.W.Frag} {D c : Addr} {b : Bool} (hd : PySem.W.subIn K (.ref D) (.ref D) = some true) (h1 : PySem.W.isClsIn K c = true) (h2 : PySem.W.typeIn K (.ref c) = some (.type "type")) (h3 : PySem.W.subIn K (.ref D) (.ref c) = some b) : PySem.W.kitOne K (.ref D) (.ref c) = some b := by
  unfold PySem.W.kitOne
  by_cases h : (Value.ref D == Value.ref c) = true
  · rw [if_pos h]
    have e : D = c := Value.ref.inj (beq_iff_eq.mp h)
    subst e
    exact hd.symm.trans h3
  · rw [if_neg h]
    show (if ((PySem.W.clsIn K c).isSome && PySem.W.typeIn K (.ref c) == some (.type "type")) = true then PySem.W.subIn K (.ref D) (.ref c) else none) = some b
    have e : ((PySem.W.clsIn K c).isSome && PySem.W.typeIn K (.ref c) == some (.type "type")) = true := by
      have h1 : (PySem.W.clsIn K c).isSome = true := h1
      rw [h1, h2]
      rfl
    rw [if_pos e]
    exact h3
theorem kit_ve {K : PySem.W.Frag} {D : Addr} {b : Bool} (h : PySem.W.subIn K (.ref D) (.type "ValueError") = some b) : PySem.W.kitOne K (.ref D) (.type "ValueError") = some b := by
  unfold PySem.W.kitOne
  rw [if_neg fun z : (Value.ref D == Value.type "ValueError") = true => by cases beq_iff_eq.mp z]
  show (if PySem.W.kitMeta "ValueError" = true then PySem.W.subIn K (.ref D) (.type "ValueError") else none) = some b
  rw [if_pos (by decide +kernel)]
  exact h
def cOf (a b c d e f : Addr) : String → Addr := fun n => if n = "NoLot" then a else if n = "BadPins" then b else if n = "BadCord" then c else if n = "BadNumber" then d else if n = "BadTable" then e else f
theorem cOf0 {a b c d e f : Addr} : cOf a b c d e f "NoLot" = a := by simp [cOf]
theorem cOf1 {a b c d e f : Addr} : cOf a b c d e f "BadPins" = b := by simp [cOf]
theorem cOf2 {a b c d e f : Addr} : cOf a b c d e f "BadCord" = c := by simp [cOf]
theorem cOf3 {a b c d e f : Addr} : cOf a b c d e f "BadNumber" = d := by simp [cOf]
theorem cOf4 {a b c d e f : Addr} : cOf a b c d e f "BadTable" = e := by simp [cOf]
theorem cOf5 {a b c d e f : Addr} : cOf a b c d e f "RimError" = f := by simp [cOf]
theorem vals_rev : ∀ {vs : List V} {us : List Value}, Vals vs us → Vals vs.reverse us.reverse
  | [], _, h => by
    cases h
    exact .nil
  | v :: vs, _, h => by
    cases h with
    | cons r t =>
      rw [List.reverse_cons, List.reverse_cons]
      exact (vals_rev t).append (.cons r .nil)
/-- a def of two parameters, called by both keywords, the second one first -/
theorem kb_rev {K : PySem.W.Frag} {x qual : Str} {st : Stmt} {f : Addr} {fd : FuncData} {a b : Str} (F : Fun K x qual st f fd)
    (h : ∀ (kV doc pm : Value) (an : Option Addr) (cdv ct u v : Value), bindArgs (PySem.W.fnOf x qual (defArgs st) (defBody st) (defScope st) .none kV doc pm an cdv ct) ⟨[], [(b, u), (a, v)]⟩ = pure [(a, v), (b, u)]) :
    KBn K fd [a, b] 0 [b, a] (fun us ws => us ++ ws.reverse) (fun vs zs => vs ++ zs.reverse) := by
  obtain ⟨oc, od, kV, doc, pm, an, cdv, ct, osl, rfl, lk, hcd⟩ := F.ex
  refine ⟨fun s us ws _ hu hw => ?_, fun r1 r2 => r1.append (vals_rev r2)⟩
  match us, hu, ws, hw with
  | [], _, [u, v], _ => exact .of_eq (h kV doc pm an cdv ct u v)
/-! ### what the top has left -/
theorem df_mk {K : PySem.W.Frag} {mg : Str → Option Value} {x : Str} {st : Stmt} {ps : List Str} {h : Heap} {f : Addr} {oc : Value} {od an : Option Addr} {osl : Array (Option Value)} {kV doc pm cdv ct : Value} (X : K.In h) (G : h.Ns mainGlobals mg)
    (a : PySem.W.nsIn K mainGlobals x = some (some (.ref f))) (l : K.lookup f = some ⟨oc, od, .func (PySem.W.fnOf x x (defArgs st) (defBody st) (defScope st) .none kV doc pm an cdv ct), osl⟩) (c : PySem.W.codeIn K cdv x = true) (k : PySem.W.keepIn K (.ref f) = true)
    (b : ∀ (kV doc pm : Value) (an : Option Addr) (cdv ct : Value) (us : List Value), us.length = ps.length → bindArgs (PySem.W.fnOf x x (defArgs st) (defBody st) (defScope st) .none kV doc pm an cdv ct) ⟨us, []⟩ = pure (ps.zip us)) :
    Df K mg x st ps f (PySem.W.fnOf x x (defArgs st) (defBody st) (defScope st) .none kV doc pm an cdv ct) :=
  ⟨fun_mk l c k, PySem.W.mg_of X G a, (fun_mk l c k).binds b⟩
set_option maxHeartbeats 0 in
theorem all_mk {lw : PySem.W.OpenLaw} {w : World} {K : PySem.W.Frag} {h : Heap} {mg : Str → Option Value} {fa C p_table z T_d f1 f2 f3 f4 f5 f6 f7 f8 f9 f10 f11 f12 f13 f14 f15 f16 f17 f18 f19 f20 f21 f22 f23 f24 f25 f26 f27 f28 f29 f30 f31 f32 f33 f34 f35 f36 f37 f38 f39 f40 f41 f42 f43 f44 f45 DU ccU cdaU fuU NU DN ccN cdaN fuN NN DB ccB cdaB fuB NB DO ccO cdaO fuO NO c_bn c_re NR : Addr} {nmR qR : Str} {niR : String} {bsR subR : List Value} {snR : List Str} {abR hdR : Bool} {colR : Option Bool} {ddR : Option Addr} {m0r m1r m2r m3r m5r : Option Value} {nmU qU fileU : Str} {bsU subU : List Value} {snU : List Str} {abU : Bool} {colU : Option Bool} {ddU odU anU cldU cddU : Option Addr} {m0U m1U m2U m3U m5U : Option Value} {ocU kVU dcU pmU ctU clU cclU : Value} {slU cslU ccsU : Array (Option Value)} {vsU : Array Value} {tfU : Tok} {nmN qN fileN : Str} {bsN subN : List Value} {snN : List Str} {abN : Bool} {colN : Option Bool} {ddN odN anN cldN cddN : Option Addr} {m0N m1N m2N m3N m5N : Option Value} {ocN kVN dcN pmN ctN clN cclN : Value} {slN cslN ccsN : Array (Option Value)} {vsN : Array Value} {tfN : Tok} {nmB qB fileB : Str} {bsB subB : List Value} {snB : List Str} {abB : Bool} {colB : Option Bool} {ddB odB anB cldB cddB : Option Addr} {m0B m1B m2B m3B m5B : Option Value} {ocB kVB dcB pmB ctB clB cclB : Value} {slB cslB ccsB : Array (Option Value)} {vsB : Array Value} {tfB : Tok} {nmO qO fileO : Str} {bsO subO : List Value} {snO : List Str} {abO : Bool} {colO : Option Bool} {ddO odO anO cldO cddO : Option Addr} {m0O m1O m2O m3O m5O : Option Value} {ocO kVO dcO pmO ctO clO cclO : Value} {slO cslO ccsO : Array (Option Value)} {vsO : Array Value} {tfO : Tok} (X : K.In h) (G : h.Ns mainGlobals mg) (hfa : mg "law" = some (.ref fa))
    {odT odz od1 an1 od2 an2 od3 an3 od4 an4 od5 an5 od6 an6 od7 an7 od8 an8 od9 an9 od10 an10 od11 an11 od12 an12 od13 an13 od14 an14 od15 an15 od16 an16 od17 an17 od18 an18 od19 an19 od20 an20 od21 an21 od22 an22 od23 an23 od24 an24 od25 an25 od26 an26 od27 an27 od28 an28 od29 an29 od30 an30 od31 an31 od32 an32 od33 an33 od34 an34 od35 an35 od36 an36 od37 an37 od38 an38 od39 an39 od40 an40 od41 an41 od42 an42 od43 an43 od44 an44 od45 an45 : Option Addr} {slT slz sl1 sl2 sl3 sl4 sl5 sl6 sl7 sl8 sl9 sl10 sl11 sl12 sl13 sl14 sl15 sl16 sl17 sl18 sl19 sl20 sl21 sl22 sl23 sl24 sl25 sl26 sl27 sl28 sl29 sl30 sl31 sl32 sl33 sl34 sl35 sl36 sl37 sl38 sl39 sl40 sl41 sl42 sl43 sl44 sl45 : Array (Option Value)} {ocT oc1 kV1 dc1 pm1 cd1 ct1 oc2 kV2 dc2 pm2 cd2 ct2 oc3 kV3 dc3 pm3 cd3 ct3 oc4 kV4 dc4 pm4 cd4 ct4 oc5 kV5 dc5 pm5 cd5 ct5 oc6 kV6 dc6 pm6 cd6 ct6 oc7 kV7 dc7 pm7 cd7 ct7 oc8 kV8 dc8 pm8 cd8 ct8 oc9 kV9 dc9 pm9 cd9 ct9 oc10 kV10 dc10 pm10 cd10 ct10 oc11 kV11 dc11 pm11 cd11 ct11 oc12 kV12 dc12 pm12 cd12 ct12 oc13 kV13 dc13 pm13 cd13 ct13 oc14 kV14 dc14 pm14 cd14 ct14 oc15 kV15 dc15 pm15 cd15 ct15 oc16 kV16 dc16 pm16 cd16 ct16 oc17 kV17 dc17 pm17 cd17 ct17 oc18 kV18 dc18 pm18 cd18 ct18 oc19 kV19 dc19 pm19 cd19 ct19 oc20 kV20 dc20 pm20 cd20 ct20 oc21 kV21 dc21 pm21 cd21 ct21 oc22 kV22 dc22 pm22 cd22 ct22 oc23 kV23 dc23 pm23 cd23 ct23 oc24 kV24 dc24 pm24 cd24 ct24 oc25 kV25 dc25 pm25 cd25 ct25 oc26 kV26 dc26 pm26 cd26 ct26 oc27 kV27 dc27 pm27 cd27 ct27 oc28 kV28 dc28 pm28 cd28 ct28 oc29 kV29 dc29 pm29 cd29 ct29 oc30 kV30 dc30 pm30 cd30 ct30 oc31 kV31 dc31 pm31 cd31 ct31 oc32 kV32 dc32 pm32 cd32 ct32 oc33 kV33 dc33 pm33 cd33 ct33 oc34 kV34 dc34 pm34 cd34 ct34 oc35 kV35 dc35 pm35 cd35 ct35 oc36 kV36 dc36 pm36 cd36 ct36 oc37 kV37 dc37 pm37 cd37 ct37 oc38 kV38 dc38 pm38 cd38 ct38 oc39 kV39 dc39 pm39 cd39 ct39 oc40 kV40 dc40 pm40 cd40 ct40 oc41 kV41 dc41 pm41 cd41 ct41 oc42 kV42 dc42 pm42 cd42 ct42 oc43 kV43 dc43 pm43 cd43 ct43 oc44 kV44 dc44 pm44 cd44 ct44 oc45 kV45 dc45 pm45 cd45 ct45 : Value} {nT nz : Nat} {rest_table : List Value}
    (a1 : PySem.W.nsIn K mainGlobals "gaps" = some (some (.ref f1)))
    (l1 : K.lookup f1 = some ⟨oc1, od1, .func (PySem.W.fnOf "gaps" "gaps" (defArgs s_gaps) (defBody s_gaps) (defScope s_gaps) .none kV1 dc1 pm1 an1 cd1 ct1), sl1⟩)
    (c1 : PySem.W.codeIn K cd1 "gaps" = true)
    (k1 : PySem.W.keepIn K (.ref f1) = true)
    (a2 : PySem.W.nsIn K mainGlobals "is_whole" = some (some (.ref f2)))
    (l2 : K.lookup f2 = some ⟨oc2, od2, .func (PySem.W.fnOf "is_whole" "is_whole" (defArgs s_is_whole) (defBody s_is_whole) (defScope s_is_whole) .none kV2 dc2 pm2 an2 cd2 ct2), sl2⟩)
    (c2 : PySem.W.codeIn K cd2 "is_whole" = true)
    (k2 : PySem.W.keepIn K (.ref f2) = true)
    (a3 : PySem.W.nsIn K mainGlobals "is_sequence" = some (some (.ref f3)))
    (l3 : K.lookup f3 = some ⟨oc3, od3, .func (PySem.W.fnOf "is_sequence" "is_sequence" (defArgs s_is_sequence) (defBody s_is_sequence) (defScope s_is_sequence) .none kV3 dc3 pm3 an3 cd3 ct3), sl3⟩)
    (c3 : PySem.W.codeIn K cd3 "is_sequence" = true)
    (k3 : PySem.W.keepIn K (.ref f3) = true)
    (a4 : PySem.W.nsIn K mainGlobals "is_below" = some (some (.ref f4)))
    (l4 : K.lookup f4 = some ⟨oc4, od4, .func (PySem.W.fnOf "is_below" "is_below" (defArgs s_is_below) (defBody s_is_below) (defScope s_is_below) .none kV4 dc4 pm4 an4 cd4 ct4), sl4⟩)
    (c4 : PySem.W.codeIn K cd4 "is_below" = true)
    (k4 : PySem.W.keepIn K (.ref f4) = true)
    (a5 : PySem.W.nsIn K mainGlobals "check_pins" = some (some (.ref f5)))
    (l5 : K.lookup f5 = some ⟨oc5, od5, .func (PySem.W.fnOf "check_pins" "check_pins" (defArgs s_check_pins) (defBody s_check_pins) (defScope s_check_pins) .none kV5 dc5 pm5 an5 cd5 ct5), sl5⟩)
    (c5 : PySem.W.codeIn K cd5 "check_pins" = true)
    (k5 : PySem.W.keepIn K (.ref f5) = true)
    (a6 : PySem.W.nsIn K mainGlobals "is_entry" = some (some (.ref f6)))
    (l6 : K.lookup f6 = some ⟨oc6, od6, .func (PySem.W.fnOf "is_entry" "is_entry" (defArgs s_is_entry) (defBody s_is_entry) (defScope s_is_entry) .none kV6 dc6 pm6 an6 cd6 ct6), sl6⟩)
    (c6 : PySem.W.codeIn K cd6 "is_entry" = true)
    (k6 : PySem.W.keepIn K (.ref f6) = true)
    (a7 : PySem.W.nsIn K mainGlobals "gathered" = some (some (.ref f7)))
    (l7 : K.lookup f7 = some ⟨oc7, od7, .func (PySem.W.fnOf "gathered" "gathered" (defArgs s_gathered) (defBody s_gathered) (defScope s_gathered) .none kV7 dc7 pm7 an7 cd7 ct7), sl7⟩)
    (c7 : PySem.W.codeIn K cd7 "gathered" = true)
    (k7 : PySem.W.keepIn K (.ref f7) = true)
    (a8 : PySem.W.nsIn K mainGlobals "cord_grid" = some (some (.ref f8)))
    (l8 : K.lookup f8 = some ⟨oc8, od8, .func (PySem.W.fnOf "cord_grid" "cord_grid" (defArgs s_cord_grid) (defBody s_cord_grid) (defScope s_cord_grid) .none kV8 dc8 pm8 an8 cd8 ct8), sl8⟩)
    (c8 : PySem.W.codeIn K cd8 "cord_grid" = true)
    (k8 : PySem.W.keepIn K (.ref f8) = true)
    (a9 : PySem.W.nsIn K mainGlobals "sums_before" = some (some (.ref f9)))
    (l9 : K.lookup f9 = some ⟨oc9, od9, .func (PySem.W.fnOf "sums_before" "sums_before" (defArgs s_sums_before) (defBody s_sums_before) (defScope s_sums_before) .none kV9 dc9 pm9 an9 cd9 ct9), sl9⟩)
    (c9 : PySem.W.codeIn K cd9 "sums_before" = true)
    (k9 : PySem.W.keepIn K (.ref f9) = true)
    (a10 : PySem.W.nsIn K mainGlobals "table_rows" = some (some (.ref f10)))
    (l10 : K.lookup f10 = some ⟨oc10, od10, .func (PySem.W.fnOf "table_rows" "table_rows" (defArgs s_table_rows) (defBody s_table_rows) (defScope s_table_rows) .none kV10 dc10 pm10 an10 cd10 ct10), sl10⟩)
    (c10 : PySem.W.codeIn K cd10 "table_rows" = true)
    (k10 : PySem.W.keepIn K (.ref f10) = true)
    (a11 : PySem.W.nsIn K mainGlobals "twice_between" = some (some (.ref f11)))
    (l11 : K.lookup f11 = some ⟨oc11, od11, .func (PySem.W.fnOf "twice_between" "twice_between" (defArgs s_twice_between) (defBody s_twice_between) (defScope s_twice_between) .none kV11 dc11 pm11 an11 cd11 ct11), sl11⟩)
    (c11 : PySem.W.codeIn K cd11 "twice_between" = true)
    (k11 : PySem.W.keepIn K (.ref f11) = true)
    (a12 : PySem.W.nsIn K mainGlobals "cords_of_table" = some (some (.ref f12)))
    (l12 : K.lookup f12 = some ⟨oc12, od12, .func (PySem.W.fnOf "cords_of_table" "cords_of_table" (defArgs s_cords_of_table) (defBody s_cords_of_table) (defScope s_cords_of_table) .none kV12 dc12 pm12 an12 cd12 ct12), sl12⟩)
    (c12 : PySem.W.codeIn K cd12 "cords_of_table" = true)
    (k12 : PySem.W.keepIn K (.ref f12) = true)
    (a13 : PySem.W.nsIn K mainGlobals "lot_of" = some (some (.ref f13)))
    (l13 : K.lookup f13 = some ⟨oc13, od13, .func (PySem.W.fnOf "lot_of" "lot_of" (defArgs s_lot_of) (defBody s_lot_of) (defScope s_lot_of) .none kV13 dc13 pm13 an13 cd13 ct13), sl13⟩)
    (c13 : PySem.W.codeIn K cd13 "lot_of" = true)
    (k13 : PySem.W.keepIn K (.ref f13) = true)
    (a14 : PySem.W.nsIn K mainGlobals "check_table" = some (some (.ref f14)))
    (l14 : K.lookup f14 = some ⟨oc14, od14, .func (PySem.W.fnOf "check_table" "check_table" (defArgs s_check_table) (defBody s_check_table) (defScope s_check_table) .none kV14 dc14 pm14 an14 cd14 ct14), sl14⟩)
    (c14 : PySem.W.codeIn K cd14 "check_table" = true)
    (k14 : PySem.W.keepIn K (.ref f14) = true)
    (a15 : PySem.W.nsIn K mainGlobals "is_place_right" = some (some (.ref f15)))
    (l15 : K.lookup f15 = some ⟨oc15, od15, .func (PySem.W.fnOf "is_place_right" "is_place_right" (defArgs s_is_place_right) (defBody s_is_place_right) (defScope s_is_place_right) .none kV15 dc15 pm15 an15 cd15 ct15), sl15⟩)
    (c15 : PySem.W.codeIn K cd15 "is_place_right" = true)
    (k15 : PySem.W.keepIn K (.ref f15) = true)
    (a16 : PySem.W.nsIn K mainGlobals "_law_whole" = some (some (.ref f16)))
    (l16 : K.lookup f16 = some ⟨oc16, od16, .func (PySem.W.fnOf "_law_whole" "_law_whole" (defArgs s__law_whole) (defBody s__law_whole) (defScope s__law_whole) .none kV16 dc16 pm16 an16 cd16 ct16), sl16⟩)
    (c16 : PySem.W.codeIn K cd16 "_law_whole" = true)
    (k16 : PySem.W.keepIn K (.ref f16) = true)
    (a17 : PySem.W.nsIn K mainGlobals "_law_cell" = some (some (.ref f17)))
    (l17 : K.lookup f17 = some ⟨oc17, od17, .func (PySem.W.fnOf "_law_cell" "_law_cell" (defArgs s__law_cell) (defBody s__law_cell) (defScope s__law_cell) .none kV17 dc17 pm17 an17 cd17 ct17), sl17⟩)
    (c17 : PySem.W.codeIn K cd17 "_law_cell" = true)
    (k17 : PySem.W.keepIn K (.ref f17) = true)
    (a18 : PySem.W.nsIn K mainGlobals "_law_digits" = some (some (.ref f18)))
    (l18 : K.lookup f18 = some ⟨oc18, od18, .func (PySem.W.fnOf "_law_digits" "_law_digits" (defArgs s__law_digits) (defBody s__law_digits) (defScope s__law_digits) .none kV18 dc18 pm18 an18 cd18 ct18), sl18⟩)
    (c18 : PySem.W.codeIn K cd18 "_law_digits" = true)
    (k18 : PySem.W.keepIn K (.ref f18) = true)
    (a19 : PySem.W.nsIn K mainGlobals "_law_same" = some (some (.ref f19)))
    (l19 : K.lookup f19 = some ⟨oc19, od19, .func (PySem.W.fnOf "_law_same" "_law_same" (defArgs s__law_same) (defBody s__law_same) (defScope s__law_same) .none kV19 dc19 pm19 an19 cd19 ct19), sl19⟩)
    (c19 : PySem.W.codeIn K cd19 "_law_same" = true)
    (k19 : PySem.W.keepIn K (.ref f19) = true)
    (a20 : PySem.W.nsIn K mainGlobals "_law_norm" = some (some (.ref f20)))
    (l20 : K.lookup f20 = some ⟨oc20, od20, .func (PySem.W.fnOf "_law_norm" "_law_norm" (defArgs s__law_norm) (defBody s__law_norm) (defScope s__law_norm) .none kV20 dc20 pm20 an20 cd20 ct20), sl20⟩)
    (c20 : PySem.W.codeIn K cd20 "_law_norm" = true)
    (k20 : PySem.W.keepIn K (.ref f20) = true)
    (a21 : PySem.W.nsIn K mainGlobals "_law_table" = some (some (.ref f21)))
    (l21 : K.lookup f21 = some ⟨oc21, od21, .func (PySem.W.fnOf "_law_table" "_law_table" (defArgs s__law_table) (defBody s__law_table) (defScope s__law_table) .none kV21 dc21 pm21 an21 cd21 ct21), sl21⟩)
    (c21 : PySem.W.codeIn K cd21 "_law_table" = true)
    (k21 : PySem.W.keepIn K (.ref f21) = true)
    (a22 : PySem.W.nsIn K mainGlobals "_law_lot_is" = some (some (.ref f22)))
    (l22 : K.lookup f22 = some ⟨oc22, od22, .func (PySem.W.fnOf "_law_lot_is" "_law_lot_is" (defArgs s__law_lot_is) (defBody s__law_lot_is) (defScope s__law_lot_is) .none kV22 dc22 pm22 an22 cd22 ct22), sl22⟩)
    (c22 : PySem.W.codeIn K cd22 "_law_lot_is" = true)
    (k22 : PySem.W.keepIn K (.ref f22) = true)
    (a23 : PySem.W.nsIn K mainGlobals "_law_pins" = some (some (.ref f23)))
    (l23 : K.lookup f23 = some ⟨oc23, od23, .func (PySem.W.fnOf "_law_pins" "_law_pins" (defArgs s__law_pins) (defBody s__law_pins) (defScope s__law_pins) .none kV23 dc23 pm23 an23 cd23 ct23), sl23⟩)
    (c23 : PySem.W.codeIn K cd23 "_law_pins" = true)
    (k23 : PySem.W.keepIn K (.ref f23) = true)
    (a24 : PySem.W.nsIn K mainGlobals "_law_lot" = some (some (.ref f24)))
    (l24 : K.lookup f24 = some ⟨oc24, od24, .func (PySem.W.fnOf "_law_lot" "_law_lot" (defArgs s__law_lot) (defBody s__law_lot) (defScope s__law_lot) .none kV24 dc24 pm24 an24 cd24 ct24), sl24⟩)
    (c24 : PySem.W.codeIn K cd24 "_law_lot" = true)
    (k24 : PySem.W.keepIn K (.ref f24) = true)
    (a25 : PySem.W.nsIn K mainGlobals "_law_free" = some (some (.ref f25)))
    (l25 : K.lookup f25 = some ⟨oc25, od25, .func (PySem.W.fnOf "_law_free" "_law_free" (defArgs s__law_free) (defBody s__law_free) (defScope s__law_free) .none kV25 dc25 pm25 an25 cd25 ct25), sl25⟩)
    (c25 : PySem.W.codeIn K cd25 "_law_free" = true)
    (k25 : PySem.W.keepIn K (.ref f25) = true)
    (a26 : PySem.W.nsIn K mainGlobals "_law_strange" = some (some (.ref f26)))
    (l26 : K.lookup f26 = some ⟨oc26, od26, .func (PySem.W.fnOf "_law_strange" "_law_strange" (defArgs s__law_strange) (defBody s__law_strange) (defScope s__law_strange) .none kV26 dc26 pm26 an26 cd26 ct26), sl26⟩)
    (c26 : PySem.W.codeIn K cd26 "_law_strange" = true)
    (k26 : PySem.W.keepIn K (.ref f26) = true)
    (a27 : PySem.W.nsIn K mainGlobals "_law_no_row" = some (some (.ref f27)))
    (l27 : K.lookup f27 = some ⟨oc27, od27, .func (PySem.W.fnOf "_law_no_row" "_law_no_row" (defArgs s__law_no_row) (defBody s__law_no_row) (defScope s__law_no_row) .none kV27 dc27 pm27 an27 cd27 ct27), sl27⟩)
    (c27 : PySem.W.codeIn K cd27 "_law_no_row" = true)
    (k27 : PySem.W.keepIn K (.ref f27) = true)
    (a28 : PySem.W.nsIn K mainGlobals "_law_behind" = some (some (.ref f28)))
    (l28 : K.lookup f28 = some ⟨oc28, od28, .func (PySem.W.fnOf "_law_behind" "_law_behind" (defArgs s__law_behind) (defBody s__law_behind) (defScope s__law_behind) .none kV28 dc28 pm28 an28 cd28 ct28), sl28⟩)
    (c28 : PySem.W.codeIn K cd28 "_law_behind" = true)
    (k28 : PySem.W.keepIn K (.ref f28) = true)
    (a29 : PySem.W.nsIn K mainGlobals "_law_changed" = some (some (.ref f29)))
    (l29 : K.lookup f29 = some ⟨oc29, od29, .func (PySem.W.fnOf "_law_changed" "_law_changed" (defArgs s__law_changed) (defBody s__law_changed) (defScope s__law_changed) .none kV29 dc29 pm29 an29 cd29 ct29), sl29⟩)
    (c29 : PySem.W.codeIn K cd29 "_law_changed" = true)
    (k29 : PySem.W.keepIn K (.ref f29) = true)
    (a30 : PySem.W.nsIn K mainGlobals "_law_spoilt" = some (some (.ref f30)))
    (l30 : K.lookup f30 = some ⟨oc30, od30, .func (PySem.W.fnOf "_law_spoilt" "_law_spoilt" (defArgs s__law_spoilt) (defBody s__law_spoilt) (defScope s__law_spoilt) .none kV30 dc30 pm30 an30 cd30 ct30), sl30⟩)
    (c30 : PySem.W.codeIn K cd30 "_law_spoilt" = true)
    (k30 : PySem.W.keepIn K (.ref f30) = true)
    (a31 : PySem.W.nsIn K mainGlobals "_law_wrong" = some (some (.ref f31)))
    (l31 : K.lookup f31 = some ⟨oc31, od31, .func (PySem.W.fnOf "_law_wrong" "_law_wrong" (defArgs s__law_wrong) (defBody s__law_wrong) (defScope s__law_wrong) .none kV31 dc31 pm31 an31 cd31 ct31), sl31⟩)
    (c31 : PySem.W.codeIn K cd31 "_law_wrong" = true)
    (k31 : PySem.W.keepIn K (.ref f31) = true)
    (a32 : PySem.W.nsIn K mainGlobals "_law_none" = some (some (.ref f32)))
    (l32 : K.lookup f32 = some ⟨oc32, od32, .func (PySem.W.fnOf "_law_none" "_law_none" (defArgs s__law_none) (defBody s__law_none) (defScope s__law_none) .none kV32 dc32 pm32 an32 cd32 ct32), sl32⟩)
    (c32 : PySem.W.codeIn K cd32 "_law_none" = true)
    (k32 : PySem.W.keepIn K (.ref f32) = true)
    (a33 : PySem.W.nsIn K mainGlobals "_law_passed" = some (some (.ref f33)))
    (l33 : K.lookup f33 = some ⟨oc33, od33, .func (PySem.W.fnOf "_law_passed" "_law_passed" (defArgs s__law_passed) (defBody s__law_passed) (defScope s__law_passed) .none kV33 dc33 pm33 an33 cd33 ct33), sl33⟩)
    (c33 : PySem.W.codeIn K cd33 "_law_passed" = true)
    (k33 : PySem.W.keepIn K (.ref f33) = true)
    (a34 : PySem.W.nsIn K mainGlobals "_law_refused" = some (some (.ref f34)))
    (l34 : K.lookup f34 = some ⟨oc34, od34, .func (PySem.W.fnOf "_law_refused" "_law_refused" (defArgs s__law_refused) (defBody s__law_refused) (defScope s__law_refused) .none kV34 dc34 pm34 an34 cd34 ct34), sl34⟩)
    (c34 : PySem.W.codeIn K cd34 "_law_refused" = true)
    (k34 : PySem.W.keepIn K (.ref f34) = true)
    (a35 : PySem.W.nsIn K mainGlobals "_law_no_lot" = some (some (.ref f35)))
    (l35 : K.lookup f35 = some ⟨oc35, od35, .func (PySem.W.fnOf "_law_no_lot" "_law_no_lot" (defArgs s__law_no_lot) (defBody s__law_no_lot) (defScope s__law_no_lot) .none kV35 dc35 pm35 an35 cd35 ct35), sl35⟩)
    (c35 : PySem.W.codeIn K cd35 "_law_no_lot" = true)
    (k35 : PySem.W.keepIn K (.ref f35) = true)
    (a36 : PySem.W.nsIn K mainGlobals "_law_bad_pins" = some (some (.ref f36)))
    (l36 : K.lookup f36 = some ⟨oc36, od36, .func (PySem.W.fnOf "_law_bad_pins" "_law_bad_pins" (defArgs s__law_bad_pins) (defBody s__law_bad_pins) (defScope s__law_bad_pins) .none kV36 dc36 pm36 an36 cd36 ct36), sl36⟩)
    (c36 : PySem.W.codeIn K cd36 "_law_bad_pins" = true)
    (k36 : PySem.W.keepIn K (.ref f36) = true)
    (a37 : PySem.W.nsIn K mainGlobals "_law_normal" = some (some (.ref f37)))
    (l37 : K.lookup f37 = some ⟨oc37, od37, .func (PySem.W.fnOf "_law_normal" "_law_normal" (defArgs s__law_normal) (defBody s__law_normal) (defScope s__law_normal) .none kV37 dc37 pm37 an37 cd37 ct37), sl37⟩)
    (c37 : PySem.W.codeIn K cd37 "_law_normal" = true)
    (k37 : PySem.W.keepIn K (.ref f37) = true)
    (a38 : PySem.W.nsIn K mainGlobals "_law_found" = some (some (.ref f38)))
    (l38 : K.lookup f38 = some ⟨oc38, od38, .func (PySem.W.fnOf "_law_found" "_law_found" (defArgs s__law_found) (defBody s__law_found) (defScope s__law_found) .none kV38 dc38 pm38 an38 cd38 ct38), sl38⟩)
    (c38 : PySem.W.codeIn K cd38 "_law_found" = true)
    (k38 : PySem.W.keepIn K (.ref f38) = true)
    (a39 : PySem.W.nsIn K mainGlobals "_law_judged" = some (some (.ref f39)))
    (l39 : K.lookup f39 = some ⟨oc39, od39, .func (PySem.W.fnOf "_law_judged" "_law_judged" (defArgs s__law_judged) (defBody s__law_judged) (defScope s__law_judged) .none kV39 dc39 pm39 an39 cd39 ct39), sl39⟩)
    (c39 : PySem.W.codeIn K cd39 "_law_judged" = true)
    (k39 : PySem.W.keepIn K (.ref f39) = true)
    (a40 : PySem.W.nsIn K mainGlobals "_law_all_spoilt" = some (some (.ref f40)))
    (l40 : K.lookup f40 = some ⟨oc40, od40, .func (PySem.W.fnOf "_law_all_spoilt" "_law_all_spoilt" (defArgs s__law_all_spoilt) (defBody s__law_all_spoilt) (defScope s__law_all_spoilt) .none kV40 dc40 pm40 an40 cd40 ct40), sl40⟩)
    (c40 : PySem.W.codeIn K cd40 "_law_all_spoilt" = true)
    (k40 : PySem.W.keepIn K (.ref f40) = true)
    (a41 : PySem.W.nsIn K mainGlobals "law" = some (some (.ref f41)))
    (l41 : K.lookup f41 = some ⟨oc41, od41, .func (PySem.W.fnOf "law" "law" (defArgs s_law) (defBody s_law) (defScope s_law) .none kV41 dc41 pm41 an41 cd41 ct41), sl41⟩)
    (c41 : PySem.W.codeIn K cd41 "law" = true)
    (k41 : PySem.W.keepIn K (.ref f41) = true)
    (aC : PySem.W.nsIn K mainGlobals "Lot" = some (some (.ref C)))
    (iP_table : PySem.W.findIn K (.ref C) "table" = some (some (.ref p_table)))
    (rP_table : PySem.W.recIn K p_table "property" = some (.ref f43 :: rest_table))
    (gP_table : PySem.W.specialIn K (.ref p_table) "__get__" = some (some (.builtin "property.__get__")))
    (tP_table : PySem.W.takesIn K (.ref p_table) = some true)
    (i42 : PySem.W.findIn K (.ref C) "total" = some (some (.ref f42)))
    (n42 : PySem.W.isFn K (.ref f42) = true)
    (l42 : K.lookup f42 = some ⟨oc42, od42, .func (PySem.W.fnOf "total" "Lot.total" (defArgs s_Lot_total) (defBody s_Lot_total) (defScope s_Lot_total) .none kV42 dc42 pm42 an42 cd42 ct42), sl42⟩)
    (c42 : PySem.W.codeIn K cd42 "Lot.total" = true)
    (k42 : PySem.W.keepIn K (.ref f42) = true)
    (l43 : K.lookup f43 = some ⟨oc43, od43, .func (PySem.W.fnOf "table" "Lot.table" (defArgs s_Lot_table) (defBody s_Lot_table) (defScope s_Lot_table) .none kV43 dc43 pm43 an43 cd43 ct43), sl43⟩)
    (c43 : PySem.W.codeIn K cd43 "Lot.table" = true)
    (k43 : PySem.W.keepIn K (.ref f43) = true)
    (i44 : PySem.W.findIn K (.ref C) "__eq__" = some (some (.ref f44)))
    (n44 : PySem.W.isFn K (.ref f44) = true)
    (l44 : K.lookup f44 = some ⟨oc44, od44, .func (PySem.W.fnOf "__eq__" "Lot.__eq__" (defArgs s_Lot_eq) (defBody s_Lot_eq) (defScope s_Lot_eq) .none kV44 dc44 pm44 an44 cd44 ct44), sl44⟩)
    (c44 : PySem.W.codeIn K cd44 "Lot.__eq__" = true)
    (k44 : PySem.W.keepIn K (.ref f44) = true)
    (i45 : PySem.W.findIn K (.ref C) "__init__" = some (some (.ref f45)))
    (n45 : PySem.W.isFn K (.ref f45) = true)
    (l45 : K.lookup f45 = some ⟨oc45, od45, .func (PySem.W.fnOf "__init__" "Lot.__init__" (defArgs s_Lot_init) (defBody s_Lot_init) (defScope s_Lot_init) (.ref T_d) kV45 dc45 pm45 an45 cd45 ct45), sl45⟩)
    (c45 : PySem.W.codeIn K cd45 "Lot.__init__" = true)
    (k45 : PySem.W.keepIn K (.ref f45) = true)
    (lT : K.lookup T_d = some ⟨ocT, odT, .seq #[.ref z] nT, slT⟩)
    (lz : K.lookup z = some ⟨.type "tuple", odz, .seq #[] nz, slz⟩)
    (pg : PySem.W.plainGet K C Str.empty = true)
    (hd : PySem.W.hasDictIn K C = true)
    (po : PySem.W.plainOver K C = true)
    (sa : PySem.W.findIn K (.ref C) "__setattr__" = some (some (.builtin "object.__setattr__")))
    (mk : PySem.W.makesIn K C = true)
    (kc : PySem.W.keepIn K (.ref C) = true)
    (nP : PySem.W.findIn K (.ref C) "pins" = some none)
    (nC : PySem.W.findIn K (.ref C) "cords" = some none)
    (iA : PySem.W.findIn K (.ref C) "__class__" = some (some (.builtin "object.__class__")))
    (iN : PySem.W.specialIn K (.builtin "object.__class__") "__get__" = some (some (.builtin "getset_descriptor.__get__")))
    (iT : PySem.W.takesIn K (.builtin "object.__class__") = some true)
    (iM : PySem.W.mroIn K C (.type "object") = some true)
    (sf : PySem.W.selfFirst K C = true)
    (aU : PySem.W.nsIn K mainGlobals "BadCord" = some (some (.ref DU)))
    (aN : PySem.W.nsIn K mainGlobals "BadPins" = some (some (.ref DN)))
    (aB : PySem.W.nsIn K mainGlobals "BadTable" = some (some (.ref DB)))
    (aO : PySem.W.nsIn K mainGlobals "NoLot" = some (some (.ref DO)))
    (a_c_bn : PySem.W.nsIn K mainGlobals "BadNumber" = some (some (.ref c_bn)))
    (a_c_re : PySem.W.nsIn K mainGlobals "RimError" = some (some (.ref c_re)))
    (lU : K.lookup DU = some (excClassObj nmU qU DU NU bsU [.ref c_re, .type "ValueError", .type "Exception", .type "BaseException", .type "object"] true snU subU abU colU ddU m0U m1U m2U m3U m5U "ValueError.__new__"))
    (saU : PySem.W.findIn K (.ref DU) "__setattr__" = some (some (.builtin "object.__setattr__")))
    (eU : PySem.W.subIn K (.ref DU) (.type "BaseException") = some true)
    (tU : PySem.W.typeIn K (.ref DU) = some (.type "type"))
    (kU : PySem.W.keepIn K (.ref DU) = true)
    (iuU : PySem.W.findIn K (.ref DU) "__init__" = some (some (.ref fuU)))
    (tuU : PySem.W.typeIn K (.ref fuU) = some (.type "function"))
    (luU : K.lookup fuU = some ⟨ocU, odU, .func (PySem.W.fnX "__init__" "BadCord.__init__" (defArgs s_BadCord_init) (defBody s_BadCord_init) (defScope s_BadCord_init) [("__class__", ccU)] .none kVU dcU pmU anU (.ref cdaU) ctU), slU⟩)
    (cuU : PySem.W.codeIn K (.ref cdaU) "BadCord.__init__" = true)
    (lcU : K.lookup ccU = some ⟨clU, cldU, .cell (some (.ref DU)), cslU⟩)
    (ldU : K.lookup cdaU = some ⟨cclU, cddU, .fields vsU, ccsU⟩)
    (cvU : vsU[2]? = some (.str fileU tfU))
    (cfU : ((lw.prog.main.file : Str) == fileU) = true)
    (veU : PySem.W.subIn K (.ref DU) (.type "ValueError") = some true)
    (meU : PySem.W.mroIn K DU (.ref DU) = some true)
    (gaU : PySem.W.findIn K (.ref DU) "__getattribute__" = some (some (.builtin "BaseException.__getattribute__")))
    (ggU : PySem.W.findIn K (.ref DU) "__getattr__" = some none)
    (hU : PySem.W.hasDictIn K DU = true)
    (caU : PySem.W.findIn K (.ref DU) "__class__" = some (some (.builtin "object.__class__")))
    (moU : PySem.W.mroIn K DU (.type "object") = some true)
    (sdU : PySem.W.subIn K (.ref DU) (.ref DU) = some true)
    (n0U : PySem.W.findIn K (.ref DU) "entry" = some none)
    (qUDO : PySem.W.subIn K (.ref DU) (.ref DO) = some false)
    (qUDN : PySem.W.subIn K (.ref DU) (.ref DN) = some false)
    (qUc_bn : PySem.W.subIn K (.ref DU) (.ref c_bn) = some false)
    (qUDB : PySem.W.subIn K (.ref DU) (.ref DB) = some false)
    (qUc_re : PySem.W.subIn K (.ref DU) (.ref c_re) = some true)
    (lN : K.lookup DN = some (excClassObj nmN qN DN NN bsN [.ref c_re, .type "ValueError", .type "Exception", .type "BaseException", .type "object"] true snN subN abN colN ddN m0N m1N m2N m3N m5N "ValueError.__new__"))
    (saN : PySem.W.findIn K (.ref DN) "__setattr__" = some (some (.builtin "object.__setattr__")))
    (eN : PySem.W.subIn K (.ref DN) (.type "BaseException") = some true)
    (tN : PySem.W.typeIn K (.ref DN) = some (.type "type"))
    (kN : PySem.W.keepIn K (.ref DN) = true)
    (iuN : PySem.W.findIn K (.ref DN) "__init__" = some (some (.ref fuN)))
    (tuN : PySem.W.typeIn K (.ref fuN) = some (.type "function"))
    (luN : K.lookup fuN = some ⟨ocN, odN, .func (PySem.W.fnX "__init__" "BadPins.__init__" (defArgs s_BadPins_init) (defBody s_BadPins_init) (defScope s_BadPins_init) [("__class__", ccN)] .none kVN dcN pmN anN (.ref cdaN) ctN), slN⟩)
    (cuN : PySem.W.codeIn K (.ref cdaN) "BadPins.__init__" = true)
    (lcN : K.lookup ccN = some ⟨clN, cldN, .cell (some (.ref DN)), cslN⟩)
    (ldN : K.lookup cdaN = some ⟨cclN, cddN, .fields vsN, ccsN⟩)
    (cvN : vsN[2]? = some (.str fileN tfN))
    (cfN : ((lw.prog.main.file : Str) == fileN) = true)
    (veN : PySem.W.subIn K (.ref DN) (.type "ValueError") = some true)
    (meN : PySem.W.mroIn K DN (.ref DN) = some true)
    (gaN : PySem.W.findIn K (.ref DN) "__getattribute__" = some (some (.builtin "BaseException.__getattribute__")))
    (ggN : PySem.W.findIn K (.ref DN) "__getattr__" = some none)
    (hN : PySem.W.hasDictIn K DN = true)
    (caN : PySem.W.findIn K (.ref DN) "__class__" = some (some (.builtin "object.__class__")))
    (moN : PySem.W.mroIn K DN (.type "object") = some true)
    (sdN : PySem.W.subIn K (.ref DN) (.ref DN) = some true)
    (n0N : PySem.W.findIn K (.ref DN) "pins" = some none)
    (qNDO : PySem.W.subIn K (.ref DN) (.ref DO) = some false)
    (qNDU : PySem.W.subIn K (.ref DN) (.ref DU) = some false)
    (qNc_bn : PySem.W.subIn K (.ref DN) (.ref c_bn) = some false)
    (qNDB : PySem.W.subIn K (.ref DN) (.ref DB) = some false)
    (qNc_re : PySem.W.subIn K (.ref DN) (.ref c_re) = some true)
    (lB : K.lookup DB = some (excClassObj nmB qB DB NB bsB [.ref c_re, .type "ValueError", .type "Exception", .type "BaseException", .type "object"] true snB subB abB colB ddB m0B m1B m2B m3B m5B "ValueError.__new__"))
    (saB : PySem.W.findIn K (.ref DB) "__setattr__" = some (some (.builtin "object.__setattr__")))
    (eB : PySem.W.subIn K (.ref DB) (.type "BaseException") = some true)
    (tB : PySem.W.typeIn K (.ref DB) = some (.type "type"))
    (kB : PySem.W.keepIn K (.ref DB) = true)
    (iuB : PySem.W.findIn K (.ref DB) "__init__" = some (some (.ref fuB)))
    (tuB : PySem.W.typeIn K (.ref fuB) = some (.type "function"))
    (luB : K.lookup fuB = some ⟨ocB, odB, .func (PySem.W.fnX "__init__" "BadTable.__init__" (defArgs s_BadTable_init) (defBody s_BadTable_init) (defScope s_BadTable_init) [("__class__", ccB)] .none kVB dcB pmB anB (.ref cdaB) ctB), slB⟩)
    (cuB : PySem.W.codeIn K (.ref cdaB) "BadTable.__init__" = true)
    (lcB : K.lookup ccB = some ⟨clB, cldB, .cell (some (.ref DB)), cslB⟩)
    (ldB : K.lookup cdaB = some ⟨cclB, cddB, .fields vsB, ccsB⟩)
    (cvB : vsB[2]? = some (.str fileB tfB))
    (cfB : ((lw.prog.main.file : Str) == fileB) = true)
    (veB : PySem.W.subIn K (.ref DB) (.type "ValueError") = some true)
    (meB : PySem.W.mroIn K DB (.ref DB) = some true)
    (gaB : PySem.W.findIn K (.ref DB) "__getattribute__" = some (some (.builtin "BaseException.__getattribute__")))
    (ggB : PySem.W.findIn K (.ref DB) "__getattr__" = some none)
    (hB : PySem.W.hasDictIn K DB = true)
    (caB : PySem.W.findIn K (.ref DB) "__class__" = some (some (.builtin "object.__class__")))
    (moB : PySem.W.mroIn K DB (.type "object") = some true)
    (sdB : PySem.W.subIn K (.ref DB) (.ref DB) = some true)
    (n0B : PySem.W.findIn K (.ref DB) "row" = some none)
    (n1B : PySem.W.findIn K (.ref DB) "column" = some none)
    (qBDO : PySem.W.subIn K (.ref DB) (.ref DO) = some false)
    (qBDN : PySem.W.subIn K (.ref DB) (.ref DN) = some false)
    (qBDU : PySem.W.subIn K (.ref DB) (.ref DU) = some false)
    (qBc_bn : PySem.W.subIn K (.ref DB) (.ref c_bn) = some false)
    (qBc_re : PySem.W.subIn K (.ref DB) (.ref c_re) = some true)
    (lO : K.lookup DO = some (excClassObj nmO qO DO NO bsO [.ref c_re, .type "ValueError", .type "Exception", .type "BaseException", .type "object"] true snO subO abO colO ddO m0O m1O m2O m3O m5O "ValueError.__new__"))
    (saO : PySem.W.findIn K (.ref DO) "__setattr__" = some (some (.builtin "object.__setattr__")))
    (eO : PySem.W.subIn K (.ref DO) (.type "BaseException") = some true)
    (tO : PySem.W.typeIn K (.ref DO) = some (.type "type"))
    (kO : PySem.W.keepIn K (.ref DO) = true)
    (iuO : PySem.W.findIn K (.ref DO) "__init__" = some (some (.ref fuO)))
    (tuO : PySem.W.typeIn K (.ref fuO) = some (.type "function"))
    (luO : K.lookup fuO = some ⟨ocO, odO, .func (PySem.W.fnX "__init__" "NoLot.__init__" (defArgs s_NoLot_init) (defBody s_NoLot_init) (defScope s_NoLot_init) [("__class__", ccO)] .none kVO dcO pmO anO (.ref cdaO) ctO), slO⟩)
    (cuO : PySem.W.codeIn K (.ref cdaO) "NoLot.__init__" = true)
    (lcO : K.lookup ccO = some ⟨clO, cldO, .cell (some (.ref DO)), cslO⟩)
    (ldO : K.lookup cdaO = some ⟨cclO, cddO, .fields vsO, ccsO⟩)
    (cvO : vsO[2]? = some (.str fileO tfO))
    (cfO : ((lw.prog.main.file : Str) == fileO) = true)
    (veO : PySem.W.subIn K (.ref DO) (.type "ValueError") = some true)
    (meO : PySem.W.mroIn K DO (.ref DO) = some true)
    (gaO : PySem.W.findIn K (.ref DO) "__getattribute__" = some (some (.builtin "BaseException.__getattribute__")))
    (ggO : PySem.W.findIn K (.ref DO) "__getattr__" = some none)
    (hO : PySem.W.hasDictIn K DO = true)
    (caO : PySem.W.findIn K (.ref DO) "__class__" = some (some (.builtin "object.__class__")))
    (moO : PySem.W.mroIn K DO (.type "object") = some true)
    (sdO : PySem.W.subIn K (.ref DO) (.ref DO) = some true)
    (n0O : PySem.W.findIn K (.ref DO) "a" = some none)
    (n1O : PySem.W.findIn K (.ref DO) "b" = some none)
    (n2O : PySem.W.findIn K (.ref DO) "twice" = some none)
    (qODN : PySem.W.subIn K (.ref DO) (.ref DN) = some false)
    (qODU : PySem.W.subIn K (.ref DO) (.ref DU) = some false)
    (qOc_bn : PySem.W.subIn K (.ref DO) (.ref c_bn) = some false)
    (qODB : PySem.W.subIn K (.ref DO) (.ref DB) = some false)
    (qOc_re : PySem.W.subIn K (.ref DO) (.ref c_re) = some true)
    (ic_DO : PySem.W.isClsIn K DO = true)
    (ic_DN : PySem.W.isClsIn K DN = true)
    (ic_DU : PySem.W.isClsIn K DU = true)
    (ic_c_bn : PySem.W.isClsIn K c_bn = true)
    (tc_c_bn : PySem.W.typeIn K (.ref c_bn) = some (.type "type"))
    (ic_DB : PySem.W.isClsIn K DB = true)
    (ic_c_re : PySem.W.isClsIn K c_re = true)
    (tc_c_re : PySem.W.typeIn K (.ref c_re) = some (.type "type"))
    (lRe : K.lookup c_re = some (excClassObj nmR qR c_re NR bsR [.type "ValueError", .type "Exception", .type "BaseException", .type "object"] hdR snR subR abR colR ddR m0r m1r m2r m3r m5r niR))
    (iRe : PySem.W.findIn K (.ref c_re) "__init__" = some (some (.builtin "ValueError.__init__")))
    (opD : PySem.W.nsIn K cStatics "thirdparty.any" = some none)
    (tpD : (lw.prog.main.scope.names.lookup ("super" : Str)).isSome = false)
    (zS : PySem.W.nsIn K mainGlobals "super" = some none)
    (zV : PySem.W.nsIn K mainGlobals "ValueError" = some none)
    (zDi : PySem.W.nsIn K mainGlobals "dict" = some none)
    (z0 : PySem.W.nsIn K mainGlobals "max" = some none)
    (z1 : PySem.W.nsIn K mainGlobals "min" = some none)
    (z2 : PySem.W.nsIn K mainGlobals "tuple" = some none)
    (z3 : PySem.W.nsIn K mainGlobals "range" = some none)
    (z4 : PySem.W.nsIn K mainGlobals "isinstance" = some none)
    (z5 : PySem.W.nsIn K mainGlobals "int" = some none)
    (z6 : PySem.W.nsIn K mainGlobals "bool" = some none)
    (z7 : PySem.W.nsIn K mainGlobals "len" = some none)
    (z8 : PySem.W.nsIn K mainGlobals "list" = some none)
    (z9 : PySem.W.nsIn K mainGlobals "str" = some none)
    (z10 : PySem.W.nsIn K mainGlobals "sorted" = some none)
    (z11 : PySem.W.nsIn K mainGlobals "sum" = some none) :
    ∃ fd : FuncData, (∀ (s : Shared) (v : Value), BindsTo s fd ⟨[v], []⟩ [("_law_script", v)]) ∧ ∀ base : Heap, K.In base → base.Ns mainGlobals mg → FnOk lw.prog w K mg base CX0 12 fa fd ["_law_script"] (spLaw K) := by
  have e := hfa.symm.trans (PySem.W.mg_of X G a41)
  cases e
  have D_gaps := df_mk (ps := ["pins"]) (st := s_gaps) X G a1 l1 c1 k1 fun _ _ _ _ _ _ us hl => match us, hl with | [_], _ => rfl
  have D_is_whole := df_mk (ps := ["value"]) (st := s_is_whole) X G a2 l2 c2 k2 fun _ _ _ _ _ _ us hl => match us, hl with | [_], _ => rfl
  have D_is_sequence := df_mk (ps := ["value"]) (st := s_is_sequence) X G a3 l3 c3 k3 fun _ _ _ _ _ _ us hl => match us, hl with | [_], _ => rfl
  have D_is_below := df_mk (ps := ["value", "bound"]) (st := s_is_below) X G a4 l4 c4 k4 fun _ _ _ _ _ _ us hl => match us, hl with | [_, _], _ => rfl
  have D_check_pins := df_mk (ps := ["pins"]) (st := s_check_pins) X G a5 l5 c5 k5 fun _ _ _ _ _ _ us hl => match us, hl with | [_], _ => rfl
  have D_is_entry := df_mk (ps := ["pins", "entry"]) (st := s_is_entry) X G a6 l6 c6 k6 fun _ _ _ _ _ _ us hl => match us, hl with | [_, _], _ => rfl
  have D_gathered := df_mk (ps := ["pins", "entries"]) (st := s_gathered) X G a7 l7 c7 k7 fun _ _ _ _ _ _ us hl => match us, hl with | [_, _], _ => rfl
  have D_cord_grid := df_mk (ps := ["pins", "cords"]) (st := s_cord_grid) X G a8 l8 c8 k8 fun _ _ _ _ _ _ us hl => match us, hl with | [_, _], _ => rfl
  have D_sums_before := df_mk (ps := ["row"]) (st := s_sums_before) X G a9 l9 c9 k9 fun _ _ _ _ _ _ us hl => match us, hl with | [_], _ => rfl
  have D_table_rows := df_mk (ps := ["pins", "cords"]) (st := s_table_rows) X G a10 l10 c10 k10 fun _ _ _ _ _ _ us hl => match us, hl with | [_, _], _ => rfl
  have D_twice_between := df_mk (ps := ["pins", "table", "a", "b"]) (st := s_twice_between) X G a11 l11 c11 k11 fun _ _ _ _ _ _ us hl => match us, hl with | [_, _, _, _], _ => rfl
  have D_cords_of_table := df_mk (ps := ["pins", "table"]) (st := s_cords_of_table) X G a12 l12 c12 k12 fun _ _ _ _ _ _ us hl => match us, hl with | [_, _], _ => rfl
  have D_lot_of := df_mk (ps := ["pins", "table"]) (st := s_lot_of) X G a13 l13 c13 k13 fun _ _ _ _ _ _ us hl => match us, hl with | [_, _], _ => rfl
  have D_check_table := df_mk (ps := ["size", "table"]) (st := s_check_table) X G a14 l14 c14 k14 fun _ _ _ _ _ _ us hl => match us, hl with | [_, _], _ => rfl
  have D_is_place_right := df_mk (ps := ["rows", "row", "column"]) (st := s_is_place_right) X G a15 l15 c15 k15 fun _ _ _ _ _ _ us hl => match us, hl with | [_, _, _], _ => rfl
  have D__law_whole := df_mk (ps := ["_law_value"]) (st := s__law_whole) X G a16 l16 c16 k16 fun _ _ _ _ _ _ us hl => match us, hl with | [_], _ => rfl
  have D__law_cell := df_mk (ps := ["_law_script", "_law_k"]) (st := s__law_cell) X G a17 l17 c17 k17 fun _ _ _ _ _ _ us hl => match us, hl with | [_, _], _ => rfl
  have D__law_digits := df_mk (ps := ["_law_cell_here", "_law_sizes"]) (st := s__law_digits) X G a18 l18 c18 k18 fun _ _ _ _ _ _ us hl => match us, hl with | [_, _], _ => rfl
  have D__law_same := df_mk (ps := ["_law_value", "_law_due"]) (st := s__law_same) X G a19 l19 c19 k19 fun _ _ _ _ _ _ us hl => match us, hl with | [_, _], _ => rfl
  have D__law_norm := df_mk (ps := ["_law_triples"]) (st := s__law_norm) X G a20 l20 c20 k20 fun _ _ _ _ _ _ us hl => match us, hl with | [_], _ => rfl
  have D__law_table := df_mk (ps := ["_law_rim", "_law_bunch"]) (st := s__law_table) X G a21 l21 c21 k21 fun _ _ _ _ _ _ us hl => match us, hl with | [_, _], _ => rfl
  have D__law_lot_is := df_mk (ps := ["_law_lot_here", "_law_rim", "_law_bunch"]) (st := s__law_lot_is) X G a22 l22 c22 k22 fun _ _ _ _ _ _ us hl => match us, hl with | [_, _, _], _ => rfl
  have D__law_pins := df_mk (ps := ["_law_cell_here"]) (st := s__law_pins) X G a23 l23 c23 k23 fun _ _ _ _ _ _ us hl => match us, hl with | [_], _ => rfl
  have D__law_lot := df_mk (ps := ["_law_script", "_law_rim"]) (st := s__law_lot) X G a24 l24 c24 k24 fun _ _ _ _ _ _ us hl => match us, hl with | [_, _], _ => rfl
  have D__law_free := df_mk (ps := ["_law_cell_here", "_law_size", "_law_times"]) (st := s__law_free) X G a25 l25 c25 k25 fun _ _ _ _ _ _ us hl => match us, hl with | [_, _, _], _ => rfl
  have D__law_strange := df_mk (ps := ["_law_value", "_law_by"]) (st := s__law_strange) X G a26 l26 c26 k26 fun _ _ _ _ _ _ us hl => match us, hl with | [_, _], _ => rfl
  have D__law_no_row := df_mk (ps := ["_law_size", "_law_by"]) (st := s__law_no_row) X G a27 l27 c27 k27 fun _ _ _ _ _ _ us hl => match us, hl with | [_, _], _ => rfl
  have D__law_behind := df_mk (ps := ["_law_size", "_law_by"]) (st := s__law_behind) X G a28 l28 c28 k28 fun _ _ _ _ _ _ us hl => match us, hl with | [_, _], _ => rfl
  have D__law_changed := df_mk (ps := ["_law_value", "_law_way", "_law_by"]) (st := s__law_changed) X G a29 l29 c29 k29 fun _ _ _ _ _ _ us hl => match us, hl with | [_, _, _], _ => rfl
  have D__law_spoilt := df_mk (ps := ["_law_rows", "_law_kind", "_law_i", "_law_j", "_law_by"]) (st := s__law_spoilt) X G a30 l30 c30 k30 fun _ _ _ _ _ _ us hl => match us, hl with | [_, _, _, _, _], _ => rfl
  have D__law_wrong := df_mk (ps := ["_law_size", "_law_rows"]) (st := s__law_wrong) X G a31 l31 c31 k31 fun _ _ _ _ _ _ us hl => match us, hl with | [_, _], _ => rfl
  have D__law_none := df_mk (ps := ["_law_rim", "_law_rows"]) (st := s__law_none) X G a32 l32 c32 k32 fun _ _ _ _ _ _ us hl => match us, hl with | [_, _], _ => rfl
  have D__law_passed := df_mk (ps := ["_law_rows", "_law_form"]) (st := s__law_passed) X G a33 l33 c33 k33 fun _ _ _ _ _ _ us hl => match us, hl with | [_, _], _ => rfl
  have D__law_refused := df_mk (ps := ["_law_rim", "_law_grid", "_law_kept", "_law_place"]) (st := s__law_refused) X G a34 l34 c34 k34 fun _ _ _ _ _ _ us hl => match us, hl with | [_, _, _, _], _ => rfl
  have D__law_no_lot := df_mk (ps := ["_law_rim", "_law_rows", "_law_form", "_law_due"]) (st := s__law_no_lot) X G a35 l35 c35 k35 fun _ _ _ _ _ _ us hl => match us, hl with | [_, _, _, _], _ => rfl
  have D__law_bad_pins := df_mk (ps := ["_law_rim", "_law_rows"]) (st := s__law_bad_pins) X G a36 l36 c36 k36 fun _ _ _ _ _ _ us hl => match us, hl with | [_, _], _ => rfl
  have D__law_normal := df_mk (ps := ["_law_lot_here", "_law_rim"]) (st := s__law_normal) X G a37 l37 c37 k37 fun _ _ _ _ _ _ us hl => match us, hl with | [_, _], _ => rfl
  have D__law_found := df_mk (ps := ["_law_rim", "_law_rows", "_law_form"]) (st := s__law_found) X G a38 l38 c38 k38 fun _ _ _ _ _ _ us hl => match us, hl with | [_, _, _], _ => rfl
  have D__law_judged := df_mk (ps := ["_law_rim", "_law_rows", "_law_form"]) (st := s__law_judged) X G a39 l39 c39 k39 fun _ _ _ _ _ _ us hl => match us, hl with | [_, _, _], _ => rfl
  have D__law_all_spoilt := df_mk (ps := ["_law_script", "_law_rim", "_law_rows", "_law_other", "_law_form"]) (st := s__law_all_spoilt) X G a40 l40 c40 k40 fun _ _ _ _ _ _ us hl => match us, hl with | [_, _, _, _, _], _ => rfl
  have T : Bi mg := ⟨PySem.W.mg_none_of X G z0, PySem.W.mg_none_of X G z1, PySem.W.mg_none_of X G z2, PySem.W.mg_none_of X G z3, PySem.W.mg_none_of X G z4, PySem.W.mg_none_of X G z5, PySem.W.mg_none_of X G z6, PySem.W.mg_none_of X G z7, PySem.W.mg_none_of X G z8, PySem.W.mg_none_of X G z9, PySem.W.mg_none_of X G z10, PySem.W.mg_none_of X G z11⟩
  have cl : Cls K C := ⟨pg, hd, po, sa⟩
  have L : LotC K mg C := ⟨cl, nP, nC, PySem.W.mg_of X G aC⟩
  have I : C8.InsC K C := ⟨cl, iA, iN, iT, iM, kitTrue⟩
  have hz : ∀ H, SqT K H z [] := fun H => .inr ⟨_, #[], nz, lz, rfl, rfl, by decide, .nil⟩
  have F_Lot_total : Fun K "total" "Lot.total" s_Lot_total f42 _ := fun_mk l42 c42 k42
  have B_Lot_total := F_Lot_total.binds (ps := ["self"]) fun _ _ _ _ _ _ us hl => match us, hl with | [_], _ => rfl
  have M_Lot_total : Mt K C "total" "Lot.total" s_Lot_total ["self"] f42 _ := ⟨F_Lot_total, ⟨i42, n42, k42⟩, B_Lot_total⟩
  have F_Lot_table : Fun K "table" "Lot.table" s_Lot_table f43 _ := fun_mk l43 c43 k43
  have B_Lot_table := F_Lot_table.binds (ps := ["self"]) fun _ _ _ _ _ _ us hl => match us, hl with | [_], _ => rfl
  have PT_table : PropOf K C "table" p_table f43 := ⟨iP_table, gP_table, tP_table, ⟨_, rP_table⟩⟩
  have F_Lot_eq : Fun K "__eq__" "Lot.__eq__" s_Lot_eq f44 _ := fun_mk l44 c44 k44
  have B_Lot_eq := F_Lot_eq.binds (ps := ["self", "other"]) fun _ _ _ _ _ _ us hl => match us, hl with | [_, _], _ => rfl
  have M_Lot_eq : Mt K C "__eq__" "Lot.__eq__" s_Lot_eq ["self", "other"] f44 _ := ⟨F_Lot_eq, ⟨i44, n44, k44⟩, B_Lot_eq⟩
  have FI_ : FI K z f45 _ := ⟨⟨_, _, _, _, _, _, _, _, _, _, rfl, l45, c45, .inr ⟨by simp, T_d, _, [.ref z], nT, rfl, lT, rfl, .cons rfl .nil⟩, .inl rfl⟩, k45⟩
  have MI : Mk K C f45 := ⟨mk, i45, n45, kc⟩
  obtain ⟨ds, vds, BI⟩ := FI_.binds1 (ps := ["self", "pins", "cords"]) 3 1 (by simp) rfl fun T kV doc pm an cdv ct us its h1 h2 => match us, h1, its, h2 with | [_, _, _], _, [_], _ => ⟨_, rfl, rfl⟩
  have eds : ds = [] := by cases vds; rfl
  subst eds
  obtain ⟨ds1, vds1, BD⟩ := FI_.binds1 (ps := ["self", "pins", "cords"]) 2 0 (by simp) rfl fun T kV doc pm an cdv ct us its h1 h2 => match us, h1, its, h2 with | [_, _], _, [_], _ => ⟨_, rfl, rfl⟩
  have eds1 : ds1 = [.ref z] := by
    cases vds1 with
    | cons r t =>
      cases t
      cases r
      rfl
  subst eds1
  have OXU : OexC K DU := ⟨⟨_, _, _, _, _, _, _, _, _, _, _, _, _, _, _, lU, rfl⟩, saU, eU, tU, kU⟩
  have EKU : ErrK lw.prog K mg DU ccU cdaU := ⟨OXU, ⟨_, _, _, lcU⟩, ⟨_, _, _, _, _, _, ldU, cvU, cfU⟩, sup_of lU lRe iRe, veU, meU, opD, PySem.W.mg_none_of X G zS, tpD⟩
  have BUU : Binds K (PySem.W.fnX "__init__" "BadCord.__init__" (defArgs s_BadCord_init) (defBody s_BadCord_init) (defScope s_BadCord_init) [("__class__", ccU)] .none kVU dcU pmU anU (.ref cdaU) ctU) ["self", "entry"] [] := Binds.all fun us hl => match us, hl with | [_, _], _ => rfl
  have UCU : ErrU K mg "BadCord" DU fuU _ ["self", "entry"] := ⟨OXU, ⟨PySem.W.mg_of X G aU, iuU, tuU⟩, BUU⟩
  have OXN : OexC K DN := ⟨⟨_, _, _, _, _, _, _, _, _, _, _, _, _, _, _, lN, rfl⟩, saN, eN, tN, kN⟩
  have EKN : ErrK lw.prog K mg DN ccN cdaN := ⟨OXN, ⟨_, _, _, lcN⟩, ⟨_, _, _, _, _, _, ldN, cvN, cfN⟩, sup_of lN lRe iRe, veN, meN, opD, PySem.W.mg_none_of X G zS, tpD⟩
  have BUN : Binds K (PySem.W.fnX "__init__" "BadPins.__init__" (defArgs s_BadPins_init) (defBody s_BadPins_init) (defScope s_BadPins_init) [("__class__", ccN)] .none kVN dcN pmN anN (.ref cdaN) ctN) ["self", "pins"] [] := Binds.all fun us hl => match us, hl with | [_, _], _ => rfl
  have UCN : ErrU K mg "BadPins" DN fuN _ ["self", "pins"] := ⟨OXN, ⟨PySem.W.mg_of X G aN, iuN, tuN⟩, BUN⟩
  have OXB : OexC K DB := ⟨⟨_, _, _, _, _, _, _, _, _, _, _, _, _, _, _, lB, rfl⟩, saB, eB, tB, kB⟩
  have EKB : ErrK lw.prog K mg DB ccB cdaB := ⟨OXB, ⟨_, _, _, lcB⟩, ⟨_, _, _, _, _, _, ldB, cvB, cfB⟩, sup_of lB lRe iRe, veB, meB, opD, PySem.W.mg_none_of X G zS, tpD⟩
  have BUB : Binds K (PySem.W.fnX "__init__" "BadTable.__init__" (defArgs s_BadTable_init) (defBody s_BadTable_init) (defScope s_BadTable_init) [("__class__", ccB)] .none kVB dcB pmB anB (.ref cdaB) ctB) ["self", "row", "column"] [] := Binds.all fun us hl => match us, hl with | [_, _, _], _ => rfl
  have UCB : ErrU K mg "BadTable" DB fuB _ ["self", "row", "column"] := ⟨OXB, ⟨PySem.W.mg_of X G aB, iuB, tuB⟩, BUB⟩
  have OXO : OexC K DO := ⟨⟨_, _, _, _, _, _, _, _, _, _, _, _, _, _, _, lO, rfl⟩, saO, eO, tO, kO⟩
  have EKO : ErrK lw.prog K mg DO ccO cdaO := ⟨OXO, ⟨_, _, _, lcO⟩, ⟨_, _, _, _, _, _, ldO, cvO, cfO⟩, sup_of lO lRe iRe, veO, meO, opD, PySem.W.mg_none_of X G zS, tpD⟩
  have BUO : Binds K (PySem.W.fnX "__init__" "NoLot.__init__" (defArgs s_NoLot_init) (defBody s_NoLot_init) (defScope s_NoLot_init) [("__class__", ccO)] .none kVO dcO pmO anO (.ref cdaO) ctO) ["self", "a", "b", "twice"] [] := Binds.all fun us hl => match us, hl with | [_, _, _, _], _ => rfl
  have UCO : ErrU K mg "NoLot" DO fuO _ ["self", "a", "b", "twice"] := ⟨OXO, ⟨PySem.W.mg_of X G aO, iuO, tuO⟩, BUO⟩
  have N_ : ∀ n ∈ errs, mg n = some (.ref ((cOf DO DN DU c_bn DB c_re) n)) := List.forall_mem_cons.mpr ⟨by rw [cOf0]; exact PySem.W.mg_of X G aO, List.forall_mem_cons.mpr ⟨by rw [cOf1]; exact PySem.W.mg_of X G aN, List.forall_mem_cons.mpr ⟨by rw [cOf2]; exact PySem.W.mg_of X G aU, List.forall_mem_cons.mpr ⟨by rw [cOf3]; exact PySem.W.mg_of X G a_c_bn, List.forall_mem_cons.mpr ⟨by rw [cOf4]; exact PySem.W.mg_of X G aB, List.forall_mem_cons.mpr ⟨by rw [cOf5]; exact PySem.W.mg_of X G a_c_re, fun _ h => nomatch h⟩⟩⟩⟩⟩⟩
  have XCN : XcE K DN (cOf DO DN DU c_bn DB c_re) ["pins"] ["BadTable", "NoLot", "BadCord", "BadNumber"] := ⟨⟨gaN, ggN, eN, hN, caN, iN, iT, moN⟩, ⟨gaN, ggN, eN, hN⟩, List.forall_mem_cons.mpr ⟨n0N, fun _ h => nomatch h⟩, List.forall_mem_cons.mpr ⟨by rw [cOf4]; exact kit_ref sdN ic_DB tB qNDB, List.forall_mem_cons.mpr ⟨by rw [cOf0]; exact kit_ref sdN ic_DO tO qNDO, List.forall_mem_cons.mpr ⟨by rw [cOf2]; exact kit_ref sdN ic_DU tU qNDU, List.forall_mem_cons.mpr ⟨by rw [cOf3]; exact kit_ref sdN ic_c_bn tc_c_bn qNc_bn, fun _ h => nomatch h⟩⟩⟩⟩, by rw [cOf5]; exact kit_ref sdN ic_c_re tc_c_re qNc_re, kit_ve veN, PySem.W.exm_ref eN hN tN sdN⟩
  have XCB : XcE K DB (cOf DO DN DU c_bn DB c_re) ["row", "column"] ["NoLot", "BadPins", "BadCord", "BadNumber"] := ⟨⟨gaB, ggB, eB, hB, caB, iN, iT, moB⟩, ⟨gaB, ggB, eB, hB⟩, List.forall_mem_cons.mpr ⟨n0B, List.forall_mem_cons.mpr ⟨n1B, fun _ h => nomatch h⟩⟩, List.forall_mem_cons.mpr ⟨by rw [cOf0]; exact kit_ref sdB ic_DO tO qBDO, List.forall_mem_cons.mpr ⟨by rw [cOf1]; exact kit_ref sdB ic_DN tN qBDN, List.forall_mem_cons.mpr ⟨by rw [cOf2]; exact kit_ref sdB ic_DU tU qBDU, List.forall_mem_cons.mpr ⟨by rw [cOf3]; exact kit_ref sdB ic_c_bn tc_c_bn qBc_bn, fun _ h => nomatch h⟩⟩⟩⟩, by rw [cOf5]; exact kit_ref sdB ic_c_re tc_c_re qBc_re, kit_ve veB, PySem.W.exm_ref eB hB tB sdB⟩
  have XCO : XcE K DO (cOf DO DN DU c_bn DB c_re) ["a", "b", "twice"] ["BadTable", "BadPins", "BadCord", "BadNumber"] := ⟨⟨gaO, ggO, eO, hO, caO, iN, iT, moO⟩, ⟨gaO, ggO, eO, hO⟩, List.forall_mem_cons.mpr ⟨n0O, List.forall_mem_cons.mpr ⟨n1O, List.forall_mem_cons.mpr ⟨n2O, fun _ h => nomatch h⟩⟩⟩, List.forall_mem_cons.mpr ⟨by rw [cOf4]; exact kit_ref sdO ic_DB tB qODB, List.forall_mem_cons.mpr ⟨by rw [cOf1]; exact kit_ref sdO ic_DN tN qODN, List.forall_mem_cons.mpr ⟨by rw [cOf2]; exact kit_ref sdO ic_DU tU qODU, List.forall_mem_cons.mpr ⟨by rw [cOf3]; exact kit_ref sdO ic_c_bn tc_c_bn qOc_bn, fun _ h => nomatch h⟩⟩⟩⟩, by rw [cOf5]; exact kit_ref sdO ic_c_re tc_c_re qOc_re, kit_ve veO, PySem.W.exm_ref eO hO tO sdO⟩
  have BK := kb_rev D_lot_of.F (a := "pins") (b := "table") fun kV doc pm an cdv ct u v => by kernel_rfl
  refine ⟨PySem.W.fnOf "law" "law" (defArgs s_law) (defBody s_law) (defScope s_law) .none kV41 dc41 pm41 an41 cd41 ct41, fun s v => .of_eq rfl, fun base _ _ => ?_⟩
  have GeN := ok_BadPins (P := lw.prog) (w := w) (mg := mg) (base := base) EKN luN cuN n0N
  have GeU := ok_BadCord (P := lw.prog) (w := w) (mg := mg) (base := base) EKU luU cuU n0U
  have GeB := ok_BadTable (P := lw.prog) (w := w) (mg := mg) (base := base) EKB luB cuB n0B n1B
  have GeO := ok_NoLot (P := lw.prog) (w := w) (mg := mg) (base := base) EKO luO cuO n0O n1O n2O
  have Gwy := ok_wholeY (P := lw.prog) (w := w) (mg := mg) (base := base) D_is_whole.F T
  have Gsy := ok_seqY (P := lw.prog) (w := w) (mg := mg) (base := base) D_is_sequence.F T
  have Gby := ok_belowY (P := lw.prog) (w := w) (mg := mg) (base := base) D_is_below.F D_is_whole Gwy
  have Gck := ok_ckpinsY (P := lw.prog) (w := w) (mg := mg) (base := base) D_check_pins.F D_is_whole Gwy UCN GeN
  have Gent := ok_entryY (P := lw.prog) (w := w) (mg := mg) (base := base) D_is_entry.F T D_is_whole Gwy D_is_below Gby D_is_sequence Gsy
  have Ggath := ok_gathY (P := lw.prog) (w := w) (mg := mg) (base := base) D_gathered.F T D_is_entry Gent UCU GeU
  have Ginit := ok_initY (P := lw.prog) (w := w) (mg := mg) (base := base) FI_ L D_check_pins Gck D_gathered Ggath
  have Ggrid := ok_grid (P := lw.prog) (w := w) (mg := mg) (base := base) D_cord_grid.F T
  have Ggaps := ok_gaps (P := lw.prog) (w := w) (mg := mg) (base := base) D_gaps.F T
  have Gsums := ok_sums (P := lw.prog) (w := w) (mg := mg) (base := base) D_sums_before.F T
  have Grows := ok_table (P := lw.prog) (w := w) (mg := mg) (base := base) D_table_rows.F T D_cord_grid Ggrid D_gaps Ggaps D_sums_before Gsums
  have Gtab := ok_tab (P := lw.prog) (w := w) (mg := mg) (base := base) F_Lot_table T L D_table_rows Grows
  have Gtotal := ok_total (P := lw.prog) (w := w) (mg := mg) (base := base) F_Lot_total T L
  have Geq := ok_eqL (P := lw.prog) (w := w) (mg := mg) (base := base) F_Lot_eq T L I
  have Gtw := ok_twice (P := lw.prog) (w := w) (mg := mg) (base := base) D_twice_between.F
  have Gplace := ok_place (P := lw.prog) (w := w) (mg := mg) (base := base) D_is_place_right.F T D_is_whole Gwy
  have Gckt := ok_ckt (P := lw.prog) (w := w) (mg := mg) (base := base) D_check_table.F T D_is_sequence Gsy D_is_place_right Gplace UCB GeB
  have Gcot := ok_cot (P := lw.prog) (w := w) (mg := mg) (base := base) D_cords_of_table.F T D_twice_between Gtw
  have Glo := ok_lotof (P := lw.prog) (w := w) (mg := mg) (base := base) D_lot_of.F T L D_check_pins Gck D_gaps Ggaps D_check_table Gckt D_twice_between Gtw D_cords_of_table Gcot MI BI Ginit UCO GeO
  have Gwh := ok_lwhole (P := lw.prog) (w := w) (mg := mg) (base := base) D__law_whole.F T
  have GwhY := ok_lwholeY (P := lw.prog) (w := w) (mg := mg) (base := base) D__law_whole.F T
  have HWh := okH_lwhole (P := lw.prog) (w := w) (mg := mg) (base := base) D__law_whole.F T
  have Gcell := ok_cell (P := lw.prog) (w := w) (mg := mg) (base := base) D__law_cell.F T
  have Gdig := ok_digits (P := lw.prog) (w := w) (mg := mg) (base := base) D__law_digits.F T
  have GdigW := ok_digitsW (P := lw.prog) (w := w) (mg := mg) (base := base) D__law_digits.F T
  have Gsame := ok_same (P := lw.prog) (w := w) (mg := mg) (base := base) D__law_same T (PySem.W.mg_none_of X G zDi) D__law_whole Gwh
  have HSame := okH_same (P := lw.prog) (w := w) (mg := mg) (base := base) D__law_same T (PySem.W.mg_none_of X G zDi) D__law_whole HWh
  have Gpins := ok_pins (P := lw.prog) (w := w) (mg := mg) (base := base) D__law_pins.F T D__law_digits Gdig
  have Gnorm := ok_norm (P := lw.prog) (w := w) (mg := mg) (base := base) D__law_norm.F T
  have Gltab := ok_ltab (P := lw.prog) (w := w) (mg := mg) (base := base) D__law_table.F T
  have Glotis := ok_lotis (P := lw.prog) (w := w) (mg := mg) (base := base) D__law_lot_is.F T L I D__law_same (Gsame 2)
  have Gllot := ok_llot (P := lw.prog) (w := w) (mg := mg) (base := base) D__law_lot.F T D__law_digits Gdig D__law_cell Gcell D__law_norm Gnorm
  have Gfree := ok_free (P := lw.prog) (w := w) (mg := mg) (base := base) D__law_free.F T D__law_digits GdigW
  have Gstr := ok_strange (P := lw.prog) (w := w) (mg := mg) (base := base) D__law_strange.F T
  have Gnor := ok_norow (P := lw.prog) (w := w) (mg := mg) (base := base) D__law_no_row.F T
  have Gbeh := ok_behind (P := lw.prog) (w := w) (mg := mg) (base := base) D__law_behind.F T
  have Gchg := ok_changed (P := lw.prog) (w := w) (mg := mg) (base := base) D__law_changed.F T
  have Gspo := ok_spoilt (P := lw.prog) (w := w) (mg := mg) (base := base) D__law_spoilt.F T D__law_whole GwhY D__law_strange Gstr D__law_no_row Gnor D__law_behind Gbeh D__law_changed Gchg
  have Gwr := ok_wrong (P := lw.prog) (w := w) (mg := mg) (base := base) D__law_wrong.F T D__law_whole GwhY
  have Gnn := ok_none (P := lw.prog) (w := w) (mg := mg) (base := base) D__law_none.F T
  have Gps := ok_pasg (P := lw.prog) (w := w) (mg := mg) (base := base) D__law_passed.F T
  have Hps := okH_pasg (P := lw.prog) (w := w) (mg := mg) (base := base) D__law_passed.F T
  have Grf := ok_refd (P := lw.prog) (w := w) (mg := mg) (base := base) D__law_refused.F T (PySem.W.mg_of X G aB) (PySem.W.mg_none_of X G zV) N_ XCB D_lot_of Glo D__law_same (HSame 3)
  have Gnl := ok_nolot (P := lw.prog) (w := w) (mg := mg) (base := base) D__law_no_lot.F T (PySem.W.mg_of X G aO) (PySem.W.mg_none_of X G zV) N_ XCO D_lot_of Glo D__law_passed Gps Hps D__law_same (HSame 3)
  have Gbp := ok_badp (P := lw.prog) (w := w) (mg := mg) (base := base) D__law_bad_pins.F T (PySem.W.mg_of X G aN) (PySem.W.mg_none_of X G zV) N_ XCN D_lot_of Glo D__law_passed Gps Hps D__law_same (HSame 3)
  have Gno := ok_normal (P := lw.prog) (w := w) (mg := mg) (base := base) D__law_normal.F T L D__law_same (Gsame 2) D__law_whole GwhY
  have Gfo := ok_found (P := lw.prog) (w := w) (mg := mg) (base := base) D__law_found.F T L D__law_passed Gps D__law_normal Gno D__law_table Gltab D__law_same (Gsame 3) D__law_lot_is Glotis D_lot_of Glo MI BI Ginit M_Lot_total Gtotal PT_table B_Lot_table Gtab i44 n44 B_Lot_eq Geq
  have Gju := ok_judged (P := lw.prog) (w := w) (mg := mg) (base := base) D__law_judged.F T D__law_passed Gps D__law_wrong Gwr D__law_none Gnn D__law_refused Grf D__law_no_lot Gnl D__law_found Gfo
  have Gas := ok_allsp (P := lw.prog) (w := w) (mg := mg) (base := base) D__law_all_spoilt.F T D__law_digits Gdig D__law_cell Gcell D__law_spoilt Gspo D__law_judged Gju
  exact ok_law (fun_mk l41 c41 k41) T D__law_cell Gcell D__law_pins Gpins D__law_lot Gllot D__law_table Gltab D__law_lot_is Glotis D__law_passed Gps D__law_found Gfo D__law_free Gfree D__law_judged Gju D__law_all_spoilt Gas D__law_refused Grf D__law_bad_pins Gbp D_lot_of Glo BK
end Own

open PySem PySem.W PyProof.Rows
set_option maxRecDepth 100000 in
set_option maxHeartbeats 0 in
theorem PySem.Challenge.cw_rimcords_k05_lots_of_tables_whole_holds : PySem.Challenge.rw_rimcords_k05_lots_of_tables_whole.Holds := by
  w_on; o_law; k_head; (case hw => w_witness2)
  k_fill
  refine L2.walk_of (l := PySem.Challenge.rw_rimcords_k05_lots_of_tables_whole) (n := 63) (k := 12) (x := "_law_script") (CX := fun _ => L2.CX0) (sp := fun w => Own.spLaw _) rfl (by decide) rfl ⟨rfl, by decide, by decide⟩ (fun w h Y => PySem.W.kIn_of Y) ?F (fun _ _ a ns hl _ hS => ⟨a, ns, rfl, hS, Nat.le_trans hl (by decide), fun _ => rfl⟩) (fun _ _ _ _ _ h => h)
  case F =>
    intro w mg fa h KX G hmg
    refine' Own.all_mk KX G hmg ?a1 ?l1 ?c1 ?k1 ?a2 ?l2 ?c2 ?k2 ?a3 ?l3 ?c3 ?k3 ?a4 ?l4 ?c4 ?k4 ?a5 ?l5 ?c5 ?k5 ?a6 ?l6 ?c6 ?k6 ?a7 ?l7 ?c7 ?k7 ?a8 ?l8 ?c8 ?k8 ?a9 ?l9 ?c9 ?k9 ?a10 ?l10 ?c10 ?k10 ?a11 ?l11 ?c11 ?k11 ?a12 ?l12 ?c12 ?k12 ?a13 ?l13 ?c13 ?k13 ?a14 ?l14 ?c14 ?k14 ?a15 ?l15 ?c15 ?k15 ?a16 ?l16 ?c16 ?k16 ?a17 ?l17 ?c17 ?k17 ?a18 ?l18 ?c18 ?k18 ?a19 ?l19 ?c19 ?k19 ?a20 ?l20 ?c20 ?k20 ?a21 ?l21 ?c21 ?k21 ?a22 ?l22 ?c22 ?k22 ?a23 ?l23 ?c23 ?k23 ?a24 ?l24 ?c24 ?k24 ?a25 ?l25 ?c25 ?k25 ?a26 ?l26 ?c26 ?k26 ?a27 ?l27 ?c27 ?k27 ?a28 ?l28 ?c28 ?k28 ?a29 ?l29 ?c29 ?k29 ?a30 ?l30 ?c30 ?k30 ?a31 ?l31 ?c31 ?k31 ?a32 ?l32 ?c32 ?k32 ?a33 ?l33 ?c33 ?k33 ?a34 ?l34 ?c34 ?k34 ?a35 ?l35 ?c35 ?k35 ?a36 ?l36 ?c36 ?k36 ?a37 ?l37 ?c37 ?k37 ?a38 ?l38 ?c38 ?k38 ?a39 ?l39 ?c39 ?k39 ?a40 ?l40 ?c40 ?k40 ?a41 ?l41 ?c41 ?k41 ?aC ?iP_table ?rP_table ?gP_table ?tP_table ?i42 ?n42 ?l42 ?c42 ?k42 ?l43 ?c43 ?k43 ?i44 ?n44 ?l44 ?c44 ?k44 ?i45 ?n45 ?l45 ?c45 ?k45 ?lT ?lz ?pg ?hd ?po ?sa ?mk ?kc ?nP ?nC ?iA ?iN ?iT ?iM ?sf ?aU ?aN ?aB ?aO ?a_c_bn ?a_c_re ?lU ?saU ?eU ?tU ?kU ?iuU ?tuU ?luU ?cuU ?lcU ?ldU ?cvU ?cfU ?veU ?meU ?gaU ?ggU ?hU ?caU ?moU ?sdU ?n0U ?qUDO ?qUDN ?qUc_bn ?qUDB ?qUc_re ?lN ?saN ?eN ?tN ?kN ?iuN ?tuN ?luN ?cuN ?lcN ?ldN ?cvN ?cfN ?veN ?meN ?gaN ?ggN ?hN ?caN ?moN ?sdN ?n0N ?qNDO ?qNDU ?qNc_bn ?qNDB ?qNc_re ?lB ?saB ?eB ?tB ?kB ?iuB ?tuB ?luB ?cuB ?lcB ?ldB ?cvB ?cfB ?veB ?meB ?gaB ?ggB ?hB ?caB ?moB ?sdB ?n0B ?n1B ?qBDO ?qBDN ?qBDU ?qBc_bn ?qBc_re ?lO ?saO ?eO ?tO ?kO ?iuO ?tuO ?luO ?cuO ?lcO ?ldO ?cvO ?cfO ?veO ?meO ?gaO ?ggO ?hO ?caO ?moO ?sdO ?n0O ?n1O ?n2O ?qODN ?qODU ?qOc_bn ?qODB ?qOc_re ?ic_DO ?ic_DN ?ic_DU ?ic_c_bn ?tc_c_bn ?ic_DB ?ic_c_re ?tc_c_re ?lRe ?iRe ?opD ?tpD ?zS ?zV ?zDi ?z0 ?z1 ?z2 ?z3 ?z4 ?z5 ?z6 ?z7 ?z8 ?z9 ?z10 ?z11
    (case a1 => k_is)
    (case l1 => k_is)
    (case c1 => k_is)
    (case k1 => k_is)
    (case a2 => k_is)
    (case l2 => k_is)
    (case c2 => k_is)
    (case k2 => k_is)
    (case a3 => k_is)
    (case l3 => k_is)
    (case c3 => k_is)
    (case k3 => k_is)
    (case a4 => k_is)
    (case l4 => k_is)
    (case c4 => k_is)
    (case k4 => k_is)
    (case a5 => k_is)
    (case l5 => k_is)
    (case c5 => k_is)
    (case k5 => k_is)
    (case a6 => k_is)
    (case l6 => k_is)
    (case c6 => k_is)
    (case k6 => k_is)
    (case a7 => k_is)
    (case l7 => k_is)
    (case c7 => k_is)
    (case k7 => k_is)
    (case a8 => k_is)
    (case l8 => k_is)
    (case c8 => k_is)
    (case k8 => k_is)
    (case a9 => k_is)
    (case l9 => k_is)
    (case c9 => k_is)
    (case k9 => k_is)
    (case a10 => k_is)
    (case l10 => k_is)
    (case c10 => k_is)
    (case k10 => k_is)
    (case a11 => k_is)
    (case l11 => k_is)
    (case c11 => k_is)
    (case k11 => k_is)
    (case a12 => k_is)
    (case l12 => k_is)
    (case c12 => k_is)
    (case k12 => k_is)
    (case a13 => k_is)
    (case l13 => k_is)
    (case c13 => k_is)
    (case k13 => k_is)
    (case a14 => k_is)
    (case l14 => k_is)
    (case c14 => k_is)
    (case k14 => k_is)
    (case a15 => k_is)
    (case l15 => k_is)
    (case c15 => k_is)
    (case k15 => k_is)
    (case a16 => k_is)
    (case l16 => k_is)
    (case c16 => k_is)
    (case k16 => k_is)
    (case a17 => k_is)
    (case l17 => k_is)
    (case c17 => k_is)
    (case k17 => k_is)
    (case a18 => k_is)
    (case l18 => k_is)
    (case c18 => k_is)
    (case k18 => k_is)
    (case a19 => k_is)
    (case l19 => k_is)
    (case c19 => k_is)
    (case k19 => k_is)
    (case a20 => k_is)
    (case l20 => k_is)
    (case c20 => k_is)
    (case k20 => k_is)
    (case a21 => k_is)
    (case l21 => k_is)
    (case c21 => k_is)
    (case k21 => k_is)
    (case a22 => k_is)
    (case l22 => k_is)
    (case c22 => k_is)
    (case k22 => k_is)
    (case a23 => k_is)
    (case l23 => k_is)
    (case c23 => k_is)
    (case k23 => k_is)
    (case a24 => k_is)
    (case l24 => k_is)
    (case c24 => k_is)
    (case k24 => k_is)
    (case a25 => k_is)
    (case l25 => k_is)
    (case c25 => k_is)
    (case k25 => k_is)
    (case a26 => k_is)
    (case l26 => k_is)
    (case c26 => k_is)
    (case k26 => k_is)
    (case a27 => k_is)
    (case l27 => k_is)
    (case c27 => k_is)
    (case k27 => k_is)
    (case a28 => k_is)
    (case l28 => k_is)
    (case c28 => k_is)
    (case k28 => k_is)
    (case a29 => k_is)
    (case l29 => k_is)
    (case c29 => k_is)
    (case k29 => k_is)
    (case a30 => k_is)
    (case l30 => k_is)
    (case c30 => k_is)
    (case k30 => k_is)
    (case a31 => k_is)
    (case l31 => k_is)
    (case c31 => k_is)
    (case k31 => k_is)
    (case a32 => k_is)
    (case l32 => k_is)
    (case c32 => k_is)
    (case k32 => k_is)
    (case a33 => k_is)
    (case l33 => k_is)
    (case c33 => k_is)
    (case k33 => k_is)
    (case a34 => k_is)
    (case l34 => k_is)
    (case c34 => k_is)
    (case k34 => k_is)
    (case a35 => k_is)
    (case l35 => k_is)
    (case c35 => k_is)
    (case k35 => k_is)
    (case a36 => k_is)
    (case l36 => k_is)
    (case c36 => k_is)
    (case k36 => k_is)
    (case a37 => k_is)
    (case l37 => k_is)
    (case c37 => k_is)
    (case k37 => k_is)
    (case a38 => k_is)
    (case l38 => k_is)
    (case c38 => k_is)
    (case k38 => k_is)
    (case a39 => k_is)
    (case l39 => k_is)
    (case c39 => k_is)
    (case k39 => k_is)
    (case a40 => k_is)
    (case l40 => k_is)
    (case c40 => k_is)
    (case k40 => k_is)
    (case a41 => k_is)
    (case l41 => k_is)
    (case c41 => k_is)
    (case k41 => k_is)
    (case aC => k_is)
    (case iP_table => k_is)
    (case rP_table => k_is)
    (case gP_table => k_is)
    (case tP_table => k_is)
    (case i42 => k_is)
    (case n42 => k_is)
    (case l42 => k_is)
    (case c42 => k_is)
    (case k42 => k_is)
    (case l43 => k_is)
    (case c43 => k_is)
    (case k43 => k_is)
    (case i44 => k_is)
    (case n44 => k_is)
    (case l44 => k_is)
    (case c44 => k_is)
    (case k44 => k_is)
    (case i45 => k_is)
    (case n45 => k_is)
    (case l45 => k_is)
    (case c45 => k_is)
    (case k45 => k_is)
    (case lT => k_is)
    (case lz => k_is)
    (case pg => k_is)
    (case hd => k_is)
    (case po => k_is)
    (case sa => k_is)
    (case mk => k_is)
    (case kc => k_is)
    (case nP => k_is)
    (case nC => k_is)
    (case iA => k_is)
    (case iN => k_is)
    (case iT => k_is)
    (case iM => k_is)
    (case sf => k_is)
    (case aU => k_is)
    (case aN => k_is)
    (case aB => k_is)
    (case aO => k_is)
    (case a_c_bn => k_is)
    (case a_c_re => k_is)
    (case lU => k_is)
    (case saU => k_is)
    (case eU => k_is)
    (case tU => k_is)
    (case kU => k_is)
    (case iuU => k_is)
    (case tuU => k_is)
    (case luU => k_is)
    (case cuU => k_is)
    (case lcU => k_is)
    (case ldU => k_is)
    (case cvU => first | rfl | decide +kernel)
    (case cfU => first | rfl | decide +kernel)
    (case veU => k_is)
    (case meU => k_is)
    (case gaU => k_is)
    (case ggU => k_is)
    (case hU => k_is)
    (case caU => k_is)
    (case moU => k_is)
    (case sdU => k_is)
    (case n0U => k_is)
    (case qUDO => k_is)
    (case qUDN => k_is)
    (case qUc_bn => k_is)
    (case qUDB => k_is)
    (case qUc_re => k_is)
    (case lN => k_is)
    (case saN => k_is)
    (case eN => k_is)
    (case tN => k_is)
    (case kN => k_is)
    (case iuN => k_is)
    (case tuN => k_is)
    (case luN => k_is)
    (case cuN => k_is)
    (case lcN => k_is)
    (case ldN => k_is)
    (case cvN => first | rfl | decide +kernel)
    (case cfN => first | rfl | decide +kernel)
    (case veN => k_is)
    (case meN => k_is)
    (case gaN => k_is)
    (case ggN => k_is)
    (case hN => k_is)
    (case caN => k_is)
    (case moN => k_is)
    (case sdN => k_is)
    (case n0N => k_is)
    (case qNDO => k_is)
    (case qNDU => k_is)
    (case qNc_bn => k_is)
    (case qNDB => k_is)
    (case qNc_re => k_is)
    (case lB => k_is)
    (case saB => k_is)
    (case eB => k_is)
    (case tB => k_is)
    (case kB => k_is)
    (case iuB => k_is)
    (case tuB => k_is)
    (case luB => k_is)
    (case cuB => k_is)
    (case lcB => k_is)
    (case ldB => k_is)
    (case cvB => first | rfl | decide +kernel)
    (case cfB => first | rfl | decide +kernel)
    (case veB => k_is)
    (case meB => k_is)
    (case gaB => k_is)
    (case ggB => k_is)
    (case hB => k_is)
    (case caB => k_is)
    (case moB => k_is)
    (case sdB => k_is)
    (case n0B => k_is)
    (case n1B => k_is)
    (case qBDO => k_is)
    (case qBDN => k_is)
    (case qBDU => k_is)
    (case qBc_bn => k_is)
    (case qBc_re => k_is)
    (case lO => k_is)
    (case saO => k_is)
    (case eO => k_is)
    (case tO => k_is)
    (case kO => k_is)
    (case iuO => k_is)
    (case tuO => k_is)
    (case luO => k_is)
    (case cuO => k_is)
    (case lcO => k_is)
    (case ldO => k_is)
    (case cvO => first | rfl | decide +kernel)
    (case cfO => first | rfl | decide +kernel)
    (case veO => k_is)
    (case meO => k_is)
    (case gaO => k_is)
    (case ggO => k_is)
    (case hO => k_is)
    (case caO => k_is)
    (case moO => k_is)
    (case sdO => k_is)
    (case n0O => k_is)
    (case n1O => k_is)
    (case n2O => k_is)
    (case qODN => k_is)
    (case qODU => k_is)
    (case qOc_bn => k_is)
    (case qODB => k_is)
    (case qOc_re => k_is)
    (case ic_DO => k_is)
    (case ic_DN => k_is)
    (case ic_DU => k_is)
    (case ic_c_bn => k_is)
    (case tc_c_bn => k_is)
    (case ic_DB => k_is)
    (case ic_c_re => k_is)
    (case tc_c_re => k_is)
    (case lRe => k_is)
    (case iRe => k_is)
    (case opD => k_is)
    (case tpD => first | rfl | decide +kernel)
    (case zS => k_is)
    (case zV => k_is)
    (case zDi => k_is)
    (case z0 => k_is)
    (case z1 => k_is)
    (case z2 => k_is)
    (case z3 => k_is)
    (case z4 => k_is)
    (case z5 => k_is)
    (case z6 => k_is)
    (case z7 => k_is)
    (case z8 => k_is)
    (case z9 => k_is)
    (case z10 => k_is)
    (case z11 => k_is)
