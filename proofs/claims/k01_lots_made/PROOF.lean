import PyProof.Rows.All
import Wide.All
import OpenK.AllK
import Wide.FinOn
import HandS.ForMost
import HandS.IsInst
import HandS.Style
import HandS.Defaults
import HandS.MakeKwOnly
import HandS.Conv
import HandS.Sort
import HandS.SortRule
import HandS.Deep
import HandS.Property
import HandS.TupSets
import HandS.Codes
import HandS.DictComp
import HandS.Exc
import HandS.ExcInit
import HandS.ExcField
import HandS.ExcIs
import HandS.TryOnly
import HandS.Nested
import HandS.FStr
import KE.KExcSuper
import HandS.SetFor
import HandS.ExcOwn
import KE.KExcIs
import KE.DataFind
import HandS.ExcCtx
import HandS.HotCalls
import HandS.WordsExc
import HandS.FStrTup
import PyProof.ReprHeads
import PyProof.ReprHeadsEmpty
import PyProof.ReprNest
import PyProof.ReprDict
import HandS.NoneIn
import HandS.MakeKw
import PySem.Challenge.RW_rimcords_k01_lots_made
set_option Elab.async false
set_option linter.all false
set_option maxRecDepth 100000
/-! Rules of my own for the hand layer. -/
namespace Own
open PySem PySem.Spec PyProof.Rows L2
/-- the two ints of a pair that stands in the heap -/
def kOf (H : Hp) (v : V) : Int × Int := match v with
  | .ref a => match H a with
    | some (.tup [.int i, .int j]) => (i, j)
    | _ => (0, 0)
  | _ => (0, 0)
theorem kOf_at {H : Hp} {a : Addr} {i j : Int} (h : H a = some (.tup [.int i, .int j])) : kOf H (.ref a) = (i, j) := by
  show (match H a with | some (.tup [.int i, .int j]) => (i, j) | _ => (0, 0)) = (i, j)
  rw [h]
def rSortedDT : List V → Hp → VK → Prop := fun vs H Q => ∃ (d : Addr) (kvs : List (List Key × V)), vs = [V.ref d] ∧ Rd H d (.dT kvs) ∧ (∀ kv ∈ kvs, ∃ i j : Int, kv.1 = [Sum.inl i, Sum.inl j]) ∧
  ∀ (bs : List Addr) (ys : List V) (p : Addr), IsKeys H kvs bs → SrtO.Srtd (ltP (kOf H)) ys → SrtO.Stb (ltP (kOf H)) ys (bs.map V.ref) → H p = none → Q (.ref p) (upd H p (.lst ys))
section
variable {X : Cx}
theorem paired_right {α β : Type} {R : α → β → Prop} {xs : List α} {ys : List β} (h : Paired R xs ys) : ∀ y ∈ ys, ∃ x ∈ xs, R x y := by
  induction h with
  | nil => intro y hy; cases hy
  | cons h t ih =>
    intro y hy
    rcases List.mem_cons.mp hy with e | e
    · subst e
      exact ⟨_, List.mem_cons_self, h⟩
    · obtain ⟨x, hx, hr⟩ := ih y e
      exact ⟨x, List.mem_cons_of_mem _ hx, hr⟩
theorem cr_sortedDT (hc : X.calm = true) : CallR X (.builtin "sorted") rSortedDT := by
  intro pins s σ H xs us Q I r h
  obtain ⟨d, kvs, rfl, hd, hkv, q⟩ := h
  obtain ⟨u, rfl, rx⟩ := r.one
  cases rx
  obtain ⟨z, hs, ks, pr, o, es, ep, ho, hx, hdt, he, hn⟩ := (show ObjOk X.prog X.w H s.heap d (.dT kvs) from hd.ok I.hok)
  have l1 : es.size = ks.length := size_of_entries he
  have l2 : kvs.length = ks.length := Paired.length pr
  refine Calls.call_function_entry PyProof.Rows.kind_sorted PyProof.Rows.plain_sorted PyProof.Rows.entry_sorted (PyProof.Rows.args_sorted1 _) ?_
  unfold Builtin.«sorted»
  refine wpAny_bind (m := checkCount "sorted" 1 1 _) (wpAny_pure ?_)
  refine wpAny_bind (PySem.W.kdu_collect (A := X.A.in1) (kdl_raw hs hx hdt) (I.ok.hd hc) ho (by omega) fun h' tk acc' kp it => ?_)
  have ea : acc'.toList = ks.map fun x => Value.ref x.2.1 := by
    have hl : acc'.toList.length = ks.length := by rw [Array.length_toList, it.1]; exact l1
    apply List.ext_getElem?
    intro j
    rw [List.getElem?_map]
    cases hj : acc'.toList[j]? with
    | none =>
      have h1 := List.getElem?_eq_none_iff.mp hj
      rw [List.getElem?_eq_none (by omega)]
      all_goals rfl
    | some v =>
      obtain ⟨en, hen, hv⟩ := it.2 j v (by rw [← Array.getElem?_toList]; exact hj)
      have qe := entry_at he j
      rw [hen] at qe
      cases hb : ks[j]? with
      | none =>
        rw [hb] at qe
        exact nomatch (show some en = none from qe)
      | some b =>
        rw [hb] at qe
        have e2 : en = entryOfKey (tupleKind (mixKind X.prog X.w)) b := Option.some.inj qe
        rw [hv, e2]
        all_goals rfl
  have hal : acc'.toList.length ≤ sizeLine := by rw [ea, List.length_map]; omega
  have I1 : Inv X pins σ H { s with heap := h', toks := tk } := I.kept kp
  have keys := isKeys_of pr
  have hpair : ∀ v ∈ acc'.toList, ∃ t i j, v = Value.ref t ∧ H t = some (.tup [.int i, .int j]) := fun v hv => by
    rw [ea] at hv
    obtain ⟨x, hx, rfl⟩ := List.mem_map.mp hv
    obtain ⟨kv, hkm, hb⟩ := paired_right keys x.2.1 (List.mem_map.mpr ⟨x, hx, rfl⟩)
    obtain ⟨i, j, e⟩ := hkv kv hkm
    rw [e] at hb
    exact ⟨_, i, j, rfl, hb⟩
  refine wpAny_bind (wpAny_newList ?_ hal)
  have hoL : (h'.push (seqObj "list" acc'.toList.toArray 0)).get? h'.objs.size = some (seqObj "list" acc'.toList.toArray 0) := Heap.get?_push_size _ rfl
  have hp : ∀ v ∈ acc'.toList, Srt.IsPair (h'.push (seqObj "list" acc'.toList.toArray 0)) v (kOf H (backV v)).1 (kOf H (backV v)).2 := fun v hv => by
    obtain ⟨t, i, j, rfl, ht⟩ := hpair v hv
    obtain ⟨_, its2, r2, o, ho2, hc2, n2, hd2⟩ := I1.hok _ _ ht
    obtain ⟨u1, u2, rfl, ri, rj⟩ := vals2 r2
    obtain ⟨t1, rfl⟩ := ri
    obtain ⟨t2, rfl⟩ := rj
    rw [show backV (Value.ref t) = V.ref t from rfl, kOf_at ht]
    exact ⟨t, o, t1, t2, n2, rfl, Heap.get?_push_of_some _ ho2, hc2, hd2⟩
  show wpAny _ _ _ _ _ { s with heap := h'.push (seqObj "list" acc'.toList.toArray 0), toks := tk }
  refine wpAny_bind (wpAny_holding (wpAny_call_entry PyProof.Rows.slot_list_sort ⟨_, hoL, rfl⟩ PyProof.Rows.entry_list_sort
    (SrtO.list_sort_ord (s := { s with heap := h'.push (seqObj "list" acc'.toList.toArray 0), toks := tk }) (SrtO.swo_lex fun v => kOf H (backV v)) hoL hal (fun h2 => ?_) fun out hs hb => ⟨_, rfl, ?_⟩) (PyProof.Rows.args_list_sort _)))
  · refine SrtO.pairs_sortableO (s := { s with heap := h'.push (seqObj "list" acc'.toList.toArray 0), toks := tk }) (by omega) hp fun o e => ?_
    have e' : some o = some (seqObj "list" acc'.toList.toArray 0) := e.symm.trans hoL
    cases e'
    intro c
    exact absurd (Value.type.inj c) (by decide)
  · obtain ⟨e', he'⟩ := PyProof.Rows.sortedHeap_at (vs := acc'.toList) (out := out.toArray) hoL
    have hrefs : ∀ u ∈ out, ∃ a, u = Value.ref a := fun u hu => by
      obtain ⟨t, i, j, e, _⟩ := hpair u (hb.perm.mem_iff.mp hu)
      exact ⟨t, e⟩
    have hb2 : SrtO.Stb (ltP (kOf H)) (out.map backV) ((ks.map fun x => x.2.1).map V.ref) := by
      have e1 : ((ks.map fun x => x.2.1).map V.ref) = acc'.toList.map backV := by
        rw [ea, List.map_map, List.map_map]
        rfl
      rw [e1]
      exact SrtO.Stb.map (ltP_swo (kOf H)) backV hb
    have hlen : (out.map backV).length ≤ sizeLine := by
      rw [List.length_map, hb.perm.length_eq]
      exact hal
    refine wpAny_pure ⟨_, rfl, .ref h'.objs.size, upd H h'.objs.size (.lst (out.map backV)), I1.laid (t' := tk) (fun b u e => ?_) (Nat.le_refl _)
      (show ObjOk X.prog X.w _ _ _ (.lst (out.map backV)) from ⟨hlen, out, e', vals_back hrefs, by exact he'⟩), rfl, q _ _ _ keys (SrtO.srtd_map hs) hb2 (I1.hok.fresh (Nat.le_refl _))⟩
    have hbn : b < h'.objs.size := Heap.lt_size e
    rw [PyProof.Rows.sortedHeap_old (Nat.ne_of_lt hbn) (by rw [size_push']; exact Nat.lt_succ_of_lt hbn)]
    exact Heap.get?_push_of_some _ e
/-- len(o), o an instance of an own class with a __len__ -/
def rLenOwn (C : Addr) (sp : Sp) (E : XK) : List V → Hp → VK → Prop := fun vs H Q => ∃ (a dx : Addr) (fs : List (Str × V)), vs = [V.ref a] ∧ H a = some (.ins C dx fs) ∧ sp [V.ref a] H (fun v H' => ∃ n : Nat, v = .int (n : Int) ∧ n ≤ sizeLine ∧ Q (.int (n : Int)) H') E
theorem cr_lenOwn {CX : CXT} {k : Nat} {C f : Addr} {fd : FuncData} {ps : List Str} {sp : Sp} {E : XK} (hm : Meth X.K C "__len__" f) (F : FnOk X.prog X.w X.K X.mg X.base CX k f fd ps sp) (hr : Room (k + 1) X.A) (hb : Binds X.K fd ps []) (hx : Passes CX X.nox E) :
    CallR X (.builtin "len") (rLenOwn C sp E) := by
  intro pins s σ H xs us Q I r h
  obtain ⟨a, dx, fs, rfl, ea, q⟩ := h
  obtain ⟨u, rfl, rx⟩ := vals1 r
  cases rx
  obtain ⟨mA, O, _, _, _, _⟩ := ins_get I.hok ea
  obtain ⟨od, J, _⟩ := O.look
  have hl : [Value.ref a].length = ps.length := (F.len _ _ _ _ q : _)
  apply Calls.call_function_entry kind_len plain_len entry_len (args_len1 _)
  show wpAny _ _ (Builtin.«len» _) _ _ _
  unfold Builtin.«len»
  apply wpAny_bind (m := oneArg "len" _)
  apply wpAny_pure
  apply wpAny_bind (m := callSpecial? (.ref a) (Str.ofString "__len__"))
  apply PySem.W.special_fn I.kIn J hm.at_ (beq_iff_eq.mp hm.fn)
  apply wpAny_call
  refine codeAny_mono (F.run X.A.in1 X.stack s H ⟨[.ref a], []⟩ [.ref a] [V.ref a] _ E hr.in1 I.env0.in1 (hb s [.ref a] I.kIn hl) (.cons rfl .nil) q) fun r s' hq => ?_
  rcases r with e | fl
  · exact False.elim (hx pins σ H s e s' (I.wish _) hq)
  · cases fl <;> first | exact False.elim hq | skip
    rename_i u
    obtain ⟨v, H', I3, rv, n, ev, hn, q3⟩ := I.after hq
    subst ev
    obtain ⟨t, et⟩ := rv
    subst et
    have h63 : sizeLine < 2 ^ 63 := by decide
    apply wpAny_bind
    apply wpAny_holding
    apply wpAny_pure
    apply wpAny_bind
    apply wpAny_letGo
    show wpAny _ _ (if (n : Int) < 0 then _ else _) _ _ _
    rw [if_neg (by omega)]
    show wpAny _ _ (if (n : Int) ≥ 2 ^ 63 then _ else _) _ _ _
    rw [if_neg (by omega)]
    apply wpAny_bind
    apply wpAny_mkInt
    exact wpAny_pure ⟨_, rfl, .int (n : Int), H', I3.tok _, ⟨_, rfl⟩, q3⟩
/-- for x in xs, xs a list or a tuple -/
def iSeq (K : PySem.W.Frag) (ta : TE) : TI := fun σ H R => ta σ H fun x H1 => ∃ a, x = .ref a ∧ (((∃ xs, SqL K H1 a xs) ∧ R (Itl K a) H1) ∨ ((∃ xs, SqT K H1 a xs) ∧ R (Itt K a) H1))
theorem pi_seq {tg l : Expr} {tl : TE} (hl : PE X l tl) : PI X tg l (iSeq X.K tl) := by
  refine ⟨fun pins s σ H R I h => thn (hl.run pins s σ H _ I h) ?_⟩
  rintro v s1 ⟨x, H1, I1, r1, a, rfl, q | q⟩
  all_goals
    obtain ⟨⟨xs, hq⟩, q⟩ := q
    obtain rfl : v = Value.ref a := r1
    have fresh := I1.fpOk (Nat.le_refl s1.heap.objs.size) (I1.hok.fresh (Nat.le_refl _))
    have older : ∀ {u : Obj}, Inv X pins σ H1 { s1 with heap := s1.heap.push u, toks := s1.toks } := fun {u} => I1.kept (t' := s1.toks) fun b o e => Heap.get?_push_of_some _ e
  · obtain ⟨its, rv, p, hz⟩ := I1.list hq
    exact wpAny_pyIter_list p.isList ⟨_, [s1.heap.objs.size], _, _, H1, rfl, older, turn_list a _, ⟨_, Heap.get?_push_size _ rfl, rfl, rfl⟩, fun b hb => by rw [List.mem_singleton.mp hb]; exact fresh, q⟩
  · obtain ⟨its, rv, p, hz⟩ := I1.tuple hq
    exact wpAny_pyIter_tuple (show s1.heap.IsTuple a its.toArray from p) ⟨_, [s1.heap.objs.size], _, _, H1, rfl, older, turn_tuple a _, ⟨_, Heap.get?_push_size _ rfl, rfl, rfl⟩, fun b hb => by rw [List.mem_singleton.mp hb]; exact fresh, q⟩
/-- the loop's rule for both -/
def SqB (K : PySem.W.Frag) (H : Hp) (a : Addr) (xs : List V) : Prop := SqL K H a xs ∨ SqT K H a xs
end
end Own

/-! Lots of cords as plain lists. -/
namespace Own
/-- one entry: two pins and a number of cords -/
abbrev Tr := Int × Int × Int
def lo (a b : Int) : Int := if b < a then b else a
def hi (a b : Int) : Int := if b > a then b else a
theorem lo_hi (a b : Int) : (a ≤ b ∧ lo a b = a ∧ hi a b = b) ∨ (b < a ∧ lo a b = b ∧ hi a b = a) := by
  unfold lo hi
  by_cases h : b < a
  · right
    rw [if_pos h, if_neg (by omega)]
    omega
  · left
    rw [if_neg h]
    by_cases e : b > a
    · rw [if_pos e]
      omega
    · rw [if_neg e]
      omega
/-- its pins as they stand, and in order -/
def pr (t : Tr) : Int × Int := (t.1, t.2.1)
def ky (t : Tr) : Int × Int := (lo t.1 t.2.1, hi t.1 t.2.1)
def Lex (p q : Int × Int) : Prop := p.1 < q.1 ∨ (p.1 = q.1 ∧ p.2 < q.2)
/-- the cords of all entries that the test takes: by the pins as they stand, by the pins in order -/
def bs (f : Int × Int → Bool) : List Tr → Int
  | [] => 0
  | t :: r => (if f (pr t) = true then t.2.2 else 0) + bs f r
def bk (f : Int × Int → Bool) : List Tr → Int
  | [] => 0
  | t :: r => (if f (ky t) = true then t.2.2 else 0) + bk f r
def tot (p : Int × Int) (l : List Tr) : Int := bk (fun q => decide (q = p)) l
theorem bs_append (f : Int × Int → Bool) (l m : List Tr) : bs f (l ++ m) = bs f l + bs f m := by
  induction l with
  | nil => simp [bs]
  | cons t r ih =>
    rw [List.cons_append, bs, bs, ih]
    omega
theorem bk_append (f : Int × Int → Bool) (l m : List Tr) : bk f (l ++ m) = bk f l + bk f m := by
  induction l with
  | nil => simp [bk]
  | cons t r ih =>
    rw [List.cons_append, bk, bk, ih]
    omega
theorem bs_congr {f g : Int × Int → Bool} {l : List Tr} (h : ∀ t ∈ l, f (pr t) = g (pr t)) : bs f l = bs g l := by
  induction l with
  | nil => rfl
  | cons t r ih =>
    rw [bs, bs, h t List.mem_cons_self, ih fun u hu => h u (List.mem_cons_of_mem _ hu)]
/-- r is l in order: one entry for each two pins, the smaller pin first -/
structure IsNorm (l r : List Tr) : Prop where
  srt : (r.map pr).Pairwise Lex
  mem : ∀ p, p ∈ r.map pr ↔ p ∈ l.map ky
  cnt : ∀ e ∈ r, e.2.2 = tot (pr e) l
theorem lex_irr {p : Int × Int} : ¬ Lex p p := by
  unfold Lex
  omega
theorem lex_asym {p q : Int × Int} (h : Lex p q) : ¬ Lex q p := by
  unfold Lex at h ⊢
  omega
theorem sorted_uniq : ∀ {xs ys : List (Int × Int)}, xs.Pairwise Lex → ys.Pairwise Lex → (∀ p, p ∈ xs ↔ p ∈ ys) → xs = ys
  | [], [], _, _, _ => rfl
  | [], y :: ys, _, _, h => absurd ((h y).mpr List.mem_cons_self) (by simp)
  | x :: xs, [], _, _, h => absurd ((h x).mp List.mem_cons_self) (by simp)
  | x :: xs, y :: ys, hx, hy, h => by
    have hx1 := List.pairwise_cons.mp hx
    have hy1 := List.pairwise_cons.mp hy
    have e : x = y := by
      rcases List.mem_cons.mp ((h x).mp List.mem_cons_self) with e | m
      · exact e
      · rcases List.mem_cons.mp ((h y).mpr List.mem_cons_self) with e | m2
        · exact e.symm
        · exact absurd (hy1.1 x m) (lex_asym (hx1.1 y m2))
    subst e
    congr 1
    refine sorted_uniq hx1.2 hy1.2 fun p => ⟨fun m => ?_, fun m => ?_⟩
    · rcases List.mem_cons.mp ((h p).mp (List.mem_cons_of_mem _ m)) with e | m2
      · subst e
        exact absurd (hx1.1 p m) lex_irr
      · exact m2
    · rcases List.mem_cons.mp ((h p).mpr (List.mem_cons_of_mem _ m)) with e | m2
      · subst e
        exact absurd (hy1.1 p m) lex_irr
      · exact m2
theorem of_pairs {r : List Tr} {g : Int × Int → Int} (h : ∀ e ∈ r, e.2.2 = g (pr e)) : r = (r.map pr).map fun p => (p.1, p.2, g p) := by
  induction r with
  | nil => rfl
  | cons e r ih =>
    rw [List.map_cons, List.map_cons, ← ih fun u hu => h u (List.mem_cons_of_mem _ hu), ← h e List.mem_cons_self]
    rfl
theorem norm_uniq {l r s : List Tr} (h : IsNorm l r) (k : IsNorm l s) : r = s := by
  have e : r.map pr = s.map pr := sorted_uniq h.srt k.srt fun p => by rw [h.mem, k.mem]
  exact (of_pairs (g := fun p => tot p l) h.cnt).trans ((congrArg (List.map _) e).trans (of_pairs (g := fun p => tot p l) k.cnt).symm)
/-- the sum over a list of pairs, by their numbers in l -/
def ps (f : Int × Int → Bool) (l : List Tr) : List (Int × Int) → Int
  | [] => 0
  | p :: r => (if f p = true then tot p l else 0) + ps f l r
theorem ps_nil (f : Int × Int → Bool) (P : List (Int × Int)) : ps f [] P = 0 := by
  induction P with
  | nil => rfl
  | cons p r ih =>
    rw [ps, ih]
    show (if f p = true then (0 : Int) else 0) + 0 = 0
    split <;> rfl
theorem tot_cons (p : Int × Int) (t : Tr) (l : List Tr) : tot p (t :: l) = (if ky t = p then t.2.2 else 0) + tot p l := by
  unfold tot
  rw [bk]
  by_cases h : ky t = p <;> simp [h]
theorem ps_out (f : Int × Int → Bool) (t : Tr) (l : List Tr) {P : List (Int × Int)} (h : ky t ∉ P) : ps f (t :: l) P = ps f l P := by
  induction P with
  | nil => rfl
  | cons p r ih =>
    have hne : ¬ ky t = p := fun z => h (by rw [z]; exact List.mem_cons_self)
    have ht : tot p (t :: l) = tot p l := by
      rw [tot_cons, if_neg hne]
      omega
    rw [ps, ps, ih fun z => h (List.mem_cons_of_mem _ z), ht]
theorem ps_in (f : Int × Int → Bool) (t : Tr) (l : List Tr) {P : List (Int × Int)} (hn : P.Nodup) (h : ky t ∈ P) : ps f (t :: l) P = (if f (ky t) = true then t.2.2 else 0) + ps f l P := by
  induction P with
  | nil => cases h
  | cons p r ih =>
    have hc := List.nodup_cons.mp hn
    by_cases e : ky t = p
    · subst e
      rw [ps, ps, tot_cons, if_pos rfl, ps_out f t l hc.1]
      split <;> omega
    · have hr : ky t ∈ r := (List.mem_cons.mp h).resolve_left e
      rw [ps, ps, tot_cons, if_neg e, ih hc.2 hr]
      split <;> split <;> omega
theorem ps_all (f : Int × Int → Bool) {P : List (Int × Int)} (hn : P.Nodup) : ∀ {l : List Tr}, (∀ t ∈ l, ky t ∈ P) → ps f l P = bk f l
  | [], _ => ps_nil f P
  | t :: l, h => by
    rw [ps_in f t l hn (h t List.mem_cons_self), ps_all f hn fun u hu => h u (List.mem_cons_of_mem _ hu)]
    rfl
theorem srt_nodup {xs : List (Int × Int)} (h : xs.Pairwise Lex) : xs.Nodup := by
  refine List.Pairwise.imp ?_ h
  intro a b hab e
  subst e
  exact lex_irr hab
theorem bs_ps (f : Int × Int → Bool) {l r : List Tr} (h : ∀ e ∈ r, e.2.2 = tot (pr e) l) : bs f r = ps f l (r.map pr) := by
  induction r with
  | nil => rfl
  | cons e r ih =>
    rw [bs, List.map_cons, ps, ih fun u hu => h u (List.mem_cons_of_mem _ hu), h e List.mem_cons_self]
theorem bs_norm (f : Int × Int → Bool) {l r : List Tr} (h : IsNorm l r) : bs f r = bk f l := by
  rw [bs_ps f h.cnt, ps_all f (srt_nodup h.srt) fun t ht => (h.mem _).mpr (List.mem_map.mpr ⟨t, ht, rfl⟩)]
/-- an entry that may stand in a lot -/
def Vld (n : Int) (t : Tr) : Prop := 0 ≤ t.1 ∧ t.1 < n ∧ 0 ≤ t.2.1 ∧ t.2.1 < n ∧ t.1 ≠ t.2.1 ∧ 1 ≤ t.2.2
/-- a lot in order on n pins -/
structure Good (n : Int) (r : List Tr) : Prop where
  srt : (r.map pr).Pairwise Lex
  ord : ∀ e ∈ r, 0 ≤ e.1 ∧ e.1 < e.2.1 ∧ e.2.1 < n ∧ 1 ≤ e.2.2
theorem ky_ord {e : Tr} (h : e.1 < e.2.1) : ky e = pr e := by
  have := lo_hi e.1 e.2.1
  unfold ky pr
  rw [Prod.mk.injEq]
  omega
theorem Good.vld {n : Int} {r : List Tr} (g : Good n r) : ∀ e ∈ r, Vld n e := fun e h => by
  have := g.ord e h
  unfold Vld
  omega
theorem bk_bs (f : Int × Int → Bool) {r : List Tr} (h : ∀ e ∈ r, e.1 < e.2.1) : bk f r = bs f r := by
  induction r with
  | nil => rfl
  | cons e r ih => rw [bk, bs, ky_ord (h e List.mem_cons_self), ih fun u hu => h u (List.mem_cons_of_mem _ hu)]
theorem bs_none {f : Int × Int → Bool} {r : List Tr} (h : ∀ e ∈ r, f (pr e) = false) : bs f r = 0 := by
  induction r with
  | nil => rfl
  | cons e r ih =>
    rw [bs, h e List.mem_cons_self, ih fun u hu => h u (List.mem_cons_of_mem _ hu)]
    rfl
theorem self_cnt {r : List Tr} (h : (r.map pr).Nodup) : ∀ e ∈ r, e.2.2 = bs (fun q => decide (q = pr e)) r := by
  induction r with
  | nil => intro e he; cases he
  | cons t r ih =>
    have hc := List.nodup_cons.mp h
    intro e he
    rw [bs]
    rcases List.mem_cons.mp he with rfl | hr
    · rw [bs_none fun u hu => decide_eq_false fun z => hc.1 (by rw [← z]; exact List.mem_map.mpr ⟨u, hu, rfl⟩)]
      simp
    · have hne : ¬ pr t = pr e := fun z => hc.1 (by rw [z]; exact List.mem_map.mpr ⟨e, hr, rfl⟩)
      rw [← ih hc.2 e hr]
      simp [hne]
theorem Good.self {n : Int} {r : List Tr} (g : Good n r) : IsNorm r r := by
  have ho : ∀ e ∈ r, e.1 < e.2.1 := fun e h => (g.ord e h).2.1
  have hm : r.map ky = r.map pr := List.map_congr_left fun e h => ky_ord (ho e h)
  refine ⟨g.srt, fun p => by rw [hm], fun e h => ?_⟩
  unfold tot
  rw [bk_bs _ ho]
  exact self_cnt (srt_nodup g.srt) e h
theorem bk_pos {l : List Tr} (h : ∀ t ∈ l, 1 ≤ t.2.2) {p : Int × Int} (m : p ∈ l.map ky) : 1 ≤ tot p l := by
  have nn : ∀ {m : List Tr}, (∀ t ∈ m, 1 ≤ t.2.2) → 0 ≤ tot p m := by
    intro m hm
    induction m with
    | nil => exact Int.le_refl 0
    | cons t r ih =>
      have h1 := hm t List.mem_cons_self
      have h2 := ih fun u hu => hm u (List.mem_cons_of_mem _ hu)
      rw [tot_cons]
      split <;> omega
  induction l with
  | nil => cases m
  | cons t r ih =>
    have h1 := h t List.mem_cons_self
    have h2 := nn fun u hu => h u (List.mem_cons_of_mem _ hu)
    rw [tot_cons]
    rcases List.mem_cons.mp m with e | hr
    · rw [if_pos e.symm]
      omega
    · have h3 := ih (fun u hu => h u (List.mem_cons_of_mem _ hu)) hr
      split <;> omega
theorem IsNorm.good {n : Int} {l r : List Tr} (h : IsNorm l r) (v : ∀ t ∈ l, Vld n t) : Good n r := by
  refine ⟨h.srt, fun e he => ?_⟩
  have hm : pr e ∈ l.map ky := (h.mem _).mp (List.mem_map.mpr ⟨e, he, rfl⟩)
  have hp := bk_pos (fun t ht => (v t ht).2.2.2.2.2) hm
  rw [← h.cnt e he] at hp
  obtain ⟨t, ht, e1⟩ := List.mem_map.mp hm
  have hv := v t ht
  unfold Vld at hv
  have h1 := lo_hi t.1 t.2.1
  unfold ky pr at e1
  rw [Prod.mk.injEq] at e1
  omega
/-! ### renamed pins -/
def mp (g : Int → Int) (l : List Tr) : List Tr := l.map fun t => (g t.1, g t.2.1, t.2.2)
theorem bk_mp (g : Int → Int) (f : Int × Int → Bool) (l : List Tr) : bk f (mp g l) = bk (fun q => f (lo (g q.1) (g q.2), hi (g q.1) (g q.2))) l := by
  induction l with
  | nil => rfl
  | cons t r ih =>
    show (if f (ky (g t.1, g t.2.1, t.2.2)) = true then t.2.2 else 0) + bk f (mp g r) = _
    rw [ih, bk]
    have e : ky (g t.1, g t.2.1, t.2.2) = (lo (g (ky t).1) (g (ky t).2), hi (g (ky t).1) (g (ky t).2)) := by
      unfold ky
      dsimp only
      rcases lo_hi t.1 t.2.1 with h | h
      · rw [h.2.1, h.2.2]
      · rw [h.2.1, h.2.2]
        have a := lo_hi (g t.1) (g t.2.1)
        have b := lo_hi (g t.2.1) (g t.1)
        rw [Prod.mk.injEq]
        omega
    rw [e]
theorem mem_mp (g : Int → Int) {l r : List Tr} (h : ∀ p, p ∈ l.map ky ↔ p ∈ r.map ky) (p : Int × Int) : p ∈ (mp g l).map ky → p ∈ (mp g r).map ky := by
  have e : ∀ t : Tr, ky (g t.1, g t.2.1, t.2.2) = (lo (g (ky t).1) (g (ky t).2), hi (g (ky t).1) (g (ky t).2)) := fun t => by
    unfold ky
    dsimp only
    rcases lo_hi t.1 t.2.1 with h | h
    · rw [h.2.1, h.2.2]
    · rw [h.2.1, h.2.2]
      have a := lo_hi (g t.1) (g t.2.1)
      have b := lo_hi (g t.2.1) (g t.1)
      rw [Prod.mk.injEq]
      omega
  intro m
  obtain ⟨u, hu, e1⟩ := List.mem_map.mp m
  obtain ⟨t, ht, rfl⟩ := List.mem_map.mp hu
  obtain ⟨s, hs, e2⟩ := List.mem_map.mp ((h _).mp (List.mem_map.mpr ⟨t, ht, rfl⟩))
  refine List.mem_map.mpr ⟨_, List.mem_map.mpr ⟨s, hs, rfl⟩, ?_⟩
  rw [← e1, e, e, e2]
theorem norm_keys {n : Int} {l r : List Tr} (h : IsNorm l r) (g : Good n r) (p : Int × Int) : p ∈ l.map ky ↔ p ∈ r.map ky := by
  rw [← h.mem, List.map_congr_left fun e he => ky_ord (g.ord e he).2.1]
theorem norm_tot {n : Int} {l r : List Tr} (h : IsNorm l r) (g : Good n r) (f : Int × Int → Bool) : bk f r = bk f l := by
  rw [bk_bs f fun e he => (g.ord e he).2.1, bs_norm f h]
/-- renaming behind the ordering is renaming ahead of it -/
theorem norm_mp {n : Int} {l r x : List Tr} (h : IsNorm l r) (g : Good n r) (σ : Int → Int) (k : IsNorm (mp σ r) x) : IsNorm (mp σ l) x := by
  refine ⟨k.srt, fun p => (k.mem p).trans ⟨mem_mp σ (fun q => (norm_keys h g q).symm) p, mem_mp σ (norm_keys h g) p⟩, fun e he => ?_⟩
  rw [k.cnt e he]
  unfold tot
  rw [bk_mp, bk_mp, norm_tot h g]
theorem mp_mp (σ τ : Int → Int) (l : List Tr) : mp τ (mp σ l) = mp (fun x => τ (σ x)) l := by
  unfold mp
  rw [List.map_map]
  rfl
theorem mp_congr {σ τ : Int → Int} {n : Int} {l : List Tr} (v : ∀ t ∈ l, Vld n t) (h : ∀ x, 0 ≤ x → x < n → σ x = τ x) : mp σ l = mp τ l := by
  refine List.map_congr_left fun t ht => ?_
  have := v t ht
  unfold Vld at this
  rw [h t.1 (by omega) (by omega), h t.2.1 (by omega) (by omega)]
theorem mp_id {σ : Int → Int} {n : Int} {l : List Tr} (v : ∀ t ∈ l, Vld n t) (h : ∀ x, 0 ≤ x → x < n → σ x = x) : mp σ l = l := by
  rw [mp_congr (τ := fun x => x) v h]
  unfold mp
  exact List.map_id' l
theorem mp_vld {σ : Int → Int} {n : Int} {l : List Tr} (v : ∀ t ∈ l, Vld n t) (h : ∀ x, 0 ≤ x → x < n → 0 ≤ σ x ∧ σ x < n) (inj : ∀ x y, 0 ≤ x → x < n → 0 ≤ y → y < n → σ x = σ y → x = y) : ∀ t ∈ mp σ l, Vld n t := fun u hu => by
  obtain ⟨t, ht, rfl⟩ := List.mem_map.mp hu
  have hv := v t ht
  unfold Vld at hv ⊢
  have h1 := h t.1 (by omega) (by omega)
  have h2 := h t.2.1 (by omega) (by omega)
  have h3 := inj t.1 t.2.1 (by omega) (by omega) (by omega) (by omega)
  dsimp only
  refine ⟨h1.1, h1.2, h2.1, h2.2, fun z => hv.2.2.2.2.1 (h3 z), hv.2.2.2.2.2⟩
end Own

namespace Own
open PySem PySem.Spec PyProof.Rows L2
/-! ### the text by places -/
def top (i : Nat) : Stmt := PySem.Challenge.pw_rimcords_k01_lots_made.main.body.getD i (.Pass ⟨0, 0, 0, 0⟩)
abbrev s__wall : Stmt := top 0
theorem sc__wall : FnScope ["k"] ["k"] (defScope s__wall) := ⟨rfl, rfl, rfl, by decide +kernel, rfl, by decide +kernel, by decide +kernel⟩
abbrev s_gaps : Stmt := top 13
theorem sc_gaps : FnScope ["pins"] ["pins"] (defScope s_gaps) := ⟨rfl, rfl, rfl, by decide +kernel, rfl, by decide +kernel, by decide +kernel⟩
abbrev s_is_whole : Stmt := top 15
theorem sc_is_whole : FnScope ["value"] ["value"] (defScope s_is_whole) := ⟨rfl, rfl, rfl, by decide +kernel, rfl, by decide +kernel, by decide +kernel⟩
abbrev s_is_sequence : Stmt := top 16
theorem sc_is_sequence : FnScope ["value"] ["value"] (defScope s_is_sequence) := ⟨rfl, rfl, rfl, by decide +kernel, rfl, by decide +kernel, by decide +kernel⟩
abbrev s_is_below : Stmt := top 17
theorem sc_is_below : FnScope ["value", "bound"] ["value", "bound"] (defScope s_is_below) := ⟨rfl, rfl, rfl, by decide +kernel, rfl, by decide +kernel, by decide +kernel⟩
abbrev s_check_pins : Stmt := top 18
theorem sc_check_pins : FnScope ["pins"] ["pins"] (defScope s_check_pins) := ⟨rfl, rfl, rfl, by decide +kernel, rfl, by decide +kernel, by decide +kernel⟩
abbrev s_check_pin : Stmt := top 19
theorem sc_check_pin : FnScope ["pins", "pin"] ["pins", "pin"] (defScope s_check_pin) := ⟨rfl, rfl, rfl, by decide +kernel, rfl, by decide +kernel, by decide +kernel⟩
abbrev s_check_like : Stmt := top 20
theorem sc_check_like : FnScope ["one", "other"] ["one", "other"] (defScope s_check_like) := ⟨rfl, rfl, rfl, by decide +kernel, rfl, by decide +kernel, by decide +kernel⟩
abbrev s_check_number : Stmt := top 21
theorem sc_check_number : FnScope ["number", "least"] ["number", "least"] (defScope s_check_number) := ⟨rfl, rfl, rfl, by decide +kernel, rfl, by decide +kernel, by decide +kernel⟩
abbrev s_is_entry : Stmt := top 23
theorem sc_is_entry : FnScope ["pins", "entry", "a", "b", "many"] ["pins", "entry"] (defScope s_is_entry) := ⟨rfl, rfl, rfl, by decide +kernel, rfl, by decide +kernel, by decide +kernel⟩
abbrev s_gathered : Stmt := top 24
theorem sc_gathered : FnScope ["pins", "entries", "held", "entry", "pair", "a", "b", "many"] ["pins", "entries"] (defScope s_gathered) := ⟨rfl, rfl, rfl, by decide +kernel, rfl, by decide +kernel, by decide +kernel⟩
abbrev s_by_pair : Stmt := top 25
theorem sc_by_pair : FnScope ["cords", "a", "b", "many"] ["cords"] (defScope s_by_pair) := ⟨rfl, rfl, rfl, by decide +kernel, rfl, by decide +kernel, by decide +kernel⟩
abbrev s_entries_of : Stmt := top 26
theorem sc_entries_of : FnScope ["held", "a", "b"] ["held"] (defScope s_entries_of) := ⟨rfl, rfl, rfl, by decide +kernel, rfl, by decide +kernel, by decide +kernel⟩
abbrev s_ends_at_pins : Stmt := top 27
theorem sc_ends_at_pins : FnScope ["pins", "cords", "ends", "a", "b", "many"] ["pins", "cords"] (defScope s_ends_at_pins) := ⟨rfl, rfl, rfl, by decide +kernel, rfl, by decide +kernel, by decide +kernel⟩
abbrev s_cord_grid : Stmt := top 28
theorem sc_cord_grid : FnScope ["pins", "cords", "rows", "a", "b", "many", "_"] ["pins", "cords"] (defScope s_cord_grid) := ⟨rfl, rfl, rfl, by decide +kernel, rfl, by decide +kernel, by decide +kernel⟩
abbrev s_sums_before : Stmt := top 29
theorem sc_sums_before : FnScope ["row", "sums", "total", "number"] ["row"] (defScope s_sums_before) := ⟨rfl, rfl, rfl, by decide +kernel, rfl, by decide +kernel, by decide +kernel⟩
abbrev s_table_rows : Stmt := top 30
theorem sc_table_rows : FnScope ["pins", "cords", "sums", "size", "rows", "i", "across", "j", "row", "_"] ["pins", "cords"] (defScope s_table_rows) := ⟨rfl, rfl, rfl, by decide +kernel, rfl, by decide +kernel, by decide +kernel⟩
abbrev s_first_bar : Stmt := top 31
theorem sc_first_bar : FnScope ["pins", "held", "wished", "i", "j"] ["pins", "held", "wished"] (defScope s_first_bar) := ⟨rfl, rfl, rfl, by decide +kernel, rfl, by decide +kernel, by decide +kernel⟩
abbrev s_odd_pins : Stmt := top 32
theorem sc_odd_pins : FnScope ["ends", "wished", "pin", "many"] ["ends", "wished"] (defScope s_odd_pins) := ⟨rfl, rfl, rfl, by decide +kernel, rfl, by decide +kernel, by decide +kernel⟩
abbrev s_Lot_init : Stmt := inClass (top 34) 0
theorem sc_Lot_init : FnScope ["self", "pins", "cords"] ["self", "pins", "cords"] (defScope s_Lot_init) := ⟨rfl, rfl, rfl, by decide +kernel, rfl, by decide +kernel, by decide +kernel⟩
abbrev s_Lot_table : Stmt := inClass (top 34) 1
theorem sc_Lot_table : FnScope ["self"] ["self"] (defScope s_Lot_table) := ⟨rfl, rfl, rfl, by decide +kernel, rfl, by decide +kernel, by decide +kernel⟩
abbrev s_Lot_between : Stmt := inClass (top 34) 2
theorem sc_Lot_between : FnScope ["self", "one", "other"] ["self", "one", "other"] (defScope s_Lot_between) := ⟨rfl, rfl, rfl, by decide +kernel, rfl, by decide +kernel, by decide +kernel⟩
abbrev s_Lot_ends : Stmt := inClass (top 34) 3
theorem sc_Lot_ends : FnScope ["self", "pin"] ["self", "pin"] (defScope s_Lot_ends) := ⟨rfl, rfl, rfl, by decide +kernel, rfl, by decide +kernel, by decide +kernel⟩
abbrev s_Lot_total : Stmt := inClass (top 34) 4
theorem sc_Lot_total : FnScope ["self", "entry"] ["self"] (defScope s_Lot_total) := ⟨rfl, rfl, rfl, by decide +kernel, rfl, by decide +kernel, by decide +kernel⟩
abbrev s_Lot_len : Stmt := inClass (top 34) 5
theorem sc_Lot_len : FnScope ["self"] ["self"] (defScope s_Lot_len) := ⟨rfl, rfl, rfl, by decide +kernel, rfl, by decide +kernel, by decide +kernel⟩
abbrev s_Lot_iter : Stmt := inClass (top 34) 6
theorem sc_Lot_iter : FnScope ["self"] ["self"] (defScope s_Lot_iter) := ⟨rfl, rfl, rfl, by decide +kernel, rfl, by decide +kernel, by decide +kernel⟩
abbrev s_Lot_eq : Stmt := inClass (top 34) 7
theorem sc_Lot_eq : FnScope ["self", "other"] ["self", "other"] (defScope s_Lot_eq) := ⟨rfl, rfl, rfl, by decide +kernel, rfl, by decide +kernel, by decide +kernel⟩
abbrev s_Lot_add : Stmt := inClass (top 34) 8
theorem sc_Lot_add : FnScope ["self", "other"] ["self", "other"] (defScope s_Lot_add) := ⟨rfl, rfl, rfl, by decide +kernel, rfl, by decide +kernel, by decide +kernel⟩
abbrev s_Lot_sub : Stmt := inClass (top 34) 9
theorem sc_Lot_sub : FnScope ["self", "other", "left", "a", "b", "many"] ["self", "other"] (defScope s_Lot_sub) := ⟨rfl, rfl, rfl, by decide +kernel, rfl, by decide +kernel, by decide +kernel⟩
abbrev s_Lot_mul : Stmt := inClass (top 34) 10
theorem sc_Lot_mul : FnScope ["self", "number", "a", "b", "many"] ["self", "number"] (defScope s_Lot_mul) := ⟨rfl, rfl, rfl, by decide +kernel, rfl, by decide +kernel, by decide +kernel⟩
abbrev s_Lot_contains : Stmt := inClass (top 34) 11
theorem sc_Lot_contains : FnScope ["self", "wishes"] ["self", "wishes"] (defScope s_Lot_contains) := ⟨rfl, rfl, rfl, by decide +kernel, rfl, by decide +kernel, by decide +kernel⟩
abbrev s__law_whole : Stmt := top 36
theorem sc__law_whole : FnScope ["_law_value"] ["_law_value"] (defScope s__law_whole) := ⟨rfl, rfl, rfl, by decide +kernel, rfl, by decide +kernel, by decide +kernel⟩
abbrev s__law_cell : Stmt := top 37
theorem sc__law_cell : FnScope ["_law_script", "_law_k", "_law_seed", "_law_cell_here"] ["_law_script", "_law_k"] (defScope s__law_cell) := ⟨rfl, rfl, rfl, by decide +kernel, rfl, by decide +kernel, by decide +kernel⟩
abbrev s__law_digits : Stmt := top 38
theorem sc__law_digits : FnScope ["_law_cell_here", "_law_sizes", "_law_row", "_law_rest", "_law_seed", "_law_k", "_law_size", "_law_twice"] ["_law_cell_here", "_law_sizes"] (defScope s__law_digits) := ⟨rfl, rfl, rfl, by decide +kernel, rfl, by decide +kernel, by decide +kernel⟩
abbrev s__law_same : Stmt := top 39
theorem sc__law_same : FnScope ["_law_value", "_law_due", "_law_k"] ["_law_value", "_law_due"] (defScope s__law_same) := ⟨rfl, rfl, rfl, by decide +kernel, rfl, by decide +kernel, by decide +kernel⟩
abbrev s__law_norm : Stmt := top 40
theorem sc__law_norm : FnScope ["_law_triples", "_law_pairs", "_law_entry_here", "_law_row", "_law_pair", "_law_low", "_law_high", "_law_many"] ["_law_triples"] (defScope s__law_norm) := ⟨rfl, rfl, rfl, by decide +kernel, rfl, by decide +kernel, by decide +kernel⟩
abbrev s__law_pins : Stmt := top 41
theorem sc__law_pins : FnScope ["_law_cell_here", "_law_row"] ["_law_cell_here"] (defScope s__law_pins) := ⟨rfl, rfl, rfl, by decide +kernel, rfl, by decide +kernel, by decide +kernel⟩
abbrev s__law_entry : Stmt := top 42
theorem sc__law_entry : FnScope ["_law_cell_here", "_law_rim", "_law_earlier", "_law_row", "_law_one", "_law_other", "_law_old"] ["_law_cell_here", "_law_rim", "_law_earlier"] (defScope s__law_entry) := ⟨rfl, rfl, rfl, by decide +kernel, rfl, by decide +kernel, by decide +kernel⟩
abbrev s__law_bad_entries : Stmt := top 43
theorem sc__law_bad_entries : FnScope ["_law_cell_here", "_law_rim", "_law_row", "_law_one", "_law_other", "_law_n", "_law_far", "_law_kinds"] ["_law_cell_here", "_law_rim"] (defScope s__law_bad_entries) := ⟨rfl, rfl, rfl, by decide +kernel, rfl, by decide +kernel, by decide +kernel⟩
abbrev s__law_bad_entry : Stmt := top 44
theorem sc__law_bad_entry : FnScope ["_law_cell_here", "_law_rim", "_law_k", "_law_kinds", "_law_bad"] ["_law_cell_here", "_law_rim", "_law_k"] (defScope s__law_bad_entry) := ⟨rfl, rfl, rfl, by decide +kernel, rfl, by decide +kernel, by decide +kernel⟩
abbrev s__law_table : Stmt := top 45
theorem sc__law_table : FnScope ["_law_rim", "_law_held", "_law_size", "_law_grid", "_law_i", "_law_met", "_law_step", "_law_j", "_law_row", "_law_entry_here"] ["_law_rim", "_law_held"] (defScope s__law_table) := ⟨rfl, rfl, rfl, by decide +kernel, rfl, by decide +kernel, by decide +kernel⟩
abbrev s__law_told : Stmt := top 46
theorem sc__law_told : FnScope ["_law_lot", "_law_rim", "_law_due", "_law_spot", "_law_entry_here"] ["_law_lot", "_law_rim", "_law_due"] (defScope s__law_told) := ⟨rfl, rfl, rfl, by decide +kernel, rfl, by decide +kernel, by decide +kernel⟩
abbrev s__law_lot_is : Stmt := top 47
theorem sc__law_lot_is : FnScope ["_law_lot", "_law_rim", "_law_held"] ["_law_lot", "_law_rim", "_law_held"] (defScope s__law_lot_is) := ⟨rfl, rfl, rfl, by decide +kernel, rfl, by decide +kernel, by decide +kernel⟩
abbrev s__law_copied : Stmt := top 48
theorem sc__law_copied : FnScope ["_law_held", "_law_row", "_law_entry_here"] ["_law_held"] (defScope s__law_copied) := ⟨rfl, rfl, rfl, by decide +kernel, rfl, by decide +kernel, by decide +kernel⟩
abbrev s__law_refused_entry : Stmt := top 49
theorem sc__law_refused_entry : FnScope ["_law_rim", "_law_held", "_law_entry_here", "_law_kept"] ["_law_rim", "_law_held", "_law_entry_here"] (defScope s__law_refused_entry) := ⟨rfl, rfl, rfl, by decide +kernel, rfl, by decide +kernel, by decide +kernel⟩
abbrev s__law_refused_pins : Stmt := top 50
theorem sc__law_refused_pins : FnScope ["_law_rim", "_law_held", "_law_kept"] ["_law_rim", "_law_held"] (defScope s__law_refused_pins) := ⟨rfl, rfl, rfl, by decide +kernel, rfl, by decide +kernel, by decide +kernel⟩
abbrev s__law_passed : Stmt := top 51
theorem sc__law_passed : FnScope ["_law_entries", "_law_form", "_law_row", "_law_k"] ["_law_entries", "_law_form"] (defScope s__law_passed) := ⟨rfl, rfl, rfl, by decide +kernel, rfl, by decide +kernel, by decide +kernel⟩
abbrev s__law_made : Stmt := top 52
theorem sc__law_made : FnScope ["_law_rim", "_law_entries", "_law_form", "_law_held", "_law_due", "_law_lot", "_law_k", "_law_other", "_law_empty", "_law_entry_here"] ["_law_rim", "_law_entries", "_law_form"] (defScope s__law_made) := ⟨rfl, rfl, rfl, by decide +kernel, rfl, by decide +kernel, by decide +kernel⟩
abbrev s__law_all_refused : Stmt := top 53
theorem sc__law_all_refused : FnScope ["_law_script", "_law_rim", "_law_entries", "_law_draw", "_law_k", "_law_bad", "_law_place", "_law_spoilt", "_law_second", "_law_worse", "_law_lower", "_law_wrong"] ["_law_script", "_law_rim", "_law_entries"] (defScope s__law_all_refused) := ⟨rfl, rfl, rfl, by decide +kernel, rfl, by decide +kernel, by decide +kernel⟩
abbrev s_law : Stmt := top 54
theorem sc_law : FnScope ["_law_script", "_law_rim", "_law_many", "_law_form", "_law_entries", "_law_k", "_law_row", "_law_one"] ["_law_script"] (defScope s_law) := ⟨rfl, rfl, rfl, by decide +kernel, rfl, by decide +kernel, by decide +kernel⟩
end Own

namespace Own
open PySem PySem.Spec PyProof.Rows L2
/-! ### heaps -/
theorem same_upd {H : Hp} {p : Addr} {o : HO} (h : H p = none) : Same H (upd H p o) := fun b x e => by
  rw [upd_ne (ne_of_none e h)]
  exact e
/-- a tuple of three ints -/
abbrev tv (t : Tr) : List V := [.int t.1, .int t.2.1, .int t.2.2]
def TrV (H : Hp) (vs : List V) (l : List Tr) : Prop := vs.length = l.length ∧ ∀ (i : Nat) (t : Tr), l[i]? = some t → ∃ b, vs[i]? = some (.ref b) ∧ H b = some (.tup (tv t))
def Trip (H : Hp) (a : Addr) (l : List Tr) : Prop := ∃ vs, H a = some (.tup vs) ∧ TrV H vs l
def TripL (H : Hp) (a : Addr) (l : List Tr) : Prop := ∃ vs, H a = some (.lst vs) ∧ TrV H vs l
theorem TrV.same {H H' : Hp} {vs : List V} {l : List Tr} (s : Same H H') (h : TrV H vs l) : TrV H' vs l := ⟨h.1, fun i t e => by
  obtain ⟨b, e1, e2⟩ := h.2 i t e
  exact ⟨b, e1, s _ _ e2⟩⟩
theorem Trip.same {H H' : Hp} {a : Addr} {l : List Tr} (s : Same H H') (h : Trip H a l) : Trip H' a l := by
  obtain ⟨vs, e, t⟩ := h
  exact ⟨vs, s _ _ e, t.same s⟩
theorem TripL.same {H H' : Hp} {a : Addr} {l : List Tr} (s : Same H H') (h : TripL H a l) : TripL H' a l := by
  obtain ⟨vs, e, t⟩ := h
  exact ⟨vs, s _ _ e, t.same s⟩
theorem TrV.nil {H : Hp} : TrV H [] [] := ⟨rfl, fun i t e => by simp at e⟩
theorem TrV.snoc {H : Hp} {vs : List V} {l : List Tr} {b : Addr} {t : Tr} (h : TrV H vs l) (e : H b = some (.tup (tv t))) : TrV H (vs ++ [.ref b]) (l ++ [t]) := by
  refine ⟨by rw [List.length_append, List.length_append, h.1]; rfl, fun i u hu => ?_⟩
  by_cases hi : i < l.length
  · rw [List.getElem?_append_left hi] at hu
    obtain ⟨c, e1, e2⟩ := h.2 i u hu
    exact ⟨c, by rw [List.getElem?_append_left (by rw [h.1]; exact hi)]; exact e1, e2⟩
  · rw [List.getElem?_append_right (by omega)] at hu
    have hi2 : i - l.length = 0 := by
      cases hk : i - l.length with
      | zero => rfl
      | succ k => rw [hk] at hu; simp at hu
    rw [hi2] at hu
    obtain rfl : t = u := Option.some.inj hu
    exact ⟨b, by rw [List.getElem?_append_right (by rw [h.1]; omega), h.1, hi2]; rfl, e⟩
theorem TrV.at_ {H : Hp} {vs : List V} {l : List Tr} (h : TrV H vs l) {i : Nat} {x : V} (e : vs[i]? = some x) : ∃ b t, x = .ref b ∧ l[i]? = some t ∧ H b = some (.tup (tv t)) := by
  have hi : i < l.length := by
    rw [← h.1]
    exact (List.getElem?_eq_some_iff.mp e).1
  obtain ⟨b, e1, e2⟩ := h.2 i l[i] (List.getElem?_eq_getElem hi)
  rw [e] at e1
  exact ⟨b, l[i], Option.some.inj e1, List.getElem?_eq_getElem hi, e2⟩
theorem SqB.same {K : PySem.W.Frag} {H H' : Hp} {a : Addr} {xs : List V} (s : Same H H') (h : SqB K H a xs) : SqB K H' a xs := by
  rcases h with h | ((h | ⟨o, h⟩) | h)
  · exact .inl (s.seq h)
  · exact .inr (.inl (.inl (s _ _ h)))
  · exact .inr (.inl (.inr ⟨o, s _ _ h⟩))
  · exact .inr (.inr h)
theorem Trip.sq {K : PySem.W.Frag} {H : Hp} {a : Addr} {l : List Tr} (h : Trip H a l) : ∃ vs, SqB K H a vs ∧ TrV H vs l := by
  obtain ⟨vs, e, t⟩ := h
  exact ⟨vs, .inr (.inl (.inl e)), t⟩
theorem TripL.sq {K : PySem.W.Frag} {H : Hp} {a : Addr} {l : List Tr} (h : TripL H a l) : ∃ vs, SqB K H a vs ∧ TrV H vs l := by
  obtain ⟨vs, e, t⟩ := h
  exact ⟨vs, .inl (.inl (.inl e)), t⟩
/-- a loop over a list or a tuple: what stood in Hb stands in each turn -/
theorem for_same {K : PySem.W.Frag} {a : Addr} {xs : List V} {g : TG} {tb : TS} {D : Ends} {σ : L2.St} {H Hb : Hp} (hB : SqB K Hb a xs) (Pv : Nat → L2.St → Hp → Prop) (h0 : Pv 0 σ H) (hk : ∀ i σ' H', Pv i σ' H' → Same Hb H')
    (hs : ∀ i x σ H, xs[i]? = some x → Pv i σ H → g x σ H fun σ2 H2 => tb { D with nx := Pv (i + 1), ct := Pv (i + 1), bk := D.nx } σ2 H2) (hd : ∀ σ H, Pv xs.length σ H → D.nx σ H) :
    ((∃ xs, SqL K H a xs) ∧ ∃ W : Nat → Nat → L2.St → Hp → Prop, (∃ m, W 0 m σ H) ∧ ∀ i m σ H, W i m σ H →
      ((Itl K a).stop i H ∧ D.nx σ H) ∨ ((Itl K a).go i H ∧ ∃ N : L2.St → Hp → Prop, (∀ σ' H', N σ' H' → ∃ m', m' < m ∧ W (i + 1) m' σ' H') ∧ ∀ x H', (Itl K a).yld i H x H' → g x σ H' fun σ2 H2 => tb { D with nx := N, ct := N, bk := D.nx } σ2 H2)) ∨
    ((∃ xs, SqT K H a xs) ∧ ∃ W : Nat → Nat → L2.St → Hp → Prop, (∃ m, W 0 m σ H) ∧ ∀ i m σ H, W i m σ H →
      ((Itt K a).stop i H ∧ D.nx σ H) ∨ ((Itt K a).go i H ∧ ∃ N : L2.St → Hp → Prop, (∀ σ' H', N σ' H' → ∃ m', m' < m ∧ W (i + 1) m' σ' H') ∧ ∀ x H', (Itt K a).yld i H x H' → g x σ H' fun σ2 H2 => tb { D with nx := N, ct := N, bk := D.nx } σ2 H2)) := by
  have tup : ∀ {H'}, SqT K Hb a xs → Same Hb H' → SqT K H' a xs := fun h s => by
    rcases h with (h | ⟨o, h⟩) | h
    · exact .inl (.inl (s _ _ h))
    · exact .inl (.inr ⟨o, s _ _ h⟩)
    · exact .inr h
  rcases hB with h | h
  · exact .inl ⟨⟨xs, (hk 0 σ H h0).seq h⟩, for_list Pv h0 (fun i σ' H' _ p => (hk i σ' H' p).seq h) hs hd⟩
  · exact .inr ⟨⟨xs, tup h (hk 0 σ H h0)⟩, for_tup Pv h0 (fun i σ' H' _ p => tup h (hk i σ' H' p)) hs hd⟩
theorem kitTrue {K : PySem.W.Frag} {t : Value} : PySem.W.kitOne K t t = some true := by
  unfold PySem.W.kitOne
  rw [if_pos (beq_self_eq_true t)]
section
variable {P : Program} {w : World} {K : PySem.W.Frag} {mg : Str → Option Value} {base : Heap}
structure Df (K : PySem.W.Frag) (mg : Str → Option Value) (x : Str) (st : Stmt) (ps : List Str) (f : Addr) (fd : FuncData) : Prop where
  F : Fun K x x st f fd
  g : mg x = some (.ref f)
  b : Binds K fd ps []
/-- the built-ins that the text calls -/
structure Bi (mg : Str → Option Value) : Prop where
  b_max : mg "max" = none
  b_min : mg "min" = none
  b_tuple : mg "tuple" = none
  b_range : mg "range" = none
  b_isinstance : mg "isinstance" = none
  b_int : mg "int" = none
  b_bool : mg "bool" = none
  b_len : mg "len" = none
  b_list : mg "list" = none
  b_str : mg "str" = none
  b_sorted : mg "sorted" = none
  b_sum : mg "sum" = none
/-! ### kinds -/
def spWhole : Sp := fun vs H Q _ => ∃ i : Int, vs = [.int i] ∧ Q (.bl true) H
theorem ok_whole {f : Addr} {fd : FuncData} (F : Fun K "is_whole" "is_whole" s_is_whole f fd) (T : Bi mg) : FnOk P w K mg base CX0 1 f fd ["value"] spWhole := by
  refine F.ok sc_is_whole (fun vs H Q E h => ?_) (fun cdv A outer s H vs Q E hr h => ?_)
  · obtain ⟨i, rfl, _⟩ := h
    rfl
  · obtain ⟨i, rfl, q⟩ := h
    refine ⟨_, (pss_one (ps_ret (pe_and (pe_callB call_isi (by rfl) T.b_isinstance (by decide +kernel) (pa_cons (pv 0) (pa_cons (pe_bltn (v := .ty "int") (by rfl) T.b_int (by decide +kernel) rfl) pa_nil))) (pe_one (pe_not (pe_callB call_isi (by rfl) T.b_isinstance (by decide +kernel) (pa_cons (pv 0) (pa_cons (pe_bltn (v := .ty "bool") (by rfl) T.b_bool (by decide +kernel) rfl) pa_nil)))))))), ?_⟩
    refine ⟨_, rfl, _, _, _, _, true, rfl, .ty "int", .base (.int i), kit_ty (by decide +kernel), true, rfl, ?_⟩
    exact ⟨_, rfl, _, _, _, _, false, rfl, .ty "bool", .base (.int i), kit_ty (by decide +kernel), false, rfl, q⟩
def spSeq : Sp := fun vs H Q _ => ∃ (a : Addr) (xs : List V), vs = [.ref a] ∧ H a = some (.tup xs) ∧ ∀ H', Same H H' → Q (.bl true) H'
theorem ok_seq {f : Addr} {fd : FuncData} (F : Fun K "is_sequence" "is_sequence" s_is_sequence f fd) (T : Bi mg) : FnOk P w K mg base CX0 1 f fd ["value"] spSeq := by
  refine F.ok sc_is_sequence (fun vs H Q E h => ?_) (fun cdv A outer s H vs Q E hr h => ?_)
  · obtain ⟨a, xs, rfl, _⟩ := h
    rfl
  · obtain ⟨a, xs, rfl, ha, q⟩ := h
    refine ⟨_, (pss_one (ps_ret (pe_callB call_isiT (by rfl) T.b_isinstance (by decide +kernel) (pa_cons (pv 0) (pa_cons (pe_tup (pa_cons (pe_bltn (v := .ty "list") (by rfl) T.b_list (by decide +kernel) rfl) (pa_cons (pe_bltn (v := .ty "tuple") (by rfl) T.b_tuple (by decide +kernel) rfl) pa_nil))) pa_nil))))), ?_⟩
    refine ⟨_, rfl, by show 2 ≤ sizeLine; decide, fun p np => ?_⟩
    have s1 : Same H (upd H p (.tup [.ty "list", .ty "tuple"])) := same_upd np
    exact ⟨_, p, _, _, _, true, rfl, upd_same, .cons (.ty "list") (.cons (.ty "tuple") .nil), .base (.tup (s1 _ _ ha)), kitAny_cons (b := false) (kit_ty (by decide +kernel)) (fun _ => kitAny_cons (b := true) (kit_ty (by decide +kernel)) (fun z => by cases z) (fun _ => rfl)) (fun z => by cases z), q _ s1⟩
def spBelow : Sp := fun vs H Q _ => ∃ x n : Int, vs = [.int x, .int n] ∧ 0 ≤ x ∧ x < n ∧ Q (.bl true) H
theorem ok_below {f : Addr} {fd : FuncData} (F : Fun K "is_below" "is_below" s_is_below f fd) (T : Bi mg) {f_w : Addr} {d_w : FuncData} (D_w : Df K mg "is_whole" s_is_whole ["value"] f_w d_w) : FnOk P w K mg base CX0 2 f fd ["value", "bound"] spBelow := by
  have G_w : FnOk P w K mg base CX0 1 f_w d_w ["value"] spWhole := ok_whole D_w.F T
  refine F.ok sc_is_below (fun vs H Q E h => ?_) (fun cdv A outer s H vs Q E hr h => ?_)
  · obtain ⟨x, n, rfl, _⟩ := h
    rfl
  · obtain ⟨x, n, rfl, h0, h1, q⟩ := h
    refine ⟨_, (pss_one (ps_ret (pe_and (pe_call G_w hr (by rfl) D_w.g D_w.F.kp D_w.b .nil pass0 (pa_cons (pv 0) pa_nil)) (pe_one (pe_chain op_le op_lt pe_int (pv 0) (pv 1)))))), ?_⟩
    refine ⟨_, rfl, x, rfl, true, rfl, ?_⟩
    refine ⟨_, rfl, 0, x, rfl, rfl, _, rfl, ?_⟩
    rw [decide_eq_true h0, if_pos rfl]
    refine ⟨_, rfl, x, n, rfl, rfl, ?_⟩
    show Q (.bl (decide (x < n))) H
    rw [decide_eq_true h1]
    exact q
def spCkPins : Sp := fun vs H Q _ => ∃ n : Int, vs = [.int n] ∧ 0 ≤ n ∧ Q .non H
theorem ok_ckpins {f : Addr} {fd : FuncData} (F : Fun K "check_pins" "check_pins" s_check_pins f fd) (T : Bi mg) {f_w : Addr} {d_w : FuncData} (D_w : Df K mg "is_whole" s_is_whole ["value"] f_w d_w) : FnOk P w K mg base CX0 2 f fd ["pins"] spCkPins := by
  have G_w : FnOk P w K mg base CX0 1 f_w d_w ["value"] spWhole := ok_whole D_w.F T
  refine F.ok sc_check_pins (fun vs H Q E h => ?_) (fun cdv A outer s H vs Q E hr h => ?_)
  · obtain ⟨n, rfl, _⟩ := h
    rfl
  · obtain ⟨n, rfl, h0, q⟩ := h
    refine ⟨_, (pss_one (ps_if (PW.pt (pw_or (pt_not (pt_val (pe_call G_w hr (by rfl) D_w.g D_w.F.kp D_w.b .nil pass0 (pa_cons (pv 0) pa_nil)))) (pw_or1 (pt_cmpR op_lt (pv 0) pe_int (nomark _))))) (pss_one ps_never) pss_nil)), ?_⟩
    refine ⟨_, rfl, n, rfl, true, rfl, ?_⟩
    refine ⟨_, rfl, n, 0, rfl, rfl, _, rfl, ?_⟩
    rw [decide_eq_false (by omega)]
    exact q
def spCkPin : Sp := fun vs H Q _ => ∃ n x : Int, vs = [.int n, .int x] ∧ 0 ≤ x ∧ x < n ∧ Q .non H
theorem ok_ckpin {f : Addr} {fd : FuncData} (F : Fun K "check_pin" "check_pin" s_check_pin f fd) (T : Bi mg) {f_w : Addr} {d_w : FuncData} (D_w : Df K mg "is_whole" s_is_whole ["value"] f_w d_w) {f_b : Addr} {d_b : FuncData} (D_b : Df K mg "is_below" s_is_below ["value", "bound"] f_b d_b) : FnOk P w K mg base CX0 3 f fd ["pins", "pin"] spCkPin := by
  have G_b : FnOk P w K mg base CX0 2 f_b d_b ["value", "bound"] spBelow := ok_below D_b.F T D_w
  refine F.ok sc_check_pin (fun vs H Q E h => ?_) (fun cdv A outer s H vs Q E hr h => ?_)
  · obtain ⟨n, x, rfl, _⟩ := h
    rfl
  · obtain ⟨n, x, rfl, h0, h1, q⟩ := h
    refine ⟨_, (pss_one (ps_if (pt_not (pt_val (pe_call G_b hr (by rfl) D_b.g D_b.F.kp D_b.b .nil pass0 (pa_cons (pv 1) (pa_cons (pv 0) pa_nil))))) (pss_one ps_never) pss_nil)), ?_⟩
    exact ⟨_, rfl, _, rfl, x, n, rfl, h0, h1, true, rfl, q⟩
def spEntry : Sp := fun vs H Q _ => ∃ (n : Int) (b : Addr) (t : Tr), vs = [.int n, .ref b] ∧ H b = some (.tup (tv t)) ∧ Vld n t ∧ ∀ H', Same H H' → Q (.bl true) H'
theorem ok_entry {f : Addr} {fd : FuncData} (F : Fun K "is_entry" "is_entry" s_is_entry f fd) (T : Bi mg) {f_w : Addr} {d_w : FuncData} (D_w : Df K mg "is_whole" s_is_whole ["value"] f_w d_w) {f_b : Addr} {d_b : FuncData} (D_b : Df K mg "is_below" s_is_below ["value", "bound"] f_b d_b) {f_q : Addr} {d_q : FuncData} (D_q : Df K mg "is_sequence" s_is_sequence ["value"] f_q d_q) : FnOk P w K mg base CX0 3 f fd ["pins", "entry"] spEntry := by
  have G_w : FnOk P w K mg base CX0 1 f_w d_w ["value"] spWhole := ok_whole D_w.F T
  have G_b : FnOk P w K mg base CX0 2 f_b d_b ["value", "bound"] spBelow := ok_below D_b.F T D_w
  have G_q : FnOk P w K mg base CX0 1 f_q d_q ["value"] spSeq := ok_seq D_q.F T
  refine F.ok sc_is_entry (fun vs H Q E h => ?_) (fun cdv A outer s H vs Q E hr h => ?_)
  · obtain ⟨n, b, t, rfl, _⟩ := h
    rfl
  · obtain ⟨n, b, t, rfl, hb, hv, q⟩ := h
    refine ⟨_, (pss_cons (ps_if (PW.pt (pw_or (pt_not (pt_val (pe_call G_q (hr.mono (by decide)) (by rfl) D_q.g D_q.F.kp D_q.b .nil pass0 (pa_cons (pv 1) pa_nil)))) (pw_or1 (pt_cmpR op_ne (pe_callB call_len_seq (by rfl) T.b_len PySem.boot_len (pa_cons (pv 1) pa_nil)) pe_int (nomark _))))) (pss_one (ps_ret pe_bl)) pss_nil)
        (pss_cons (ps_asg (pv 1) (pg_tup (by rfl) (pgs_cons (pg_name (i := 2) sc_is_entry.nd rfl (.inl rfl)) (pgs_cons (pg_name (i := 3) sc_is_entry.nd rfl (.inl rfl)) (pgs_cons (pg_name (i := 4) sc_is_entry.nd rfl (.inl rfl)) pgs_nil)))))
        (pss_one (ps_ret (pe_and (pe_call G_b hr (by rfl) D_b.g D_b.F.kp D_b.b .nil pass0 (pa_cons (pv 2) (pa_cons (pv 0) pa_nil))) (pe_and (pe_call G_b hr (by rfl) D_b.g D_b.F.kp D_b.b .nil pass0 (pa_cons (pv 3) (pa_cons (pv 0) pa_nil))) (pe_and (pe_cmpR op_ne (pv 2) (pv 3) (nomark _)) (pe_and (pe_call G_w (hr.mono (by decide)) (by rfl) D_w.g D_w.F.kp D_w.b .nil pass0 (pa_cons (pv 4) pa_nil)) (pe_one (pe_cmpR op_ge (pv 4) pe_int (nomark _))))))))))), ?_⟩
    obtain ⟨v0, v1, v2, v3, v4, v5⟩ := hv
    refine ⟨_, rfl, b, _, rfl, hb, fun H1 sm => ⟨true, rfl, ?_⟩⟩
    have hT : SqT K H1 b (tv t) := .inl (.inl (sm _ _ hb))
    refine ⟨_, rfl, b, _, rfl, .inr hT, rfl, _, rfl, iteNS rfl ?_⟩
    refine ⟨_, rfl, b, _, rfl, hT, rfl, _, _, rfl, _, _, rfl, _, _, rfl, rfl, ?_⟩
    refine ⟨_, rfl, _, rfl, t.1, n, rfl, v0, v1, true, rfl, ?_⟩
    refine ⟨_, rfl, _, rfl, t.2.1, n, rfl, v2, v3, true, rfl, ?_⟩
    refine ⟨_, rfl, _, rfl, rfl, _, rfl, ?_⟩
    rw [decide_eq_false (fun z => v4 (V.int.inj z))]
    refine ⟨_, rfl, t.2.2, rfl, true, rfl, ?_⟩
    refine ⟨_, rfl, t.2.2, 1, rfl, rfl, ?_⟩
    show Q (.bl (decide (1 ≤ t.2.2))) H1
    rw [decide_eq_true v5]
    exact q H1 sm
end
end Own

/-! The dict of a lot that is made. -/
namespace Own
open PySem PySem.Spec PyProof.Rows L2
def kk (p : Int × Int) : List Key := [.inl p.1, .inl p.2]
theorem kk_inj {p q : Int × Int} (h : kk p = kk q) : p = q := by
  unfold kk at h
  injection h with h1 h2
  injection h2 with h3 _
  injection h1 with h1
  injection h3 with h3
  exact Prod.ext h1 h3
structure DInv (kvs : List (List Key × V)) (m : List Tr) : Prop where
  val : ∀ p, valV kvs (kk p) = if p ∈ m.map ky then some (.int (tot p m)) else none
  frm : ∀ kv ∈ kvs, ∃ p, kv.1 = kk p
  nd : (kvs.map (·.1)).Nodup
theorem DInv.nil : DInv [] [] := ⟨fun p => rfl, fun kv (h : kv ∈ []) => absurd h List.not_mem_nil, List.nodup_nil⟩
theorem putK_keys {kvs : List (List Key × V)} {k : List Key} {v : V} : (∃ x, valV kvs k = some x) → (putK kvs k v).map (·.1) = kvs.map (·.1) := fun ⟨x, h⟩ => by
  unfold putK
  rw [valV_any, h]
  show (kvs.map _).map _ = _
  rw [List.map_map]
  refine List.map_congr_left fun kv _ => ?_
  show (if kv.1 = k then (kv.1, v) else kv).1 = kv.1
  split <;> rfl
theorem not_key {kvs : List (List Key × V)} {k : List Key} (h : valV kvs k = none) : k ∉ kvs.map (·.1) := fun m => by
  have a := valV_any k kvs
  rw [h] at a
  obtain ⟨kv, hm, e⟩ := List.mem_map.mp m
  have : (kvs.any fun kv => decide (kv.1 = k)) = true := List.any_eq_true.mpr ⟨kv, hm, decide_eq_true e⟩
  rw [this] at a
  cases a
theorem tot_snoc (p : Int × Int) (m : List Tr) (t : Tr) : tot p (m ++ [t]) = tot p m + (if ky t = p then t.2.2 else 0) := by
  unfold tot
  rw [bk_append]
  show _ + ((if decide (ky t = p) = true then t.2.2 else 0) + 0) = _
  by_cases h : ky t = p
  · rw [if_pos (decide_eq_true h), if_pos h]
    omega
  · rw [if_neg (by rw [decide_eq_false h]; decide), if_neg h]
    omega
theorem tot_out {p : Int × Int} {m : List Tr} (h : p ∉ m.map ky) : tot p m = 0 := by
  induction m with
  | nil => rfl
  | cons t r ih =>
    rw [tot_cons, ih fun z => h (by rw [List.map_cons]; exact List.mem_cons_of_mem _ z), if_neg fun z => h (by rw [List.map_cons, z]; exact List.mem_cons_self)]
    rfl
/-- what stands there, or 0 -/
theorem DInv.get {kvs : List (List Key × V)} {m : List Tr} (d : DInv kvs m) (p : Int × Int) : (valV kvs (kk p)).getD (.int 0) = .int (tot p m) := by
  rw [d.val]
  split
  · rfl
  · rename_i h
    rw [tot_out h]
    rfl
theorem DInv.put {kvs : List (List Key × V)} {m : List Tr} (d : DInv kvs m) (t : Tr) : DInv (putK kvs (kk (ky t)) (.int (tot (ky t) m + t.2.2))) (m ++ [t]) := by
  refine ⟨fun p => ?_, fun kv h => ?_, ?_⟩
  · rw [valV_put, d.val, tot_snoc, List.map_append]
    by_cases h : p = ky t
    · subst h
      rw [if_pos rfl, if_pos (List.mem_append_right _ (by rw [List.map_cons]; exact List.mem_cons_self)), if_pos rfl]
    · have hne : ¬ ky t = p := fun z => h z.symm
      rw [if_neg fun z : kk p = kk (ky t) => h (kk_inj z)]
      by_cases hm : p ∈ m.map ky
      · rw [if_pos hm, if_pos (List.mem_append_left _ hm), if_neg hne, Int.add_zero]
      · rw [if_neg hm, if_neg fun z => by
          rcases List.mem_append.mp z with z | z
          · exact hm z
          · exact h (List.mem_singleton.mp z)]
  · cases e : valV kvs (kk (ky t)) with
    | none =>
      rw [putK_new _ e] at h
      rcases List.mem_append.mp h with h | h
      · exact d.frm kv h
      · exact ⟨ky t, by rw [List.mem_singleton.mp h]⟩
    | some x =>
      have hk : kv.1 ∈ (putK kvs (kk (ky t)) (.int (tot (ky t) m + t.2.2))).map (·.1) := List.mem_map.mpr ⟨kv, h, rfl⟩
      rw [putK_keys ⟨x, e⟩] at hk
      obtain ⟨kv2, h2, e2⟩ := List.mem_map.mp hk
      obtain ⟨p, hp⟩ := d.frm kv2 h2
      exact ⟨p, by rw [← e2]; exact hp⟩
  · cases e : valV kvs (kk (ky t)) with
    | none =>
      rw [putK_new _ e, List.map_append]
      exact List.nodup_append.mpr ⟨d.nd, by simp, fun a ha b hb z => not_key e (by
        have hb2 : b = kk (ky t) := List.mem_singleton.mp hb
        rw [hb2] at z
        rw [← z]
        exact ha)⟩
    | some x =>
      rw [putK_keys ⟨x, e⟩]
      exact d.nd
theorem putK_len {kvs : List (List Key × V)} {k : List Key} {v : V} : (putK kvs k v).length ≤ kvs.length + 1 := by
  cases e : valV kvs k with
  | none =>
    rw [putK_new _ e, List.length_append]
    exact Nat.le_refl _
  | some x =>
    have := congrArg List.length (putK_keys (v := v) ⟨x, e⟩)
    rw [List.length_map, List.length_map] at this
    omega
theorem DInv.mem {kvs : List (List Key × V)} {m : List Tr} (d : DInv kvs m) (p : Int × Int) : kk p ∈ kvs.map (·.1) ↔ p ∈ m.map ky := by
  constructor
  · intro h
    by_cases hm : p ∈ m.map ky
    · exact hm
    · exact absurd h (not_key (by rw [d.val, if_neg hm]))
  · intro h
    have e := d.val p
    rw [if_pos h] at e
    have a := valV_any (kk p) kvs
    rw [e] at a
    obtain ⟨kv, hm, hk⟩ := List.any_eq_true.mp a
    exact List.mem_map.mpr ⟨kv, hm, of_decide_eq_true hk⟩
/-- the sorted keys, strictly in order -/
theorem sorted_lex {xs : List (Int × Int)} (hn : xs.Nodup) (hs : xs.Pairwise fun x y => SrtO.lexB y x = false) : xs.Pairwise Lex := by
  refine List.Pairwise.imp₂ (R := fun x y => SrtO.lexB y x = false) (S := fun x y => x ≠ y) ?_ hs hn
  intro a b h1 h2
  have h3 := SrtO.lexB_no.mp h1
  unfold Lex
  have h4 : ¬ (a.1 = b.1 ∧ a.2 = b.2) := fun z => h2 (Prod.ext z.1 z.2)
  omega
end Own

namespace Own
open PySem PySem.Spec PyProof.Rows L2
def SameT (H H' : Hp) : Prop := ∀ b o, H b = some (.tup o) → H' b = some (.tup o)
theorem TrV.sameT {H H' : Hp} {vs : List V} {l : List Tr} (s : SameT H H') (h : TrV H vs l) : TrV H' vs l := ⟨h.1, fun i t e => by
  obtain ⟨b, e1, e2⟩ := h.2 i t e
  exact ⟨b, e1, s _ _ e2⟩⟩
theorem sameT_put {H H' : Hp} {D : Addr} {vs ws : List V} (e : H D = some (.lst vs)) (s : Same H H') : SameT H (upd H' D (.lst ws)) := fun b o h => by
  have hb : b ≠ D := fun z => by
    rw [z, e] at h
    cases h
  rw [upd_ne hb]
  exact s _ _ h
theorem same_put {H H1 H' : Hp} {D : Addr} {o : HO} (n : H D = none) (s : Same H H') : Same H (upd H' D o) := fun b u h => by
  rw [upd_ne (ne_of_none h n)]
  exact s _ _ h
theorem keys_of {H : Hp} {kvs : List (List Key × V)} {bs : List Addr} (h : IsKeys H kvs bs) (f : ∀ kv ∈ kvs, ∃ p, kv.1 = kk p) : ((bs.map V.ref).map (kOf H)).map kk = kvs.map (·.1) ∧ ∀ b ∈ bs, ∃ p : Int × Int, H b = some (.tup [.int p.1, .int p.2]) := by
  unfold IsKeys at h
  induction h with
  | nil => exact ⟨rfl, fun b h => by cases h⟩
  | @cons kv b ks bs hb t ih =>
    obtain ⟨p, hp⟩ := f kv List.mem_cons_self
    rw [hp] at hb
    have hb2 : H b = some (.tup [.int p.1, .int p.2]) := hb
    obtain ⟨i1, i2⟩ := ih fun kv h => f kv (List.mem_cons_of_mem _ h)
    refine ⟨?_, fun c hc => ?_⟩
    · rw [List.map_cons, List.map_cons, List.map_cons, List.map_cons, i1, kOf_at hb2, hp]
    · rcases List.mem_cons.mp hc with e | e
      · exact ⟨p, by rw [e]; exact hb2⟩
      · exact i2 c e
section
variable {P : Program} {w : World} {K : PySem.W.Frag} {mg : Str → Option Value} {base : Heap}
/-! ### the entries of a lot, gathered -/
def spGathered (K : PySem.W.Frag) : Sp := fun vs H Q _ => ∃ (n : Int) (a : Addr) (xs : List V) (l : List Tr), vs = [.int n, .ref a] ∧ SqB K H a xs ∧ TrV H xs l ∧ (∀ t ∈ l, Vld n t) ∧ l.length ≤ 1000 ∧
  ∀ H' c r, Same H H' → H c = none → Trip H' c r → IsNorm l r → Q (.ref c) H'
theorem ok_gathered {f : Addr} {fd : FuncData} (F : Fun K "gathered" "gathered" s_gathered f fd) (T : Bi mg) {f_e : Addr} {d_e : FuncData} (D_e : Df K mg "is_entry" s_is_entry ["pins", "entry"] f_e d_e) (G_e : FnOk P w K mg base CX0 3 f_e d_e ["pins", "entry"] spEntry) :
    FnOk P w K mg base CX0 4 f fd ["pins", "entries"] (spGathered K) := by
  refine F.ok sc_gathered (fun vs H Q E h => ?_) (fun cdv A outer s H vs Q E hr h => ?_)
  · obtain ⟨n, a, xs, l, rfl, _⟩ := h
    rfl
  · obtain ⟨n, a, xs, l, rfl, hB, hx, hv, hl, q⟩ := h
    have hu := hu_of hr
    refine ⟨_, (pss_cons (ps_set (i := 2) sc_gathered.nd rfl (.inr rfl) pe_dnewT)
        (pss_cons (ps_for PassesOwn.never rfl (pi_seq (pv 1)) (pg_name (i := 3) sc_gathered.nd rfl (.inl rfl))
        (pss_cons (ps_if (pt_not (pt_val (pe_call G_e hr (by rfl) D_e.g D_e.F.kp D_e.b .nil pass0 (pa_cons (pv 0) (pa_cons (pv 3) pa_nil))))) (pss_one ps_never) pss_nil)
        (pss_cons (ps_asg (pv 3) (pg_tup (by rfl) (pgs_cons (pg_name (i := 5) sc_gathered.nd rfl (.inl rfl)) (pgs_cons (pg_name (i := 6) sc_gathered.nd rfl (.inl rfl)) (pgs_cons (pg_name (i := 7) sc_gathered.nd rfl (.inl rfl)) pgs_nil)))))
        (pss_cons (ps_set (i := 4) sc_gathered.nd rfl (.inl rfl) (pe_tup (pa_cons (pe_callB (call_min2 rfl) (by rfl) T.b_min (by decide +kernel) (pa_cons (pv 5) (pa_cons (pv 6) pa_nil))) (pa_cons (pe_callB (call_max2 rfl) (by rfl) T.b_max (by decide +kernel) (pa_cons (pv 5) (pa_cons (pv 6) pa_nil))) pa_nil))))
        (pss_one (ps_dput hu (pv 2) (pv 4) (pe_op op_add (pe_dget2 hu (pv 2) (pv 4) pe_int ⟨rfl, rfl, rfl, rfl⟩) (pv 7)) rfl))))))
        (pss_one (ps_ret (pe_callTy call_tuple_of (by rfl) T.b_tuple (by decide +kernel) (pa_cons (pe_lc (own := [("a", 5), ("b", 6)]) (g := gTup K 2 (gCons (gName 5) (gCons (gName 6) gNil))) (tt := tYes) rfl sc_gathered.nd (pi_list (pe_callB (cr_sortedDT rfl) (by rfl) T.b_sorted (by decide +kernel) (pa_cons (pv 2) pa_nil))) (blkOk_by (own := [("a", 5), ("b", 6)]) (N := ["pins", "entries", "held", "entry", "pair", "a", "b", "many"]) (sc := defScope s_gathered) (by decide +kernel)) (fun _ _ _ _ _ => (pg_tup (by rfl) (pgs_cons (pg_name (i := 5) sc_gathered.nd rfl (.inl rfl)) (pgs_cons (pg_name (i := 6) sc_gathered.nd rfl (.inl rfl)) pgs_nil)))) (fun _ _ _ _ _ => pts_nil) (fun _ _ _ _ _ => (pe_tup (pa_cons (pv 5) (pa_cons (pv 6) (pa_cons (pe_dget hu (pv 2) (pe_tup (pa_cons (pv 5) (pa_cons (pv 6) pa_nil))) (fun _ _ => rfl)) pa_nil)))))) pa_nil)))))), ?_⟩
    intro d hd
    refine ⟨_, rfl, a, rfl, for_same (Hb := H) hB (fun i σ H' => ∃ kvs y3 y4 y5 y6 y7, σ = [some (.int n), some (.ref a), some (.ref d), y3, y4, y5, y6, y7] ∧ H' d = some (.dT kvs) ∧ DInv kvs (l.take i) ∧ kvs.length ≤ i ∧ Same H H') ⟨[], none, none, none, none, none, rfl, upd_same, DInv.nil, Nat.le_refl _, same_upd hd⟩ (fun i σ' H' p => by obtain ⟨_, _, _, _, _, _, _, _, _, _, s⟩ := p; exact s) (fun i x σ H' hxi p => ?_) (fun σ H' p => ?_)⟩
    · obtain ⟨kvs, y3, y4, y5, y6, y7, rfl, ed, dI, klen, sm⟩ := p
      obtain ⟨b, t, rfl, hti, hb⟩ := (hx.same sm).at_ hxi
      have hil : i < l.length := (List.getElem?_eq_some_iff.mp hti).1
      have hvt : Vld n t := hv t (List.mem_of_getElem? hti)
      refine ⟨_, rfl, _, rfl, n, b, t, rfl, hb, hvt, fun H1 s1 => ⟨true, rfl, ?_⟩⟩
      refine ⟨_, rfl, b, _, rfl, .inl (.inl (s1 _ _ hb)), rfl, _, _, rfl, _, _, rfl, _, _, rfl, rfl, ?_⟩
      refine ⟨_, rfl, _, rfl, _, _, rfl, _, rfl, _, rfl, _, _, rfl, by show 2 ≤ sizeLine; decide, fun p np => ?_⟩
      have ed1 : (upd H1 p (.tup [.int (lo t.1 t.2.1), .int (hi t.1 t.2.1)])) d = some (.dT kvs) := by
        rw [upd_ne (ne_of_none (s1 _ _ ed) np)]
        exact s1 _ _ ed
      have ep : (upd H1 p (.tup [.int (lo t.1 t.2.1), .int (hi t.1 t.2.1)])) p = some (.tup ((kk (ky t)).map kV)) := upd_same
      refine ⟨_, rfl, d, rfl, .inr ⟨kvs, .inl ed1⟩, _, rfl, _, DGet.t ed1 ep, ?_⟩
      rw [dI.get]
      refine ⟨_, rfl, _, _, rfl, rfl, _, rfl, _, rfl, d, _, rfl, DPut.t ed1 ep (small1000 (by omega)), ?_⟩
      have hd1 : H1 d ≠ none := fun z => by rw [s1 _ _ ed] at z; cases z
      refine ⟨_, _, _, _, _, _, rfl, upd_same, ?_, Nat.le_trans putK_len (by omega), fun c o e => ?_⟩
      · rw [List.take_add_one, hti]
        exact dI.put t
      · rw [upd_ne (ne_of_none e hd)]
        exact same_upd np _ _ (s1 _ _ (sm _ _ e))
    · obtain ⟨kvs, y3, y4, y5, y6, y7, rfl, ed, dI, klen, sm⟩ := p
      rw [hx.1, List.take_length] at dI
      refine ⟨_, rfl, d, kvs, rfl, .inl ed, fun kv hkv => by obtain ⟨p, hp⟩ := dI.frm kv hkv; exact ⟨p.1, p.2, hp⟩, fun bs ys p0 hk hsrt hstb np0 => ?_⟩
      obtain ⟨kEq, kAt⟩ := keys_of hk dI.frm
      have hall : ∀ y ∈ ys, ∃ b, y = .ref b ∧ H' b = some (.tup [.int (kOf H' y).1, .int (kOf H' y).2]) := fun y hy => by
        obtain ⟨b, hb, rfl⟩ := List.mem_map.mp (hstb.perm.mem_iff.mp hy)
        obtain ⟨p, hp⟩ := kAt b hb
        exact ⟨b, rfl, by rw [kOf_at hp]; exact hp⟩
      have hperm : (ys.map (kOf H')).Perm ((bs.map V.ref).map (kOf H')) := hstb.perm.map _
      have hnd : (ys.map (kOf H')).Nodup := by
        refine hperm.nodup_iff.mpr ?_
        have := dI.nd
        rw [← kEq] at this
        unfold List.Nodup at this ⊢
        exact (List.pairwise_map.mp this).imp fun h e => h (congrArg kk e)
      have hmem : ∀ p, p ∈ ys.map (kOf H') ↔ p ∈ l.map ky := fun p => by
        rw [hperm.mem_iff, ← dI.mem p, ← kEq]
        exact ⟨fun m => List.mem_map.mpr ⟨p, m, rfl⟩, fun m => by
          obtain ⟨p2, m2, e2⟩ := List.mem_map.mp m
          rw [← kk_inj e2]
          exact m2⟩
      have hlex : (ys.map (kOf H')).Pairwise Lex := sorted_lex hnd (SrtO.srtd_map (lt := SrtO.lexB) (f := kOf H') hsrt)
      have hN : IsNorm l ((ys.map (kOf H')).map fun p => (p.1, p.2, tot p l)) := by
        have e1 : (((ys.map (kOf H')).map fun p => ((p.1, p.2, tot p l) : Tr))).map pr = ys.map (kOf H') := by
          rw [List.map_map]
          exact List.map_id' _
        refine ⟨by rw [e1]; exact hlex, fun p => by rw [e1]; exact hmem p, fun e he => ?_⟩
        obtain ⟨p, _, rfl⟩ := List.mem_map.mp he
        rfl
      have hylen : ys.length ≤ 1000 := by
        have h1 := hstb.perm.length_eq
        have h2 := congrArg List.length kEq
        rw [List.length_map] at h1
        rw [List.length_map, List.length_map, List.length_map, List.length_map] at h2
        rw [hx.1] at klen
        omega
      generalize hr0 : ((ys.map (kOf H')).map fun p => ((p.1, p.2, tot p l) : Tr)) = r at hN
      have hrl : r.length = ys.length := by rw [← hr0, List.length_map, List.length_map]
      have s0 : Same H' (upd H' p0 (.lst ys)) := same_upd np0
      refine ⟨p0, rfl, ⟨_, .inl (.inl upd_same)⟩, fun D hD => ?_⟩
      refine lc_list (K := K) (a := p0) (xs := ys) (fun i H2 => Same (upd H' p0 (.lst ys)) H2 ∧ ∃ vs, H2 D = some (.lst vs) ∧ TrV H2 vs (r.take i)) ⟨same_upd hD, [], upd_same, TrV.nil⟩ (fun i H2 _ p => .inl (.inl (p.1 _ _ upd_same))) (fun i x H2 hxi p => ?_) (fun H2 p => ?_)
      · obtain ⟨s2, vs, eD, tV⟩ := p
        obtain ⟨b, rfl, hb⟩ := hall x (List.mem_of_getElem? hxi)
        have hil : i < ys.length := (List.getElem?_eq_some_iff.mp hxi).1
        generalize hp : kOf H' (.ref b) = p at hb
        have hri : r[i]? = some (p.1, p.2, tot p l) := by
          rw [← hr0, List.getElem?_map, List.getElem?_map, hxi, ← hp]
          rfl
        have hpm : p ∈ l.map ky := (hmem p).mp (by rw [← hp]; exact List.mem_map.mpr ⟨_, List.mem_of_getElem? hxi, rfl⟩)
        have hval : valV kvs (kk p) = some (.int (tot p l)) := by
          rw [dI.val, if_pos hpm]
        have hb2 := s2 _ _ (s0 _ _ hb)
        have ed2 := s2 _ _ (s0 _ _ ed)
        refine ⟨b, _, rfl, .inl (.inl hb2), rfl, _, _, rfl, _, _, rfl, rfl, rfl, ?_⟩
        refine ⟨_, rfl, _, rfl, _, rfl, _, rfl, _, rfl, by show 2 ≤ sizeLine; decide, fun p1 np1 => ⟨d, .int (tot p l), rfl, ?_, ?_⟩⟩
        · have g := DGet.t (k := kk p) (b := p1) (H := upd H2 p1 (.tup [.int p.1, .int p.2])) (a := d) (kvs := kvs) (by rw [upd_ne (ne_of_none ed2 np1)]; exact ed2) upd_same
          rw [hval] at g
          exact g
        · refine ⟨by show 3 ≤ sizeLine; decide, fun p2 np2 => ?_⟩
          have s3 : Same H2 (upd (upd H2 p1 (.tup [.int p.1, .int p.2])) p2 (.tup [.int p.1, .int p.2, .int (tot p l)])) := (same_upd np1).trans (same_upd np2)
          refine ⟨vs, s3 _ _ eD, ?_, same_put (H1 := H2) hD (s2.trans s3), _, upd_same, ?_⟩
          · rw [tV.1, List.length_take]
            exact Nat.lt_of_le_of_lt (Nat.min_le_right _ _) (small1000 (by omega))
          · rw [List.take_add_one, hri]
            have nD : p2 ≠ D := fun z => by
              rw [z] at np2
              have := (same_upd (o := .tup [.int p.1, .int p.2]) np1) _ _ eD
              rw [this] at np2
              cases np2
            refine (tV.sameT (sameT_put eD s3)).snoc ?_
            rw [upd_ne nD, upd_same]
      · obtain ⟨s2, vs, eD, tV⟩ := p
        rw [← hrl, List.take_length] at tV
        refine ⟨D, vs, rfl, .inl ⟨.inl (.inl eD), fun c nc => ?_⟩⟩
        have sA : Same H (upd H2 c (.tup vs)) := ((sm.trans s0).trans s2).trans (same_upd nc)
        exact q _ c r sA (((sm.trans s0).trans s2).free nc) ⟨vs, upd_same, tV.same (same_upd nc)⟩ hN
end
end Own

namespace Own
open PySem PySem.Spec PyProof.Rows L2
/-! ### a lot as an object -/
theorem kpc : ¬ (("cords" : Str) = "pins") := by decide +kernel
theorem kpc2 : ¬ (("pins" : Str) = "cords") := by decide +kernel
def flds (n : Int) (c : Addr) : List (Str × V) := putF "cords" (.ref c) (putF "pins" (.int n) [])
theorem flds_pins (n : Int) (c : Addr) : (flds n c).lookup ("pins" : Str) = some (.int n) := by
  unfold flds
  rw [lookup_putF, if_neg kpc2, lookup_putF, if_pos rfl]
theorem flds_cords (n : Int) (c : Addr) : (flds n c).lookup ("cords" : Str) = some (.ref c) := by
  unfold flds
  rw [lookup_putF, if_pos rfl]
theorem flds_no (n : Int) (c : Addr) {m : Str} (h1 : ¬ m = "pins") (h2 : ¬ m = "cords") : (flds n c).lookup m = none := by
  unfold flds
  rw [lookup_putF, if_neg h2, lookup_putF, if_neg h1]
  all_goals rfl
/-- a lot stands at p -/
def LotAt (C : Addr) (H : Hp) (p : Addr) (n : Int) (cs : List Tr) : Prop := ∃ dx c, H p = some (.ins C dx (flds n c)) ∧ Trip H c cs
theorem LotAt.same {C : Addr} {H H' : Hp} {p : Addr} {n : Int} {cs : List Tr} (s : Same H H') (h : LotAt C H p n cs) : LotAt C H' p n cs := by
  obtain ⟨dx, c, e, t⟩ := h
  exact ⟨dx, c, s _ _ e, t.same s⟩
structure LotC (K : PySem.W.Frag) (mg : Str → Option Value) (C : Addr) : Prop where
  cl : Cls K C
  nP : NoAttr K C "pins"
  nC : NoAttr K C "cords"
  g : mg "Lot" = some (.ref C)
/-- a method of the text -/
structure Mt (K : PySem.W.Frag) (C : Addr) (m qual : Str) (st : Stmt) (ps : List Str) (f : Addr) (fd : FuncData) : Prop where
  F : Fun K m qual st f fd
  m : Meth K C m f
  b : Binds K fd ps []
abbrev FI (K : PySem.W.Frag) (z : Addr) (f : Addr) (fd : FuncData) : Prop := FunD K "__init__" "Lot.__init__" (defArgs s_Lot_init) (defBody s_Lot_init) (defScope s_Lot_init) [.ref z] [] f fd
section
variable {P : Program} {w : World} {K : PySem.W.Frag} {mg : Str → Option Value} {base : Heap} {C : Addr}
def spInit (K : PySem.W.Frag) (C : Addr) : Sp := fun vs H Q _ => ∃ (p dx : Addr) (n : Int) (a : Addr) (xs : List V) (l : List Tr), vs = [.ref p, .int n, .ref a] ∧ H p = some (.ins C dx []) ∧ 0 ≤ n ∧ SqB K H a xs ∧ TrV H xs l ∧ (∀ t ∈ l, Vld n t) ∧ l.length ≤ 1000 ∧
  ∀ H' c r, (∀ b o, H b = some o → b ≠ p → H' b = some o) → H' p = some (.ins C dx (flds n c)) → Trip H' c r → IsNorm l r → Q .non H'
theorem SqB.keep {K : PySem.W.Frag} {H H' : Hp} {a p : Addr} {xs : List V} {dx : Addr} {fs : List (Str × V)} (e : H p = some (.ins C dx fs)) (s : ∀ b o, H b = some o → b ≠ p → H' b = some o) (h : SqB K H a xs) : SqB K H' a xs := by
  have go : ∀ {o : HO}, H a = some o → (∀ D d f, o ≠ .ins D d f) → H' a = some o := fun {o} h n => s _ _ h fun z => by
    rw [z, e] at h
    exact n _ _ _ (Option.some.inj h).symm
  rcases h with ((h | ⟨o, h⟩) | h) | ((h | ⟨o, h⟩) | h)
  · exact .inl (.inl (.inl (go h fun _ _ _ z => by cases z)))
  · exact .inl (.inl (.inr ⟨o, go h fun _ _ _ z => by cases z⟩))
  · exact .inl (.inr h)
  · exact .inr (.inl (.inl (go h fun _ _ _ z => by cases z)))
  · exact .inr (.inl (.inr ⟨o, go h fun _ _ _ z => by cases z⟩))
  · exact .inr (.inr h)
theorem ok_init {z f : Addr} {fd : FuncData} (F : FI K z f fd) (T : Bi mg) (L : LotC K mg C) {f_k : Addr} {d_k : FuncData} (D_k : Df K mg "check_pins" s_check_pins ["pins"] f_k d_k) (G_k : FnOk P w K mg base CX0 2 f_k d_k ["pins"] spCkPins)
    {f_g : Addr} {d_g : FuncData} (D_g : Df K mg "gathered" s_gathered ["pins", "entries"] f_g d_g) (G_g : FnOk P w K mg base CX0 4 f_g d_g ["pins", "entries"] (spGathered K)) :
    FnOk P w K mg base CX0 5 f fd ["self", "pins", "cords"] (spInit K C) := by
  refine F.ok sc_Lot_init (fun vs H Q E h => ?_) (fun cdv A outer s H vs Q E hr h => ?_)
  · obtain ⟨p, dx, n, a, xs, l, rfl, _⟩ := h
    rfl
  · obtain ⟨p, dx, n, a, xs, l, rfl, ep, hn, hB, hx, hv, hl, q⟩ := h
    refine ⟨_, pss_cons (ps_expr (pe_call G_k (hr.mono (by decide)) (by rfl) D_k.g D_k.F.kp D_k.b .nil pass0 (pa_cons (pv 1) pa_nil)))
      (pss_cons (ps_fld (pv 0) (pv 1) rfl) (pss_one (ps_fld (pv 0) (pe_call G_g hr (by rfl) D_g.g D_g.F.kp D_g.b .nil pass0 (pa_cons (pv 1) (pa_cons (pv 2) pa_nil))) rfl))), ?_⟩
    refine ⟨_, rfl, n, rfl, hn, ?_⟩
    refine ⟨_, rfl, _, rfl, p, C, dx, [], rfl, ep, L.cl, L.nP, by show 0 < 1000; decide, ?_⟩
    have k1 : ∀ b o, H b = some o → b ≠ p → (upd H p (.ins C dx (putF "pins" (.int n) []))) b = some o := fun b o e nb => by
      rw [upd_ne nb]
      exact e
    have hx1 : TrV (upd H p (.ins C dx (putF "pins" (.int n) []))) xs l := hx.sameT fun b o e => k1 b _ e fun z => by
      rw [z, ep] at e
      cases e
    refine ⟨_, rfl, _, rfl, n, a, xs, l, rfl, hB.keep ep k1, hx1, hv, hl, fun H1 c r s1 nc tc hN => ?_⟩
    refine ⟨_, rfl, p, C, dx, _, rfl, s1 _ _ upd_same, L.cl, L.nC, by show 1 < 1000; decide, ?_⟩
    have s2 : ∀ b o, H1 b = some o → b ≠ p → (upd H1 p (.ins C dx (putF "cords" (.ref c) (putF "pins" (.int n) [])))) b = some o := fun b o e nb => by
      rw [upd_ne nb]
      exact e
    refine q _ c r (fun b o e nb => s2 b o (s1 b o (k1 b o e nb)) nb) upd_same ?_ hN
    obtain ⟨vs, e, t⟩ := tc
    have eH : H1 p = some (.ins C dx (putF "pins" (.int n) [])) := s1 _ _ upd_same
    refine ⟨vs, s2 _ _ e fun z => ?_, t.sameT fun b o h => s2 _ _ h fun z => ?_⟩
    · rw [z, eH] at e
      cases e
    · rw [z, eH] at h
      cases h
/-- Lot(n, entries) -/
theorem rd_make {n : Int} {a : Addr} {xs : List V} {l : List Tr} {H : Hp} {Q : VK} (hn : 0 ≤ n) (hB : SqB K H a xs) (hx : TrV H xs l) (hv : ∀ t ∈ l, Vld n t) (hl : l.length ≤ 1000) (q : ∀ H' x cs, Same H H' → LotAt C H' x n cs → IsNorm l cs → Q (.ref x) H') :
    ∀ x dx, H x = none → H dx = none → dx ≠ x → spInit K C (.ref x :: ([.int n, .ref a] ++ [])) (upd (upd H dx (.own x)) x (.ins C dx [])) (fun v H2 => v = .non ∧ Q (.ref x) H2) E0 := fun x dx nx nd ne => by
  have s1 : Same H (upd H dx (.own x)) := same_upd nd
  have nx1 : (upd H dx (.own x)) x = none := by
    rw [upd_ne ne.symm]
    exact nx
  have s2 : Same H (upd (upd H dx (.own x)) x (.ins C dx [])) := s1.trans (same_upd nx1)
  refine ⟨x, dx, n, a, xs, l, rfl, upd_same, hn, hB.same s2, hx.same s2, hv, hl, fun H' c r k e t hN => ⟨rfl, q H' x r (fun b o h => ?_) ⟨dx, c, e, t⟩ hN⟩⟩
  exact k b o (s2 b o h) (ne_of_none h nx)
/-! ### renamed pins -/
def gl (n : Int) (g : Int → Int) : List V := (List.range n.toNat).map fun j : Nat => V.int (g (j : Int))
theorem gl_at {n x : Int} (g : Int → Int) (h0 : 0 ≤ x) (h1 : x < n) : atI (gl n g) x = some (.int (g x)) := by
  have e : x = ((x.toNat : Nat) : Int) := by omega
  have hx : (gl n g)[x.toNat]? = some (.int (g x)) := by
    unfold gl
    rw [List.getElem?_map, List.getElem?_range (by omega)]
    show some (V.int (g ((x.toNat : Nat) : Int))) = _
    rw [← e]
  exact at_of e hx
def Inj (n : Int) (g : Int → Int) : Prop := ∀ x y, 0 ≤ x → x < n → 0 ≤ y → y < n → g x = g y → x = y
end
end Own

namespace Own
open PySem PySem.Spec PyProof.Rows L2
theorem rep_gl (v : V) (k : Nat) : (List.replicate k [v]).flatten = List.replicate k v := by
  induction k with
  | zero => rfl
  | succ k ih =>
    rw [List.replicate_succ, List.flatten_cons, ih]
    rfl
theorem gl_const (n v : Int) : List.replicate n.toNat (V.int v) = gl n fun _ => v := by
  unfold gl
  rw [List.map_const', List.length_range]
theorem gl_len (n : Int) (g : Int → Int) : (gl n g).length = n.toNat := by
  unfold gl
  rw [List.length_map, List.length_range]
theorem gl_congr {n : Int} {g h : Int → Int} (e : ∀ x, 0 ≤ x → x < n → g x = h x) : gl n g = gl n h := by
  unfold gl
  refine List.map_congr_left fun j hj => ?_
  have := List.mem_range.mp hj
  rw [e (j : Int) (by omega) (by omega)]
theorem gl_ix {n x : Int} (g : Int → Int) (h0 : 0 ≤ x) (h1 : x < n) : ixN (gl n g).length x = some x.toNat := by
  unfold ixN
  rw [gl_len, if_pos h0, if_pos (by omega)]
theorem gl_set {n x : Int} (g : Int → Int) (v : Int) (h0 : 0 ≤ x) (h1 : x < n) : (gl n g).set x.toNat (.int v) = gl n fun y => if y = x then v else g y := by
  unfold gl
  apply List.ext_getElem
  · rw [List.length_set, List.length_map, List.length_map]
  · intro j hj hj2
    rw [List.length_map, List.length_range] at hj2
    rw [List.getElem_set, List.getElem_map, List.getElem_map, List.getElem_range]
    by_cases e : x.toNat = j
    · rw [if_pos e]
      show V.int v = V.int (if ((j : Nat) : Int) = x then v else g j)
      rw [if_pos (by omega)]
    · rw [if_neg e]
      show V.int (g j) = V.int (if ((j : Nat) : Int) = x then v else g j)
      rw [if_neg (by omega)]
def endsOf (cs : List Tr) (x : Int) : Int := bs (fun q => decide (q.1 = x ∨ q.2 = x)) cs
theorem endsOf_snoc (cs : List Tr) (t : Tr) (x : Int) : endsOf (cs ++ [t]) x = endsOf cs x + (if t.1 = x ∨ t.2.1 = x then t.2.2 else 0) := by
  unfold endsOf
  rw [bs_append]
  show _ + ((if decide (t.1 = x ∨ t.2.1 = x) = true then t.2.2 else 0) + 0) = _
  by_cases h : t.1 = x ∨ t.2.1 = x
  · rw [if_pos (decide_eq_true h), if_pos h]
    omega
  · rw [if_neg (by rw [decide_eq_false h]; decide), if_neg h]
    omega
def totOf (cs : List Tr) : Int := (cs.map fun t => t.2.2).sum
theorem fmod_in (x : Int) {n : Int} (h : 0 < n) : 0 ≤ x.fmod n ∧ x.fmod n < n := by
  rw [Int.fmod_eq_emod_of_nonneg _ (Int.le_of_lt h)]
  exact ⟨Int.emod_nonneg _ (by omega), Int.emod_lt_of_pos _ h⟩
def sh (n s x : Int) : Int := (x + s).fmod n
def mi (n x : Int) : Int := n - 1 - x
theorem sh_in {n s x : Int} (h : 0 < n) : 0 ≤ sh n s x ∧ sh n s x < n := fmod_in _ h
theorem sub_mod {n a b : Int} (h : a % n = b % n) : (a - b) % n = 0 := by
  rw [Int.sub_emod, h, Int.sub_self, Int.zero_emod]
theorem sh_inj (n s : Int) : Inj n (sh n s) := fun x y x0 x1 y0 y1 e => by
  have n0 : 0 < n := by omega
  unfold sh at e
  rw [Int.fmod_eq_emod_of_nonneg _ (by omega), Int.fmod_eq_emod_of_nonneg _ (by omega)] at e
  have h1 := sub_mod e
  have h2 := sub_mod e.symm
  rw [show x + s - (y + s) = x - y by omega] at h1
  rw [show y + s - (x + s) = y - x by omega] at h2
  by_cases h : y ≤ x
  · rw [Int.emod_eq_of_lt (by omega) (by omega)] at h1
    omega
  · rw [Int.emod_eq_of_lt (by omega) (by omega)] at h2
    omega
theorem mi_inj (n : Int) : Inj n (mi n) := fun x y _ _ _ _ e => by
  unfold mi at e
  omega
theorem mi_in {n x : Int} (h0 : 0 ≤ x) (h1 : x < n) : 0 ≤ mi n x ∧ mi n x < n := by
  unfold mi
  omega
section
variable {P : Program} {w : World} {K : PySem.W.Frag} {mg : Str → Option Value} {base : Heap} {C : Addr}
/-! ### the ends at each pin -/
def spEap : Sp := fun vs H Q _ => ∃ (n : Int) (c : Addr) (cs : List Tr), vs = [.int n, .ref c] ∧ 0 ≤ n ∧ n ≤ 1000 ∧ Trip H c cs ∧ (∀ t ∈ cs, Vld n t) ∧ ∀ H' p, Same H H' → H p = none → H' p = some (.lst (gl n (endsOf cs))) → Q (.ref p) H'
theorem ok_eap {f : Addr} {fd : FuncData} (F : Fun K "ends_at_pins" "ends_at_pins" s_ends_at_pins f fd) (T : Bi mg) : FnOk P w K mg base CX0 1 f fd ["pins", "cords"] spEap := by
  refine F.ok sc_ends_at_pins (fun vs H Q E h => ?_) (fun cdv A outer s H vs Q E hr h => ?_)
  · obtain ⟨n, c, cs, rfl, _⟩ := h
    rfl
  · obtain ⟨n, c, cs, rfl, n0, n1, hc, hv, q⟩ := h
    refine ⟨_, (pss_cons (ps_set (i := 2) sc_ends_at_pins.nd rfl (.inl rfl) (pe_op op_rep (pe_lst (pa_cons pe_int pa_nil)) (pv 0)))
        (pss_cons (ps_for PassesOwn.never rfl (pi_tup (pv 1)) (pg_tup (by rfl) (pgs_cons (pg_name (i := 3) sc_ends_at_pins.nd rfl (.inl rfl)) (pgs_cons (pg_name (i := 4) sc_ends_at_pins.nd rfl (.inl rfl)) (pgs_cons (pg_name (i := 5) sc_ends_at_pins.nd rfl (.inl rfl)) pgs_nil))))
        (pss_cons (ps_asg (pe_op op_add (pe_ix (r := rIxL K) ix_list (pv 2) (pv 3) (fun _ _ => rfl)) (pv 5)) (pg_sub (pv 2) (pv 3) set_list))
        (pss_one (ps_asg (pe_op op_add (pe_ix (r := rIxL K) ix_list (pv 2) (pv 4) (fun _ _ => rfl)) (pv 5)) (pg_sub (pv 2) (pv 4) set_list)))))
        (pss_one (ps_ret (pv 2))))), ?_⟩
    obtain ⟨vs, ec, tc⟩ := id hc
    refine ⟨by show 1 ≤ sizeLine; decide, fun l hl => ⟨_, rfl, l, n, _, rfl, rfl, upd_same, by omega, by omega, ?_, fun p np => ?_⟩⟩
    · show 1 * n.toNat ≤ sizeLine
      rw [Nat.one_mul]
      exact Nat.le_of_lt (small1000 (by omega))
    have np0 : H p = none := (same_upd (o := .lst [.int 0]) hl).free np
    have sL : Same H (upd (upd H l (.lst [.int 0])) p (.lst (List.replicate n.toNat [V.int 0]).flatten)) := (same_upd hl).trans (same_upd np)
    refine ⟨_, rfl, c, rfl, ⟨vs, .inl (.inl (sL _ _ ec))⟩, for_tup (xs := vs) (fun i σ H' => (∃ y3 y4 y5, σ = [some (.int n), some (.ref c), some (.ref p), y3, y4, y5]) ∧ Same H H' ∧ H' p = some (.lst (gl n (endsOf (cs.take i))))) ⟨⟨_, _, _, rfl⟩, sL, ?_⟩ (fun i σ H' _ p => .inl (.inl (p.2.1 _ _ ec))) (fun i x σ H' hxi p => ?_) (fun σ H' p => ?_)⟩
    · rw [upd_same, rep_gl, gl_const]
      rfl
    · obtain ⟨⟨y3, y4, y5, rfl⟩, sm, ep⟩ := p
      obtain ⟨u, t, rfl, hti, hu⟩ := (tc.same sm).at_ hxi
      obtain ⟨v0, v1, v2, v3, v4, v5⟩ := hv t (List.mem_of_getElem? hti)
      refine ⟨u, _, rfl, .inl (.inl hu), rfl, _, _, rfl, _, _, rfl, _, _, rfl, rfl, ?_⟩
      refine ⟨_, rfl, _, rfl, p, _, _, _, rfl, rfl, .inl (.inl ep), gl_at _ v0 v1, _, rfl, _, _, rfl, rfl, _, rfl, _, rfl, p, _, _, _, rfl, rfl, ep, gl_ix _ v0 v1, ?_⟩
      rw [gl_set _ _ v0 v1]
      refine ⟨_, rfl, _, rfl, p, _, _, _, rfl, rfl, .inl (.inl upd_same), gl_at _ v2 v3, _, rfl, _, _, rfl, rfl, _, rfl, _, rfl, p, _, _, _, rfl, rfl, upd_same, gl_ix _ v2 v3, ?_⟩
      rw [gl_set _ _ v2 v3, upd_upd]
      refine ⟨⟨_, _, _, rfl⟩, same_put (H1 := H) np0 sm, ?_⟩
      rw [upd_same, List.take_add_one, hti]
      congr 2
      refine gl_congr fun x _ _ => ?_
      show _ = endsOf (cs.take i ++ [t]) x
      rw [endsOf_snoc]
      by_cases e1 : x = t.2.1
      · subst e1
        rw [if_pos rfl, if_neg (fun z => v4 z.symm), if_pos (.inr rfl)]
      · by_cases e2 : x = t.1
        · subst e2
          rw [if_neg e1, if_pos rfl, if_pos (.inl rfl)]
        · rw [if_neg e1, if_neg e2, if_neg fun z => by rcases z with z | z <;> omega]
          omega
    · obtain ⟨⟨y3, y4, y5, rfl⟩, sm, ep⟩ := p
      rw [tc.1, List.take_length] at ep
      exact ⟨_, rfl, q H' p sm np0 ep⟩
def spEnds (C : Addr) : Sp := fun vs H Q _ => ∃ (p : Addr) (x n : Int) (cs : List Tr), vs = [.ref p, .int x] ∧ LotAt C H p n cs ∧ 0 ≤ x ∧ x < n ∧ n ≤ 1000 ∧ (∀ t ∈ cs, Vld n t) ∧ ∀ H', Same H H' → Q (.int (endsOf cs x)) H'
theorem ok_ends {f : Addr} {fd : FuncData} (F : Fun K "ends" "Lot.ends" s_Lot_ends f fd) (T : Bi mg) (L : LotC K mg C) {f_k : Addr} {d_k : FuncData} (D_k : Df K mg "check_pin" s_check_pin ["pins", "pin"] f_k d_k) (G_k : FnOk P w K mg base CX0 3 f_k d_k ["pins", "pin"] spCkPin)
    {f_p : Addr} {d_p : FuncData} (D_p : Df K mg "ends_at_pins" s_ends_at_pins ["pins", "cords"] f_p d_p) (G_p : FnOk P w K mg base CX0 1 f_p d_p ["pins", "cords"] spEap) : FnOk P w K mg base CX0 4 f fd ["self", "pin"] (spEnds C) := by
  refine F.ok sc_Lot_ends (fun vs H Q E h => ?_) (fun cdv A outer s H vs Q E hr h => ?_)
  · obtain ⟨p, x, n, cs, rfl, _⟩ := h
    rfl
  · obtain ⟨p, x, n, cs, rfl, hL, x0, x1, n1, hv, q⟩ := h
    refine ⟨_, (pss_cons (ps_expr (pe_call G_k hr (by rfl) D_k.g D_k.F.kp D_k.b .nil pass0 (pa_cons (pe_fld (pv 0) rfl) (pa_cons (pv 1) pa_nil))))
        (pss_one (ps_ret (pe_ix (r := rIxL K) ix_list (pe_call G_p (hr.mono (by decide)) (by rfl) D_p.g D_p.F.kp D_p.b .nil pass0 (pa_cons (pe_fld (pv 0) rfl) (pa_cons (pe_fld (pv 0) rfl) pa_nil))) (pv 1) (fun _ _ => rfl))))), ?_⟩
    obtain ⟨dx, c, e, t⟩ := hL
    refine ⟨_, rfl, p, C, dx, _, _, rfl, e, L.cl, L.nP, flds_pins _ _, _, rfl, n, x, rfl, x0, x1, ?_⟩
    refine ⟨_, rfl, p, C, dx, _, _, rfl, e, L.cl, L.nP, flds_pins _ _, _, rfl, p, C, dx, _, _, rfl, e, L.cl, L.nC, flds_cords _ _, n, c, cs, rfl, by omega, n1, t, hv, fun H1 u s1 nu eu => ?_⟩
    exact ⟨_, rfl, u, _, x, _, rfl, rfl, .inl (.inl eu), gl_at _ x0 x1, q H1 s1⟩
def spTotal (C : Addr) : Sp := fun vs H Q _ => ∃ (p : Addr) (n : Int) (cs : List Tr), vs = [.ref p] ∧ LotAt C H p n cs ∧ cs.length ≤ 1000 ∧ ∀ H', Same H H' → Q (.int (totOf cs)) H'
theorem ok_total {f : Addr} {fd : FuncData} (F : Fun K "total" "Lot.total" s_Lot_total f fd) (T : Bi mg) (L : LotC K mg C) : FnOk P w K mg base CX0 1 f fd ["self"] (spTotal C) := by
  refine F.ok sc_Lot_total (fun vs H Q E h => ?_) (fun cdv A outer s H vs Q E hr h => ?_)
  · obtain ⟨p, n, cs, rfl, _⟩ := h
    rfl
  · obtain ⟨p, n, cs, rfl, hL, hl, q⟩ := h
    refine ⟨_, (pss_one (ps_ret (pe_callB (cr_sum rfl) (by rfl) T.b_sum (by decide +kernel) (pa_cons (pe_lc (own := [("entry", 1)]) (g := gName 1) (tt := tYes) rfl sc_Lot_total.nd (pi_tup (pe_fld (pv 0) rfl)) (blkOk_by (own := [("entry", 1)]) (N := ["self", "entry"]) (sc := defScope s_Lot_total) (by decide +kernel)) (fun _ _ _ _ _ => (pg_name (i := 1) sc_Lot_total.nd rfl (.inl rfl))) (fun _ _ _ _ _ => pts_nil) (fun _ _ _ _ _ => (pe_ix (r := rIxT K) ix_tup (pv 1) pe_int (fun _ _ => rfl)))) pa_nil)))), ?_⟩
    obtain ⟨dx, c, e, vs, ec, tc⟩ := hL
    refine ⟨_, rfl, p, C, dx, _, _, rfl, e, L.cl, L.nC, flds_cords _ _, c, rfl, ⟨vs, .inl (.inl ec)⟩, fun D hD => ?_⟩
    refine lc_tup (K := K) (a := c) (xs := vs) (fun i H2 => H2 = upd H D (.lst (((cs.map fun t => t.2.2).take i).map V.int))) rfl (fun i H2 _ p => by subst p; exact .inl (.inl (same_upd hD _ _ ec))) (fun i x H2 hxi p => ?_) (fun H2 p => ?_)
    · subst p
      obtain ⟨u, t, rfl, hti, hu⟩ := tc.at_ hxi
      refine ⟨rfl, ?_⟩
      refine ⟨_, rfl, u, _, 2, _, rfl, rfl, .inl (.inl (same_upd hD _ _ hu)), atI_nat (j := 2) rfl, _, upd_same, ?_, ?_⟩
      · rw [List.length_map, List.length_take, List.length_map]
        exact Nat.lt_of_le_of_lt (Nat.min_le_right _ _) (small1000 hl)
      · rw [upd_upd, List.take_add_one, List.getElem?_map, hti, List.map_append]
        rfl
    · subst p
      rw [show vs.length = (cs.map fun t => t.2.2).length by rw [List.length_map]; exact tc.1, List.take_length]
      exact ⟨D, _, rfl, .inl (.inl upd_same), q _ (same_upd hD)⟩
def spLen (C : Addr) : Sp := fun vs H Q _ => ∃ (p : Addr) (n : Int) (cs : List Tr), vs = [.ref p] ∧ LotAt C H p n cs ∧ Q (.int (cs.length : Int)) H
theorem ok_len {f : Addr} {fd : FuncData} (F : Fun K "__len__" "Lot.__len__" s_Lot_len f fd) (T : Bi mg) (L : LotC K mg C) : FnOk P w K mg base CX0 1 f fd ["self"] (spLen C) := by
  refine F.ok sc_Lot_len (fun vs H Q E h => ?_) (fun cdv A outer s H vs Q E hr h => ?_)
  · obtain ⟨p, n, cs, rfl, _⟩ := h
    rfl
  · obtain ⟨p, n, cs, rfl, hL, q⟩ := h
    refine ⟨_, (pss_one (ps_ret (pe_callB call_len_seq (by rfl) T.b_len PySem.boot_len (pa_cons (pe_fld (pv 0) rfl) pa_nil)))), ?_⟩
    obtain ⟨dx, c, e, vs, ec, tc⟩ := hL
    refine ⟨_, rfl, p, C, dx, _, _, rfl, e, L.cl, L.nC, flds_cords _ _, c, vs, rfl, .inr (.inl (.inl ec)), ?_⟩
    rw [tc.1]
    exact q
/-! ### turned and mirrored -/
abbrev GI (P : Program) (w : World) (K : PySem.W.Frag) (mg : Str → Option Value) (base : Heap) (C f : Addr) (d : FuncData) : Prop := FnOk P w K mg base CX0 5 f d ["self", "pins", "cords"] (spInit K C)
end
end Own

/-! Tables of lots. -/
namespace Own
open PySem PySem.Spec PyProof.Rows L2
def gr (cs : List Tr) (a b : Int) : Int := bs (fun q => decide ((q.1 = a ∧ q.2 = b) ∨ (q.1 = b ∧ q.2 = a))) cs
theorem gr_snoc (cs : List Tr) (t : Tr) (a b : Int) : gr (cs ++ [t]) a b = gr cs a b + (if (t.1 = a ∧ t.2.1 = b) ∨ (t.1 = b ∧ t.2.1 = a) then t.2.2 else 0) := by
  unfold gr
  rw [bs_append]
  show _ + ((if decide ((t.1 = a ∧ t.2.1 = b) ∨ (t.1 = b ∧ t.2.1 = a)) = true then t.2.2 else 0) + 0) = _
  by_cases h : (t.1 = a ∧ t.2.1 = b) ∨ (t.1 = b ∧ t.2.1 = a)
  · rw [if_pos (decide_eq_true h), if_pos h]
    omega
  · rw [if_neg (by rw [decide_eq_false h]; decide), if_neg h]
    omega
theorem gr_new {n : Int} {cs : List Tr} (g : Good n cs) {i : Nat} {t : Tr} (h : cs[i]? = some t) : gr (cs.take i) t.1 t.2.1 = 0 ∧ gr (cs.take i) t.2.1 t.1 = 0 := by
  have hnd := srt_nodup g.srt
  have hi : i < cs.length := (List.getElem?_eq_some_iff.mp h).1
  have ht := g.ord t (List.mem_of_getElem? h)
  have hne : ∀ e ∈ cs.take i, ¬ (e.1 = t.1 ∧ e.2.1 = t.2.1) ∧ ¬ (e.1 = t.2.1 ∧ e.2.1 = t.1) := fun e he => by
    obtain ⟨j, hj, e1⟩ := List.mem_iff_getElem.mp he
    rw [List.length_take] at hj
    rw [List.getElem_take] at e1
    have ho := g.ord e (List.mem_of_mem_take he)
    refine ⟨fun z => ?_, fun z => by omega⟩
    have h1 : (cs.map pr)[j]? = (cs.map pr)[i]? := by
      rw [List.getElem?_map, List.getElem?_map, h, List.getElem?_eq_getElem (by omega), e1]
      show some (e.1, e.2.1) = some (t.1, t.2.1)
      rw [z.1, z.2]
    have h2 := (List.getElem?_inj (by rw [List.length_map]; omega) hnd).mp h1
    omega
  constructor
  · exact bs_none fun e he => decide_eq_false fun z => by
      have := hne e he
      unfold pr at z
      rcases z with z | z
      · exact this.1 z
      · exact this.2 z
  · exact bs_none fun e he => decide_eq_false fun z => by
      have := hne e he
      unfold pr at z
      rcases z with z | z
      · exact this.2 z
      · exact this.1 z
/-- the sum of the first k -/
def pre (f : Int → Int) : Nat → Int
  | 0 => 0
  | k + 1 => pre f k + f (k : Int)
def ite0 (b : Bool) (c : Int) : Int := if b = true then c else 0
theorem bs_add {f g h : Int × Int → Bool} {cs : List Tr} (H : ∀ t ∈ cs, ∀ c, ite0 (f (pr t)) c = ite0 (g (pr t)) c + ite0 (h (pr t)) c) : bs f cs = bs g cs + bs h cs := by
  induction cs with
  | nil => rfl
  | cons t r ih =>
    have h1 := H t List.mem_cons_self t.2.2
    have h2 := ih fun u hu => H u (List.mem_cons_of_mem _ hu)
    unfold ite0 at h1
    rw [bs, bs, bs]
    omega
theorem bs_four {f g h k m : Int × Int → Bool} {cs : List Tr} (H : ∀ t ∈ cs, ∀ c, ite0 (f (pr t)) c = ite0 (g (pr t)) c + ite0 (h (pr t)) c - 2 * (ite0 (k (pr t)) c - ite0 (m (pr t)) c)) : bs f cs = bs g cs + bs h cs - 2 * (bs k cs - bs m cs) := by
  induction cs with
  | nil => rfl
  | cons t r ih =>
    have h1 := H t List.mem_cons_self t.2.2
    have h2 := ih fun u hu => H u (List.mem_cons_of_mem _ hu)
    unfold ite0 at h1
    rw [bs, bs, bs, bs, bs]
    omega
theorem ite0_dec (p : Prop) [Decidable p] (c : Int) : ite0 (decide p) c = if p then c else 0 := by
  unfold ite0
  by_cases h : p
  · rw [if_pos (decide_eq_true h), if_pos h]
  · rw [if_neg (by rw [decide_eq_false h]; decide), if_neg h]
def upTo (j m : Int) (q : Int × Int) : Bool := decide ((q.1 = j ∧ q.2 < m) ∨ (q.2 = j ∧ q.1 < m))
theorem pre_gr {n : Int} {cs : List Tr} (g : Good n cs) (j : Int) (m : Nat) : pre (gr cs j) m = bs (upTo j m) cs := by
  induction m with
  | zero =>
    rw [bs_none]
    · rfl
    · intro e he
      have ho := g.ord e he
      refine decide_eq_false fun z => ?_
      unfold pr at z
      dsimp only at z
      omega
  | succ m ih =>
    rw [pre, ih]
    unfold gr
    symm
    refine bs_add fun e he c => ?_
    have ho := g.ord e he
    unfold upTo pr
    rw [ite0_dec, ite0_dec, ite0_dec]
    dsimp only
    split <;> split <;> split <;> omega
/-- does x lie between the gaps i and j? -/
def sepB (i j x : Int) : Bool := decide (lo i j < x ∧ x ≤ hi i j)
def tabE (cs : List Tr) (i j : Int) : Int := bs (fun q => sepB i j q.1 != sepB i j q.2) cs
theorem bne_dec (p q : Prop) [Decidable p] [Decidable q] : (decide p != decide q) = decide (¬ (p ↔ q)) := by
  by_cases h : p <;> by_cases k : q <;> simp [h, k]
theorem tabE_comm (cs : List Tr) (i j : Int) : tabE cs i j = tabE cs j i := by
  have e : ∀ x, sepB i j x = sepB j i x := fun x => by
    unfold sepB
    have h1 := lo_hi i j
    have h2 := lo_hi j i
    exact decide_eq_decide.mpr (by omega)
  unfold tabE
  refine bs_congr fun t _ => ?_
  rw [e, e]
theorem tabE_same (cs : List Tr) (i : Int) : tabE cs i i = 0 := by
  refine bs_none fun t _ => ?_
  have h : ∀ x, sepB i i x = false := fun x => decide_eq_false fun z => by
    have := lo_hi i i
    omega
  rw [h, h]
  rfl
/-- one gap further -/
theorem tabE_step {n : Int} {cs : List Tr} (g : Good n cs) {i j : Int} (h0 : 0 ≤ i) (h1 : i < j) (h2 : j < n) :
    tabE cs i j = tabE cs i (j - 1) + bs (upTo j n) cs - 2 * (bs (upTo j j) cs - bs (upTo j (i + 1)) cs) := by
  unfold tabE
  refine bs_four fun e he c => ?_
  have ho := g.ord e he
  have a := lo_hi i j
  have b := lo_hi i (j - 1)
  unfold sepB upTo pr
  rw [bne_dec, bne_dec, ite0_dec, ite0_dec, ite0_dec, ite0_dec, ite0_dec]
  dsimp only
  split <;> split <;> split <;> split <;> split <;> omega
end Own

namespace Own
open PySem PySem.Spec PyProof.Rows L2
/-! ### a list of lists of ints -/
structure Grid (H : Hp) (p : Addr) (rs : List Addr) (n m : Int) (f : Int → Int → Int) : Prop where
  at_ : H p = some (.lst (rs.map V.ref))
  len : rs.length = n.toNat
  nd : rs.Nodup
  out : p ∉ rs
  row : ∀ (j : Nat) (r : Addr), rs[j]? = some r → H r = some (.lst (gl m (f j)))
theorem Grid.same {H H' : Hp} {p : Addr} {rs : List Addr} {n m : Int} {f : Int → Int → Int} (s : Same H H') (g : Grid H p rs n m f) : Grid H' p rs n m f :=
  ⟨s _ _ g.at_, g.len, g.nd, g.out, fun j r e => s _ _ (g.row j r e)⟩
theorem Grid.get {H : Hp} {p : Addr} {rs : List Addr} {n m : Int} {f : Int → Int → Int} (g : Grid H p rs n m f) {a : Int} (h0 : 0 ≤ a) (h1 : a < n) : ∃ r, rs[a.toNat]? = some r ∧ atI (rs.map V.ref) a = some (.ref r) ∧ H r = some (.lst (gl m (f a))) := by
  have hl := g.len
  have hi : a.toNat < rs.length := by omega
  refine ⟨rs[a.toNat], List.getElem?_eq_getElem hi, ?_, ?_⟩
  · refine at_of (j := a.toNat) (by omega) ?_
    rw [List.getElem?_map, List.getElem?_eq_getElem hi]
    rfl
  · have := g.row a.toNat _ (List.getElem?_eq_getElem hi)
    rw [show ((a.toNat : Nat) : Int) = a by omega] at this
    exact this
theorem Grid.set {H : Hp} {p r : Addr} {rs : List Addr} {n m a b v : Int} {f : Int → Int → Int} (g : Grid H p rs n m f) (a0 : 0 ≤ a) (b0 : 0 ≤ b) (b1 : b < m) (hr : rs[a.toNat]? = some r) :
    Grid (upd H r (.lst ((gl m (f a)).set b.toNat (.int v)))) p rs n m (fun x y => if x = a ∧ y = b then v else f x y) := by
  have hm : r ∈ rs := List.mem_of_getElem? hr
  have hpr : p ≠ r := fun z => g.out (by rw [z]; exact hm)
  refine ⟨by rw [upd_ne hpr]; exact g.at_, g.len, g.nd, g.out, fun j u e => ?_⟩
  rw [gl_set _ _ b0 b1]
  by_cases h : u = r
  · subst h
    have ej : j = a.toNat := nd_ix g.nd e hr
    rw [upd_same]
    congr 2
    refine gl_congr fun y _ _ => ?_
    have ej2 : ((j : Nat) : Int) = a := by omega
    by_cases hy : y = b
    · rw [if_pos hy, if_pos ⟨ej2, hy⟩]
    · rw [if_neg hy, if_neg fun z => hy z.2, ej2]
  · rw [upd_ne h, g.row j u e]
    congr 2
    refine gl_congr fun y _ _ => ?_
    have : ¬ (((j : Nat) : Int) = a ∧ y = b) := fun z => h (by
      have : j = a.toNat := by omega
      rw [this, hr] at e
      exact (Option.some.inj e).symm)
    rw [if_neg this]
theorem Grid.congr {H : Hp} {p : Addr} {rs : List Addr} {n m : Int} {f h : Int → Int → Int} (g : Grid H p rs n m f) (e : ∀ x y, 0 ≤ x → x < n → 0 ≤ y → y < m → f x y = h x y) : Grid H p rs n m h :=
  ⟨g.at_, g.len, g.nd, g.out, fun j r hr => by
    have hj : j < n.toNat := by
      rw [← g.len]
      exact (List.getElem?_eq_some_iff.mp hr).1
    rw [g.row j r hr]
    congr 2
    exact gl_congr fun y y0 y1 => e _ y (by omega) (by omega) y0 y1⟩
/-- nothing of a base is among the rows -/
def Fresh (Hb : Hp) (p : Addr) (rs : List Addr) : Prop := Hb p = none ∧ ∀ r ∈ rs, Hb r = none
theorem Fresh.row {Hb H : Hp} {p r : Addr} {rs : List Addr} {o : HO} (f : Fresh Hb p rs) (s : Same Hb H) (h : r ∈ rs) : Same Hb (upd H r o) := same_put (H1 := Hb) (f.2 r h) s
section
variable {P : Program} {w : World} {K : PySem.W.Frag} {mg : Str → Option Value} {base : Heap} {C : Addr}
def spGaps : Sp := fun vs H Q _ => ∃ n : Int, vs = [.int n] ∧ Q (.int (hi n 1)) H
theorem ok_gaps {f : Addr} {fd : FuncData} (F : Fun K "gaps" "gaps" s_gaps f fd) (T : Bi mg) : FnOk P w K mg base CX0 1 f fd ["pins"] spGaps := by
  refine F.ok sc_gaps (fun vs H Q E h => ?_) (fun cdv A outer s H vs Q E hr h => ?_)
  · obtain ⟨n, rfl, _⟩ := h
    rfl
  · obtain ⟨n, rfl, q⟩ := h
    refine ⟨_, (pss_one (ps_ret (pe_callB (call_max2 rfl) (by rfl) T.b_max (by decide +kernel) (pa_cons (pv 0) (pa_cons pe_int pa_nil))))), ?_⟩
    exact ⟨_, rfl, n, 1, rfl, q⟩
/-! ### the sums before each place -/
def spSums (K : PySem.W.Frag) : Sp := fun vs H Q _ => ∃ (r : Addr) (n : Int) (f : Int → Int), vs = [.ref r] ∧ H r = some (.lst (gl n f)) ∧ 0 ≤ n ∧ n ≤ 1000 ∧ ∀ H' p, Same H H' → H p = none → H' p = some (.lst (gl (n + 1) fun x => pre f x.toNat)) → Q (.ref p) H'
theorem ok_sums {f : Addr} {fd : FuncData} (F : Fun K "sums_before" "sums_before" s_sums_before f fd) (T : Bi mg) : FnOk P w K mg base CX0 1 f fd ["row"] (spSums K) := by
  refine F.ok sc_sums_before (fun vs H Q E h => ?_) (fun cdv A outer s H vs Q E hr h => ?_)
  · obtain ⟨r, n, f, rfl, _⟩ := h
    rfl
  · obtain ⟨r, n, f, rfl, er, n0, n1, q⟩ := h
    refine ⟨_, (pss_cons (ps_set (i := 1) sc_sums_before.nd rfl (.inl rfl) (pe_lst (pa_cons pe_int pa_nil)))
        (pss_cons (ps_set (i := 2) sc_sums_before.nd rfl (.inl rfl) pe_int)
        (pss_cons (ps_for PassesOwn.never rfl (pi_list (pv 0)) (pg_name (i := 3) sc_sums_before.nd rfl (.inl rfl))
        (pss_cons (ps_set (i := 2) sc_sums_before.nd rfl (.inl rfl) (pe_op op_add (pv 2) (pv 3)))
        (pss_one (ps_expr (pe_bm PySem.F.plainAttrs_list PySem.F.slot_list_append PySem.F.type_list_append mt_append (pv 1) (pa_cons (pv 2) pa_nil))))))
        (pss_one (ps_ret (pv 1)))))), ?_⟩
    refine ⟨by show 1 ≤ sizeLine; decide, fun p np => ?_⟩
    refine ⟨_, rfl, r, rfl, ⟨_, .inl (.inl (same_upd np _ _ er))⟩, for_list (xs := gl n f) (fun i σ H' => (∃ y, σ = [some (.ref r), some (.ref p), some (.int (pre f i)), y]) ∧ H' = upd H p (.lst ((List.range (i + 1)).map fun j : Nat => V.int (pre f j)))) ⟨⟨_, rfl⟩, rfl⟩ (fun i σ H' _ pv => by obtain ⟨_, rfl⟩ := pv; exact .inl (.inl (same_upd np _ _ er))) (fun i x σ H' hx pv => ?_) (fun σ H' pv => ?_)⟩
    · obtain ⟨⟨y, rfl⟩, rfl⟩ := pv
      have hi : i < n.toNat := by
        have := (List.getElem?_eq_some_iff.mp hx).1
        rw [gl_len] at this
        exact this
      obtain rfl : x = .int (f (i : Int)) := by
        unfold gl at hx
        rw [List.getElem?_map, List.getElem?_range hi] at hx
        exact (Option.some.inj hx).symm
      refine ⟨_, rfl, _, rfl, _, _, rfl, rfl, ?_⟩
      refine ⟨_, rfl, .inl ⟨rfl, _, .inl (.inl upd_same)⟩, _, rfl, p, _, _, rfl, rfl, upd_same, ?_, ⟨_, rfl⟩, ?_⟩
      · rw [List.length_map, List.length_range]
        exact small1000 (by omega)
      · rw [upd_upd, List.range_succ (n := i + 1), List.map_append]
        rfl
    · obtain ⟨⟨y, rfl⟩, rfl⟩ := pv
      refine ⟨_, rfl, q _ p (same_upd np) np ?_⟩
      rw [upd_same, gl_len]
      unfold gl
      rw [show (n + 1).toNat = n.toNat + 1 by omega]
      rfl
/-! ### the cords between each two pins -/
def spGrid : Sp := fun vs H Q _ => ∃ (n : Int) (c : Addr) (cs : List Tr), vs = [.int n, .ref c] ∧ 0 ≤ n ∧ n ≤ 1000 ∧ Trip H c cs ∧ Good n cs ∧ ∀ H' p rs, Same H H' → Fresh H p rs → Grid H' p rs n n (gr cs) → Q (.ref p) H'
theorem ok_grid {f : Addr} {fd : FuncData} (F : Fun K "cord_grid" "cord_grid" s_cord_grid f fd) (T : Bi mg) : FnOk P w K mg base CX0 1 f fd ["pins", "cords"] spGrid := by
  refine F.ok sc_cord_grid (fun vs H Q E h => ?_) (fun cdv A outer s H vs Q E hr h => ?_)
  · obtain ⟨n, c, cs, rfl, _⟩ := h
    rfl
  · obtain ⟨n, c, cs, rfl, n0, n1, hc, hG, q⟩ := h
    refine ⟨_, (pss_cons (ps_setLc (i := 2) (own := [("_", 6)]) (g := gName 6) (tt := tYes) rfl sc_cord_grid.nd rfl rfl (sw_true rfl rfl rfl (by decide +kernel)) (pi_range1 (by rfl) T.b_range (pa_cons (pv 0) pa_nil)) (blkOk_by (own := [("_", 6)]) (N := ["pins", "cords", "rows", "a", "b", "many", "_"]) (sc := defScope s_cord_grid) (by decide +kernel)) (fun _ _ _ _ _ => (pg_name (i := 6) sc_cord_grid.nd rfl (.inl rfl))) (fun _ _ _ _ _ => pts_nil) (fun _ _ _ _ _ => (pe_op op_rep (pe_lst (pa_cons pe_int pa_nil)) (pv 0))))
        (pss_cons (ps_for PassesOwn.never rfl (pi_tup (pv 1)) (pg_tup (by rfl) (pgs_cons (pg_name (i := 3) sc_cord_grid.nd rfl (.inl rfl)) (pgs_cons (pg_name (i := 4) sc_cord_grid.nd rfl (.inl rfl)) (pgs_cons (pg_name (i := 5) sc_cord_grid.nd rfl (.inl rfl)) pgs_nil))))
        (pss_cons (ps_asg (pv 5) (pg_sub (pe_ix (r := rIxL K) ix_list (pv 2) (pv 3) (fun _ _ => rfl)) (pv 4) set_list))
        (pss_one (ps_asg (pv 5) (pg_sub (pe_ix (r := rIxL K) ix_list (pv 2) (pv 4) (fun _ _ => rfl)) (pv 3) set_list)))))
        (pss_one (ps_ret (pv 2))))), ?_⟩
    obtain ⟨vs, ec, tc⟩ := id hc
    refine ⟨_, rfl, n, rfl, by omega, by omega, fun D hD => ?_⟩
    refine lc_range (lo := 0) (n := n.toNat) (fun i H' => Same H H' ∧ ∃ rs, H' D = some (.lst (rs.map V.ref)) ∧ rs.length = i ∧ rs.Nodup ∧ D ∉ rs ∧ (∀ r ∈ rs, H r = none) ∧ ∀ (j : Nat) (r : Addr), rs[j]? = some r → H' r = some (.lst (gl n fun _ => 0))) ⟨same_upd hD, [], upd_same, rfl, List.nodup_nil, by simp, by simp, by simp⟩ (fun i H' hi pv => ?_) (fun H' pv => ?_)
    · obtain ⟨sm, rs, eD, hlen, hnd, hout, hfr, hrow⟩ := pv
      refine ⟨rfl, ?_⟩
      refine ⟨by show 1 ≤ sizeLine; decide, fun l hl => ⟨_, rfl, l, n, _, rfl, rfl, upd_same, by omega, by omega, ?_, fun r nr => ?_⟩⟩
      · show 1 * n.toNat ≤ sizeLine
        rw [Nat.one_mul]
        exact Nat.le_of_lt (small1000 (by omega))
      have s1 : Same H' (upd (upd H' l (.lst [.int 0])) r (.lst (List.replicate n.toNat [V.int 0]).flatten)) := (same_upd hl).trans (same_upd nr)
      have nr0 : H' r = none := (same_upd (o := .lst [.int 0]) hl).free nr
      have nrD : r ≠ D := fun z => by
        rw [z, eD] at nr0
        cases nr0
      have nin : r ∉ rs := fun m => by
        obtain ⟨j, hj, ej⟩ := List.mem_iff_getElem.mp m
        rw [hrow j r (by rw [List.getElem?_eq_getElem hj, ej])] at nr0
        cases nr0
      refine ⟨_, s1 _ _ eD, ?_, same_put (H1 := H) hD (sm.trans s1), rs ++ [r], ?_, ?_, ?_, ?_, ?_, ?_⟩
      · rw [List.length_map, hlen]
        exact small1000 (by omega)
      · rw [upd_same, List.map_append]
        rfl
      · rw [List.length_append, hlen]
        rfl
      · exact List.nodup_append.mpr ⟨hnd, by simp, fun a ha b hb z => nin (by rw [List.mem_singleton.mp hb] at z; rw [← z]; exact ha)⟩
      · intro m
        rcases List.mem_append.mp m with m | m
        · exact hout m
        · exact nrD (List.mem_singleton.mp m).symm
      · intro u m
        rcases List.mem_append.mp m with m | m
        · exact hfr u m
        · rw [List.mem_singleton.mp m]
          exact sm.free nr0
      · intro j u e
        have hu : u ≠ D := fun z => by
          have m := List.mem_of_getElem? e
          rcases List.mem_append.mp m with m | m
          · exact hout (z ▸ m)
          · exact nrD ((List.mem_singleton.mp m).symm.trans z)
        rw [upd_ne hu]
        by_cases hj : j < rs.length
        · rw [List.getElem?_append_left hj] at e
          exact s1 _ _ (hrow j u e)
        · rw [List.getElem?_append_right (by omega)] at e
          obtain rfl : r = u := by
            cases hk : j - rs.length with
            | zero =>
              rw [hk] at e
              exact Option.some.inj e
            | succ k =>
              rw [hk] at e
              simp at e
          rw [upd_same, rep_gl, gl_const]
    · obtain ⟨sm, rs, eD, hlen, hnd, hout, hfr, hrow⟩ := pv
      have g0 : Grid H' D rs n n (gr []) := ⟨eD, hlen, hnd, hout, fun j r e => hrow j r e⟩
      refine ⟨_, rfl, c, rfl, ⟨vs, .inl (.inl (sm _ _ ec))⟩, for_tup (xs := vs) (fun i σ H2 => (∃ y3 y4 y5 y6, σ = [some (.int n), some (.ref c), some (.ref D), y3, y4, y5, y6]) ∧ Same H H2 ∧ Grid H2 D rs n n (gr (cs.take i))) ⟨⟨_, _, _, _, rfl⟩, sm, g0⟩ (fun i σ H2 _ p => .inl (.inl (p.2.1 _ _ ec))) (fun i x σ H2 hxi p => ?_) (fun σ H2 p => ?_)⟩
      · obtain ⟨⟨y3, y4, y5, y6, rfl⟩, s2, g2⟩ := p
        obtain ⟨u, t, rfl, hti, hu⟩ := (tc.same s2).at_ hxi
        have ho := hG.ord t (List.mem_of_getElem? hti)
        have hnew := gr_new hG hti
        refine ⟨u, _, rfl, .inl (.inl hu), rfl, _, _, rfl, _, _, rfl, _, _, rfl, rfl, ?_⟩
        obtain ⟨r1, e1, a1, h1⟩ := g2.get (a := t.1) (by omega) (by omega)
        refine ⟨_, rfl, _, rfl, _, rfl, D, _, _, _, rfl, rfl, .inl (.inl g2.at_), a1, _, rfl, r1, _, _, _, rfl, rfl, h1, gl_ix _ (by omega) (by omega), ?_⟩
        have g3 := g2.set (v := t.2.2) (by omega) (show 0 ≤ t.2.1 by omega) (by omega) e1
        have s3 : Same H (upd H2 r1 (.lst ((gl n (gr (cs.take i) t.1)).set t.2.1.toNat (.int t.2.2)))) := same_put (H1 := H) (hfr r1 (List.mem_of_getElem? e1)) s2
        obtain ⟨r2, e2, a2, h2⟩ := g3.get (a := t.2.1) (by omega) (by omega)
        refine ⟨_, rfl, _, rfl, _, rfl, D, _, _, _, rfl, rfl, .inl (.inl g3.at_), a2, _, rfl, r2, _, _, _, rfl, rfl, h2, gl_ix _ (by omega) (by omega), ?_⟩
        have g4 := g3.set (v := t.2.2) (by omega) (show 0 ≤ t.1 by omega) (by omega) e2
        refine ⟨⟨_, _, _, _, rfl⟩, same_put (H1 := H) (hfr r2 (List.mem_of_getElem? e2)) s3, ?_⟩
        rw [List.take_add_one, hti]
        refine g4.congr fun x y _ _ _ _ => ?_
        show (if x = t.2.1 ∧ y = t.1 then t.2.2 else if x = t.1 ∧ y = t.2.1 then t.2.2 else gr (cs.take i) x y) = gr (cs.take i ++ [t]) x y
        rw [gr_snoc]
        by_cases q1 : x = t.2.1 ∧ y = t.1
        · rw [if_pos q1, if_pos (by omega), q1.1, q1.2, hnew.2]
          omega
        · by_cases q2 : x = t.1 ∧ y = t.2.1
          · rw [if_neg q1, if_pos q2, if_pos (by omega), q2.1, q2.2, hnew.1]
            omega
          · rw [if_neg q1, if_neg q2, if_neg (by omega)]
            omega
      · obtain ⟨⟨y3, y4, y5, y6, rfl⟩, s2, g2⟩ := p
        rw [tc.1, List.take_length] at g2
        exact ⟨_, rfl, q H2 D rs s2 ⟨hD, hfr⟩ g2⟩
end
end Own

namespace Own
open PySem PySem.Spec PyProof.Rows L2
def rTupOf (K : PySem.W.Frag) : List V → Hp → VK → Prop := fun xs H Q => ∃ p ys, xs = [V.ref p] ∧ ((SqL K H p ys ∧ ∀ l, H l = none → Q (.ref l) (upd H l (.tup ys))) ∨ (SqT K H p ys ∧ Q (.ref p) H))
theorem cr_tupOf {X : Cx} : CallR X (.type "tuple") (rTupOf X.K) := call_tuple_of
/-- rows of zeros, being made -/
structure ZInv (Hb : Hp) (D : Addr) (m : Int) (i : Nat) (rs : List Addr) (H : Hp) : Prop where
  sm : Same Hb H
  at_ : H D = some (.lst (rs.map V.ref))
  len : rs.length = i
  nd : rs.Nodup
  out : D ∉ rs
  fr : ∀ r ∈ rs, Hb r = none
  row : ∀ (j : Nat) (r : Addr), rs[j]? = some r → H r = some (.lst (gl m fun _ => 0))
theorem ZInv.step {Hb H H1 : Hp} {D r : Addr} {m : Int} {i : Nat} {rs : List Addr} (z : ZInv Hb D m i rs H) (nD : Hb D = none) (s1 : Same H H1) (nr : H r = none) (er : H1 r = some (.lst (gl m fun _ => 0))) : ZInv Hb D m (i + 1) (rs ++ [r]) (upd H1 D (.lst (rs.map V.ref ++ [.ref r]))) := by
  have nrD : r ≠ D := fun e => by
    rw [e, z.at_] at nr
    cases nr
  have nin : r ∉ rs := fun mm => by
    obtain ⟨j, hj, ej⟩ := List.mem_iff_getElem.mp mm
    rw [z.row j r (by rw [List.getElem?_eq_getElem hj, ej])] at nr
    cases nr
  refine ⟨same_put (H1 := Hb) nD (z.sm.trans s1), ?_, ?_, ?_, ?_, ?_, ?_⟩
  · rw [upd_same, List.map_append]
    rfl
  · rw [List.length_append, z.len]
    rfl
  · exact List.nodup_append.mpr ⟨z.nd, by simp, fun a ha b hb e => nin (by rw [List.mem_singleton.mp hb] at e; rw [← e]; exact ha)⟩
  · intro mm
    rcases List.mem_append.mp mm with mm | mm
    · exact z.out mm
    · exact nrD (List.mem_singleton.mp mm).symm
  · intro u mm
    rcases List.mem_append.mp mm with mm | mm
    · exact z.fr u mm
    · rw [List.mem_singleton.mp mm]
      exact z.sm.free nr
  · intro j u e
    have hu : u ≠ D := fun e2 => by
      rcases List.mem_append.mp (List.mem_of_getElem? e) with mm | mm
      · exact z.out (by rw [← e2]; exact mm)
      · exact nrD ((List.mem_singleton.mp mm).symm.trans e2)
    rw [upd_ne hu]
    by_cases hj : j < rs.length
    · rw [List.getElem?_append_left hj] at e
      exact s1 _ _ (z.row j u e)
    · rw [List.getElem?_append_right (by omega)] at e
      obtain rfl : r = u := by
        cases hk : j - rs.length with
        | zero =>
          rw [hk] at e
          exact Option.some.inj e
        | succ k =>
          rw [hk] at e
          simp at e
      exact er
/-- a table: a tuple of tuples of ints -/
def TabAt (H : Hp) (a : Addr) (sz : Int) (f : Int → Int → Int) : Prop := ∃ vs, H a = some (.tup vs) ∧ vs.length = sz.toNat ∧ ∀ j : Nat, j < sz.toNat → ∃ r, vs[j]? = some (.ref r) ∧ H r = some (.tup (gl sz (f j)))
theorem TabAt.same {H H' : Hp} {a : Addr} {sz : Int} {f : Int → Int → Int} (s : Same H H') (h : TabAt H a sz f) : TabAt H' a sz f := by
  obtain ⟨vs, e, l, r⟩ := h
  refine ⟨vs, s _ _ e, l, fun j hj => ?_⟩
  obtain ⟨u, e1, e2⟩ := r j hj
  exact ⟨u, e1, s _ _ e2⟩
section
variable {P : Program} {w : World} {K : PySem.W.Frag} {mg : Str → Option Value} {base : Heap} {C : Addr}
def spTable : Sp := fun vs H Q _ => ∃ (n : Int) (c : Addr) (cs : List Tr), vs = [.int n, .ref c] ∧ 0 ≤ n ∧ n ≤ 1000 ∧ Trip H c cs ∧ Good n cs ∧ ∀ H' p, Same H H' → TabAt H' p (hi n 1) (tabE cs) → Q (.ref p) H'
theorem ok_table {f : Addr} {fd : FuncData} (F : Fun K "table_rows" "table_rows" s_table_rows f fd) (T : Bi mg) {f_c : Addr} {d_c : FuncData} (D_c : Df K mg "cord_grid" s_cord_grid ["pins", "cords"] f_c d_c) (G_c : FnOk P w K mg base CX0 1 f_c d_c ["pins", "cords"] spGrid)
    {f_z : Addr} {d_z : FuncData} (D_z : Df K mg "gaps" s_gaps ["pins"] f_z d_z) (G_z : FnOk P w K mg base CX0 1 f_z d_z ["pins"] spGaps) {f_s : Addr} {d_s : FuncData} (D_s : Df K mg "sums_before" s_sums_before ["row"] f_s d_s) (G_s : FnOk P w K mg base CX0 1 f_s d_s ["row"] (spSums K)) :
    FnOk P w K mg base CX0 2 f fd ["pins", "cords"] spTable := by
  refine F.ok sc_table_rows (fun vs H Q E h => ?_) (fun cdv A outer s H vs Q E hr h => ?_)
  · obtain ⟨n, c, cs, rfl, _⟩ := h
    rfl
  · obtain ⟨n, c, cs, rfl, n0, n1, hc, hG, q⟩ := h
    refine ⟨_, (pss_cons (ps_setLc (i := 2) (own := [("row", 8)]) (g := gName 8) (tt := tYes) rfl sc_table_rows.nd rfl rfl (sw_true rfl rfl rfl (by decide +kernel)) (pi_list (pe_call G_c hr (by rfl) D_c.g D_c.F.kp D_c.b .nil pass0 (pa_cons (pv 0) (pa_cons (pv 1) pa_nil)))) (blkOk_by (own := [("row", 8)]) (N := ["pins", "cords", "sums", "size", "rows", "i", "across", "j", "row", "_"]) (sc := defScope s_table_rows) (by decide +kernel)) (fun _ _ _ _ _ => (pg_name (i := 8) sc_table_rows.nd rfl (.inl rfl))) (fun _ _ _ _ _ => pts_nil) (fun _ _ _ _ _ => (show PE _ _ (tCall (spSums K) [] E0 (tCons (tVar 8) tNil)) from pe_call G_s (hr.mono (by decide)) (by rfl) D_s.g D_s.F.kp D_s.b .nil pass0 (pa_cons (pv 8) pa_nil))))
        (pss_cons (ps_set (i := 3) sc_table_rows.nd rfl (.inr rfl) (pe_call G_z hr (by rfl) D_z.g D_z.F.kp D_z.b .nil pass0 (pa_cons (pv 0) pa_nil)))
        (pss_cons (ps_setLc (i := 4) (own := [("_", 9)]) (g := gName 9) (tt := tYes) rfl sc_table_rows.nd rfl rfl (sw_true rfl rfl rfl (by decide +kernel)) (pi_range1 (by rfl) T.b_range (pa_cons (pv 3) pa_nil)) (blkOk_by (own := [("_", 9)]) (N := ["pins", "cords", "sums", "size", "rows", "i", "across", "j", "row", "_"]) (sc := defScope s_table_rows) (by decide +kernel)) (fun _ _ _ _ _ => (pg_name (i := 9) sc_table_rows.nd rfl (.inl rfl))) (fun _ _ _ _ _ => pts_nil) (fun _ _ _ _ _ => (pe_op op_rep (pe_lst (pa_cons pe_int pa_nil)) (pv 3))))
        (pss_cons (ps_for PassesOwn.never rfl (pi_range1 (by rfl) T.b_range (pa_cons (pv 3) pa_nil)) (pg_name (i := 5) sc_table_rows.nd rfl (.inl rfl))
        (pss_cons (ps_set (i := 6) sc_table_rows.nd rfl (.inl rfl) pe_int)
        (pss_one (ps_for PassesOwn.never rfl (pi_range2 (by rfl) T.b_range (pa_cons (pe_op op_add (pv 5) pe_int) (pa_cons (pv 3) pa_nil))) (pg_name (i := 7) sc_table_rows.nd rfl (.inl rfl))
        (pss_cons (ps_set (i := 6) sc_table_rows.nd rfl (.inl rfl) (pe_op op_sub (pe_op op_add (pv 6) (pe_ix (r := rIxL K) ix_list (pe_ix (r := rIxL K) ix_list (pv 2) (pv 7) (fun _ _ => rfl)) (pv 0) (fun _ _ => rfl))) (pe_op op_mul pe_int (pe_op op_sub (pe_ix (r := rIxL K) ix_list (pe_ix (r := rIxL K) ix_list (pv 2) (pv 7) (fun _ _ => rfl)) (pv 7) (fun _ _ => rfl)) (pe_ix (r := rIxL K) ix_list (pe_ix (r := rIxL K) ix_list (pv 2) (pv 7) (fun _ _ => rfl)) (pe_op op_add (pv 5) pe_int) (fun _ _ => rfl))))))
        (pss_cons (ps_asg (pv 6) (pg_sub (pe_ix (r := rIxL K) ix_list (pv 4) (pv 5) (fun _ _ => rfl)) (pv 7) set_list))
        (pss_one (ps_asg (pv 6) (pg_sub (pe_ix (r := rIxL K) ix_list (pv 4) (pv 7) (fun _ _ => rfl)) (pv 5) set_list)))))))))
        (pss_one (ps_ret (pe_callTy call_tuple_of (by rfl) T.b_tuple (by decide +kernel) (pa_cons (pe_lc (own := [("row", 8)]) (g := gName 8) (tt := tYes) rfl sc_table_rows.nd (pi_list (pv 4)) (blkOk_by (own := [("row", 8)]) (N := ["pins", "cords", "sums", "size", "rows", "i", "across", "j", "row", "_"]) (sc := defScope s_table_rows) (by decide +kernel)) (fun _ _ _ _ _ => (pg_name (i := 8) sc_table_rows.nd rfl (.inl rfl))) (fun _ _ _ _ _ => pts_nil) (fun _ _ _ _ _ => (pe_callTy (r := rTupOf K) cr_tupOf (by rfl) T.b_tuple (by decide +kernel) (pa_cons (pv 8) pa_nil)))) pa_nil)))))))), ?_⟩
    refine ⟨_, rfl, _, rfl, n, c, cs, rfl, n0, n1, hc, hG, fun H1 p0 rs0 s1 _ g1 => ⟨p0, rfl, ⟨_, .inl (.inl g1.at_)⟩, fun D hD => ?_⟩⟩
    -- sums
    refine lc_list (K := K) (a := p0) (xs := rs0.map V.ref) (fun i H2 => Same H1 H2 ∧ ∃ ss : List Addr, H2 D = some (.lst (ss.map V.ref)) ∧ ss.length = i ∧ D ∉ ss ∧ ∀ (j : Nat) (u : Addr), ss[j]? = some u → H2 u = some (.lst (gl (n + 1) fun x => pre (gr cs j) x.toNat))) ⟨same_upd hD, [], upd_same, rfl, by simp, by simp⟩ (fun i H2 _ p => .inl (.inl (p.1 _ _ g1.at_))) (fun i x H2 hxi p => ?_) (fun H2 p => ?_)
    · obtain ⟨s2, ss, eD, hlen, hout, hss⟩ := p
      obtain ⟨r, hri, rfl⟩ : ∃ r, rs0[i]? = some r ∧ x = .ref r := by
        rw [List.getElem?_map] at hxi
        cases e : rs0[i]? with
        | none => rw [e] at hxi; cases hxi
        | some r =>
          rw [e] at hxi
          exact ⟨r, rfl, (Option.some.inj hxi).symm⟩
      have hi0 : i < n.toNat := by
        rw [← g1.len]
        exact (List.getElem?_eq_some_iff.mp hri).1
      refine ⟨rfl, ?_⟩
      refine ⟨_, rfl, r, n, gr cs i, rfl, s2 _ _ (g1.row i r hri), n0, n1, fun H3 u s3 nu eu => ?_⟩
      have nuD : u ≠ D := fun z => by
        rw [z, eD] at nu
        cases nu
      refine ⟨_, s3 _ _ eD, ?_, same_put (H1 := H1) hD (s2.trans s3), ss ++ [u], ?_, ?_, ?_, ?_⟩
      · rw [List.length_map, hlen]
        exact small1000 (by omega)
      · rw [upd_same, List.map_append]
        rfl
      · rw [List.length_append, hlen]
        rfl
      · intro m
        rcases List.mem_append.mp m with m | m
        · exact hout m
        · exact nuD (List.mem_singleton.mp m).symm
      · intro j v e
        have hv : v ≠ D := fun e2 => by
          rcases List.mem_append.mp (List.mem_of_getElem? e) with m | m
          · exact hout (by rw [← e2]; exact m)
          · exact nuD ((List.mem_singleton.mp m).symm.trans e2)
        rw [upd_ne hv]
        by_cases hj : j < ss.length
        · rw [List.getElem?_append_left hj] at e
          exact s3 _ _ (hss j v e)
        · rw [List.getElem?_append_right (by omega)] at e
          have hk : j - ss.length = 0 := by
            cases hk : j - ss.length with
            | zero => rfl
            | succ k =>
              rw [hk] at e
              simp at e
          rw [hk] at e
          obtain rfl : u = v := Option.some.inj e
          have ej : j = i := by omega
          subst ej
          exact eu
    obtain ⟨s2, ss, eD, hlen, hout, hss⟩ := p
    rw [List.length_map, g1.len] at hlen
    -- size, rows
    refine ⟨_, rfl, n, rfl, ?_⟩
    have hsz := lo_hi n 1
    have hz0 : 1 ≤ hi n 1 ∧ hi n 1 ≤ 1000 ∧ (2 ≤ hi n 1 → hi n 1 = n) := by omega
    refine ⟨_, rfl, hi n 1, rfl, by omega, by omega, fun R hR => ?_⟩
    refine lc_range (lo := 0) (n := (hi n 1).toNat) (fun i H3 => ∃ rr, ZInv H2 R (hi n 1) i rr H3) ⟨[], same_upd hR, upd_same, rfl, List.nodup_nil, by simp, by simp, by simp⟩ (fun i H3 hi3 pv => ?_) (fun H3 pv => ?_)
    · obtain ⟨rr, z⟩ := pv
      refine ⟨rfl, ?_⟩
      refine ⟨by show 1 ≤ sizeLine; decide, fun l hl => ⟨_, rfl, l, hi n 1, _, rfl, rfl, upd_same, by omega, by omega, ?_, fun r nr => ?_⟩⟩
      · show 1 * (hi n 1).toNat ≤ sizeLine
        rw [Nat.one_mul]
        exact Nat.le_of_lt (small1000 (by omega))
      have sA : Same H3 (upd (upd H3 l (.lst [.int 0])) r (.lst (List.replicate (hi n 1).toNat [V.int 0]).flatten)) := (same_upd hl).trans (same_upd nr)
      refine ⟨_, sA _ _ z.at_, ?_, _, z.step hR sA ((same_upd (o := .lst [.int 0]) hl).free nr) ?_⟩
      · rw [List.length_map, z.len]
        exact small1000 (by omega)
      · rw [upd_same, rep_gl, gl_const]
    obtain ⟨rr, z⟩ := pv
    have gz : Grid H3 R rr (hi n 1) (hi n 1) (fun x y => if x ≠ y ∧ lo x y < 0 then tabE cs x y else 0) := by
      refine Grid.congr (f := fun _ _ => 0) ⟨z.at_, z.len, z.nd, z.out, fun j r e => z.row j r e⟩ fun x y x0 x1 y0 y1 => ?_
      have := lo_hi x y
      rw [if_neg (by omega)]
    generalize hsz2 : hi n 1 = sz at hz0 gz
    -- the places
    refine ⟨_, rfl, sz, rfl, by omega, by omega, for_range (lo := 0) (n := sz.toNat) (fun i σ H4 => (∃ y5 y6 y7 y8 y9, σ = [some (.int n), some (.ref c), some (.ref D), some (.int sz), some (.ref R), y5, y6, y7, y8, y9]) ∧ Same H2 H4 ∧ Grid H4 R rr sz sz (fun x y => if x ≠ y ∧ lo x y < (i : Int) then tabE cs x y else 0)) ⟨⟨none, none, none, none, none, rfl⟩, z.sm, gz⟩ (fun i σ H4 hi4 pv => ?_) (fun σ H4 pv => ?_)⟩
    · obtain ⟨⟨y5, y6, y7, y8, y9, rfl⟩, s4, g4⟩ := pv
      rw [Int.zero_add]
      refine ⟨_, rfl, _, _, rfl, rfl, _, rfl, (i : Int) + 1, sz, rfl, ⟨by omega, by omega, by omega, by omega⟩, for_range (lo := (i : Int) + 1) (n := (sz - ((i : Int) + 1)).toNat) (fun k σ H5 => (∃ y7, σ = [some (.int n), some (.ref c), some (.ref D), some (.int sz), some (.ref R), some (.int (i : Int)), some (.int (tabE cs i ((i : Int) + k))), y7, y8, y9]) ∧ Same H2 H5 ∧ Grid H5 R rr sz sz (fun x y => if x ≠ y ∧ (lo x y < (i : Int) ∨ (lo x y = (i : Int) ∧ hi x y < (i : Int) + 1 + k)) then tabE cs x y else 0)) ⟨⟨y7, ?_⟩, s4, ?_⟩ (fun k σ H5 hk pv => ?_) (fun σ H5 pv => ?_)⟩
      · rw [show ((i : Int) + ((0 : Nat) : Int)) = (i : Int) by omega, tabE_same]
        rfl
      · refine g4.congr fun x y x0 x1 y0 y1 => ?_
        have := lo_hi x y
        by_cases h : x ≠ y ∧ lo x y < (i : Int)
        · rw [if_pos h, if_pos ⟨h.1, .inl h.2⟩]
        · rw [if_neg h, if_neg (by omega)]
      · obtain ⟨⟨y7, rfl⟩, s5, g5⟩ := pv
        have hn : sz = n := hz0.2.2 (by omega)
        generalize hj : (i : Int) + 1 + (k : Int) = j
        have j0 : (i : Int) < j ∧ j < n := by omega
        have hsj : ∃ u, atI (ss.map V.ref) j = some (.ref u) ∧ H2 u = some (.lst (gl (n + 1) fun x => pre (gr cs j) x.toNat)) := by
          have hl2 : j.toNat < ss.length := by omega
          refine ⟨ss[j.toNat], at_of (j := j.toNat) (by omega) ?_, ?_⟩
          · rw [List.getElem?_map, List.getElem?_eq_getElem hl2]
            rfl
          · have := hss j.toNat _ (List.getElem?_eq_getElem hl2)
            rw [show ((j.toNat : Nat) : Int) = j by omega] at this
            exact this
        obtain ⟨u, au, hu⟩ := hsj
        have eD5 : SqL K H5 D (ss.map V.ref) := .inl (.inl (s5 _ _ eD))
        have eu5 : SqL K H5 u (gl (n + 1) fun x => pre (gr cs j) x.toNat) := .inl (.inl (s5 _ _ hu))
        refine ⟨_, rfl, _, rfl, _, rfl, D, _, j, _, rfl, rfl, eD5, au, _, rfl, u, _, n, _, rfl, rfl, eu5, gl_at _ (by omega) (by omega), _, _, rfl, rfl, ?_⟩
        refine ⟨_, rfl, _, rfl, D, _, j, _, rfl, rfl, eD5, au, _, rfl, u, _, j, _, rfl, rfl, eu5, gl_at _ (by omega) (by omega), ?_⟩
        refine ⟨_, rfl, _, rfl, D, _, j, _, rfl, rfl, eD5, au, _, rfl, _, _, rfl, rfl, u, _, _, _, rfl, rfl, eu5, gl_at _ (by omega) (by omega), _, _, rfl, rfl, _, _, rfl, rfl, .inl ⟨by decide, by decide⟩, _, _, rfl, rfl, ?_⟩
        have hval : tabE cs i ((i : Int) + k) + pre (gr cs j) n.toNat - 2 * (pre (gr cs j) j.toNat - pre (gr cs j) ((i : Int) + 1).toNat) = tabE cs i j := by
          rw [pre_gr hG, pre_gr hG, pre_gr hG, show ((n.toNat : Nat) : Int) = n by omega, show ((j.toNat : Nat) : Int) = j by omega, show ((((i : Int) + 1).toNat : Nat) : Int) = (i : Int) + 1 by omega,
            tabE_step hG (by omega) j0.1 j0.2, show (i : Int) + (k : Int) = j - 1 by omega]
        show (tSeq _ _) _ ([some (.int n), some (.ref c), some (.ref D), some (.int sz), some (.ref R), some (.int (i : Int)), some (.int (tabE cs i ((i : Int) + k) + pre (gr cs j) n.toNat - 2 * (pre (gr cs j) j.toNat - pre (gr cs j) ((i : Int) + 1).toNat))), some (.int j), y8, y9]) _
        rw [hval]
        obtain ⟨r1, e1, a1, h1⟩ := g5.get (a := (i : Int)) (by omega) (by omega)
        refine ⟨_, rfl, _, rfl, _, rfl, R, _, _, _, rfl, rfl, .inl (.inl g5.at_), a1, _, rfl, r1, _, _, _, rfl, rfl, h1, gl_ix _ (by omega) (by omega), ?_⟩
        have g6 := g5.set (v := tabE cs i j) (by omega) (show 0 ≤ j by omega) (by omega) e1
        have s6 := same_put (H1 := H2) (o := .lst ((gl sz (fun y => if (i : Int) ≠ y ∧ (lo i y < (i : Int) ∨ (lo i y = (i : Int) ∧ hi i y < (i : Int) + 1 + k)) then tabE cs i y else 0)).set j.toNat (.int (tabE cs i j)))) (z.fr r1 (List.mem_of_getElem? e1)) s5
        obtain ⟨r2, e2, a2, h2⟩ := g6.get (a := j) (by omega) (by omega)
        refine ⟨_, rfl, _, rfl, _, rfl, R, _, _, _, rfl, rfl, .inl (.inl g6.at_), a2, _, rfl, r2, _, _, _, rfl, rfl, h2, gl_ix _ (by omega) (by omega), ?_⟩
        have g7 := g6.set (v := tabE cs i j) (by omega) (show 0 ≤ (i : Int) by omega) (by omega) e2
        refine ⟨⟨some (.int j), ?_⟩, same_put (H1 := H2) (z.fr r2 (List.mem_of_getElem? e2)) s6, g7.congr fun x y x0 x1 y0 y1 => ?_⟩
        · rw [show (i : Int) + ((k + 1 : Nat) : Int) = j by omega]
        · have hxy := lo_hi x y
          by_cases q1 : x = j ∧ y = (i : Int)
          · rw [if_pos q1, if_pos (by omega), q1.1, q1.2, tabE_comm]
          · rw [if_neg q1]
            by_cases q2 : x = (i : Int) ∧ y = j
            · rw [if_pos q2, if_pos (by omega), q2.1, q2.2]
            · rw [if_neg q2]
              by_cases q3 : x ≠ y ∧ (lo x y < (i : Int) ∨ (lo x y = (i : Int) ∧ hi x y < (i : Int) + 1 + k))
              · rw [if_pos q3, if_pos (by omega)]
              · rw [if_neg q3, if_neg (by omega)]
      · obtain ⟨⟨y7, rfl⟩, s5, g5⟩ := pv
        refine ⟨⟨_, _, _, _, _, rfl⟩, s5, g5.congr fun x y x0 x1 y0 y1 => ?_⟩
        have hxy := lo_hi x y
        by_cases q3 : x ≠ y ∧ lo x y < ((i + 1 : Nat) : Int)
        · rw [if_pos q3, if_pos (by omega)]
        · rw [if_neg q3, if_neg (by omega)]
    -- the tuples
    obtain ⟨⟨y5, y6, y7, y8, y9, rfl⟩, s4, g4⟩ := pv
    have g5 : Grid H4 R rr sz sz (tabE cs) := g4.congr fun x y x0 x1 y0 y1 => by
      have hxy := lo_hi x y
      by_cases h : x = y
      · rw [if_neg (by omega), h, tabE_same]
      · rw [if_pos (by omega)]
    refine ⟨_, rfl, R, rfl, ⟨_, .inl (.inl g5.at_)⟩, fun O hO => ?_⟩
    refine lc_list (K := K) (a := R) (xs := rr.map V.ref) (fun i H5 => Same H4 H5 ∧ ∃ us : List Addr, H5 O = some (.lst (us.map V.ref)) ∧ us.length = i ∧ ∀ (j : Nat) (u : Addr), us[j]? = some u → H5 u = some (.tup (gl sz (tabE cs j)))) ⟨same_upd hO, [], upd_same, rfl, by simp⟩ (fun i H5 _ p => .inl (.inl (p.1 _ _ g5.at_))) (fun i x H5 hxi p => ?_) (fun H5 p => ?_)
    · obtain ⟨s5, us, eO, hul, hus⟩ := p
      obtain ⟨r, hri, rfl⟩ : ∃ r, rr[i]? = some r ∧ x = .ref r := by
        rw [List.getElem?_map] at hxi
        cases e : rr[i]? with
        | none => rw [e] at hxi; cases hxi
        | some r =>
          rw [e] at hxi
          exact ⟨r, rfl, (Option.some.inj hxi).symm⟩
      have hi0 : i < sz.toNat := by
        rw [← g5.len]
        exact (List.getElem?_eq_some_iff.mp hri).1
      refine ⟨rfl, ?_⟩
      refine ⟨_, rfl, r, _, rfl, .inl ⟨.inl (.inl (s5 _ _ (g5.row i r hri))), fun u nu => ?_⟩⟩
      have nuO : u ≠ O := fun z => by
        rw [z, eO] at nu
        cases nu
      refine ⟨_, same_upd nu _ _ eO, ?_, same_put (H1 := H4) hO (s5.trans (same_upd nu)), us ++ [u], ?_, ?_, ?_⟩
      · rw [List.length_map, hul]
        exact small1000 (by omega)
      · rw [upd_same, List.map_append]
        rfl
      · rw [List.length_append, hul]
        rfl
      · intro j v e
        by_cases hj : j < us.length
        · rw [List.getElem?_append_left hj] at e
          have h5 := hus j v e
          have hv : v ≠ O := fun z => by
            rw [z, eO] at h5
            cases h5
          rw [upd_ne hv]
          exact same_upd nu _ _ h5
        · rw [List.getElem?_append_right (by omega)] at e
          have hk : j - us.length = 0 := by
            cases hk : j - us.length with
            | zero => rfl
            | succ k =>
              rw [hk] at e
              simp at e
          rw [hk] at e
          obtain rfl : u = v := Option.some.inj e
          have ej : j = i := by omega
          subst ej
          rw [upd_ne nuO, upd_same]
    · obtain ⟨s5, us, eO, hul, hus⟩ := p
      rw [List.length_map, g5.len] at hul
      refine ⟨O, _, rfl, .inl ⟨.inl (.inl eO), fun a na => ?_⟩⟩
      refine q _ a ((((s1.trans s2).trans s4).trans s5).trans (same_upd na)) ⟨_, upd_same, ?_, fun j hj => ?_⟩
      · rw [List.length_map, hul, hsz2]
      · rw [hsz2] at hj
        have hj2 : j < us.length := by omega
        refine ⟨us[j], ?_, ?_⟩
        · rw [List.getElem?_map, List.getElem?_eq_getElem hj2]
          rfl
        · rw [hsz2]
          exact same_upd na _ _ (hus j _ (List.getElem?_eq_getElem hj2))
def spTab (C : Addr) : Sp := fun vs H Q _ => ∃ (p : Addr) (n : Int) (cs : List Tr), vs = [.ref p] ∧ LotAt C H p n cs ∧ 0 ≤ n ∧ n ≤ 1000 ∧ Good n cs ∧ ∀ H' u, Same H H' → TabAt H' u (hi n 1) (tabE cs) → Q (.ref u) H'
theorem ok_tab {f : Addr} {fd : FuncData} (F : Fun K "table" "Lot.table" s_Lot_table f fd) (T : Bi mg) (L : LotC K mg C) {f_t : Addr} {d_t : FuncData} (D_t : Df K mg "table_rows" s_table_rows ["pins", "cords"] f_t d_t) (G_t : FnOk P w K mg base CX0 2 f_t d_t ["pins", "cords"] spTable) : FnOk P w K mg base CX0 3 f fd ["self"] (spTab C) := by
  refine F.ok sc_Lot_table (fun vs H Q E h => ?_) (fun cdv A outer s H vs Q E hr h => ?_)
  · obtain ⟨p, n, cs, rfl, _⟩ := h
    rfl
  · obtain ⟨p, n, cs, rfl, hL, n0, n1, hG, q⟩ := h
    refine ⟨_, (pss_one (ps_ret (pe_call G_t hr (by rfl) D_t.g D_t.F.kp D_t.b .nil pass0 (pa_cons (pe_fld (pv 0) rfl) (pa_cons (pe_fld (pv 0) rfl) pa_nil))))), ?_⟩
    obtain ⟨dx, c, e, t⟩ := hL
    exact ⟨_, rfl, p, C, dx, _, _, rfl, e, L.cl, L.nP, flds_pins _ _, _, rfl, p, C, dx, _, _, rfl, e, L.cl, L.nC, flds_cords _ _, n, c, cs, rfl, n0, n1, t, hG, q⟩
end
end Own

namespace Own
open PySem PySem.Spec PyProof.Rows L2
section
variable {P : Program} {w : World} {K : PySem.W.Frag} {mg : Str → Option Value} {base : Heap} {C : Addr}
/-! ### the law's helpers: kinds, cells, digits -/
theorem ok_lwhole {f : Addr} {fd : FuncData} (F : Fun K "_law_whole" "_law_whole" s__law_whole f fd) (T : Bi mg) : FnOk P w K mg base CX0 1 f fd ["_law_value"] spWhole := by
  refine F.ok sc__law_whole (fun vs H Q E h => ?_) (fun cdv A outer s H vs Q E hr h => ?_)
  · obtain ⟨i, rfl, _⟩ := h
    rfl
  · obtain ⟨i, rfl, q⟩ := h
    refine ⟨_, (pss_one (ps_ret (pe_and (pe_callB call_isi (by rfl) T.b_isinstance (by decide +kernel) (pa_cons (pv 0) (pa_cons (pe_bltn (v := .ty "int") (by rfl) T.b_int (by decide +kernel) rfl) pa_nil))) (pe_one (pe_not (pe_callB call_isi (by rfl) T.b_isinstance (by decide +kernel) (pa_cons (pv 0) (pa_cons (pe_bltn (v := .ty "bool") (by rfl) T.b_bool (by decide +kernel) rfl) pa_nil)))))))), ?_⟩
    refine ⟨_, rfl, _, _, _, _, true, rfl, .ty "int", .base (.int i), kit_ty (by decide +kernel), true, rfl, ?_⟩
    exact ⟨_, rfl, _, _, _, _, false, rfl, .ty "bool", .base (.int i), kit_ty (by decide +kernel), false, rfl, q⟩
def spCell (K : PySem.W.Frag) : Sp := fun vs H Q _ => ∃ (l : Addr) (ns : List Int) (j : Nat), vs = [.ref l, .int (j : Int)] ∧ SqL K H l (ns.map V.int) ∧ j ≤ 100000 ∧ ns.length ≤ 1000 ∧ ∀ c : Int, Q (.int c) H
theorem ok_cell {f : Addr} {fd : FuncData} (F : Fun K "_law_cell" "_law_cell" s__law_cell f fd) (T : Bi mg) : FnOk P w K mg base CX0 1 f fd ["_law_script", "_law_k"] (spCell K) := by
  refine F.ok sc__law_cell (fun vs H Q E h => ?_) (fun cdv A outer s H vs Q E hr h => ?_)
  · obtain ⟨l, ns, j, rfl, _⟩ := h
    rfl
  · obtain ⟨l, ns, j, rfl, hs, hj, hn, q⟩ := h
    refine ⟨_, (pss_cons (ps_if (pt_cmpR op_lt (pv 1) (pe_callB call_len_seq (by rfl) T.b_len PySem.boot_len (pa_cons (pv 0) pa_nil)) (nomark _)) (pss_one (ps_ret (pe_ix (r := rIxL K) ix_list (pv 0) (pv 1) (fun _ _ => rfl)))) pss_nil)
        (pss_cons (ps_set (i := 2) sc__law_cell.nd rfl (.inl rfl) pe_int)
        (pss_cons (ps_for PassesOwn.never rfl (pi_list (pv 0)) (pg_name (i := 3) sc__law_cell.nd rfl (.inl rfl))
        (pss_one (ps_set (i := 2) sc__law_cell.nd rfl (.inl rfl) (pe_op op_mod (pe_callTy call_int1 (by rfl) T.b_int (by decide +kernel) (pa_cons (pe_op op_add (pe_op op_mul (pv 2) pe_int) (pe_op op_mod (pe_callTy call_int1 (by rfl) T.b_int (by decide +kernel) (pa_cons (pv 3) pa_nil)) pe_int)) pa_nil)) pe_int))))
        (pss_one (ps_ret (pe_op op_mod (pe_callTy call_int1 (by rfl) T.b_int (by decide +kernel) (pa_cons (pe_op op_mul (pe_op op_mul (pe_op op_add (pv 2) pe_int) (pe_op op_add (pv 1) pe_int)) pe_int) pa_nil)) pe_int)))))), ?_⟩
    refine ⟨_, rfl, _, rfl, l, _, rfl, .inl hs, _, _, rfl, rfl, _, rfl, ite2 (fun e => ?_) (fun e => ?_)⟩
    · have e1 : (j : Int) < ((ns.map V.int).length : Int) := of_decide_eq_true e
      rw [List.length_map] at e1
      have hj2 : j < ns.length := by omega
      have g : (ns.map V.int)[j]? = some (.int ns[j]) := by
        rw [List.getElem?_map, List.getElem?_eq_getElem hj2]
        rfl
      exact ⟨_, rfl, _, rfl, _, _, _, _, rfl, rfl, hs, atI_nat g, q _⟩
    · refine ⟨_, rfl, l, rfl, ⟨_, hs⟩, for_list (xs := ns.map V.int) (fun i σ H' => (∃ (z : Int) (y : Option V), 0 ≤ z ∧ z < 1000003 ∧ σ = [some (.ref l), some (.int (j : Int)), some (.int z), y]) ∧ H' = H) ⟨⟨17, none, by decide, by decide, rfl⟩, rfl⟩ (fun i σ H' _ p => by rw [p.2]; exact hs) (fun i x σ H' hx p => ?_) (fun σ H' p => ?_)⟩
      · obtain ⟨⟨z, y, z0, z1, rfl⟩, rfl⟩ := p
        obtain ⟨c, rfl⟩ : ∃ c, x = .int c := by
          rw [List.getElem?_map] at hx
          cases e2 : ns[i]? with
          | none => rw [e2] at hx; cases hx
          | some c =>
            rw [e2] at hx
            exact ⟨c, (Option.some.inj hx).symm⟩
        refine ⟨_, rfl, _, _, rfl, rfl, .inl ⟨by omega, by omega⟩, _, rfl, .inl ⟨_, rfl, _, _, rfl, rfl, by show (0 : Int) < 1000003; decide, _, _, rfl, rfl, .inl ⟨_, rfl, _, _, rfl, rfl, by show (0 : Int) < 1000003; decide, ?_⟩⟩⟩
        exact ⟨⟨_, _, Int.emod_nonneg _ (by decide), Int.emod_lt_of_pos _ (by decide), rfl⟩, rfl⟩
      · obtain ⟨⟨z, y, z0, z1, rfl⟩, rfl⟩ := p
        have hp : (z + 7) * ((j : Int) + 3) < 2 ^ 64 ∧ -(2 ^ 64) < (z + 7) * ((j : Int) + 3) := by
          have a1 : 0 ≤ z + 7 := by omega
          have a2 : z + 7 ≤ 1000010 := by omega
          have b1 : 0 ≤ (j : Int) + 3 := by omega
          have b2 : (j : Int) + 3 ≤ 100003 := by omega
          have c1 : (z + 7) * ((j : Int) + 3) ≤ 1000010 * 100003 := Int.mul_le_mul a2 b2 b1 (by decide)
          have c2 : 0 ≤ (z + 7) * ((j : Int) + 3) := Int.mul_nonneg a1 b1
          omega
        exact ⟨_, rfl, _, _, rfl, rfl, _, rfl, _, _, rfl, rfl, _, _, rfl, rfl, .inl ⟨by omega, by omega⟩, _, _, rfl, rfl, .inl ⟨hp.2, hp.1⟩, .inl ⟨_, rfl, _, _, rfl, rfl, by show (0 : Int) < 2147483647; decide, q _⟩⟩
/-- each digit lies below its size -/
def Digs (ds szs : List Int) : Prop := ds.length = szs.length ∧ ∀ (i : Nat) (d s : Int), ds[i]? = some d → szs[i]? = some s → 0 ≤ d ∧ d < s
theorem Digs.snoc {ds szs : List Int} {i : Nat} {d s : Int} (h : Digs ds (szs.take i)) (e : szs[i]? = some s) (h0 : 0 ≤ d) (h1 : d < s) : Digs (ds ++ [d]) (szs.take (i + 1)) := by
  have hi : i < szs.length := (List.getElem?_eq_some_iff.mp e).1
  have hl : ds.length = i := by
    rw [h.1, List.length_take]
    omega
  rw [List.take_add_one, e]
  refine ⟨by rw [List.length_append, List.length_append, h.1]; rfl, fun j x y hx hy => ?_⟩
  by_cases hj : j < i
  · rw [List.getElem?_append_left (by omega)] at hx
    rw [List.getElem?_append_left (by rw [List.length_take]; omega)] at hy
    exact h.2 j x y hx hy
  · rw [List.getElem?_append_right (by omega)] at hx
    rw [List.getElem?_append_right (by rw [List.length_take]; omega), List.length_take] at hy
    have hk : j - ds.length = 0 := by
      cases hk : j - ds.length with
      | zero => rfl
      | succ k =>
        rw [hk] at hx
        simp at hx
    rw [hk] at hx
    rw [show j - min i szs.length = 0 by omega] at hy
    obtain rfl : d = x := Option.some.inj hx
    obtain rfl : s = y := Option.some.inj hy
    exact ⟨h0, h1⟩
def spDigs (K : PySem.W.Frag) : Sp := fun vs H Q _ => ∃ (c : Int) (b : Addr) (szs : List Int), vs = [.int c, .ref b] ∧ SqL K H b (szs.map V.int) ∧ szs.length ≤ 1000 ∧ (∀ s ∈ szs, 0 < s ∧ s < 1073741824) ∧ ∀ H' p ds, Same H H' → H p = none → H' p = some (.lst (ds.map V.int)) → Digs ds szs → Q (.ref p) H'
theorem int_at {ns : List Int} {i : Nat} {x : V} (h : (ns.map V.int)[i]? = some x) : ∃ c, x = .int c ∧ ns[i]? = some c := by
  rw [List.getElem?_map] at h
  cases e : ns[i]? with
  | none => rw [e] at h; cases h
  | some c =>
    rw [e] at h
    exact ⟨c, (Option.some.inj h).symm, rfl⟩
theorem ok_digits {f : Addr} {fd : FuncData} (F : Fun K "_law_digits" "_law_digits" s__law_digits f fd) (T : Bi mg) : FnOk P w K mg base CX0 1 f fd ["_law_cell_here", "_law_sizes"] (spDigs K) := by
  refine F.ok sc__law_digits (fun vs H Q E h => ?_) (fun cdv A outer s H vs Q E hr h => ?_)
  · obtain ⟨c, b, szs, rfl, _⟩ := h
    rfl
  · obtain ⟨c, b, szs, rfl, hb, hl, hsz, q⟩ := h
    refine ⟨_, (pss_cons (ps_set (i := 2) sc__law_digits.nd rfl (.inl rfl) (pe_lst pa_nil))
        (pss_cons (ps_set (i := 3) sc__law_digits.nd rfl (.inl rfl) (pe_callTy call_int1 (by rfl) T.b_int (by decide +kernel) (pa_cons (pv 0) pa_nil)))
        (pss_cons (ps_if (pt_cmpR op_ge (pv 3) (pe_op op_pow pe_int pe_int) (nomark _)) (pss_cons (ps_set (i := 3) sc__law_digits.nd rfl (.inl rfl) (pe_op op_sub (pv 3) (pe_op op_pow pe_int pe_int)))
        (pss_cons (ps_for PassesOwn.never rfl (pi_list (pv 1)) (pg_name (i := 6) sc__law_digits.nd rfl (.inl rfl))
        (pss_cons (ps_expr (pe_bm PySem.F.plainAttrs_list PySem.F.slot_list_append PySem.F.type_list_append mt_append (pv 2) (pa_cons (pe_op op_modN (pe_callTy call_int1 (by rfl) T.b_int (by decide +kernel) (pa_cons (pv 3) pa_nil)) (pv 6)) pa_nil)))
        (pss_one (ps_set (i := 3) sc__law_digits.nd rfl (.inl rfl) (pe_op op_fdivN (pe_callTy call_int1 (by rfl) T.b_int (by decide +kernel) (pa_cons (pv 3) pa_nil)) (pv 6))))))
        (pss_one (ps_ret (pv 2))))) pss_nil)
        (pss_cons (ps_set (i := 4) sc__law_digits.nd rfl (.inl rfl) (pe_op op_mod (pe_callTy call_int1 (by rfl) T.b_int (by decide +kernel) (pa_cons (pv 3) pa_nil)) pe_int))
        (pss_cons (ps_for PassesOwn.never rfl (pi_range1 (by rfl) T.b_range (pa_cons (pe_callB call_len_seq (by rfl) T.b_len PySem.boot_len (pa_cons (pv 1) pa_nil)) pa_nil)) (pg_name (i := 5) sc__law_digits.nd rfl (.inl rfl))
        (pss_cons (ps_set (i := 4) sc__law_digits.nd rfl (.inl rfl) (pe_op op_mod (pe_callTy call_int1 (by rfl) T.b_int (by decide +kernel) (pa_cons (pe_op op_add (pe_op op_add (pe_op op_mul (pv 4) pe_int) (pe_op op_mul pe_int (pv 5))) pe_int) pa_nil)) pe_int))
        (pss_cons (ps_set (i := 7) sc__law_digits.nd rfl (.inl rfl) (pe_op op_mod (pe_callTy call_int1 (by rfl) T.b_int (by decide +kernel) (pa_cons (pe_op op_mul (pv 4) (pe_op op_add (pe_op op_fdiv (pv 4) pe_int) pe_int)) pa_nil)) pe_int))
        (pss_one (ps_expr (pe_bm PySem.F.plainAttrs_list PySem.F.slot_list_append PySem.F.type_list_append mt_append (pv 2) (pa_cons (pe_op op_modN (pe_op op_fdiv (pv 7) pe_int) (pe_ix (r := rIxL K) ix_list (pv 1) (pv 5) (fun _ _ => rfl))) pa_nil)))))))
        (pss_one (ps_ret (pv 2)))))))), ?_⟩
    refine ⟨Nat.zero_le _, fun p np => ?_⟩
    have sp : Same H (upd H p (.lst [])) := same_upd np
    refine ⟨_, rfl, .inl ⟨_, rfl, ?_⟩⟩
    refine ⟨_, rfl, _, _, rfl, rfl, ⟨by decide, by decide, by decide⟩, _, _, rfl, rfl, _, rfl, ite2 (fun e => ?_) (fun e => ?_)⟩
    · refine ⟨_, rfl, _, _, rfl, rfl, ⟨by decide, by decide, by decide⟩, _, _, rfl, rfl, ?_⟩
      refine ⟨_, rfl, b, rfl, ⟨_, sp.seq hb⟩, for_list (xs := szs.map V.int) (fun i σ H' => (∃ (z : Int) (ds : List Int) (y4 y5 y6 y7 : Option V), σ = [some (.int c), some (.ref b), some (.ref p), some (.int z), y4, y5, y6, y7] ∧ H' = upd H p (.lst (ds.map V.int)) ∧ Digs ds (szs.take i))) ⟨_, [], _, _, _, _, rfl, rfl, rfl, fun j d s h => by simp at h⟩ (fun i σ H' _ p => by obtain ⟨_, _, _, _, _, _, _, rfl, _⟩ := p; exact (same_upd np).seq hb) (fun i x σ H' hx pv => ?_) (fun σ H' pv => ?_)⟩
      · obtain ⟨z, ds, y4, y5, y6, y7, rfl, rfl, dg⟩ := pv
        obtain ⟨sz, rfl, hsi⟩ := int_at hx
        have hs := hsz sz (List.mem_of_getElem? hsi)
        have hi : i < szs.length := (List.getElem?_eq_some_iff.mp hsi).1
        refine ⟨_, rfl, .inl ⟨rfl, _, .inl (.inl upd_same)⟩, _, rfl, .inl ⟨_, rfl, _, rfl, _, _, rfl, rfl, by omega, p, _, _, rfl, rfl, upd_same, ?_, ?_⟩⟩
        · rw [List.length_map, dg.1, List.length_take]
          exact Nat.lt_of_le_of_lt (Nat.min_le_right _ _) (small1000 hl)
        refine ⟨_, rfl, .inl ⟨_, rfl, _, rfl, _, _, rfl, rfl, ⟨by omega, by omega⟩, ?_⟩⟩
        have hm := fmod_in z hs.1
        refine ⟨_, ds ++ [z.fmod sz], _, _, _, _, rfl, ?_, dg.snoc hsi hm.1 hm.2⟩
        rw [upd_upd, List.map_append]
        rfl
      · obtain ⟨z, ds, y4, y5, y6, y7, rfl, rfl, dg⟩ := pv
        rw [List.length_map, List.take_length] at dg
        exact ⟨_, rfl, q _ p ds (same_upd np) np upd_same dg⟩
    · refine ⟨_, rfl, .inl ⟨_, rfl, _, _, rfl, rfl, by show (0 : Int) < 2147483629; decide, ?_⟩⟩
      refine ⟨_, rfl, b, _, rfl, .inl (sp.seq hb), _, rfl, by omega, by rw [List.length_map]; omega, ?_⟩
      rw [show ((szs.map V.int).length : Int).toNat = szs.length by rw [List.length_map]; omega]
      refine for_range (lo := 0) (n := szs.length) (fun i σ H' => (∃ (z : Int) (ds : List Int) (y3 y4 y6 y7 : Option V), 0 ≤ z ∧ z < 2147483647 ∧ σ = [some (.int c), some (.ref b), some (.ref p), y3, some (.int z), y4, y6, y7] ∧ H' = upd H p (.lst (ds.map V.int)) ∧ Digs ds (szs.take i))) ⟨_, [], _, _, _, _, Int.emod_nonneg _ (by decide), Int.lt_of_lt_of_le (Int.emod_lt_of_pos _ (by decide)) (by decide), rfl, rfl, rfl, fun j d s h => by simp at h⟩ (fun i σ H' hi pv => ?_) (fun σ H' pv => ?_)
      · obtain ⟨z, ds, y3, y4, y6, y7, z0, z1, rfl, rfl, dg⟩ := pv
        have hsi : szs[i]? = some szs[i] := List.getElem?_eq_getElem hi
        have hs := hsz szs[i] (List.mem_of_getElem? hsi)
        generalize szs[i] = sz at hsi hs
        refine ⟨_, rfl, _, _, rfl, rfl, .inl ⟨by omega, by omega⟩, _, rfl, _, _, rfl, rfl, .inl ⟨by decide, by decide⟩, _, _, rfl, rfl, _, _, rfl, rfl, .inl ⟨_, rfl, _, _, rfl, rfl, by show (0 : Int) < 2147483647; decide, ?_⟩⟩
        generalize hz : (z * 48271 + 974711 * (0 + (i : Int)) + 12345) % 2147483647 = z2
        have z20 : 0 ≤ z2 := by rw [← hz]; exact Int.emod_nonneg _ (by decide)
        have z21 : z2 < 2147483647 := by rw [← hz]; exact Int.emod_lt_of_pos _ (by decide)
        refine ⟨_, rfl, _, rfl, _, _, rfl, rfl, ⟨by decide, by decide⟩, _, _, rfl, rfl, _, _, rfl, rfl, .inl ⟨?_, ?_⟩, .inl ⟨_, rfl, _, _, rfl, rfl, by show (0 : Int) < 2147483629; decide, ?_⟩⟩
        · show -(2 ^ 64) < (z * 48271 + 974711 * (0 + (i : Int)) + 12345) % 2147483647
          rw [hz]
          omega
        · show (z * 48271 + 974711 * (0 + (i : Int)) + 12345) % 2147483647 < 2 ^ 64
          rw [hz]
          omega
        refine ⟨_, rfl, .inl ⟨rfl, _, .inl (.inl upd_same)⟩, _, rfl, _, _, rfl, rfl, ⟨by decide, by decide⟩, _, rfl, _, rfl, b, _, _, _, rfl, rfl, (same_upd np).seq hb, at_of (j := i) (by omega) (by rw [List.getElem?_map, hsi]; rfl), _, _, rfl, rfl, by omega, p, _, _, rfl, rfl, upd_same, ?_, ?_⟩
        · rw [List.length_map, dg.1, List.length_take]
          exact Nat.lt_of_le_of_lt (Nat.min_le_right _ _) (small1000 hl)
        have hm := fun x : Int => fmod_in x hs.1
        refine ⟨_, ds ++ [((((z * 48271 + 974711 * (0 + (i : Int)) + 12345) % 2147483647) * (((z * 48271 + 974711 * (0 + (i : Int)) + 12345) % 2147483647) / 65537 + 3)) % 2147483629 / 19).fmod sz], _, _, _, _, ?_, ?_, rfl, ?_, dg.snoc hsi (hm _).1 (hm _).2⟩
        · exact Int.emod_nonneg _ (by decide)
        · exact Int.emod_lt_of_pos _ (by decide)
        · rw [upd_upd, List.map_append]
          rfl
      · obtain ⟨z, ds, y3, y4, y6, y7, z0, z1, rfl, rfl, dg⟩ := pv
        rw [List.take_length] at dg
        exact ⟨_, rfl, q _ p ds (same_upd np) np upd_same dg⟩
end
end Own

namespace Own
open PySem PySem.Spec PyProof.Rows L2
/-- an item of a list or of a tuple -/
def rIxB (K : PySem.W.Frag) : R2 := fun x y H Q => ∃ p xs i v, x = .ref p ∧ y = .int i ∧ SqB K H p xs ∧ atI xs i = some v ∧ Q v H
theorem ix_seqB {X : Cx} : IxR X (rIxB X.K) := by
  intro value slice pins s σ H x y v u Q I rx ry h hs
  obtain ⟨p, xs, i, z, rfl, rfl, hB, ha, q⟩ := h
  rcases hB with hB | hB
  · exact ix_list value slice pins s σ H _ _ v u Q I rx ry ⟨p, xs, i, z, rfl, rfl, hB, ha, q⟩ hs
  · exact ix_tup value slice pins s σ H _ _ v u Q I rx ry ⟨p, xs, i, z, rfl, rfl, hB, ha, q⟩ hs
def DOk (kvs : List (Key × V)) : Prop := ∀ p ∈ kvs, valV kvs p.1 = some p.2 ∧ flatB p.2 = true
/-- the same data, nested at most so deep: ints, truth values, None, tuples and lists -/
def EqV : Nat → Hp → V → V → Prop
  | 0, H, x, y => (∃ i : Int, x = .int i ∧ y = .int i) ∨ (∃ b : Bool, x = .bl b ∧ y = .bl b) ∨ (x = .non ∧ y = .non) ∨ (∃ z : Str, x = .str z ∧ y = .str z) ∨ ∃ (p : Addr) (kvs : List (Key × V)), x = .ref p ∧ y = .ref p ∧ H p = some (.dK kvs) ∧ DOk kvs
  | d + 1, H, x, y => EqV d H x y ∨ ∃ (a b : Addr) (vs us : List V), x = .ref a ∧ y = .ref b ∧ ((H a = some (.tup vs) ∧ H b = some (.tup us)) ∨ (H a = some (.lst vs) ∧ H b = some (.lst us))) ∧ vs.length = us.length ∧ us.length ≤ 1000 ∧ ∀ (i : Nat) (x y : V), vs[i]? = some x → us[i]? = some y → EqV d H x y
theorem EqV.up {d : Nat} {H : Hp} {x y : V} (h : EqV d H x y) : EqV (d + 1) H x y := .inl h
theorem EqV.le {d e : Nat} {H : Hp} {x y : V} (h : EqV d H x y) (l : d ≤ e) : EqV e H x y := by
  induction l with
  | refl => exact h
  | step _ ih => exact .inl ih
theorem EqV.int {d : Nat} {H : Hp} (i : Int) : EqV d H (.int i) (.int i) := EqV.le (d := 0) (.inl ⟨i, rfl, rfl⟩) (Nat.zero_le _)
theorem EqV.bl {d : Nat} {H : Hp} (b : Bool) : EqV d H (.bl b) (.bl b) := EqV.le (d := 0) (.inr (.inl ⟨b, rfl, rfl⟩)) (Nat.zero_le _)
theorem EqV.non {d : Nat} {H : Hp} : EqV d H .non .non := EqV.le (d := 0) (.inr (.inr (.inl ⟨rfl, rfl⟩))) (Nat.zero_le _)
theorem EqV.str {d : Nat} {H : Hp} (z : Str) : EqV d H (.str z) (.str z) := EqV.le (d := 0) (.inr (.inr (.inr (.inl ⟨z, rfl, rfl⟩)))) (Nat.zero_le _)
theorem EqV.cases' {d : Nat} {H : Hp} {x y : V} (h : EqV d H x y) : EqV 0 H x y ∨ ∃ (e : Nat) (a b : Addr) (vs us : List V), e + 1 ≤ d ∧ x = .ref a ∧ y = .ref b ∧ ((H a = some (.tup vs) ∧ H b = some (.tup us)) ∨ (H a = some (.lst vs) ∧ H b = some (.lst us))) ∧ vs.length = us.length ∧ us.length ≤ 1000 ∧ ∀ (i : Nat) (x y : V), vs[i]? = some x → us[i]? = some y → EqV e H x y := by
  induction d with
  | zero => exact .inl h
  | succ d ih =>
    rcases h with h | ⟨a, b, vs, us, h⟩
    · rcases ih h with h | ⟨e, a, b, vs, us, he, h⟩
      · exact .inl h
      · exact .inr ⟨e, a, b, vs, us, Nat.le_succ_of_le he, h⟩
    · exact .inr ⟨d, a, b, vs, us, Nat.le_refl _, h⟩
/-- tuples of ints -/
theorem EqV.ints {H : Hp} {a b : Addr} {ns : List Int} (ha : H a = some (.tup (ns.map V.int))) (hb : H b = some (.tup (ns.map V.int))) (hl : ns.length ≤ 1000) : EqV 1 H (.ref a) (.ref b) := by
  refine .inr ⟨a, b, _, _, rfl, rfl, .inl ⟨ha, hb⟩, rfl, by rw [List.length_map]; exact hl, fun i x y hx hy => ?_⟩
  rw [hx] at hy
  obtain rfl : x = y := Option.some.inj hy
  rw [List.getElem?_map] at hx
  cases e : ns[i]? with
  | none => rw [e] at hx; cases hx
  | some n =>
    rw [e] at hx
    cases hx
    exact EqV.int n
theorem EqV.tr {H : Hp} {a b : Addr} {t : Tr} (ha : H a = some (.tup (tv t))) (hb : H b = some (.tup (tv t))) : EqV 1 H (.ref a) (.ref b) := EqV.ints (ns := [t.1, t.2.1, t.2.2]) ha hb (by show 3 ≤ 1000; decide)
theorem EqV.trip {H : Hp} {a b : Addr} {l : List Tr} (ha : Trip H a l) (hb : Trip H b l) (hl : l.length ≤ 1000) : EqV 2 H (.ref a) (.ref b) := by
  obtain ⟨vs, e1, t1⟩ := ha
  obtain ⟨us, e2, t2⟩ := hb
  refine .inr ⟨a, b, vs, us, rfl, rfl, .inl ⟨e1, e2⟩, by rw [t1.1, t2.1], by rw [t2.1]; exact hl, fun i x y hx hy => ?_⟩
  obtain ⟨p, t, rfl, h1, h2⟩ := t1.at_ hx
  obtain ⟨q, u, rfl, h3, h4⟩ := t2.at_ hy
  rw [h1] at h3
  obtain rfl : t = u := Option.some.inj h3
  exact EqV.tr h2 h4
section
variable {P : Program} {w : World} {K : PySem.W.Frag} {mg : Str → Option Value} {base : Heap} {C : Addr}
def spSame (d : Nat) : Sp := fun vs H Q _ => ∃ x y : V, vs = [x, y] ∧ EqV d H x y ∧ Q (.bl true) H
def spNo : Sp := fun _ _ _ _ => False
theorem fn_no {k : Nat} {f : Addr} {fd : FuncData} {ps : List Str} : FnOk P w K mg base CX0 k f fd ps spNo := ⟨fun _ _ _ _ h => h.elim, fun _ _ _ _ _ _ _ _ _ _ _ _ _ h => h.elim⟩
/-- its body, with any promise for the call within -/
theorem same_body {f : Addr} {fd : FuncData} {k : Nat} {sp : Sp} {d : Nat} (D_s : Df K mg "_law_same" s__law_same ["_law_value", "_law_due"] f fd) (T : Bi mg) (T_di : mg "dict" = none) {f_w : Addr} {d_w : FuncData} (D_w : Df K mg "_law_whole" s__law_whole ["_law_value"] f_w d_w) (G_w : FnOk P w K mg base CX0 1 f_w d_w ["_law_value"] spWhole)
    (G_s : FnOk P w K mg base CX0 (k + 1) f fd ["_law_value", "_law_due"] sp) (hsp : ∀ e x y H Q, e + 1 ≤ d → EqV e H x y → Q (.bl true) H → sp [x, y] H Q E0) : FnOk P w K mg base CX0 (k + 2) f fd ["_law_value", "_law_due"] (spSame d) := by
  refine D_s.F.ok sc__law_same (fun vs H Q E h => ?_) (fun cdv A outer s H vs Q E hr h => ?_)
  · obtain ⟨x, y, rfl, _⟩ := h
    rfl
  · obtain ⟨x, y, rfl, hxy, q⟩ := h
    have hu1 := hr.units0
    refine ⟨_, (pss_cons (ps_if (pt_cmpR op_isN (pv 1) pe_non (nomark _)) (pss_one (ps_ret (pe_cmpR op_isN (pv 0) pe_non (nomark _)))) pss_nil)
        (pss_cons (ps_if (pt_val (pe_callB call_isi (by rfl) T.b_isinstance (by decide +kernel) (pa_cons (pv 1) (pa_cons (pe_bltn (v := .ty "bool") (by rfl) T.b_bool (by decide +kernel) rfl) pa_nil)))) (pss_one (ps_ret (pe_and (pe_callB call_isi (by rfl) T.b_isinstance (by decide +kernel) (pa_cons (pv 0) (pa_cons (pe_bltn (v := .ty "bool") (by rfl) T.b_bool (by decide +kernel) rfl) pa_nil))) (pe_one (pe_cmpR op_eq (pv 0) (pv 1) (nomark _)))))) pss_nil)
        (pss_cons (ps_if (pt_val (pe_callB call_isi (by rfl) T.b_isinstance (by decide +kernel) (pa_cons (pv 1) (pa_cons (pe_bltn (v := .ty "int") (by rfl) T.b_int (by decide +kernel) rfl) pa_nil)))) (pss_one (ps_ret (pe_and (pe_call G_w (hr.mono (by omega)) (by rfl) D_w.g D_w.F.kp D_w.b .nil pass0 (pa_cons (pv 0) pa_nil)) (pe_one (pe_cmpR op_eq (pv 0) (pv 1) (nomark _)))))) pss_nil)
        (pss_cons (ps_if (pt_val (pe_callB call_isi (by rfl) T.b_isinstance (by decide +kernel) (pa_cons (pv 1) (pa_cons (pe_bltn (v := .ty "str") (by rfl) T.b_str (by decide +kernel) rfl) pa_nil)))) (pss_one (ps_ret (pe_and (pe_callB call_isi (by rfl) T.b_isinstance (by decide +kernel) (pa_cons (pv 0) (pa_cons (pe_bltn (v := .ty "str") (by rfl) T.b_str (by decide +kernel) rfl) pa_nil))) (pe_one (pe_cmpR op_eq (pv 0) (pv 1) (nomark _)))))) pss_nil)
        (pss_cons (ps_if (pt_val (pe_callB call_isi (by rfl) T.b_isinstance (by decide +kernel) (pa_cons (pv 1) (pa_cons (pe_bltn (v := .ty "dict") (by rfl) T_di (by decide +kernel) rfl) pa_nil)))) (pss_one (ps_ret (pe_and (pe_callB call_isi (by rfl) T.b_isinstance (by decide +kernel) (pa_cons (pv 0) (pa_cons (pe_bltn (v := .ty "dict") (by rfl) T_di (by decide +kernel) rfl) pa_nil))) (pe_one (pe_cmpR (op_eq_dictA hu1) (pv 0) (pv 1) (nomark _)))))) pss_nil)
        (pss_cons (ps_if (PW.pt (pw_and (pt_val (pe_callB call_isi (by rfl) T.b_isinstance (by decide +kernel) (pa_cons (pv 1) (pa_cons (pe_bltn (v := .ty "list") (by rfl) T.b_list (by decide +kernel) rfl) pa_nil)))) (pw_and1 (pt_not (pt_val (pe_callB call_isi (by rfl) T.b_isinstance (by decide +kernel) (pa_cons (pv 0) (pa_cons (pe_bltn (v := .ty "list") (by rfl) T.b_list (by decide +kernel) rfl) pa_nil)))))))) (pss_one (ps_ret pe_bl)) pss_nil)
        (pss_cons (ps_if (PW.pt (pw_and (pt_val (pe_callB call_isi (by rfl) T.b_isinstance (by decide +kernel) (pa_cons (pv 1) (pa_cons (pe_bltn (v := .ty "tuple") (by rfl) T.b_tuple (by decide +kernel) rfl) pa_nil)))) (pw_and1 (pt_not (pt_val (pe_callB call_isi (by rfl) T.b_isinstance (by decide +kernel) (pa_cons (pv 0) (pa_cons (pe_bltn (v := .ty "tuple") (by rfl) T.b_tuple (by decide +kernel) rfl) pa_nil)))))))) (pss_one (ps_ret pe_bl)) pss_nil)
        (pss_cons (ps_if (pt_cmpR op_ne (pe_callB call_len_seq (by rfl) T.b_len PySem.boot_len (pa_cons (pv 0) pa_nil)) (pe_callB call_len_seq (by rfl) T.b_len PySem.boot_len (pa_cons (pv 1) pa_nil)) (nomark _)) (pss_one (ps_ret pe_bl)) pss_nil)
        (pss_cons (ps_for PassesOwn.never rfl (pi_range1 (by rfl) T.b_range (pa_cons (pe_callB call_len_seq (by rfl) T.b_len PySem.boot_len (pa_cons (pv 1) pa_nil)) pa_nil)) (pg_name (i := 2) sc__law_same.nd rfl (.inl rfl))
        (pss_one (ps_if (pt_not (pt_val (pe_call G_s hr (by rfl) D_s.g D_s.F.kp D_s.b .nil pass0 (pa_cons (pe_ix (r := rIxB K) ix_seqB (pv 0) (pv 2) (fun _ _ => rfl)) (pa_cons (pe_ix (r := rIxB K) ix_seqB (pv 1) (pv 2) (fun _ _ => rfl)) pa_nil))))) (pss_one (ps_ret pe_bl)) pss_nil)))
        (pss_one (ps_ret pe_bl))))))))))), ?_⟩
    rcases hxy.cases' with (⟨i, rfl, rfl⟩ | ⟨b, rfl, rfl⟩ | ⟨rfl, rfl⟩ | ⟨z, rfl, rfl⟩ | ⟨p_, kvs, rfl, rfl, hd, dk⟩) | ⟨e, a, b, vs, us, hle, rfl, rfl, hab, hlen, hl, hel⟩
    · refine ⟨_, rfl, rfl, _, rfl, ?_⟩
      refine ⟨_, rfl, _, _, _, _, false, rfl, .ty "bool", .base (.int i), kit_ty (by decide +kernel), false, rfl, ?_⟩
      refine ⟨_, rfl, _, _, _, _, true, rfl, .ty "int", .base (.int i), kit_ty (by decide +kernel), true, rfl, ?_⟩
      refine ⟨_, rfl, i, rfl, true, rfl, ?_⟩
      refine ⟨_, rfl, _, rfl, rfl, ?_⟩
      rw [decide_eq_true rfl]
      exact q
    · refine ⟨_, rfl, rfl, _, rfl, ?_⟩
      refine ⟨_, rfl, _, _, _, _, true, rfl, .ty "bool", .base (.bl b), kit_ty (by decide +kernel), true, rfl, ?_⟩
      refine ⟨_, rfl, _, _, _, _, true, rfl, .ty "bool", .base (.bl b), kit_ty (by decide +kernel), true, rfl, ?_⟩
      refine ⟨_, rfl, _, rfl, rfl, ?_⟩
      rw [decide_eq_true rfl]
      exact q
    · refine ⟨_, rfl, rfl, _, rfl, ?_⟩
      exact ⟨_, rfl, rfl, q⟩
    · refine ⟨_, rfl, rfl, _, rfl, ?_⟩
      refine ⟨_, rfl, _, _, _, _, false, rfl, .ty "bool", .base (.str z), kit_ty (by decide +kernel), false, rfl, ?_⟩
      refine ⟨_, rfl, _, _, _, _, false, rfl, .ty "int", .base (.str z), kit_ty (by decide +kernel), false, rfl, ?_⟩
      refine ⟨_, rfl, _, _, _, _, true, rfl, .ty "str", .base (.str z), kit_ty (by decide +kernel), true, rfl, ?_⟩
      refine ⟨_, rfl, _, _, _, _, true, rfl, .ty "str", .base (.str z), kit_ty (by decide +kernel), true, rfl, ?_⟩
      refine ⟨_, rfl, _, rfl, rfl, ?_⟩
      rw [decide_eq_true rfl]
      exact q
    · have tB : TyX K H (.ref p_) (.type "dict") := .base (.dK hd)
      refine ⟨_, rfl, rfl, _, rfl, ?_⟩
      refine ⟨_, rfl, _, _, _, _, false, rfl, .ty "bool", tB, kit_ty (by decide +kernel), false, rfl, ?_⟩
      refine ⟨_, rfl, _, _, _, _, false, rfl, .ty "int", tB, kit_ty (by decide +kernel), false, rfl, ?_⟩
      refine ⟨_, rfl, _, _, _, _, false, rfl, .ty "str", tB, kit_ty (by decide +kernel), false, rfl, ?_⟩
      refine ⟨_, rfl, _, _, _, _, true, rfl, .ty "dict", tB, kit_ty (by decide +kernel), true, rfl, ?_⟩
      refine ⟨_, rfl, _, _, _, _, true, rfl, .ty "dict", tB, kit_ty (by decide +kernel), true, rfl, ?_⟩
      exact ⟨_, rfl, _, rfl, p_, p_, kvs, kvs, rfl, rfl, hd, hd, rfl, dk, q⟩
    · rcases hab with ⟨ha, hb⟩ | ⟨ha, hb⟩
      · have tA : TyX K H (.ref a) (.type "tuple") := .base (.tup ha)
        have tB : TyX K H (.ref b) (.type "tuple") := .base (.tup hb)
        have qA : SqB K H a vs := .inr (.inl (.inl ha))
        have qB : SqB K H b us := .inr (.inl (.inl hb))
        refine ⟨_, rfl, rfl, _, rfl, ?_⟩
        refine ⟨_, rfl, _, _, _, _, false, rfl, .ty "bool", tB, kit_ty (by decide +kernel), false, rfl, ?_⟩
        refine ⟨_, rfl, _, _, _, _, false, rfl, .ty "int", tB, kit_ty (by decide +kernel), false, rfl, ?_⟩
        refine ⟨_, rfl, _, _, _, _, false, rfl, .ty "str", tB, kit_ty (by decide +kernel), false, rfl, ?_⟩
        refine ⟨_, rfl, _, _, _, _, false, rfl, .ty "dict", tB, kit_ty (by decide +kernel), false, rfl, ?_⟩
        refine ⟨_, rfl, _, _, _, _, false, rfl, .ty "list", tB, kit_ty (by decide +kernel), false, rfl, ?_⟩
        refine ⟨_, rfl, _, _, _, _, true, rfl, .ty "tuple", tB, kit_ty (by decide +kernel), true, rfl, ?_⟩
        refine ⟨_, rfl, _, _, _, _, true, rfl, .ty "tuple", tA, kit_ty (by decide +kernel), true, rfl, ?_⟩
        refine ⟨_, rfl, a, _, rfl, qA, _, rfl, b, _, rfl, qB, rfl, _, rfl, ?_⟩
        rw [hlen]
        refine iteNS rfl ?_
        refine ⟨_, rfl, b, _, rfl, qB, _, rfl, by omega, by omega, ?_⟩
        rw [show ((us.length : Int)).toNat = us.length by omega]
        refine for_range (lo := 0) (n := us.length) (fun i σ H' => (∃ y2, σ = [some (.ref a), some (.ref b), y2]) ∧ H' = H) ⟨⟨_, rfl⟩, rfl⟩ (fun i σ H' hi p => ?_) (fun σ H' p => ?_)
        · obtain ⟨⟨y2, rfl⟩, rfl⟩ := p
          have hv : vs[i]? = some vs[i] := List.getElem?_eq_getElem (by omega)
          have hu : us[i]? = some us[i] := List.getElem?_eq_getElem hi
          refine ⟨_, rfl, _, rfl, a, _, _, _, rfl, rfl, qA, at_of (j := i) (by omega) hv, _, rfl, _, rfl, b, _, _, _, rfl, rfl, qB, at_of (j := i) (by omega) hu, ?_⟩
          exact hsp e _ _ _ _ hle (hel i _ _ hv hu) ⟨true, rfl, ⟨_, rfl⟩, rfl⟩
        · obtain ⟨_, rfl⟩ := p
          exact q
      · have tA : TyX K H (.ref a) (.type "list") := .base (.lst ha)
        have tB : TyX K H (.ref b) (.type "list") := .base (.lst hb)
        have qA : SqB K H a vs := .inl (.inl (.inl ha))
        have qB : SqB K H b us := .inl (.inl (.inl hb))
        refine ⟨_, rfl, rfl, _, rfl, ?_⟩
        refine ⟨_, rfl, _, _, _, _, false, rfl, .ty "bool", tB, kit_ty (by decide +kernel), false, rfl, ?_⟩
        refine ⟨_, rfl, _, _, _, _, false, rfl, .ty "int", tB, kit_ty (by decide +kernel), false, rfl, ?_⟩
        refine ⟨_, rfl, _, _, _, _, false, rfl, .ty "str", tB, kit_ty (by decide +kernel), false, rfl, ?_⟩
        refine ⟨_, rfl, _, _, _, _, false, rfl, .ty "dict", tB, kit_ty (by decide +kernel), false, rfl, ?_⟩
        refine ⟨_, rfl, _, _, _, _, true, rfl, .ty "list", tB, kit_ty (by decide +kernel), true, rfl, ?_⟩
        refine ⟨_, rfl, _, _, _, _, true, rfl, .ty "list", tA, kit_ty (by decide +kernel), true, rfl, ?_⟩
        refine ⟨_, rfl, _, _, _, _, false, rfl, .ty "tuple", tB, kit_ty (by decide +kernel), false, rfl, ?_⟩
        refine ⟨_, rfl, a, _, rfl, qA, _, rfl, b, _, rfl, qB, rfl, _, rfl, ?_⟩
        rw [hlen]
        refine iteNS rfl ?_
        refine ⟨_, rfl, b, _, rfl, qB, _, rfl, by omega, by omega, ?_⟩
        rw [show ((us.length : Int)).toNat = us.length by omega]
        refine for_range (lo := 0) (n := us.length) (fun i σ H' => (∃ y2, σ = [some (.ref a), some (.ref b), y2]) ∧ H' = H) ⟨⟨_, rfl⟩, rfl⟩ (fun i σ H' hi p => ?_) (fun σ H' p => ?_)
        · obtain ⟨⟨y2, rfl⟩, rfl⟩ := p
          have hv : vs[i]? = some vs[i] := List.getElem?_eq_getElem (by omega)
          have hu : us[i]? = some us[i] := List.getElem?_eq_getElem hi
          refine ⟨_, rfl, _, rfl, a, _, _, _, rfl, rfl, qA, at_of (j := i) (by omega) hv, _, rfl, _, rfl, b, _, _, _, rfl, rfl, qB, at_of (j := i) (by omega) hu, ?_⟩
          exact hsp e _ _ _ _ hle (hel i _ _ hv hu) ⟨true, rfl, ⟨_, rfl⟩, rfl⟩
        · obtain ⟨_, rfl⟩ := p
          exact q
theorem ok_same {f : Addr} {fd : FuncData} (D_s : Df K mg "_law_same" s__law_same ["_law_value", "_law_due"] f fd) (T : Bi mg) (T_di : mg "dict" = none) {f_w : Addr} {d_w : FuncData} (D_w : Df K mg "_law_whole" s__law_whole ["_law_value"] f_w d_w) (G_w : FnOk P w K mg base CX0 1 f_w d_w ["_law_value"] spWhole) :
    ∀ d : Nat, FnOk P w K mg base CX0 (d + 2) f fd ["_law_value", "_law_due"] (spSame d)
  | 0 => same_body (k := 0) D_s T T_di D_w G_w (sp := spNo) fn_no fun e x y H Q h => absurd h (by omega)
  | d + 1 => same_body (k := d + 1) D_s T T_di D_w G_w (ok_same D_s T T_di D_w G_w d) fun e x y H Q h h1 q => ⟨x, y, rfl, h1.le (by omega), q⟩
/-! ### drawn pins -/
def spPins (K : PySem.W.Frag) : Sp := fun vs H Q _ => ∃ c : Int, vs = [.int c] ∧ ∀ H' n, Same H H' → 0 ≤ n → n ≤ 40 → Q (.int n) H'
theorem ok_pins {f : Addr} {fd : FuncData} (F : Fun K "_law_pins" "_law_pins" s__law_pins f fd) (T : Bi mg) {f_d : Addr} {d_d : FuncData} (D_d : Df K mg "_law_digits" s__law_digits ["_law_cell_here", "_law_sizes"] f_d d_d) (G_d : FnOk P w K mg base CX0 1 f_d d_d ["_law_cell_here", "_law_sizes"] (spDigs K)) : FnOk P w K mg base CX0 2 f fd ["_law_cell_here"] (spPins K) := by
  refine F.ok sc__law_pins (fun vs H Q E h => ?_) (fun cdv A outer s H vs Q E hr h => ?_)
  · obtain ⟨c, rfl, _⟩ := h
    rfl
  · obtain ⟨c, rfl, q⟩ := h
    refine ⟨_, (pss_cons (ps_set (i := 1) sc__law_pins.nd rfl (.inl rfl) (pe_call G_d hr (by rfl) D_d.g D_d.F.kp D_d.b .nil pass0 (pa_cons (pv 0) (pa_cons (pe_lst (pa_cons pe_int (pa_cons pe_int (pa_cons pe_int pa_nil)))) pa_nil))))
        (pss_cons (ps_if (pt_cmpR op_lt (pe_ix (r := rIxL K) ix_list (pv 1) pe_int (fun _ _ => rfl)) pe_int (nomark _)) (pss_one (ps_ret (pe_op op_add pe_int (pe_op op_mod (pe_callTy call_int1 (by rfl) T.b_int (by decide +kernel) (pa_cons (pe_ix (r := rIxL K) ix_list (pv 1) pe_int (fun _ _ => rfl)) pa_nil)) pe_int)))) pss_nil)
        (pss_cons (ps_if (pt_cmpR op_eq (pe_ix (r := rIxL K) ix_list (pv 1) pe_int (fun _ _ => rfl)) pe_int (nomark _)) (pss_one (ps_ret (pe_op op_add pe_int (pe_op op_mod (pe_callTy call_int1 (by rfl) T.b_int (by decide +kernel) (pa_cons (pe_ix (r := rIxL K) ix_list (pv 1) pe_int (fun _ _ => rfl)) pa_nil)) pe_int)))) pss_nil)
        (pss_cons (ps_if (pt_cmpR op_eq (pe_ix (r := rIxL K) ix_list (pv 1) pe_int (fun _ _ => rfl)) pe_int (nomark _)) (pss_one (ps_ret (pe_op op_mod (pe_callTy call_int1 (by rfl) T.b_int (by decide +kernel) (pa_cons (pe_ix (r := rIxL K) ix_list (pv 1) pe_int (fun _ _ => rfl)) pa_nil)) pe_int))) pss_nil)
        (pss_one (ps_ret (pe_ix (r := rIxL K) ix_list (pv 1) pe_int (fun _ _ => rfl)))))))), ?_⟩
    refine ⟨_, rfl, by show 3 ≤ sizeLine; decide, fun b nb => ⟨c, b, [8, 30, 41], rfl, .inl (.inl upd_same), by decide, by decide, fun H1 p ds s1 np ep dg => ?_⟩⟩
    have sm : Same H H1 := (same_upd nb).trans s1
    obtain ⟨x0, x1, x2, rfl⟩ : ∃ x0 x1 x2, ds = [x0, x1, x2] := by
      have hl := dg.1
      match ds, hl with
      | [x0, x1, x2], _ => exact ⟨x0, x1, x2, rfl⟩
    have b0 := dg.2 0 x0 8 rfl rfl
    have b1 := dg.2 1 x1 30 rfl rfl
    have b2 := dg.2 2 x2 41 rfl rfl
    have hS : SqL K H1 p [.int x0, .int x1, .int x2] := .inl (.inl ep)
    have a0 : atI [V.int x0, .int x1, .int x2] 0 = some (.int x0) := atI_nat (j := 0) rfl
    have a1 : atI [V.int x0, .int x1, .int x2] 1 = some (.int x1) := atI_nat (j := 1) rfl
    have a2 : atI [V.int x0, .int x1, .int x2] 2 = some (.int x2) := atI_nat (j := 2) rfl
    have m5 := Int.emod_nonneg x1 (show (5 : Int) ≠ 0 by decide)
    have m5' := Int.emod_lt_of_pos x1 (show (0 : Int) < 5 by decide)
    have m6 := Int.emod_nonneg x1 (show (6 : Int) ≠ 0 by decide)
    have m6' := Int.emod_lt_of_pos x1 (show (0 : Int) < 6 by decide)
    have m2 := Int.emod_nonneg x1 (show (2 : Int) ≠ 0 by decide)
    have m2' := Int.emod_lt_of_pos x1 (show (0 : Int) < 2 by decide)
    refine ⟨_, rfl, p, _, 0, _, rfl, rfl, hS, a0, x0, 5, rfl, rfl, _, rfl, ite2 (fun e => ?_) (fun e => ?_)⟩
    · refine ⟨_, rfl, p, _, 1, _, rfl, rfl, hS, a1, .inl ⟨_, rfl, _, _, rfl, rfl, by show (0 : Int) < 5; decide, _, _, rfl, rfl, q H1 _ sm (by omega) (by omega)⟩⟩
    · refine ⟨_, rfl, p, _, 0, _, rfl, rfl, hS, a0, rfl, _, rfl, ite2 (fun e2 => ?_) (fun e2 => ?_)⟩
      · exact ⟨_, rfl, p, _, 1, _, rfl, rfl, hS, a1, .inl ⟨_, rfl, _, _, rfl, rfl, by show (0 : Int) < 6; decide, _, _, rfl, rfl, q H1 _ sm (by omega) (by omega)⟩⟩
      · refine ⟨_, rfl, p, _, 0, _, rfl, rfl, hS, a0, rfl, _, rfl, ite2 (fun e3 => ?_) (fun e3 => ?_)⟩
        · exact ⟨_, rfl, p, _, 1, _, rfl, rfl, hS, a1, .inl ⟨_, rfl, _, _, rfl, rfl, by show (0 : Int) < 2; decide, q H1 _ sm (by omega) (by omega)⟩⟩
        · exact ⟨_, rfl, p, _, 2, _, rfl, rfl, hS, a2, q H1 _ sm (by omega) (by omega)⟩
end
end Own

namespace Own
open PySem PySem.Spec PyProof.Rows L2
/-- a list of pairs, each a tuple -/
def PairsV (H : Hp) (bs : List Addr) (ps : List (Int × Int)) : Prop := bs.length = ps.length ∧ ∀ (i : Nat) (b : Addr) (p : Int × Int), bs[i]? = some b → ps[i]? = some p → H b = some (.tup [.int p.1, .int p.2])
theorem PairsV.sameT {H H' : Hp} {bs : List Addr} {ps : List (Int × Int)} (s : SameT H H') (h : PairsV H bs ps) : PairsV H' bs ps := ⟨h.1, fun i b p e1 e2 => s _ _ (h.2 i b p e1 e2)⟩
theorem PairsV.snoc {H : Hp} {bs : List Addr} {ps : List (Int × Int)} {b : Addr} {p : Int × Int} (h : PairsV H bs ps) (e : H b = some (.tup [.int p.1, .int p.2])) : PairsV H (bs ++ [b]) (ps ++ [p]) := by
  refine ⟨by rw [List.length_append, List.length_append, h.1]; rfl, fun i c q h1 h2 => ?_⟩
  by_cases hi : i < bs.length
  · rw [List.getElem?_append_left hi] at h1
    rw [List.getElem?_append_left (by rw [← h.1]; exact hi)] at h2
    exact h.2 i c q h1 h2
  · rw [List.getElem?_append_right (by omega)] at h1
    rw [List.getElem?_append_right (by rw [← h.1]; omega), ← h.1] at h2
    have hk : i - bs.length = 0 := by
      cases hk : i - bs.length with
      | zero => rfl
      | succ k =>
        rw [hk] at h1
        simp at h1
    rw [hk] at h1 h2
    obtain rfl : b = c := Option.some.inj h1
    obtain rfl : p = q := Option.some.inj h2
    exact e
theorem PairsV.at_ {H : Hp} {bs : List Addr} {ps : List (Int × Int)} (h : PairsV H bs ps) {b : Addr} (m : b ∈ bs) : ∃ p ∈ ps, H b = some (.tup [.int p.1, .int p.2]) := by
  obtain ⟨i, hi, e⟩ := List.mem_iff_getElem.mp m
  have hp : i < ps.length := by
    rw [← h.1]
    exact hi
  exact ⟨ps[i], List.getElem_mem hp, h.2 i b ps[i] (by rw [List.getElem?_eq_getElem hi, e]) (List.getElem?_eq_getElem hp)⟩
/-- as data -/
def pd (p : Int × Int) : PyData := .tuple [.int p.1, .int p.2]
theorem PairsV.dp {K : PySem.W.Frag} {H : Hp} : ∀ {bs : List Addr} {ps : List (Int × Int)}, PairsV H bs ps → DpAll K H (bs.map V.ref) (ps.map pd)
  | [], [], _ => .nil
  | [], _ :: _, h => by have := h.1; simp at this
  | _ :: _, [], h => by have := h.1; simp at this
  | b :: bs, p :: ps, h => .cons (.tup (.inl (.inl (h.2 0 b p rfl rfl))) (.cons (.int _) (.cons (.int _) .nil))) (PairsV.dp ⟨by have := h.1; simpa using this, fun i c q h1 h2 => h.2 (i + 1) c q h1 h2⟩)
theorem pd_eqv (p q : Int × Int) : PyData.eqv (pd p) (pd q) = decide (p = q) := by
  unfold pd
  simp only [PyData.eqv, PyData.eqvAll, Bool.and_true]
  by_cases h : p = q
  · subst h
    simp
  · rw [decide_eq_false h]
    by_cases h1 : p.1 = q.1
    · have h2 : ¬ p.2 = q.2 := fun z => h (Prod.ext h1 z)
      simp [h1, h2]
    · simp [h1]
theorem any_pd (p : Int × Int) (ps : List (Int × Int)) : ((ps.map pd).any fun z => PyData.eqv z (pd p)) = decide (p ∈ ps) := by
  rw [List.any_map]
  induction ps with
  | nil => rfl
  | cons q r ih =>
    rw [List.any_cons, ih]
    show (PyData.eqv (pd q) (pd p) || decide (p ∈ r)) = _
    rw [pd_eqv]
    by_cases h : q = p
    · subst h
      simp
    · have h2 : ¬ p = q := fun z => h z.symm
      simp [h, h2]
theorem shaped_pd (p : Int × Int) : SeqAt.shaped (pd p) = true := by
  unfold SeqAt.shaped pd
  simp [PyData.canLay0, PyData.canLayAll0, PyData.depth, PyData.depthAll]
theorem lay_pds : ∀ ps : List (Int × Int), PyData.canLayAll0 (ps.map pd) = true ∧ PyData.depthAll (ps.map pd) ≤ 1
  | [] => ⟨rfl, Nat.zero_le _⟩
  | p :: r => by
    obtain ⟨h1, h2⟩ := lay_pds r
    refine ⟨?_, ?_⟩
    · show (PyData.canLay0 (pd p) && PyData.canLayAll0 (r.map pd)) = true
      rw [h1]
      rfl
    · show max (PyData.depth (pd p)) (PyData.depthAll (r.map pd)) ≤ 1
      have : PyData.depth (pd p) = 1 := rfl
      omega
theorem shaped_pds (ps : List (Int × Int)) : SeqAt.shaped (.list (ps.map pd)) = true := by
  obtain ⟨h1, h2⟩ := lay_pds ps
  unfold SeqAt.shaped
  have e1 : PyData.canLay0 (.list (ps.map pd)) = true := h1
  have e2 : PyData.depth (.list (ps.map pd)) ≤ 64 := by
    show PyData.depthAll (ps.map pd) + 1 ≤ 64
    omega
  rw [e1, decide_eq_true e2]
  rfl
section
variable {P : Program} {w : World} {K : PySem.W.Frag} {mg : Str → Option Value} {base : Heap} {C : Addr}
def spNorm (K : PySem.W.Frag) : Sp := fun vs H Q _ => ∃ (a : Addr) (xs : List V) (l : List Tr), vs = [.ref a] ∧ SqB K H a xs ∧ TrV H xs l ∧ (∀ t ∈ l, 1 ≤ t.2.2) ∧ l.length ≤ 1000 ∧ ∀ H' c r, Same H H' → Trip H' c r → IsNorm l r → Q (.ref c) H'
theorem ok_norm {f : Addr} {fd : FuncData} (F : Fun K "_law_norm" "_law_norm" s__law_norm f fd) (T : Bi mg) : FnOk P w K mg base CX0 1 f fd ["_law_triples"] (spNorm K) := by
  refine F.ok sc__law_norm (fun vs H Q E h => ?_) (fun cdv A outer s H vs Q E hr h => ?_)
  · obtain ⟨a, xs, l, rfl, _⟩ := h
    rfl
  · obtain ⟨a, xs, l, rfl, hB, hx, hv, hl, q⟩ := h
    have hu65 : (A.deeper (envOfC "_law_norm" (defScope s__law_norm) s.heap.objs.size f cdv)).units + 65 < cLine := by
      have := hr.un
      omega
    refine ⟨_, (pss_cons (ps_set (i := 1) sc__law_norm.nd rfl (.inl rfl) (pe_lst pa_nil))
        (pss_cons (ps_for PassesOwn.never rfl (pi_seq (pv 0)) (pg_name (i := 2) sc__law_norm.nd rfl (.inl rfl))
        (pss_cons (ps_set (i := 5) sc__law_norm.nd rfl (.inl rfl) (pe_callB (call_min2 rfl) (by rfl) T.b_min (by decide +kernel) (pa_cons (pe_ix (r := rIxT K) ix_tup (pv 2) pe_int (fun _ _ => rfl)) (pa_cons (pe_ix (r := rIxT K) ix_tup (pv 2) pe_int (fun _ _ => rfl)) pa_nil))))
        (pss_cons (ps_set (i := 6) sc__law_norm.nd rfl (.inl rfl) (pe_callB (call_max2 rfl) (by rfl) T.b_max (by decide +kernel) (pa_cons (pe_ix (r := rIxT K) ix_tup (pv 2) pe_int (fun _ _ => rfl)) (pa_cons (pe_ix (r := rIxT K) ix_tup (pv 2) pe_int (fun _ _ => rfl)) pa_nil))))
        (pss_one (ps_if (pt_cmpR (op_notInD hu65) (pe_tup (pa_cons (pv 5) (pa_cons (pv 6) pa_nil))) (pv 1) (by rfl)) (pss_one (ps_expr (pe_bm PySem.F.plainAttrs_list PySem.F.slot_list_append PySem.F.type_list_append mt_append (pv 1) (pa_cons (pe_tup (pa_cons (pv 5) (pa_cons (pv 6) pa_nil))) pa_nil)))) pss_nil)))))
        (pss_cons (ps_set (i := 3) sc__law_norm.nd rfl (.inl rfl) (pe_lst pa_nil))
        (pss_cons (ps_for PassesOwn.never rfl (pi_list (pe_callB cr_sortedPO (by rfl) T.b_sorted (by decide +kernel) (pa_cons (pv 1) pa_nil))) (pg_name (i := 4) sc__law_norm.nd rfl (.inl rfl))
        (pss_cons (ps_set (i := 7) sc__law_norm.nd rfl (.inl rfl) pe_int)
        (pss_cons (ps_for PassesOwn.never rfl (pi_seq (pv 0)) (pg_name (i := 2) sc__law_norm.nd rfl (.inl rfl))
        (pss_one (ps_if (PW.pt (pw_and (pt_cmpR op_eq (pe_callB (call_min2 rfl) (by rfl) T.b_min (by decide +kernel) (pa_cons (pe_ix (r := rIxT K) ix_tup (pv 2) pe_int (fun _ _ => rfl)) (pa_cons (pe_ix (r := rIxT K) ix_tup (pv 2) pe_int (fun _ _ => rfl)) pa_nil))) (pe_ix (r := rIxT K) ix_tup (pv 4) pe_int (fun _ _ => rfl)) (nomark _)) (pw_and1 (pt_cmpR op_eq (pe_callB (call_max2 rfl) (by rfl) T.b_max (by decide +kernel) (pa_cons (pe_ix (r := rIxT K) ix_tup (pv 2) pe_int (fun _ _ => rfl)) (pa_cons (pe_ix (r := rIxT K) ix_tup (pv 2) pe_int (fun _ _ => rfl)) pa_nil))) (pe_ix (r := rIxT K) ix_tup (pv 4) pe_int (fun _ _ => rfl)) (nomark _))))) (pss_one (ps_set (i := 7) sc__law_norm.nd rfl (.inl rfl) (pe_op op_add (pv 7) (pe_ix (r := rIxT K) ix_tup (pv 2) pe_int (fun _ _ => rfl))))) pss_nil)))
        (pss_one (ps_expr (pe_bm PySem.F.plainAttrs_list PySem.F.slot_list_append PySem.F.type_list_append mt_append (pv 3) (pa_cons (pe_tup (pa_cons (pe_ix (r := rIxT K) ix_tup (pv 4) pe_int (fun _ _ => rfl)) (pa_cons (pe_ix (r := rIxT K) ix_tup (pv 4) pe_int (fun _ _ => rfl)) (pa_cons (pv 7) pa_nil)))) pa_nil)))))))
        (pss_one (ps_ret (pe_callTy call_tuple_of (by rfl) T.b_tuple (by decide +kernel) (pa_cons (pv 3) pa_nil)))))))), ?_⟩
    refine ⟨Nat.zero_le _, fun p np => ?_⟩
    have sp : Same H (upd H p (.lst [])) := same_upd np
    refine ⟨_, rfl, a, rfl, for_same (Hb := H) hB (fun i σ H' => ∃ (bs : List Addr) (ps : List (Int × Int)) (y2 y5 y6 : Option V), σ = [some (.ref a), some (.ref p), y2, none, none, y5, y6, none] ∧ H' p = some (.lst (bs.map V.ref)) ∧ PairsV H' bs ps ∧ ps.Nodup ∧ (∀ x, x ∈ ps ↔ x ∈ (l.take i).map ky) ∧ Same H H' ∧ ps.length ≤ i) ⟨[], [], none, none, none, rfl, upd_same, ⟨rfl, fun i b q h => by simp at h⟩, List.nodup_nil, fun x => by simp, sp, Nat.le_refl _⟩ (fun i σ' H' pv => by obtain ⟨_, _, _, _, _, _, _, _, _, _, s, _⟩ := pv; exact s) (fun i x σ H' hxi pv => ?_) (fun σ H' pv => ?_)⟩
    · obtain ⟨bs, ps, y2, y5, y6, rfl, ep, pV, hnd, hmem, sm, hlen⟩ := pv
      obtain ⟨b, t, rfl, hti, hb⟩ := (hx.same sm).at_ hxi
      have hil : i < l.length := (List.getElem?_eq_some_iff.mp hti).1
      have hvt : 1 ≤ t.2.2 := hv t (List.mem_of_getElem? hti)
      have qb : SqT K H' b (tv t) := .inl (.inl hb)
      have i0 : atI (tv t) 0 = some (.int t.1) := atI_nat (j := 0) rfl
      have i1 : atI (tv t) 1 = some (.int t.2.1) := atI_nat (j := 1) rfl
      have i2 : atI (tv t) 2 = some (.int t.2.2) := atI_nat (j := 2) rfl
      refine ⟨_, rfl, b, _, 0, _, rfl, rfl, qb, i0, _, rfl, b, _, 1, _, rfl, rfl, qb, i1, _, _, rfl, ?_⟩
      refine ⟨_, rfl, b, _, 0, _, rfl, rfl, qb, i0, _, rfl, b, _, 1, _, rfl, rfl, qb, i1, _, _, rfl, ?_⟩
      refine ⟨_, rfl, _, rfl, by show 2 ≤ sizeLine; decide, fun u nu => ?_⟩
      have su : Same H' (upd H' u (.tup [.int (lo t.1 t.2.1), .int (hi t.1 t.2.1)])) := same_upd nu
      have pV1 := pV.sameT fun b o h => su _ _ h
      have ep1 := su _ _ ep
      refine ⟨_, rfl, pd (ky t), ps.map pd, .tup (.inl (.inl upd_same)) (.cons (.int _) (.cons (.int _) .nil)), .lst (.inl (.inl ep1)) pV1.dp, shaped_pd _, shaped_pds _, _, rfl, ?_⟩
      rw [any_pd]
      by_cases hk : ky t ∈ ps
      · rw [decide_eq_true hk]
        refine ⟨bs, ps, _, _, _, rfl, ep1, pV1, hnd, fun x => ?_, sm.trans su, by omega⟩
        rw [List.take_add_one, hti, List.map_append, List.mem_append, ← hmem]
        constructor
        · exact .inl
        · rintro (h | h)
          · exact h
          · rw [List.mem_singleton.mp h]
            exact hk
      · rw [decide_eq_false hk]
        refine ⟨_, rfl, .inl ⟨rfl, _, .inl (.inl ep1)⟩, _, rfl, _, rfl, by show 2 ≤ sizeLine; decide, fun v nv => ?_⟩
        have sv := same_upd (o := .tup [.int (lo t.1 t.2.1), .int (hi t.1 t.2.1)]) nv
        have ep2 := sv _ _ ep1
        refine ⟨p, _, _, rfl, rfl, ep2, ?_, ?_⟩
        · rw [List.length_map, pV.1]
          exact small1000 (by omega)
        have nvp : v ≠ p := fun z => by
          rw [z] at nv
          exact nomatch (ep1.symm.trans nv)
        refine ⟨bs ++ [v], ps ++ [ky t], _, _, _, rfl, ?_, ?_, ?_, fun x => ?_, same_put (H1 := H) np ((sm.trans su).trans sv), ?_⟩
        · rw [upd_same, List.map_append]
          rfl
        · refine (pV1.sameT (sameT_put ep1 sv)).snoc ?_
          rw [upd_ne nvp, upd_same]
          rfl
        · exact List.nodup_append.mpr ⟨hnd, by simp, fun x hx2 y hy z => hk (by rw [List.mem_singleton.mp hy] at z; rw [← z]; exact hx2)⟩
        · rw [List.take_add_one, hti, List.map_append, List.mem_append, List.mem_append, ← hmem]
          exact Iff.rfl
        · rw [List.length_append]
          show ps.length + 1 ≤ i + 1
          omega
    · obtain ⟨bs, ps, y2, y5, y6, rfl, ep, pV, hnd, hmem, sm, hlen⟩ := pv
      rw [hx.1] at hlen
      rw [hx.1, List.take_length] at hmem
      refine ⟨Nat.zero_le _, fun rw_ nrw => ?_⟩
      have s1 : Same H' (upd H' rw_ (.lst [])) := same_upd nrw
      have pV1 := pV.sameT fun b o h => s1 _ _ h
      refine ⟨_, rfl, p, _, kOf (upd H' rw_ (.lst [])), rfl, .inl (.inl (s1 _ _ ep)), fun x hx2 => ?_, fun ys p0 hsrt hstb np0 => ?_⟩
      · obtain ⟨b, hb, rfl⟩ := List.mem_map.mp hx2
        obtain ⟨pp, _, hp⟩ := pV1.at_ hb
        exact ⟨b, rfl, by rw [kOf_at hp]; exact hp⟩
      generalize hH1 : upd H' rw_ (.lst []) = H1 at s1 pV1 hsrt hstb np0
      have erw : H1 rw_ = some (.lst []) := by rw [← hH1]; exact upd_same
      have hks : (bs.map V.ref).map (kOf H1) = ps := by
        apply List.ext_getElem
        · rw [List.length_map, List.length_map]
          exact pV1.1
        · intro j h1 h2
          rw [List.getElem_map, List.getElem_map]
          rw [List.length_map, List.length_map] at h1
          exact kOf_at (pV1.2 j bs[j] ps[j] (List.getElem?_eq_getElem h1) (List.getElem?_eq_getElem h2))
      have hperm : (ys.map (kOf H1)).Perm ps := by
        have := hstb.perm.map (kOf H1)
        rw [hks] at this
        exact this
      have hall : ∀ y ∈ ys, ∃ b, y = .ref b ∧ H1 b = some (.tup [.int (kOf H1 y).1, .int (kOf H1 y).2]) := fun y hy => by
        obtain ⟨b, hb, rfl⟩ := List.mem_map.mp (hstb.perm.mem_iff.mp hy)
        obtain ⟨pp, _, hp⟩ := pV1.at_ hb
        exact ⟨b, rfl, by rw [kOf_at hp]; exact hp⟩
      have hlex : (ys.map (kOf H1)).Pairwise Lex := sorted_lex (hperm.nodup_iff.mpr hnd) (SrtO.srtd_map (lt := SrtO.lexB) (f := kOf H1) hsrt)
      have hN : IsNorm l ((ys.map (kOf H1)).map fun p => (p.1, p.2, tot p l)) := by
        have e1 : (((ys.map (kOf H1)).map fun p => ((p.1, p.2, tot p l) : Tr))).map pr = ys.map (kOf H1) := by
          rw [List.map_map]
          exact List.map_id' _
        refine ⟨by rw [e1]; exact hlex, fun x => by rw [e1, hperm.mem_iff]; exact hmem x, fun e he => ?_⟩
        obtain ⟨x, _, rfl⟩ := List.mem_map.mp he
        rfl
      have hylen : ys.length ≤ 1000 := by
        have h1 := hperm.length_eq
        rw [List.length_map] at h1
        omega
      generalize hr0 : ((ys.map (kOf H1)).map fun p => ((p.1, p.2, tot p l) : Tr)) = r at hN
      have hrl : r.length = ys.length := by rw [← hr0, List.length_map, List.length_map]
      have s0 : Same H1 (upd H1 p0 (.lst ys)) := same_upd np0
      have n0rw : p0 ≠ rw_ := fun z => by
        rw [z, erw] at np0
        cases np0
      have nrwH : H rw_ = none := sm.free nrw
      refine ⟨p0, rfl, ⟨_, .inl (.inl upd_same)⟩, for_list (xs := ys) (fun j σ H2 => ∃ (vs : List V) (y2 y4 y5 y6 y7 : Option V), σ = [some (.ref a), some (.ref p), y2, some (.ref rw_), y4, y5, y6, y7] ∧ Same H H2 ∧ SameT H1 H2 ∧ H2 p0 = some (.lst ys) ∧ H2 rw_ = some (.lst vs) ∧ TrV H2 vs (r.take j)) ⟨[], _, _, _, _, _, rfl, ?_, fun b o h => s0 _ _ h, upd_same, s0 _ _ erw, TrV.nil⟩ (fun j σ H2 _ pv => by obtain ⟨_, _, _, _, _, _, _, _, _, e, _⟩ := pv; exact .inl (.inl e)) (fun j x σ H2 hxj pv => ?_) (fun σ H2 pv => ?_)⟩
      · exact (sm.trans s1).trans s0
      · obtain ⟨vs, y2, y4, y5, y6, y7, rfl, sH, sT, e0, eR, tV⟩ := pv
        obtain ⟨b, rfl, hb⟩ := hall x (List.mem_of_getElem? hxj)
        have hjl : j < ys.length := (List.getElem?_eq_some_iff.mp hxj).1
        generalize hp : kOf H1 (.ref b) = pq at hb
        have hb2 : SqT K H2 b [.int pq.1, .int pq.2] := .inl (.inl (sT _ _ hb))
        have j0 : atI [V.int pq.1, .int pq.2] 0 = some (.int pq.1) := atI_nat (j := 0) rfl
        have j1 : atI [V.int pq.1, .int pq.2] 1 = some (.int pq.2) := atI_nat (j := 1) rfl
        have hrj : r[j]? = some (pq.1, pq.2, tot pq l) := by
          rw [← hr0, List.getElem?_map, List.getElem?_map, hxj, ← hp]
          rfl
        refine ⟨_, rfl, a, rfl, for_same (Hb := H) hB (fun i σ H3 => (∃ y2, σ = [some (.ref a), some (.ref p), y2, some (.ref rw_), some (.ref b), y5, y6, some (.int (tot pq (l.take i)))]) ∧ H3 = H2) ⟨⟨y2, rfl⟩, rfl⟩ (fun i σ' H3 pv => by rw [pv.2]; exact sH) (fun i x σ H3 hxi pv => ?_) (fun σ H3 pv => ?_)⟩
        · obtain ⟨⟨y2, rfl⟩, rfl⟩ := pv
          obtain ⟨u, t, rfl, hti, hu⟩ := (hx.same sH).at_ hxi
          have qb : SqT K H3 u (tv t) := .inl (.inl hu)
          have i0 : atI (tv t) 0 = some (.int t.1) := atI_nat (j := 0) rfl
          have i1 : atI (tv t) 1 = some (.int t.2.1) := atI_nat (j := 1) rfl
          have i2 : atI (tv t) 2 = some (.int t.2.2) := atI_nat (j := 2) rfl
          have et : tot pq (l.take (i + 1)) = tot pq (l.take i) + (if ky t = pq then t.2.2 else 0) := by
            rw [List.take_add_one, hti]
            exact tot_snoc pq (l.take i) t
          refine ⟨_, rfl, u, _, 0, _, rfl, rfl, qb, i0, _, rfl, u, _, 1, _, rfl, rfl, qb, i1, _, _, rfl, ?_⟩
          refine ⟨_, rfl, b, _, 0, _, rfl, rfl, hb2, j0, rfl, _, rfl, ite2 (fun e1 => ?_) (fun e1 => ?_)⟩
          · have f1 : lo t.1 t.2.1 = pq.1 := V.int.inj (of_decide_eq_true e1)
            refine ⟨_, rfl, u, _, 0, _, rfl, rfl, qb, i0, _, rfl, u, _, 1, _, rfl, rfl, qb, i1, _, _, rfl, ?_⟩
            refine ⟨_, rfl, b, _, 1, _, rfl, rfl, hb2, j1, rfl, _, rfl, ite2 (fun e2 => ?_) (fun e2 => ?_)⟩
            · have f2 : hi t.1 t.2.1 = pq.2 := V.int.inj (of_decide_eq_true e2)
              refine ⟨_, rfl, _, rfl, u, _, 2, _, rfl, rfl, qb, i2, _, _, rfl, rfl, ⟨some (.ref u), ?_⟩, rfl⟩
              rw [et, if_pos (show ky t = pq from Prod.ext f1 f2)]
              rfl
            · have f2 : ¬ hi t.1 t.2.1 = pq.2 := fun z => e2 (decide_eq_true (congrArg V.int z))
              refine ⟨⟨some (.ref u), ?_⟩, rfl⟩
              rw [et, if_neg (fun z : ky t = pq => f2 (congrArg Prod.snd z)), Int.add_zero]
              rfl
          · have f1 : ¬ lo t.1 t.2.1 = pq.1 := fun z => e1 (decide_eq_true (congrArg V.int z))
            refine ⟨⟨some (.ref u), ?_⟩, rfl⟩
            rw [et, if_neg (fun z : ky t = pq => f1 (congrArg Prod.fst z)), Int.add_zero]
            rfl
        · obtain ⟨⟨y2, rfl⟩, rfl⟩ := pv
          rw [hx.1, List.take_length]
          refine ⟨_, rfl, .inl ⟨rfl, _, .inl (.inl eR)⟩, _, rfl, b, _, 0, _, rfl, rfl, hb2, j0, _, rfl, b, _, 1, _, rfl, rfl, hb2, j1, _, rfl, by show 3 ≤ sizeLine; decide, fun u nu => ?_⟩
          have su := same_upd (o := .tup [.int pq.1, .int pq.2, .int (tot pq l)]) nu
          refine ⟨rw_, _, _, rfl, rfl, su _ _ eR, ?_, ?_⟩
          · rw [tV.1, List.length_take]
            exact Nat.lt_of_le_of_lt (Nat.min_le_right _ _) (small1000 (by omega))
          have nur : u ≠ rw_ := fun z => by
            rw [z, eR] at nu
            cases nu
          refine ⟨_, _, _, _, _, _, rfl, same_put (H1 := H) nrwH (sH.trans su), fun c o h => ?_, ?_, upd_same, ?_⟩
          · exact sameT_put (H := H3) eR su _ _ (sT _ _ h)
          · rw [upd_ne n0rw]
            exact su _ _ e0
          · rw [List.take_add_one, hrj]
            refine (tV.sameT (sameT_put eR su)).snoc ?_
            rw [upd_ne nur, upd_same]
      · obtain ⟨vs, y2, y4, y5, y6, y7, rfl, sH, sT, e0, eR, tV⟩ := pv
        rw [← hrl, List.take_length] at tV
        refine ⟨_, rfl, rw_, _, rfl, .inl ⟨.inl (.inl eR), fun c nc => ?_⟩⟩
        exact q _ c r (sH.trans (same_upd nc)) ⟨vs, upd_same, tV.same (same_upd nc)⟩ hN
end
end Own

namespace Own
open PySem PySem.Spec PyProof.Rows L2
theorem fmod_lo {y n : Int} (h0 : 0 ≤ y) (h1 : y < n) : y.fmod n = y := by
  rw [Int.fmod_eq_emod_of_nonneg _ (by omega)]
  exact Int.emod_eq_of_lt h0 h1
theorem fmod_hi {y n : Int} (h0 : n ≤ y) (h1 : y < n + n) : y.fmod n = y - n := by
  rw [Int.fmod_eq_emod_of_nonneg _ (by omega), show y = (y - n) + n * 1 by omega, Int.add_mul_emod_self_left, Int.emod_eq_of_lt (by omega) (by omega)]
  omega
theorem fmod_neg {y n : Int} (h0 : -n ≤ y) (h1 : y < 0) : y.fmod n = y + n := by
  rw [Int.fmod_eq_emod_of_nonneg _ (by omega), show y = (y + n) + n * (-1) by omega, Int.add_mul_emod_self_left, Int.emod_eq_of_lt (by omega) (by omega)]
  omega
/-- the numbers of the entries that the test takes -/
def fl (f : Int × Int → Bool) (cs : List Tr) : List Int := (cs.filter fun t => f (pr t)).map fun t => t.2.2
theorem fl_sum (f : Int × Int → Bool) (cs : List Tr) : (fl f cs).sum = bs f cs := by
  unfold fl
  induction cs with
  | nil => rfl
  | cons t r ih =>
    rw [bs, List.filter_cons]
    by_cases h : f (pr t) = true
    · rw [if_pos h, if_pos h, List.map_cons, List.sum_cons, ih]
    · rw [if_neg h, if_neg h, ih]
      omega
theorem fl_snoc (f : Int × Int → Bool) (cs : List Tr) (t : Tr) : fl f (cs ++ [t]) = if f (pr t) = true then fl f cs ++ [t.2.2] else fl f cs := by
  unfold fl
  rw [List.filter_append, List.map_append]
  by_cases h : f (pr t) = true
  · rw [if_pos h, List.filter_cons, if_pos h]
    rfl
  · rw [if_neg h, List.filter_cons, if_neg h]
    exact List.append_nil _
theorem fl_len (f : Int × Int → Bool) (cs : List Tr) : (fl f cs).length ≤ cs.length := by
  unfold fl
  rw [List.length_map]
  exact List.length_filter_le _ _
/-- met on the walk of k steps from gap i -/
def mt (n i : Int) (k : Nat) (x : Int) : Bool := decide (0 < (x - i).fmod n ∧ (x - i).fmod n ≤ (k : Int))
theorem mt_val {n i x : Int} (i0 : 0 ≤ i) (i1 : i < n) (x0 : 0 ≤ x) (x1 : x < n) : (i ≤ x ∧ (x - i).fmod n = x - i) ∨ (x < i ∧ (x - i).fmod n = x - i + n) := by
  by_cases h : i ≤ x
  · exact .inl ⟨h, fmod_lo (by omega) (by omega)⟩
  · exact .inr ⟨by omega, fmod_neg (by omega) (by omega)⟩
theorem mt_step {n i x : Int} {k : Nat} (i0 : 0 ≤ i) (i1 : i < n) (x0 : 0 ≤ x) (x1 : x < n) (hk : (k : Int) + 1 < n) : mt n i (k + 1) x = if x = (i + (1 + (k : Int))).fmod n then true else mt n i k x := by
  have hv := mt_val i0 i1 x0 x1
  have hj : (i + (1 + (k : Int)) < n ∧ (i + (1 + (k : Int))).fmod n = i + (1 + (k : Int))) ∨ (n ≤ i + (1 + (k : Int)) ∧ (i + (1 + (k : Int))).fmod n = i + (1 + (k : Int)) - n) := by
    by_cases h : i + (1 + (k : Int)) < n
    · exact .inl ⟨h, fmod_lo (by omega) h⟩
    · exact .inr ⟨by omega, fmod_hi (by omega) (by omega)⟩
  unfold mt
  by_cases e : x = (i + (1 + (k : Int))).fmod n
  · rw [if_pos e]
    exact decide_eq_true (by omega)
  · rw [if_neg e]
    exact decide_eq_decide.mpr (by omega)
theorem mt_zero (n i x : Int) : mt n i 0 x = false := decide_eq_false (by omega)
theorem mt_all {n i x : Int} (i0 : 0 ≤ i) (i1 : i < n) (x0 : 0 ≤ x) (x1 : x < n) {k : Nat} (hk : (k : Int) + 1 = n) : mt n i k x = decide (x ≠ i) := by
  have hv := mt_val i0 i1 x0 x1
  exact decide_eq_decide.mpr (by omega)
theorem bne_not (p q : Bool) : ((!p) != (!q)) = (p != q) := by
  cases p <;> cases q <;> rfl
/-- the walk parts pins as the gaps do -/
theorem mt_sep {n i a b : Int} {k : Nat} (i0 : 0 ≤ i) (i1 : i < n) (hk : (k : Int) + 1 < n) (a0 : 0 ≤ a) (a1 : a < n) (b0 : 0 ≤ b) (b1 : b < n) :
    (mt n i (k + 1) a != mt n i (k + 1) b) = (sepB i ((i + (1 + (k : Int))).fmod n) a != sepB i ((i + (1 + (k : Int))).fmod n) b) := by
  by_cases h : i + (1 + (k : Int)) < n
  · have ej := fmod_lo (n := n) (show 0 ≤ i + (1 + (k : Int)) by omega) h
    rw [ej]
    have hl := lo_hi i (i + (1 + (k : Int)))
    have e : ∀ x, 0 ≤ x → x < n → mt n i (k + 1) x = sepB i (i + (1 + (k : Int))) x := fun x x0 x1 => by
      have hv := mt_val i0 i1 x0 x1
      exact decide_eq_decide.mpr (by omega)
    rw [e a a0 a1, e b b0 b1]
  · have ej := fmod_hi (n := n) (show n ≤ i + (1 + (k : Int)) by omega) (by omega)
    rw [ej]
    have hl := lo_hi i (i + (1 + (k : Int)) - n)
    have e : ∀ x, 0 ≤ x → x < n → mt n i (k + 1) x = !sepB i (i + (1 + (k : Int)) - n) x := fun x x0 x1 => by
      have hv := mt_val i0 i1 x0 x1
      unfold mt sepB
      rw [← decide_not]
      exact decide_eq_decide.mpr (by omega)
    rw [e a a0 a1, e b b0 b1, bne_not]
/-- a list of truth values -/
def bl (n : Int) (g : Int → Bool) : List V := (List.range n.toNat).map fun j : Nat => V.bl (g (j : Int))
theorem bl_at {n x : Int} (g : Int → Bool) (h0 : 0 ≤ x) (h1 : x < n) : atI (bl n g) x = some (.bl (g x)) := by
  have e : x = ((x.toNat : Nat) : Int) := by omega
  have hx : (bl n g)[x.toNat]? = some (.bl (g x)) := by
    unfold bl
    rw [List.getElem?_map, List.getElem?_range (by omega)]
    show some (V.bl (g ((x.toNat : Nat) : Int))) = _
    rw [← e]
  exact at_of e hx
theorem bl_len (n : Int) (g : Int → Bool) : (bl n g).length = n.toNat := by
  unfold bl
  rw [List.length_map, List.length_range]
theorem bl_ix {n x : Int} (g : Int → Bool) (h0 : 0 ≤ x) (h1 : x < n) : ixN (bl n g).length x = some x.toNat := by
  unfold ixN
  rw [bl_len, if_pos h0, if_pos (by omega)]
theorem bl_congr {n : Int} {g h : Int → Bool} (e : ∀ x, 0 ≤ x → x < n → g x = h x) : bl n g = bl n h := by
  unfold bl
  refine List.map_congr_left fun j hj => ?_
  have := List.mem_range.mp hj
  rw [e (j : Int) (by omega) (by omega)]
theorem bl_set {n x : Int} (g : Int → Bool) (v : Bool) (h0 : 0 ≤ x) (h1 : x < n) : (bl n g).set x.toNat (.bl v) = bl n fun y => if y = x then v else g y := by
  unfold bl
  apply List.ext_getElem
  · rw [List.length_set, List.length_map, List.length_map]
  · intro j hj hj2
    rw [List.length_map, List.length_range] at hj2
    rw [List.getElem_set, List.getElem_map, List.getElem_map, List.getElem_range]
    by_cases e : x.toNat = j
    · rw [if_pos e]
      show V.bl v = V.bl (if ((j : Nat) : Int) = x then v else g j)
      rw [if_pos (by omega)]
    · rw [if_neg e]
      show V.bl (g j) = V.bl (if ((j : Nat) : Int) = x then v else g j)
      rw [if_neg (by omega)]
theorem ne_bl (p q : Bool) : (!decide (V.bl p = V.bl q)) = (p != q) := by
  cases p <;> cases q <;> rfl
/-- as many keys as entries at most -/
theorem nodup_le : ∀ {P L : List (Int × Int)}, P.Nodup → (∀ p ∈ P, p ∈ L) → P.length ≤ L.length
  | [], _, _, _ => Nat.zero_le _
  | p :: P, L, hn, h => by
    have hc := List.nodup_cons.mp hn
    have hp : p ∈ L := h p List.mem_cons_self
    have ih := nodup_le (P := P) (L := L.erase p) hc.2 fun q hq => (List.mem_erase_of_ne (fun z => hc.1 (by rw [← z]; exact hq))).mpr (h q (List.mem_cons_of_mem _ hq))
    rw [List.length_erase_of_mem hp] at ih
    have := List.length_pos_of_mem hp
    rw [List.length_cons]
    omega
theorem IsNorm.len {l r : List Tr} (h : IsNorm l r) : r.length ≤ l.length := by
  have := nodup_le (srt_nodup h.srt) fun p m => (h.mem p).mp m
  rw [List.length_map, List.length_map] at this
  exact this
end Own

/-! An own error class whose __init__ begins with super().__init__(text) and then stores its fields. -/
namespace Own
open PySem PySem.Spec PyProof.Rows L2 NdefX
abbrev supS (p0 p1 p2 p3 p4 : Pos) (e : Expr) (es : List Expr) : Stmt := .Expr (.Call (.Attribute (.Call (.Name "super" p0) [] [] p1) "__init__" p2) (e :: es) [] p3) p4
abbrev supF (name qual : Str) (params : Arguments) (body : List Stmt) (scope : Scope) (cc cda : Addr) : NF := ⟨name, qual, params, body, scope, [("__class__", cc)], cda⟩
section
variable {CX : CXT} {P : Program} {w : World} {K : PySem.W.Frag} {mg : Str → Option Value} {base : Heap} {k : Nat} {f cc cda D : Addr}
/-- what is known of the class, of its cell and of the code -/
structure ErrK (P : Program) (K : PySem.W.Frag) (mg : Str → Option Value) (D cc cda : Addr) : Prop where
  oex : OexC K D
  cell : ∃ cl cld csl, K.lookup cc = some ⟨cl, cld, .cell (some (.ref D)), csl⟩
  code : ∃ ccl cdd vs ccs file tf, K.lookup cda = some ⟨ccl, cdd, .fields vs, ccs⟩ ∧ vs[2]? = some (.str file tf) ∧ ((P.main.file : Str) == file) = true
  sup : PySem.W.ks_superIn K D D "__init__" = some (some (.builtin "ValueError.__init__"))
  ve : PySem.W.subIn K (.ref D) (.type "ValueError") = some true
  self : PySem.W.mroIn K D (.ref D) = some true
  opq : PySem.W.nsIn K cStatics "thirdparty.any" = some none
  mgs : mg "super" = none
  top : (P.main.scope.names.lookup ("super" : Str)).isSome = false
theorem one_look {cc c : Addr} {y : Str} (hy : List.lookup y [(("__class__" : Str), cc)] = some c) : y = "__class__" ∧ c = cc := by
  simp only [List.lookup] at hy
  split at hy
  · rename_i q
    exact ⟨eq_of_beq q, (Option.some.inj hy).symm⟩
  · cases hy
theorem exo_self {H : Hp} {a D : Addr} (e : H a = some (exo a D none)) : upd H a (exo a D none) = H := by
  funext b
  by_cases hb : b = a
  · rw [hb, upd_same, e]
  · rw [upd_ne hb]
theorem fn_err {N ps : List Str} {sp : Sp} {name qual : Str} {params : Arguments} {scope : Scope} {rest : List Stmt} {p0 p1 p2 p3 p4 : Pos} {e : Expr} {es : List Expr} {ar : Arg} {dV kV doc pm ct oc : Value} {an od : Option Addr} {osl : Array (Option Value)} (T : ErrK P K mg D cc cda)
    (lk : K.lookup f = some ⟨oc, od, .func (PySem.W.fnX name qual params (supS p0 p1 p2 p3 p4 e es :: rest) scope [("__class__", cc)] dV kV doc pm an (.ref cda) ct), osl⟩) (hcd : PySem.W.codeIn K (.ref cda) qual = true)
    (S : NScope N ps ["__class__"] scope) (hp : (params.posonlyargs ++ params.args).head? = some ar) (hps : ps[0]? = some ar.arg) (hks : scope.names.lookup ("super" : Str) = some .globalImplicit)
    (len : ∀ vs H Q E, sp vs H Q E → vs.length = ps.length)
    (hbody : ∀ (A : Around) (outer : List Env) (s : Shared) (H : Hp) (vs : List V) (Q : VK) (E : XK), Room k (A.deeper (envF (supF name qual params (supS p0 p1 p2 p3 p4 e es :: rest) scope cc cda) f s.heap.objs.size)) → sp vs H Q E →
      ∃ (a : Addr) (ta : TA) (t : TS), vs[0]? = some (.ref a) ∧ H a = some (exo a D none) ∧
        PA (ncx CX P w K mg base N (supF name qual params (supS p0 p1 p2 p3 p4 e es :: rest) scope cc cda) f A outer s H E) (e :: es) ta ∧
        PSs (ncx CX P w K mg base N (supF name qual params (supS p0 p1 p2 p3 p4 e es :: rest) scope cc cda) f A outer s H E) rest t ∧
        ta (startF N vs [none]) H fun ws H1 => ws.length ≤ 1000 ∧ H1 a = some (exo a D none) ∧ t { nx := fun _ H' => Q .non H', rt := Q } (startF N vs [none]) H1)
    (he : ∀ env : Env, starEach (e :: es) env = (false, eval e env) :: starEach es env := by intro _; rfl) (hpl : ∀ env : Env, (backTo p3 (starEach es env)).any (·.1) = false := by intro _; rfl) {pl : Sem Bool}
    (hev : ∀ env : Env, eval (.Call (.Attribute (.Call (.Name "super" p0) [] [] p1) "__init__" p2) (e :: es) [] p3) env = (do
      let ov ← attributeBase (.Call (.Name "super" p0) [] [] p1) "__init__" env (eval (.Call (.Name "super" p0) [] [] p1) env)
      standAt p2.atName
      let (f, first) ← holding [ov] (getMethod ov "__init__" pl)
      callWith p3 f first (backTo p3 (starEach (e :: es) env)) []) := by intro _; rfl) :
    FnOk P w K mg base CX (k + 1) f (PySem.W.fnX name qual params (supS p0 p1 p2 p3 p4 e es :: rest) scope [("__class__", cc)] dV kV doc pm an (.ref cda) ct) ps sp := by
  refine ⟨len, fun A outer s H args us vs Q E hr e0 hb r hsp => ?_⟩
  have hl := len _ _ _ _ hsp
  have kpb : ∀ b o, base.get? b = some o → s.heap.get? b = some o := fun b o e => (e0.bs b o e).1
  have KX : K.In s.heap := e0.mod.kin.keeps kpb
  have lim : s.heap.NoLimit := e0.mod.nolimit.keeps kpb
  obtain ⟨cl, cld, csl, hcell⟩ := T.cell
  obtain ⟨ccl, cdd, cvs, ccs, file, tf, hcode, hvs, hfile⟩ := T.code
  have hcc : H cc = none := (e0.bs _ _ (e0.mod.kin _ _ hcell)).2
  refine PySem.ks_codeAny_call_defAt (binds := ps.zip us) hr.depth (KX _ _ lk) rfl lim (PySem.W.codeRec_of KX hcd) rfl hb S.nocell (fun ⟨n, _⟩ hy => S.par n (List.of_mem_zip hy).1) (fun h₁ hns kp => ?_) S.co S.gen S.kind
  show PySem.wpAt (model P w) (A.deeper (envF (supF name qual params (supS p0 p1 p2 p3 p4 e es :: rest) scope cc cda) f s.heap.objs.size)) (.func (supS p0 p1 p2 p3 p4 e es :: rest) (envF (supF name qual params (supS p0 p1 p2 p3 p4 e es :: rest) scope cc cda) f s.heap.objs.size)) (execs (supS p0 p1 p2 p3 p4 e es :: rest) (envF (supF name qual params (supS p0 p1 p2 p3 p4 e es :: rest) scope cc cda) f s.heap.objs.size)) _ _ _
  obtain ⟨a, ta, t, ea, eHa, ha, ht, hq⟩ := hbody A outer s H vs Q E (hr.deeper _) hsp
  have C : CellsAt [(("__class__" : Str), cc)] ["__class__"] [none] s.heap H := by
    refine ⟨rfl, fun y c hy => ?_, fun x y c h1 h2 => ?_, fun i y hi => ?_⟩
    · obtain ⟨rfl, rfl⟩ := one_look hy
      exact ⟨hcc, _, ⟨_, KX _ _ hcell, rfl⟩⟩
    · rw [(one_look h1).1, (one_look h2).1]
    · have : y = "__class__" ∧ i = 0 := by
        cases i with
        | zero => exact ⟨(Option.some.inj hi).symm, rfl⟩
        | succ i => simp at hi
      obtain ⟨rfl, rfl⟩ := this
      exact ⟨cc, by simp [List.lookup], fun v hv => by cases hv⟩
  have I := inv_startN (CX := CX) (E := E) (F := supF name qual params (supS p0 p1 p2 p3 p4 e es :: rest) scope cc cda) (f := f) (tk := s.toks + (ps.zip us).length) S hr.hd e0 hl r C hns kp
  have kc : (envF (supF name qual params (supS p0 p1 p2 p3 p4 e es :: rest) scope cc cda) f s.heap.objs.size).kindOf "__class__" = some .free := S.frk _ List.mem_cons_self
  obtain ⟨nm, qq, NN, bs, bm, sn, sub, ab, col, dd, k0, k1, k2, k3, k5, hC, hbm⟩ := T.oex.cls
  have hcl : PySem.W.clsIn K D = some { name := nm, bases := bs, mro := .ref D :: bm, ns := NN, qualname := qq, hasDict := true, slotNames := sn, subclasses := sub, abstract := ab, collection := col, hasDel := false } := by unfold PySem.W.clsIn; rw [hC] <;> rfl
  have K1 : K.In h₁ := KX.keeps kp
  obtain ⟨t1, hoa⟩ := exo_at I.hok eHa
  have hoa : h₁.get? a = some ({ cls := .ref D, dict := none, data := .fields #[.ref t1, .none, .none, .none, .bool false, .none] } : Obj) := hoa
  have IA : PySem.W.InstAt h₁ a { cls := .ref D, dict := none, data := .fields #[.ref t1, .none, .none, .none, .bool false, .none] } D none := ⟨hoa, rfl, rfl, trivial⟩
  have u0 : us[0]? = some (.ref a) := by
    obtain ⟨u, hu, ru⟩ := r.get ea
    rw [hu]
    exact congrArg some ru
  have ndP : ps.Nodup := by
    have q := S.nd.sublist (List.take_sublist (ps.length + (["__class__"] : List Str).length) N)
    rw [S.pre] at q
    exact (List.nodup_append.mp q).1
  have hself : (fun y => (ps.zip us).reverse.lookup y) ar.arg = some (.ref a) := zip_look ndP hps u0
  refine PySem.ks_wpAt_execs_cons (PySem.ks_wpAt_Expr_any (PySem.ks_wpAt_MethodCall (pl := pl) ?_ (hev _)) ?hi)
  case hi =>
    unfold interactive
    simp [S.kind]
  refine PySem.ks_wpAt_super_base hks kc (by decide) rfl (kp _ _ (KX _ _ lk)) rfl hp rfl (kp _ _ (KX _ _ hcode)) rfl hvs hfile T.top ?_
  obtain ⟨mb, b1, b2⟩ := I.mod.blt
  refine PySem.W.ks_loadName_global S.kind hks (Calls.loadGlobal_builtin (show Heap.Ns _ mainGlobals mg from I.mod.glob.keeps I.bk) T.mgs (show Heap.Ns _ builtinsNs mb from b1.keeps I.bk) ((b2 "super" (by decide)).trans PyProof.Rows.Boot.«super») ⟨rfl, ?_⟩)
  refine wpAny_loadName_free S.kind kc rfl ⟨_, kp _ _ (KX _ _ hcell), rfl⟩ ?_
  refine wpAny_loadName_local S.kind (S.par _ (List.mem_of_getElem? hps)) hns hself ?_
  refine PySem.ks_wpAny_isType_cls (K1 _ _ hC) rfl ⟨rfl, ?_⟩
  refine PySem.ks_wpAny_call_super (K1 _ _ hC) rfl hoa rfl (fun c z => nomatch z) (PySem.W.looks_mroIn K1 T.self) (fun h2 e2 kk2 => ?_)
  have K2 : K.In h2 := K1.keeps kk2
  have hm := T.sup
  unfold PySem.W.ks_superIn at hm
  rw [hcl] at hm
  have IA2 : PySem.W.InstAt h2 a { cls := .ref D, dict := none, data := .fields #[.ref t1, .none, .none, .none, .bool false, .none] } D none := ⟨kk2 _ _ hoa, rfl, rfl, trivial⟩
  refine PySem.W.kxs_getMethod PySem.W.kxs_ValueError e2 (PySem.W.looks_opaque K2 T.opq) (l₀ := .ref D :: bm) (fun A Q E s k q => wpAny_bind ((PySem.W.looks_clsIn K2 hcl) A _ E s k (wpAny_pure q))) rfl K2 hm (IA2.type.andThen (PySem.W.looks_subIn K2 T.ve)) (PySem.W.ks_ne K2 IA2 hcl) (by decide) ?_
  have nu : H h2.objs.size = none := (I.kept (h' := h2) (t' := s.toks + (ps.zip us).length) kk2).hok.fresh (Nat.le_refl _)
  have I2 : Inv (ncx CX P w K mg base N (supF name qual params (supS p0 p1 p2 p3 p4 e es :: rest) scope cc cda) f A outer s H E) [] (startF N vs [none]) H { heap := h2, gens := s.gens, drawn := s.drawn, toks := s.toks + (ps.zip us).length, os := s.os } := I.kept kk2
  have hmw : (h2.push (PySem.W.kxs_mw "ValueError.__init__" a)).get? h2.objs.size = some (PySem.W.kxs_mw "ValueError.__init__" a) := Heap.get?_push_at rfl rfl
  have I3 : Inv (ncx CX P w K mg base N (supF name qual params (supS p0 p1 p2 p3 p4 e es :: rest) scope cc cda) f A outer s H E) [] (startF N vs [none]) H { heap := h2.push (PySem.W.kxs_mw "ValueError.__init__" a), gens := s.gens, drawn := s.drawn, toks := s.toks + (ps.zip us).length + 1, os := s.os } := I2.kept fun _ _ z => Heap.get?_push_of_some _ z
  have F2 := I2.fpOk (Nat.le_refl _) nu
  have I4 := I3.pinned (fp := [h2.objs.size]) (fun b hb => by rw [List.mem_singleton.mp hb]; exact F2) (fun b hb => by rw [List.mem_singleton.mp hb]; exact ⟨_, hmw, fun v z => nomatch z⟩)
  show wpAny _ _ (callWith p3 (.ref h2.objs.size) [] (backTo p3 (starEach (e :: es) _)) []) _ _ _
  refine PySem.W.kxs_callWith (i := "ValueError.__init__") (x := a) (by rw [he]; show (false || (backTo p3 (starEach es _)).any (·.1)) = false; rw [hpl]; rfl) ?_
  have run := ha.run p3 _ _ (startF N vs [none]) H _ I4 hq
  rw [he] at run ⊢
  refine Calls.evalArgs_plain (thn run fun ws s5 ⟨zs, H5, I5, r5, lz, e5, q5⟩ => ?_)
  have hu5 : s5.heap.get? h2.objs.size = some (PySem.W.kxs_mw "ValueError.__init__" a) := (I5.pin (h2.objs.size, PySem.W.kxs_mw "ValueError.__init__" a) (List.mem_append_right _ (List.mem_append_right _ (mem_pinsAt List.mem_cons_self hmw)))).1
  refine ⟨hu5, ?_⟩
  obtain ⟨t5, ho5⟩ := exo_at I5.hok e5
  have K5 := I5.kIn
  have lw : ws.length ≤ sizeLine := by
    rw [← Paired.length r5]
    exact Nat.le_of_lt (small1000 lz)
  refine wpAny_call (codeAny_of_tree ?_)
  show wpAny _ _ (callAny (.ref h2.objs.size) ⟨ws, []⟩) _ _ _
  simp only [callAny]
  obtain ⟨hh, g5, d5, tk5, os5⟩ := s5
  refine wpAny_bind (wpAny_load hu5 ?_)
  simp only [PySem.W.kxs_mw, show (Value.type "method-wrapper" == Value.type "method" || Value.type "method-wrapper" == Value.type "builtin_function_or_method" || Value.type "method-wrapper" == Value.type "method-wrapper") = true by decide, if_true]
  refine PySem.W.KFB.if_so (by decide) ?_
  refine wpAny_bind (PySem.W.check_bound_init F.excBase_ValueError.toExcCallFacts (K5 _ _ hC) ho5 rfl ?_)
  refine wpAny_bind (wpAny_pure (wpAny_pure ?_))
  refine ⟨plainId_quiet F.excBase_ValueError.init.plain _, codeAny_builtin F.excBase_ValueError.initEntry ?_⟩
  refine PySem.W.exc_init_tree (cls := .ref D) (t0 := t5) (dv := none) (c2 := .none) (c3 := .none) (b4 := .bool false) ho5 lw (fun h6 k6 e6 _ => ?_)
  have J := I5.write (t' := tk5) (h' := h6) (x := a) (e := a) (o := exo a D none) (by rw [e5]; exact True.intro) (.inl rfl) k6 ⟨_, e6⟩ (exo_ok e6)
  rw [exo_self e5] at J
  have J := J.unpinned
  refine PySem.wpAt_of_wpAny ?_
  refine wpAny_mono (ht.run [] _ (startF N vs [none]) H5 _ J q5) (fun fl s' hs => ?_) fun e s' hs => hs
  have fin : ∀ {σ' : L2.St} {H' : Hp} {v : V} {u : Value}, Inv (ncx CX P w K mg base N (supF name qual params (supS p0 p1 p2 p3 p4 e es :: rest) scope cc cda) f A outer s H E) [] σ' H' s' → L2.RelV v u → Q v H' → CE outer P w H s Q u s' :=
    fun {σ' H' v u} J rv q => ⟨v, H', J.os, J.bare, J.base, J.hok, rv, q⟩
  cases fl with
  | ret u =>
    obtain ⟨v, σ', H', J, rv, q⟩ := hs
    exact fin J rv q
  | next =>
    obtain ⟨σ', H', J, q⟩ := hs
    exact fin (v := V.non) (u := Value.none) J rfl q
  | brk =>
    obtain ⟨_, _, _, q⟩ := hs
    exact False.elim q
  | cont =>
    obtain ⟨_, _, _, q⟩ := hs
    exact False.elim q
end
end Own

/-! The promise of an own error's __init__; raising it. -/
namespace Own
open PySem PySem.Spec PyProof.Rows L2 NdefX
/-- an int that is written in a text -/
def Shw (v : V) : Prop := ∃ i : Int, v = .int i ∧ i.natAbs.log2 < 1000
theorem log_lt {i : Int} {k : Nat} (hk : 0 < k) (h : i.natAbs < 2 ^ k) : i.natAbs.log2 < k := by
  by_cases h0 : i.natAbs = 0
  · rw [h0, Nat.log2_zero]
    exact hk
  · exact (Nat.log2_lt h0).mpr h
theorem Shw.of {i : Int} (h0 : -(2 ^ 64) < i) (h1 : i < 2 ^ 64) : Shw (.int i) := ⟨i, rfl, Nat.lt_of_lt_of_le (log_lt (k := 64) (by decide) (by omega)) (by decide)⟩
theorem txt_len {i : Int} (h : i.natAbs.log2 < 1000) : (Str.ofString (toString i)).length ≤ 1001 := by
  rw [PySem.ofString_length]
  exact int_text_length_le (by decide) h
/-- the error's own dict by its fields -/
def flE (nm : List Str) (ys : List V) : List (Str × V) := (nm.zip ys).reverse
def spErr (D : Addr) (nm : List Str) : Sp := fun vs H Q _ => ∃ (a : Addr) (ys : List V), vs = .ref a :: ys ∧ ys.length = nm.length ∧ (∀ y ∈ ys, Shw y) ∧ H a = some (exo a D none) ∧
  ∀ d H', H d = none → d ≠ a → (∀ b, H' b = if b = d then some (exd d (flE nm ys)) else if b = a then some (exo a D (some d)) else H b) → Q .non H'
/-- what the class must say besides, that its instances can be raised -/
structure ErrT (K : PySem.W.Frag) (mg : Str → Option Value) (x : Str) (D f : Addr) : Prop where
  g : mg x = some (.ref D)
  i : PySem.W.findIn K (.ref D) "__init__" = some (some (.ref f))
  t : PySem.W.typeIn K (.ref f) = some (.type "function")
section
variable {P : Program} {w : World} {K : PySem.W.Frag} {mg : Str → Option Value} {base : Heap} {X : Cx}
/-- the reading of X(..) that is raised -/
theorem rd_err {D : Addr} {nm : List Str} {ys : List V} {H : Hp} {Q : XK} (hl : ys.length = nm.length) (hz : nm.length ≤ 1000) (hs : ∀ y ∈ ys, Shw y) (q : ∀ d, H d = none → Q (.ref D) (some d) (upd H d (.xd (flE nm ys)))) :
    ys.length ≤ 1000 ∧ ∀ a, H a = none → spErr D nm (.ref a :: (ys ++ [])) (upd H a (exo a D none)) (fun v H2 => v = .non ∧ ∃ (d : Addr) (fs : List (Str × V)), H2 a = some (exo a D (some d)) ∧ H2 d = some (exd d fs) ∧ H d = none ∧ Q (.ref D) (some d) (upd (del H2 a) d (.xd fs))) (fun _ _ _ => False) := by
  refine ⟨by omega, fun a na => ⟨a, ys, by rw [List.append_nil], hl, hs, upd_same, fun d H' nd ne h => ⟨rfl, d, flE nm ys, ?_, ?_, ?_, ?_⟩⟩⟩
  · rw [h, if_neg ne.symm, if_pos rfl]
  · rw [h, if_pos rfl]
  · rw [upd_ne ne] at nd
    exact nd
  · have : upd (del H' a) d (.xd (flE nm ys)) = upd H d (.xd (flE nm ys)) := by
      funext b
      by_cases hb : b = d
      · rw [hb, upd_same, upd_same]
      · rw [upd_ne hb, upd_ne hb]
        by_cases ha : b = a
        · rw [ha, del_same, na]
        · rw [del_ne ha, h, if_neg hb, if_neg ha, upd_ne ha]
    rw [this]
    rw [upd_ne ne] at nd
    exact q d nd
/-- raise X(e, ..) -/
theorem ps_err {W : WX} {x : Str} {D f : Addr} {k : Nat} {fd : FuncData} {ps nm : List Str} {e : Expr} {es : List Expr} {ta : TA} {p pos pos' : Pos} (hc : X.calm = true) (tk : Takes X W) (T : OexC X.K D) (R : ErrT X.K X.mg x D f) (F1 : FnOk X.prog X.w X.K X.mg X.base CX0 k f fd ps (spErr D nm)) (hr : Room (k + 1) X.A)
    (hb : Binds X.K fd ps []) (hg : Gl X x) (ha : PA X (e :: es) ta) (hdb : (x == ("__debug__" : Str)) = false := by decide) (he : starEach (e :: es) X.env = (false, eval e X.env) :: starEach es X.env := by rfl) (hpl : (backTo pos (starEach es X.env)).any (·.1) = false := by rfl) :
    PS X (.Raise (some (.Call (.Name x p) (e :: es) [] pos)) none pos') (fun _ σ H => tMkO D (spErr D nm) [] ta σ H fun cls d H' => W cls d σ H') :=
  ps_raise hc tk (pmk_oex T R.i R.t F1 hr hb .nil pass0 hg R.g ha hdb he hpl)
end
/-- the text of an error's __init__ -/
abbrev inErr (st : Stmt) : Stmt := inClass st 0
section
variable {P : Program} {w : World} {K : PySem.W.Frag} {mg : Str → Option Value} {base : Heap} {D cc cda f : Addr}
theorem upd2 {H : Hp} {a d : Addr} {o u : HO} (b : Addr) (ne : d ≠ a) : (upd (upd H d o) a u) b = if b = d then some o else if b = a then some u else H b := by
  by_cases hb : b = d
  · rw [if_pos hb, hb, upd_ne ne, upd_same]
  · rw [if_neg hb]
    by_cases ha : b = a
    · rw [if_pos ha, ha, upd_same]
    · rw [if_neg ha, upd_ne ha, upd_ne hb]
end
end Own

/-! More rules: list.count of data, the operator in by an own class, isinstance of a caught error that has fields. -/
namespace Own
open PySem PySem.Spec PyProof.Rows L2
section
variable {X : Cx}
/-- xs.count(x), items that are plain data: some number -/
def rCntD (K : PySem.W.Frag) : V → List V → Hp → VK → Prop := fun x xs H Q => ∃ (a : Addr) (y : V) (d : PyData) (ds : List PyData), x = V.ref a ∧ xs = [y] ∧ Dp K H (V.ref a) (.list ds) ∧ Dp K H y d ∧ PyData.plainAll ds = true ∧ d.plain = true ∧ d.depth ≤ 60 ∧ ∀ n : Nat, Q (.int (n : Int)) H
theorem mt_lcountD (room : X.A.units + 65 < cLine) : MtR X "list.count" (rCntD X.K) := by
  intro pins s σ H whole args u us Q inv rw_ ra ask
  obtain ⟨a, y, d, ds, rfl, rfl, lis, one, pl, pd, few, q⟩ := ask
  cases rw_
  obtain ⟨w, rfl, rw1⟩ := vals1 ra
  obtain ⟨bs, rd⟩ := Dp.reads inv d y w one rw1
  cases lis with
  | lst seq all =>
    obtain ⟨its, vals, obj, _⟩ := inv.list seq
    obtain ⟨as, rds⟩ := Dp.readsAll inv ds _ its all vals
    refine PySem.SeqAt.count_list_data obj.isList rds rd pl pd (by omega) ?_
    exact ⟨.int (_ : Nat), H, inv.tok _, ⟨_, rfl⟩, q _⟩
/-- x in o, o of an own class with its own rule for it -/
def tOwnIn (C : Addr) (sp : Sp) (E : L2.St → XK) (ta tb : TE) : TE := fun σ H Q => ta σ H fun x H1 => tb σ H1 fun y H2 => ∃ a dx fs, y = .ref a ∧ H2 a = some (.ins C dx fs) ∧ sp [.ref a, x] H2 (fun v H3 => ∃ b, v = .bl b ∧ Q (.bl b) H3) (E σ)
theorem pe_ownIn {CX : CXT} {k : Nat} {C g : Addr} {fd : FuncData} {ps : List Str} {sp : Sp} {E : L2.St → XK} {a b : Expr} {ta tb : TE} {pos : Pos} (hs : PySem.W.findIn X.K (.ref C) "__contains__" = some (some (.ref g))) (hf : PySem.W.isFn X.K (.ref g) = true)
    (F : FnOk X.prog X.w X.K X.mg X.base CX k g fd ps sp) (hr : Room k X.A) (hb : Binds X.K fd ps []) (hx : ∀ σ, PassesAt CX X σ (E σ)) (ha : PE X a ta) (hb' : PE X b tb) (hm : behindInMarks .In b = false := by rfl) : PE X (.Compare a [.In] [b] pos) (tOwnIn C sp E ta tb) := by
  refine ⟨fun pins s σ H Q I h => ?_⟩
  refine wpAny_Compare1 (binT (R := fun x y H2 => ∃ a dx fs, y = .ref a ∧ H2 a = some (.ins C dx fs) ∧ sp [.ref a, x] H2 (fun v H3 => ∃ b, v = .bl b ∧ Q (.bl b) H3) (E σ)) ha hb' I h fun v u s2 x y H2 I2 rx ry q => ?_) hm
  obtain ⟨p, dx, fs, rfl, hp, q⟩ := q
  cases (show u = Value.ref p from ry)
  obtain ⟨mA, O, _, _, _, _⟩ := ins_get I2.hok hp
  obtain ⟨od, J, _⟩ := O.look
  obtain ⟨m, hF⟩ := I2.fr
  refine PySem.W.in_K hF I2.ok.mod.kin J hs hf ?_
  refine wpAny_mono (run_fnS (us := [.ref p, v]) (vs := [.ref p, x]) F hr hb (hx σ) I2 (.cons rfl (.cons rx .nil)) q) (fun w s' z => ?_) fun _ _ x => x
  obtain ⟨z', H', I', rz, b, rfl, qz⟩ := z
  cases rz
  exact wpAny_truthy_bool ⟨.bl b, H', I', rfl, qz⟩
end
end Own
namespace Own
open PySem PySem.Spec PyProof.Rows L2
/-- isinstance(e, c), e the caught error of the class D, its dict at d -/
def rIsD (K : PySem.W.Frag) (D a d : Addr) : List V → Hp → VK → Prop := fun xs H Q => ∃ (c : V) (cv : Value) (b : Bool) (fs : List (Str × V)), xs = [.ref a, c] ∧ H d = some (.xd fs) ∧ (∀ u, RelV c u → u = cv) ∧ PySem.W.kitOne K (.ref D) cv = some b ∧ Q (.bl b) H
theorem call_isD {X : Cx} {a D d : Addr} {oe : Obj} {pn : List (Addr × Obj)} (C : ExcC X.K D) (hz : Zc (.ref D) (some d) oe) (hf : ∃ vs, oe.data = .fields vs) : CallR (X.suite a ((a, oe) :: pn)) (.builtin "isinstance") (rIsD X.K D a d) := by
  intro pins s σ H xs us Q I r h
  obtain ⟨c, cv, b, fs, rfl, hd, hcv, e, q⟩ := h
  cases r with
  | cons rx rr =>
    cases rr with
    | cons rt rr =>
      cases rr
      cases rx
      have ec := hcv _ rt
      subst ec
      obtain ⟨hget, _⟩ := I.pin (a, oe) (List.mem_append.mpr (.inl List.mem_cons_self))
      obtain ⟨vs, hv⟩ := hf
      have hx : ObjOk X.prog X.w H s.heap d (.xd fs) := I.hok d _ hd
      obtain ⟨mA, hns, _⟩ := hx
      obtain ⟨od, ho, _⟩ := lookIn_ns hns
      have J : PySem.W.InstAt s.heap a oe D (some od) := ⟨hget, hz.1, by unfold PySem.W.notCls; rw [hv] <;> rfl, by rw [hz.2]; exact ho⟩
      exact PySem.W.kia_one (PySem.W.kitx_exc (ox := oe) (od := some od) (by obtain ⟨cd, hc, _⟩ := PySem.W.any_some C.hd; rw [hc]; rfl) C.hg C.hk C.hs C.ha C.hn C.ht C.hm) I.kIn J e (fun z => nomatch z) fun tk => ⟨.bl b, H, I.kept (t' := tk) fun _ _ z => z, rfl, q⟩
end Own

/-! Own errors raised where nothing is handled (their context is None), so that defs may be called where they are caught. -/
namespace Own
open PySem PySem.Spec PyProof.Rows L2 NdefX
section
variable {X : Cx} {pins : List (Addr × Obj)} {σ : L2.St} {H : Hp} {s : Shared} {Q : XK} {D f : Addr} {k : Nat} {fd : FuncData} {ps nm : List Str} {ys : List V} {us : List Value} {x : Str}
/-- the call of the class -/
theorem err_made (T : OexC X.K D) (R : ErrT X.K X.mg x D f) (F1 : FnOk X.prog X.w X.K X.mg X.base CX0 k f fd ps (spErr D nm)) (hr : Room (k + 1) X.A) (hb : Binds X.K fd ps []) (I : Inv X pins σ H s) (r : Vals ys us) (hl : ys.length = nm.length) (hz : nm.length ≤ 1000)
    (hs : ∀ y ∈ ys, Shw y) (q : ∀ d, H d = none → Q (.ref D) (some d) (upd H d (.xd (flE nm ys)))) : wpAny (model X.prog X.w) X.A (call (.ref D) us) (L2N.MkP X pins σ Q) X.xe s := by
  obtain ⟨nn, qq, N, bs, bm, sn, sub, ab, col, dd, k0, k1, k2, k3, k5, hC, hbm⟩ := T.cls
  obtain ⟨hp, g, dr, tk, os⟩ := s
  -- where the error comes to stand
  have far : hp.objs.size ≤ hp.objs.size + 1 := Nat.le_succ _
  have free : H (hp.objs.size + 1) = none := I.hok.fresh far
  obtain ⟨_, ask⟩ := rd_err (D := D) hl hz hs q
  have ask := ask _ free
  rw [List.append_nil] at ask
  have old : ∀ b o, hp.get? b = some o → ((hp.push (PySem.W.kdv_tup us)).push (PySem.HandSPX.excO D hp.objs.size)).get? b = some o := fun b o e => Heap.get?_push_of_some _ (Heap.get?_push_of_some _ e)
  have here : ((hp.push (PySem.W.kdv_tup us)).push (PySem.HandSPX.excO D hp.objs.size)).get? (hp.objs.size + 1) = some (PySem.HandSPX.excO D hp.objs.size) := by heap_get
  have J : Inv X pins σ (upd H (hp.objs.size + 1) (exo (hp.objs.size + 1) D none)) ⟨(hp.push (PySem.W.kdv_tup us)).push (PySem.HandSPX.excO D hp.objs.size), g, dr, tk, os⟩ := I.laid (t' := tk) (a := hp.objs.size + 1) (o := exo (hp.objs.size + 1) D none) old far (exo_ok here)
  have vals : Vals (V.ref (hp.objs.size + 1) :: ys) (Value.ref (hp.objs.size + 1) :: us) := .cons rfl r
  have len : (Value.ref (hp.objs.size + 1) :: us).length = ps.length := by
    rw [← vals.length]
    exact F1.len _ _ _ _ ask
  have few : us.length ≤ sizeLine := by
    rw [← Paired.length r, hl]
    exact Nat.le_trans hz (by decide)
  have bind := hb _ (Value.ref (hp.objs.size + 1) :: us) J.kIn (by rw [List.append_nil]; exact len)
  rw [List.append_nil] at bind
  have run := F1.run _ X.stack _ _ ⟨Value.ref (hp.objs.size + 1) :: us, []⟩ _ _ _ (fun _ _ _ => False) (hr.make D us []) (J.env0.make D us []) bind vals ask
  refine wpAny_call (PySem.HandSPX.call_own F.excBase_ValueError (fun Y => PySem.HandSPX.refsVE_contains Y bm hbm) (I.kIn _ _ hC) (PySem.W.looks_findIn I.kIn R.i) (fun self => PySem.W.bind_fn I.kIn self R.t) few (codeAny_mono run fun res s' back => ?_))
  cases res with
  | error er => exact back.elim
  | ok fl =>
    cases fl with
    | ret u =>
      obtain ⟨v, H2, os2, bare2, un2, hok2, rv, ev, d, fs, ea, ed, hd1, q2⟩ := back
      subst ev
      obtain ⟨h2, g2, d2, t2, os'⟩ := s'
      obtain ⟨t0, G, K1, kG, ge, hoe, na⟩ := mk_end0 (d2 := d2) (t2 := t2) I far old un2 hok2 os2 bare2 ea ed hd1
      exact ⟨rv, hp.objs.size + 1, _, _, ⟨G, g2, d2, t2, os'⟩, _, .ref D, some d, rfl, K1, kG, ge, hoe, ⟨rfl, rfl, fun vs e => by cases e; rfl⟩, rfl, rfl, na, rfl, bare2, raises_own T.exC T.tyC, q2⟩
    | next => exact back.elim
    | brk => exact back.elim
    | cont => exact back.elim
end
/-- raise X(e, ..): the fields are shown -/
def tErr (D : Addr) (nm : List Str) (ta : TA) : L2.St → Hp → XK → Prop := fun σ H Q => ta σ H fun ys H1 => ys.length = nm.length ∧ nm.length ≤ 1000 ∧ (∀ y ∈ ys, Shw y) ∧ ∀ d, H1 d = none → Q (.ref D) (some d) (upd H1 d (.xd (flE nm ys)))
section
variable {X : Cx} {W : WX} {x : Str} {D f : Addr} {k : Nat} {fd : FuncData} {ps nm : List Str} {e : Expr} {es : List Expr} {ta : TA} {p pos pos' : Pos}
theorem pmk_err (T : OexC X.K D) (R : ErrT X.K X.mg x D f) (F1 : FnOk X.prog X.w X.K X.mg X.base CX0 k f fd ps (spErr D nm)) (hr : Room (k + 1) X.A) (hb : Binds X.K fd ps []) (hg : Gl X x) (ha : PA X (e :: es) ta)
    (hdb : (x == ("__debug__" : Str)) = false := by decide)
    (he : starEach (e :: es) X.env = (false, eval e X.env) :: starEach es X.env := by rfl)
    (hpl : (backTo pos (starEach es X.env)).any (·.1) = false := by rfl) :
    L2N.PMk X (.Call (.Name x p) (e :: es) [] pos) (tErr D nm ta) := by
  intro pins s σ H Q I h
  refine wpAny_Call_Name_kw (ld_glob I hg R.g ?_ hdb)
  refine PySem.W.callWith_K (h₀ := X.base) I.ok.mod.kin T.kC (thn (ha.run pos pins s σ H _ I h) fun us s1 ⟨ys, H1, I1, r, hl, hz, hs, q⟩ => ⟨I1.kIn, ?_⟩) he hpl
  exact err_made T R F1 hr hb I1 r hl hz hs q
theorem ps_errN (hc : X.calm = true) (tk : L2N.Takes X W) (T : OexC X.K D) (R : ErrT X.K X.mg x D f) (F1 : FnOk X.prog X.w X.K X.mg X.base CX0 k f fd ps (spErr D nm)) (hr : Room (k + 1) X.A) (hb : Binds X.K fd ps []) (hg : Gl X x) (ha : PA X (e :: es) ta)
    (hdb : (x == ("__debug__" : Str)) = false := by decide)
    (he : starEach (e :: es) X.env = (false, eval e X.env) :: starEach es X.env := by rfl)
    (hpl : (backTo pos (starEach es X.env)).any (·.1) = false := by rfl) :
    PS X (.Raise (some (.Call (.Name x p) (e :: es) [] pos)) none pos') (fun _ σ H => tErr D nm ta σ H fun cls d H' => W cls d σ H') :=
  L2N.ps_raise hc tk (pmk_err T R F1 hr hb hg ha hdb he hpl)
/-- nothing is let out -/
theorem passN : Passes (L2N.CX X.prog X.w) X E0 := fun _ _ _ _ _ _ _ ⟨_, _, _, _, _, _, _, _, _, _, _, _, z⟩ => z.elim
theorem takesN : L2N.Takes X (fun _ _ _ _ => False) := fun _ _ ⟨_, _, _, _, _, _, _, _, _, _, _, _, _, _, _, _, z⟩ => z.elim
theorem pass0A {σ : L2.St} : PassesAt CX0 X σ E0 := fun pins H s e s' I h => pass0 pins σ H s e s' I h
end
section
variable {P : Program} {w : World} {K : PySem.W.Frag} {mg : Str → Option Value} {base : Heap}
/-- a def that may raise, by its body -/
theorem okN {x qual : Str} {st : Stmt} {f : Addr} {fd : FuncData} {N ps : List Str} {k : Nat} {sp : Sp} (F : Fun K x qual st f fd) (S : FnScope N ps (defScope st)) (len : ∀ vs H Q E, sp vs H Q E → vs.length = ps.length)
    (hbody : ∀ (cdv : Value) (A : Around) (outer : List Env) (s : Shared) (H : Hp) (vs : List V) (Q : VK) (E : XK), Room k (A.deeper (envOfC qual (defScope st) s.heap.objs.size f cdv)) → sp vs H Q E →
      ∃ t, PSs (cxOf (L2N.CX P w) P w K mg base N qual (defScope st) f cdv A outer s H E) (defBody st) t ∧ t { nx := fun _ H' => Q .non H', rt := Q } (start N vs) H) : FnOk P w K mg base (L2N.CX P w) (k + 1) f fd ps sp := by
  obtain ⟨_, _, _, _, _, _, cdv, _, _, rfl, lk, hcd⟩ := F.ex
  exact fn_of lk hcd S len (hbody cdv)
/-- a def called where an error is handled, by its body; it raises nothing -/
theorem okH {x qual : Str} {st : Stmt} {f : Addr} {fd : FuncData} {N ps : List Str} {k : Nat} {sp : Sp} (F : Fun K x qual st f fd) (S : FnScope N ps (defScope st)) (len : ∀ vs H Q E, sp vs H Q E → vs.length = ps.length)
    (hbody : ∀ (cdv : Value) (A : Around) (outer : List Env) (s : Shared) (H : Hp) (vs : List V) (Q : VK) (E : XK) (p : Addr × Obj), L2H.HotC (L2H.cxH CX0 P w K mg base N qual (defScope st) f cdv A outer s H E p).nox → L2H.RoomH k (A.deeper (envOfC qual (defScope st) s.heap.objs.size f cdv)) → sp vs H Q E →
      ∃ t, PSs (L2H.cxH CX0 P w K mg base N qual (defScope st) f cdv A outer s H E p).nox (defBody st) t ∧ t { nx := fun _ H' => Q .non H', rt := Q } (start N vs) H) : L2H.FnH P w K mg base CX0 (k + 1) f fd ps sp := by
  obtain ⟨_, _, _, _, _, _, cdv, _, _, rfl, lk, hcd⟩ := F.ex
  refine L2H.fn_ofH lk hcd S len fun A outer s H vs Q E p hot hr h => ?_
  obtain ⟨t, ht, q⟩ := hbody cdv A outer s H vs Q E p ⟨p, hot, List.mem_cons_self⟩ hr h
  exact ⟨t, ht.nox, q⟩
end
/-- isinstance(e, c), e the caught error -/
def rIsX (K : PySem.W.Frag) (D a : Addr) (cls : Value) (d : Option Addr) : List V → Hp → VK → Prop := fun xs H Q => cls = .ref D ∧ ∃ (dd : Addr) (c : V) (cv : Value) (b : Bool) (fs : List (Str × V)), d = some dd ∧ xs = [.ref a, c] ∧ H dd = some (.xd fs) ∧ (∀ u, RelV c u → u = cv) ∧ PySem.W.kitOne K (.ref D) cv = some b ∧ Q (.bl b) H
theorem call_isX {X : Cx} {a D : Addr} {oe : Obj} {cls : Value} {d : Option Addr} {pn : List (Addr × Obj)} (C : ExcC X.K D) (hz : Zc cls d oe) (hf : ∃ vs, oe.data = .fields vs) : CallR (X.suite a ((a, oe) :: pn)) (.builtin "isinstance") (rIsX X.K D a cls d) := by
  intro pins s σ H xs us Q I r h
  obtain ⟨ec, dd, c, cv, b, fs, ed, ex, hd, hcv, e, q⟩ := h
  subst ec ed
  exact call_isD C hz hf pins s σ H xs us Q I r ⟨c, cv, b, fs, ex, hd, hcv, e, q⟩
/-- the suite's context bears the handled error -/
theorem hotS {X : Cx} {a : Addr} {oe : Obj} {cls : Value} {d : Option Addr} {pn : List (Addr × Obj)} (hz : L2N.Zn cls d oe) (hf : ∃ vs, oe.data = .fields vs) : L2H.HotC (X.suite a ((a, oe) :: pn)) := by
  obtain ⟨vs, e⟩ := hf
  exact ⟨(a, oe), ⟨rfl, vs, e, hz.2.2 vs e⟩, List.mem_cons_self⟩
end Own

/-! What a value looks like in an error's text, whatever is under way: some text of bounded length. -/
namespace Own
open PySem PySem.Spec PyProof.Rows L2
section
variable {prog : Program} {w : World} {A : Around} {E : Value → Shared → Prop} {s : Shared} {a : Addr} {oa : Obj} {x : Value} {l : List Value} {na : Nat} {ts : List Str}
/-- repr of a list of plain things -/
theorem shown_list {Q : Value → Shared → Prop} (hTy : s.TypeIs (.ref a) "list") (ha : s.heap.get? a = some oa) (hda : oa.data = .seq (x :: l).toArray na) (hlen : ts.length = (x :: l).toArray.size)
    (hT : ∀ (i : Nat) (y : Value), (x :: l).toArray[i]? = some y → ∃ t, ts[i]? = some t ∧ ReprIs prog w y t) (hsz : (listText ts).length ≤ sizeLine)
    (hQ : ∀ h' m u tk, (∀ b o, s.heap.get? b = some o → h'.get? b = some o) → m.length ≤ (listText ts).length + 5 → Q (.str m u) { s with heap := h', toks := tk }) : wpAny (model prog w) A (call (.builtin "list.__repr__") [.ref a]) Q E s := by
  refine wpAny_call (codeAny_call_builtin F.slot_list_repr.plain F.entry_list_repr (F.slot_list_repr.check _ _ _ _ _ _ _ _ hTy (F.args_list_repr_1 _) ?_))
  show wpAny _ _ (Builtin.listReprAt 0 ⟨[.ref a], []⟩) _ _ s
  unfold Builtin.listReprAt
  refine wpAny_bind (wpAny_of_eq (a := ((Value.ref a : Value), ([] : List Value))) (by first | rfl | (simp only [slotArgs]; rfl)) ?_)
  refine wpAny_bind (wpAny_listItems ha hda ?_)
  rw [if_neg (by simp)]
  refine wpAny_bind (wpAny_stack_any fun st => ?_)
  generalize (st.tail.any fun x => match x with
    | (.builtin "list.__repr__.loop" ⟨v :: _, _⟩, _) => Builtin.List.listSameRef v (.ref a)
    | _ => false) = running
  show wpAny _ _ (if running = true then _ else _) _ _ _
  cases running with
  | true =>
    refine PySem.W.KFB.if_so rfl ?_
    refine wpAny_bind (wpAny_rule ?_)
    refine wpAny_bind (wpAny_mkStr (wpAny_pure ?_) (by decide +kernel))
    exact hQ s.heap _ _ _ (fun _ _ e => e) (Nat.le_trans (show ("[...]" : Str).length ≤ 5 by decide +kernel) (Nat.le_add_left _ _))
  | false =>
    refine PySem.W.KFB.if_not rfl ?_
    refine wpAny_bind (m := newList []) (wpAny_newObj_type ?_)
    refine wpAny_pure ⟨F.quiet_list_repr_loop _, ?_⟩
    refine codeAny_list_repr_start (P := s.heap.objs.size) (b := 0) (Nat.ne_of_lt (Heap.lt_size ha)) hlen hT (Heap.get?_push_of_some _ ha) hda (Heap.get?_push_size _ rfl) (fun h' u tk hk => ?_) (by omega)
    exact hQ h' _ u tk (fun b o e => hk b o (Nat.ne_of_lt (Heap.lt_size e)) (Heap.get?_push_of_some _ e)) (Nat.le_add_right _ _)
/-- .. as an object's text -/
theorem obj_list {Q : Value → Shared → Prop} (hu : A.units < cLine) (hTy : s.TypeIs (.ref a) "list") (ha : s.heap.get? a = some oa) (hda : oa.data = .seq (x :: l).toArray na) (hlen : ts.length = (x :: l).toArray.size)
    (hT : ∀ (i : Nat) (y : Value), (x :: l).toArray[i]? = some y → ∃ t, ts[i]? = some t ∧ ReprIs prog w y t) (hsz : (listText ts).length ≤ sizeLine)
    (hQ : ∀ h' m u tk, (∀ b o, s.heap.get? b = some o → h'.get? b = some o) → m.length ≤ (listText ts).length + 5 → Q (.str m u) { s with heap := h', toks := tk }) : wpAny (model prog w) A (pyReprObj (.ref a)) Q E s :=
  wpAny_pyReprObj_slot hu hTy F.slot_list_repr.toG (shown_list hTy ha hda hlen hT hsz fun h' m u tk k hm => ⟨m, u, rfl, hQ h' m u tk k hm⟩)
theorem obj_tuple {Q : Value → Shared → Prop} (hu : A.units < cLine) (ha : s.heap.get? a = some oa) (hc : oa.cls = .type "tuple") (hda : oa.data = .seq (x :: l).toArray na) (hT : ReprAll prog w (x :: l) ts) (hsz : (tupleText ts).length ≤ sizeLine)
    (hQ : ∀ m u tk, m.length ≤ (tupleText ts).length + 5 → Q (.str m u) { s with toks := tk }) : wpAny (model prog w) A (pyReprObj (.ref a)) Q E s :=
  wpAny_pyReprObj_slot hu ⟨oa, ha, hc⟩ F.slot_tuple_repr (fmt_tuple_repr ha hc hda hT hsz fun m u tk hm => ⟨m, u, rfl, hQ m u tk hm⟩)
end
/-- what can be written in an error's text -/
def ShoV (K : PySem.W.Frag) (H : Hp) (v : V) : Prop :=
  (∃ i : Int, v = .int i ∧ i.natAbs.log2 < 1000) ∨ (∃ b : Bool, v = .bl b) ∨ v = .non ∨ (∃ y : Str, v = .str y ∧ (reprText y).length ≤ 1000) ∨
  (∃ (p : Addr) (i : Int), v = .ref p ∧ (SqL K H p [.int i] ∨ SqT K H p [.int i]) ∧ i.natAbs.log2 < 1000)
section
variable {X : Cx}
/-- {x!r}: some text -/
def tFmtS (K : PySem.W.Frag) (te : TE) : TE := fun σ H Q => te σ H fun x H1 => ShoV K H1 x ∧ ∀ y : Str, y.length ≤ 2000 → Q (.str y) H1
theorem len_list1 (t : Str) : (listText [t]).length ≤ t.length + 2 := by
  show ((((("[" : Str) ++ (("" : String) : Str)) ++ t) ++ ("]" : Str)) : Str).length ≤ _
  rw [strLen_append, strLen_append, strLen_append]
  have h1 : ("[" : Str).length = 1 := by decide +kernel
  have h2 : ("]" : Str).length = 1 := by decide +kernel
  have h3 : ((("" : String) : Str)).length = 0 := by decide +kernel
  omega
theorem len_tuple1 (t : Str) : (tupleText [t]).length ≤ t.length + 3 := by
  show (((("(" : Str) ++ Str.join ", " [t]) ++ ((",)" : String) : Str)) : Str).length ≤ _
  rw [strLen_append, strLen_append]
  have h1 : ("(" : Str).length = 1 := by decide +kernel
  have h2 : ((",)" : String) : Str).length = 2 := by decide +kernel
  have h3 := join_length_add [t] (by simp)
  have h4 : piled [t] = t.length + 2 := by simp [piled]
  omega
theorem pe_fmtS {k : Nat} {e : Expr} {te : TE} {pos : Pos} (room : Room k X.A) (he : PE X e te) : PE X (.FormattedValue e 114 none pos) (tFmtS X.K te) := by
  refine ⟨fun pins s σ H Q inv ask => ?_⟩
  refine wpAny_FormattedValue_repr (thn (he.run pins s σ H _ inv ask) fun v s1 hv => ?_)
  obtain ⟨x, H1, I1, r1, sho, q⟩ := hv
  have room0 := room.units0
  have put : ∀ (m : Str) (t : Tok) (s2 : Shared), m.length ≤ 2000 → Inv X pins σ H1 s2 → wpAny (model X.prog X.w) X.A (formatField (.str m t) Str.empty) (EP X pins σ Q) X.xe s2 := fun m t s2 hm J =>
    wpAny_formatField_str ⟨.str m, H1, J, ⟨_, rfl⟩, q m hm⟩ ⟨.str m, H1, J.tok _, ⟨_, rfl⟩, q m hm⟩ (Nat.le_trans hm (by decide))
  rcases sho with ⟨i, rfl, hi⟩ | ⟨b, rfl⟩ | rfl | ⟨y, rfl, hy⟩ | ⟨p, i, rfl, hp, hi⟩
  · obtain ⟨t, rfl⟩ := r1
    exact pyReprObj_int (by omega) (put _ _ _ (Nat.le_trans (txt_len hi) (by decide)) (I1.tok _))
  · cases (show v = Value.bool b from r1)
    exact pyReprObj_bool (put _ _ _ (by cases b <;> decide +kernel) (I1.tok _))
  · cases (show v = Value.none from r1)
    exact pyReprObj_none (put _ _ _ (by decide +kernel) (I1.tok _))
  · obtain ⟨t, rfl⟩ := r1
    exact pyReprObj_str (put _ _ _ (by omega) (I1.tok _)) (Nat.le_trans hy (by decide))
  · cases (show v = Value.ref p from r1)
    have hl := txt_len hi
    rcases hp with hp | hp
    · obtain ⟨its, rv, obj, _⟩ := I1.list hp
      obtain ⟨u, rfl, t, rfl⟩ := vals1 rv
      obtain ⟨⟨oc, od, dt, sl⟩, ho, hc, n, hd⟩ := obj.isList
      have h2 := len_list1 (Str.ofString (toString i))
      refine obj_list (ts := [Str.ofString (toString i)]) room0 ⟨_, ho, hc⟩ ho hd rfl (fun j y hj => ?_) (Nat.le_trans (show _ ≤ 1100 by omega) (by decide)) fun h' m u tk kp hm => put m u _ (by omega) (I1.kept (t' := tk) kp)
      match j, hj with
      | 0, hj =>
        cases hj
        exact ⟨_, rfl, ReprIs.int t (by omega)⟩
    · obtain ⟨its, rv, ⟨o, ho, hc, n, hd⟩, _⟩ := I1.tuple hp
      obtain ⟨u, rfl, t, rfl⟩ := vals1 rv
      have h2 := len_tuple1 (Str.ofString (toString i))
      exact obj_tuple (ts := [Str.ofString (toString i)]) room0 ho hc hd (.cons (ReprIs.int t (by omega)) .nil) (Nat.le_trans (show _ ≤ 1100 by omega) (by decide)) fun m u tk hm => put m u _ (by omega) (I1.tok _)
end
end Own

/-! Own errors whose fields are values of many kinds. -/
namespace Own
open PySem PySem.Spec PyProof.Rows L2 NdefX
theorem ShoV.keep {K : PySem.W.Frag} {H H' : Hp} {v : V} (s : ∀ b o, H b = some o → H' b = some o) (h : ShoV K H v) : ShoV K H' v := by
  rcases h with h | h | h | h | ⟨p, i, rfl, h, hi⟩
  · exact .inl h
  · exact .inr (.inl h)
  · exact .inr (.inr (.inl h))
  · exact .inr (.inr (.inr (.inl h)))
  · refine .inr (.inr (.inr (.inr ⟨p, i, rfl, ?_, hi⟩)))
    rcases h with ((h | ⟨o, h⟩) | h) | ((h | ⟨o, h⟩) | h)
    · exact .inl (.inl (.inl (s _ _ h)))
    · exact .inl (.inl (.inr ⟨o, s _ _ h⟩))
    · exact .inl (.inr h)
    · exact .inr (.inl (.inl (s _ _ h)))
    · exact .inr (.inl (.inr ⟨o, s _ _ h⟩))
    · exact .inr (.inr h)
theorem ShoV.int {K : PySem.W.Frag} {H : Hp} {i : Int} (h0 : -(2 ^ 64) < i) (h1 : i < 2 ^ 64) : ShoV K H (.int i) := by
  obtain ⟨j, e, h⟩ := Shw.of h0 h1
  cases e
  exact .inl ⟨i, rfl, h⟩
theorem ShoV.bl {K : PySem.W.Frag} {H : Hp} (b : Bool) : ShoV K H (.bl b) := .inr (.inl ⟨b, rfl⟩)
theorem ShoV.non {K : PySem.W.Frag} {H : Hp} : ShoV K H .non := .inr (.inr (.inl rfl))
/-- the promise of its __init__ -/
def spErrV (K : PySem.W.Frag) (D : Addr) (nm : List Str) : Sp := fun vs H Q _ => ∃ (a : Addr) (ys : List V), vs = .ref a :: ys ∧ ys.length = nm.length ∧ (∀ y ∈ ys, ShoV K H y) ∧ H a = some (exo a D none) ∧
  ∀ d H', H d = none → d ≠ a → (∀ b, H' b = if b = d then some (exd d (flE nm ys)) else if b = a then some (exo a D (some d)) else H b) → Q .non H'
section
variable {X : Cx} {pins : List (Addr × Obj)} {σ : L2.St} {H : Hp} {s : Shared} {Q : XK} {D f : Addr} {k : Nat} {fd : FuncData} {ps nm : List Str} {ys : List V} {us : List Value} {x : Str}
/-- what is asked of the class when it is called -/
theorem ask_err {K : PySem.W.Frag} (hl : ys.length = nm.length) (hs : ∀ y ∈ ys, ShoV K H y) (q : ∀ d, H d = none → Q (.ref D) (some d) (upd H d (.xd (flE nm ys)))) {a : Addr} (na : H a = none) :
    spErrV K D nm (.ref a :: ys) (upd H a (exo a D none)) (fun v H2 => v = .non ∧ ∃ (d : Addr) (fs : List (Str × V)), H2 a = some (exo a D (some d)) ∧ H2 d = some (exd d fs) ∧ H d = none ∧ Q (.ref D) (some d) (upd (del H2 a) d (.xd fs))) (fun _ _ _ => False) := by
  refine ⟨a, ys, rfl, hl, fun y hy => (hs y hy).keep fun b o e => ?_, upd_same, fun d H' nd ne h => ⟨rfl, d, flE nm ys, ?_, ?_, ?_, ?_⟩⟩
  · by_cases hb : b = a
    · rw [hb, na] at e
      cases e
    · rw [upd_ne hb]
      exact e
  · rw [h, if_neg ne.symm, if_pos rfl]
  · rw [h, if_pos rfl]
  · rw [upd_ne ne] at nd
    exact nd
  · have : upd (del H' a) d (.xd (flE nm ys)) = upd H d (.xd (flE nm ys)) := by
      funext b
      by_cases hb : b = d
      · rw [hb, upd_same, upd_same]
      · rw [upd_ne hb, upd_ne hb]
        by_cases ha : b = a
        · rw [ha, del_same, na]
        · rw [del_ne ha, h, if_neg hb, if_neg ha, upd_ne ha]
    rw [this]
    rw [upd_ne ne] at nd
    exact q d nd
/-- the call of the class -/
theorem err_madeV (T : OexC X.K D) (R : ErrT X.K X.mg x D f) (F1 : FnOk X.prog X.w X.K X.mg X.base CX0 k f fd ps (spErrV X.K D nm)) (hr : Room (k + 1) X.A) (hb : Binds X.K fd ps []) (I : Inv X pins σ H s) (r : Vals ys us) (hl : ys.length = nm.length) (hz : nm.length ≤ 1000)
    (hs : ∀ y ∈ ys, ShoV X.K H y) (q : ∀ d, H d = none → Q (.ref D) (some d) (upd H d (.xd (flE nm ys)))) : wpAny (model X.prog X.w) X.A (call (.ref D) us) (L2N.MkP X pins σ Q) X.xe s := by
  obtain ⟨nn, qq, N, bs, bm, sn, sub, ab, col, dd, k0, k1, k2, k3, k5, hC, hbm⟩ := T.cls
  obtain ⟨hp, g, dr, tk, os⟩ := s
  have far : hp.objs.size ≤ hp.objs.size + 1 := Nat.le_succ _
  have free : H (hp.objs.size + 1) = none := I.hok.fresh far
  have ask := ask_err (D := D) hl hs q free
  have old : ∀ b o, hp.get? b = some o → ((hp.push (PySem.W.kdv_tup us)).push (PySem.HandSPX.excO D hp.objs.size)).get? b = some o := fun b o e => Heap.get?_push_of_some _ (Heap.get?_push_of_some _ e)
  have here : ((hp.push (PySem.W.kdv_tup us)).push (PySem.HandSPX.excO D hp.objs.size)).get? (hp.objs.size + 1) = some (PySem.HandSPX.excO D hp.objs.size) := by heap_get
  have J : Inv X pins σ (upd H (hp.objs.size + 1) (exo (hp.objs.size + 1) D none)) ⟨(hp.push (PySem.W.kdv_tup us)).push (PySem.HandSPX.excO D hp.objs.size), g, dr, tk, os⟩ := I.laid (t' := tk) (a := hp.objs.size + 1) (o := exo (hp.objs.size + 1) D none) old far (exo_ok here)
  have vals : Vals (V.ref (hp.objs.size + 1) :: ys) (Value.ref (hp.objs.size + 1) :: us) := .cons rfl r
  have len : (Value.ref (hp.objs.size + 1) :: us).length = ps.length := by
    rw [← vals.length]
    exact F1.len _ _ _ _ ask
  have few : us.length ≤ sizeLine := by
    rw [← Paired.length r, hl]
    exact Nat.le_trans hz (by decide)
  have bind := hb _ (Value.ref (hp.objs.size + 1) :: us) J.kIn (by rw [List.append_nil]; exact len)
  rw [List.append_nil] at bind
  have run := F1.run _ X.stack _ _ ⟨Value.ref (hp.objs.size + 1) :: us, []⟩ _ _ _ (fun _ _ _ => False) (hr.make D us []) (J.env0.make D us []) bind vals ask
  refine wpAny_call (PySem.HandSPX.call_own F.excBase_ValueError (fun Y => PySem.HandSPX.refsVE_contains Y bm hbm) (I.kIn _ _ hC) (PySem.W.looks_findIn I.kIn R.i) (fun self => PySem.W.bind_fn I.kIn self R.t) few (codeAny_mono run fun res s' back => ?_))
  cases res with
  | error er => exact back.elim
  | ok fl =>
    cases fl with
    | ret u =>
      obtain ⟨v, H2, os2, bare2, un2, hok2, rv, ev, d, fs, ea, ed, hd1, q2⟩ := back
      subst ev
      obtain ⟨h2, g2, d2, t2, os'⟩ := s'
      obtain ⟨t0, G, K1, kG, ge, hoe, na⟩ := mk_end0 (d2 := d2) (t2 := t2) I far old un2 hok2 os2 bare2 ea ed hd1
      exact ⟨rv, hp.objs.size + 1, _, _, ⟨G, g2, d2, t2, os'⟩, _, .ref D, some d, rfl, K1, kG, ge, hoe, ⟨rfl, rfl, fun vs e => by cases e; rfl⟩, rfl, rfl, na, rfl, bare2, raises_own T.exC T.tyC, q2⟩
    | next => exact back.elim
    | brk => exact back.elim
    | cont => exact back.elim
end
/-- raise X(e, ..) -/
def tErrV (K : PySem.W.Frag) (D : Addr) (nm : List Str) (ta : TA) : L2.St → Hp → XK → Prop := fun σ H Q => ta σ H fun ys H1 => ys.length = nm.length ∧ nm.length ≤ 1000 ∧ (∀ y ∈ ys, ShoV K H1 y) ∧ ∀ d, H1 d = none → Q (.ref D) (some d) (upd H1 d (.xd (flE nm ys)))
section
variable {X : Cx} {W : WX} {x : Str} {D f : Addr} {k : Nat} {fd : FuncData} {ps nm : List Str} {e : Expr} {es : List Expr} {ta : TA} {p pos pos' : Pos}
theorem ps_errV (hc : X.calm = true) (tk : L2N.Takes X W) (T : OexC X.K D) (R : ErrT X.K X.mg x D f) (F1 : FnOk X.prog X.w X.K X.mg X.base CX0 k f fd ps (spErrV X.K D nm)) (hr : Room (k + 1) X.A) (hb : Binds X.K fd ps []) (hg : Gl X x) (ha : PA X (e :: es) ta)
    (hdb : (x == ("__debug__" : Str)) = false := by decide)
    (he : starEach (e :: es) X.env = (false, eval e X.env) :: starEach es X.env := by rfl)
    (hpl : (backTo pos (starEach es X.env)).any (·.1) = false := by rfl) :
    PS X (.Raise (some (.Call (.Name x p) (e :: es) [] pos)) none pos') (fun _ σ H => tErrV X.K D nm ta σ H fun cls d H' => W cls d σ H') := by
  refine L2N.ps_raise hc tk fun pins s σ H Q I h => ?_
  refine wpAny_Call_Name_kw (ld_glob I hg R.g ?_ hdb)
  refine PySem.W.callWith_K (h₀ := X.base) I.ok.mod.kin T.kC (thn (ha.run pos pins s σ H _ I h) fun us s1 ⟨ys, H1, I1, r, hl, hz, hs, q⟩ => ⟨I1.kIn, ?_⟩) he hpl
  exact err_madeV T R F1 hr hb I1 r hl hz hs q
end
end Own

/-! What any plain value looks like in an error's text: lists, tuples and dicts within one another, whatever is under way. -/
namespace Own
open PySem PySem.Spec PyProof.Rows L2
def pil (Bs : List Nat) : Nat := (Bs.map fun b => b + 2).sum
theorem pil_cons (b : Nat) (Bs : List Nat) : pil (b :: Bs) = (b + 2) + pil Bs := by simp [pil]
theorem pil_drop {Bs : List Nat} {i b : Nat} (h : Bs[i]? = some b) : pil (Bs.drop i) = (b + 2) + pil (Bs.drop (i + 1)) := by
  obtain ⟨hi, e⟩ := List.getElem?_eq_some_iff.mp h
  rw [List.drop_eq_getElem_cons hi, pil_cons, e]
theorem listText_le (ts : List Str) : (listText ts).length ≤ piled ts + 2 := by
  have e : (listText ts).length = (textFrom 0 "[" ts).length + 1 := by
    show (textFrom 0 "[" ts ++ "]").length = _
    rw [strLen_append]
    rfl
  rw [e]
  cases ts with
  | nil => decide +kernel
  | cons t r =>
    show (textFrom 1 _ r).length + 1 ≤ _
    rw [textFrom_length_pos r 1 _ (by decide), strLen_append, strLen_append, piled_cons]
    have h1 : ("[" : Str).length = 1 := by decide +kernel
    have h2 : ((if 0 > 0 then ", " else "" : String) : Str).length = 0 := by decide +kernel
    omega
theorem tupleText_le (ts : List Str) : (tupleText ts).length ≤ piled ts + 3 := by
  unfold tupleText
  rw [strLen_append, strLen_append]
  have e1 : ((("(" : String) : Str)).length = 1 := rfl
  have e3 : (((if ts.length == 1 then ",)" else ")" : String) : Str)).length ≤ 2 := by split <;> decide +kernel
  rw [e1]
  by_cases h : ts = []
  · subst h
    have : (Str.join ", " []).length = 0 := by decide +kernel
    omega
  · have := join_length_add ts h
    omega
/-- some text, at most so long -/
def ReprS (prog : Program) (w : World) (h₀ : Heap) (d B : Nat) (x : Value) : Prop :=
  ∀ (base : Nat), base + B ≤ sizeLine → ∀ (A : Around) (E : Value → Shared → Prop) (s : Shared) (Q : Str → Shared → Prop), A.units + d < cLine → (∀ b o, h₀.get? b = some o → s.heap.get? b = some o) →
    (∀ t h' tk, t.length ≤ B → (∀ b o, s.heap.get? b = some o → h'.get? b = some o) → Q t { s with heap := h', toks := tk }) → wpAny (model prog w) A (pyReprUnder base x) Q E s
theorem ReprS.of_is {prog : Program} {w : World} {h₀ : Heap} {d B : Nat} {x : Value} {t : Str} (h : ReprIs prog w x t) (hB : t.length ≤ B) : ReprS prog w h₀ d B x :=
  fun base hb A E s Q _ _ hQ => h base (by omega) A E s Q fun tk => hQ t s.heap tk hB fun _ _ e => e
theorem ReprS.le {prog : Program} {w : World} {h₀ : Heap} {d d' B B' : Nat} {x : Value} (h : ReprS prog w h₀ d B x) (hd : d ≤ d') (hB : B ≤ B') : ReprS prog w h₀ d' B' x :=
  fun base hb A E s Q hu hk hQ => h base (by omega) A E s Q (by omega) hk fun t h' tk ht => hQ t h' tk (Nat.le_trans ht hB)
section
variable {prog : Program} {w : World} {A : Around} {R : Result → Shared → Prop}
theorem loopS {a P : Addr} (hne : a ≠ P) {items : Array Value} {Bs : List Nat} {h₀ : Heap} {d M : Nat} (hu : A.units + (d + 1) < cLine) (hPf : h₀.get? P = none) (hlen : Bs.length = items.size) (hsz : items.size ≤ sizeLine) (hM : M ≤ sizeLine)
    (hT : ∀ (i : Nat) (x : Value), items[i]? = some x → ∃ B, Bs[i]? = some B ∧ ReprS prog w h₀ d B x) :
    ∀ (k i : Nat) (s : Shared) (oa : Obj) (na : Nat) (acc : Array Value) (c : Nat) (done : List (Str × Tok)) (n : Nat), items.size - i = k → i ≤ items.size → (∀ b o, h₀.get? b = some o → s.heap.get? b = some o) →
    s.heap.get? a = some oa → oa.data = .seq items na →
    s.heap.get? P = some { cls := .type "list", dict := none, data := .seq acc c, slots := #[] } → acc.toList = strValues done → done.length = i → n + pil (Bs.drop i) + 1 ≤ sizeLine → piled (done.map (·.1)) + pil (Bs.drop i) + 2 ≤ M →
    (∀ t h' u tk, t.length ≤ M → (∀ b o, b ≠ P → s.heap.get? b = some o → h'.get? b = some o) → R (.ok (.ret (.str t u))) { s with heap := h', toks := tk }) →
    codeAny (model prog w) A (.builtin "list.__repr__.loop" ⟨[.ref a, rawInt i, .ref P, rawInt (n : Int)], []⟩) R s := by
  intro k
  induction k with
  | zero =>
    intro i s oa na acc c done n hk hi hk0 ha hda hP hacc hdone hn hp hR
    have hin : i = items.size := by omega
    refine codeAny_builtin F.entry_list_repr_loop ?_
    show wpAny _ _ (Builtin.«list.__repr__.loop» ⟨[.ref a, .int i 0, .ref P, .int (n : Int) 0], []⟩) _ _ s
    rw [repr_loop_tree]
    refine wpAny_bind (wpAny_listItems ha hda ?_)
    have hnone : items[(i : Int).toNat]? = none := by simp [hin]
    simp only [hnone]
    unfold reprEnd
    refine wpAny_bind (wpAny_listItems hP rfl ?_)
    rw [hacc, repr_fold]
    refine wpAny_bind (wpAny_pure ?_)
    have hl := listText_le (done.map (·.1))
    refine wpAny_bind (wpAny_mkStr (wpAny_pure ?_) (show (listText (done.map (·.1))).length ≤ sizeLine by omega))
    exact hR (listText (done.map (·.1))) s.heap _ _ (by omega) (fun _ _ _ e => e)
  | succ k ih =>
    intro i s oa na acc c done n hk hi hk0 ha hda hP hacc hdone hn hp hR
    have hlt : i < items.size := by omega
    obtain ⟨B, hB, hrep⟩ := hT i items[i] (by simp [hlt])
    have hp1 := pil_drop hB
    refine codeAny_builtin F.entry_list_repr_loop ?_
    show wpAny _ _ (Builtin.«list.__repr__.loop» ⟨[.ref a, .int i 0, .ref P, .int (n : Int) 0], []⟩) _ _ s
    rw [repr_loop_tree]
    refine wpAny_bind (wpAny_listItems ha hda ?_)
    have hsome : items[(i : Int).toNat]? = some items[i] := by simp [hlt]
    simp only [hsome]
    rw [Int.toNat_natCast]
    refine wpAny_bind (wpAny_holding (hrep (n + 1) (by omega) _ _ _ _ (by rw [units_under_list_loop]; omega) hk0 fun t h' tk ht hkp => ?_))
    refine wpAny_bind (wpAny_mkStr ?_ (show t.length ≤ sizeLine by omega))
    refine wpAny_bind ?_
    show wpAny _ _ (updateSeq P _) _ _ _
    have hasz : acc.size ≤ sizeLine := by
      have e1 : acc.toList.length = acc.size := by simp
      have e2 : (strValues done).length = done.length := by simp [strValues]
      rw [hacc] at e1
      omega
    refine wpAny_updateSeq (hkp _ _ hP) rfl (wpAny_pure ⟨F.quiet_list_repr_loop _, ?_⟩) hasz
    have e1 : ((i : Int) + 1) = ((i + 1 : Nat) : Int) := by omega
    rw [e1]
    have e3 : piled ((done ++ [(t, tk)]).map (·.1)) = piled (done.map (·.1)) + (t.length + 2) := by
      rw [List.map_append, piled_append]
      simp [piled]
    refine ih (i + 1) _ oa na (acc.push (.str t tk)) _ (done ++ [(t, tk)]) (n + (t.length + 2)) (by omega) hlt (fun b o e => (Heap.get?_update_other _ _ (fun h : P = b => by rw [← h, hPf] at e; cases e)).trans (hkp _ _ (hk0 _ _ e))) ((Heap.get?_update_other _ _ (fun h : P = a => hne h.symm)).trans (hkp _ _ ha)) hda (Heap.get?_update_self _ (hkp _ _ hP) rfl) (by simp [hacc, strValues]) (by rw [List.length_append, hdone]; rfl) (by omega) (by rw [e3]; omega) fun u' h'' u tk' hl hh => ?_
    exact hR u' h'' u tk' hl fun b o hb e => hh b o hb ((Heap.get?_update_other _ _ (fun h : P = b => hb h.symm)).trans (hkp _ _ e))
theorem list_atS {h₀ : Heap} {d M : Nat} {a : Addr} {oa : Obj} {x : Value} {l : List Value} {na : Nat} {Bs : List Nat} (ha : h₀.get? a = some oa) (hda : oa.data = .seq (x :: l).toArray na) (hlen : Bs.length = (x :: l).toArray.size) (hsz : (x :: l).toArray.size ≤ sizeLine)
    (hT : ∀ (i : Nat) (y : Value), (x :: l).toArray[i]? = some y → ∃ B, Bs[i]? = some B ∧ ReprS prog w h₀ d B y) {s : Shared} {base : Nat} (hu : A.units + (d + 1) < cLine) (hk0 : ∀ b o, h₀.get? b = some o → s.heap.get? b = some o) (hM : M ≤ sizeLine) (hp : pil Bs + 5 ≤ M) (hb : base + M ≤ sizeLine)
    (hR : ∀ t h' u tk, t.length ≤ M → (∀ b o, s.heap.get? b = some o → h'.get? b = some o) → R (.ok (.ret (.str t u))) { s with heap := h', toks := tk }) :
    wpAny (model prog w) A.in1 (Builtin.listReprAt base ⟨[.ref a], []⟩) (fun fin s' => match fin with | .done f => R (.ok f) s' | .again c' => c'.quiet = true ∧ codeAny (model prog w) A c' R s') (fun e s' => R (.error e) s') s := by
  have ha' := hk0 _ _ ha
  have hPf : h₀.get? s.heap.objs.size = none := by
    cases e : h₀.get? s.heap.objs.size with
    | none => rfl
    | some o => exact absurd (Heap.lt_size (hk0 _ _ e)) (Nat.lt_irrefl _)
  unfold Builtin.listReprAt
  refine wpAny_bind (wpAny_of_eq (a := ((Value.ref a : Value), ([] : List Value))) (by first | rfl | (simp only [slotArgs]; rfl)) ?_)
  refine wpAny_bind (wpAny_listItems ha' hda ?_)
  rw [if_neg (by simp)]
  refine wpAny_bind (wpAny_stack_any fun st => ?_)
  generalize (st.tail.any fun x => match x with
    | (.builtin "list.__repr__.loop" ⟨v :: _, _⟩, _) => Builtin.List.listSameRef v (.ref a)
    | _ => false) = running
  show wpAny _ _ (if running = true then _ else _) _ _ _
  cases running with
  | true =>
    refine PySem.W.KFB.if_so rfl ?_
    refine wpAny_bind (wpAny_rule ?_)
    refine wpAny_bind (wpAny_mkStr (wpAny_pure ?_) (by decide +kernel))
    exact hR _ s.heap _ _ (Nat.le_trans (show ("[...]" : Str).length ≤ 5 by decide +kernel) (by omega)) (fun _ _ e => e)
  | false =>
    refine PySem.W.KFB.if_not rfl ?_
    refine wpAny_bind (m := newList []) (wpAny_newObj_type ?_)
    refine wpAny_pure ⟨F.quiet_list_repr_loop _, ?_⟩
    refine loopS (P := s.heap.objs.size) (M := M) (Nat.ne_of_lt (Heap.lt_size ha')) hu hPf hlen hsz hM hT _ 0 _ oa na #[] _ [] base rfl (Nat.zero_le _) (fun b o e => Heap.get?_push_of_some _ (hk0 _ _ e)) (Heap.get?_push_of_some _ ha') hda (Heap.get?_push_size _ rfl) rfl rfl (by rw [List.drop_zero]; omega) (by rw [List.drop_zero]; show 0 + _ + 2 ≤ M; omega) fun t h' u tk ht hk => ?_
    exact hR t h' u tk ht fun b o e => hk b o (Nat.ne_of_lt (Heap.lt_size e)) (Heap.get?_push_of_some _ e)
end
end Own

namespace Own
open PySem PySem.Spec PyProof.Rows L2
inductive AllS (prog : Program) (w : World) (h₀ : Heap) (d : Nat) : List Value → List Nat → Prop
  | nil : AllS prog w h₀ d [] []
  | cons {x : Value} {B : Nat} {l : List Value} {Bs : List Nat} : ReprS prog w h₀ d B x → AllS prog w h₀ d l Bs → AllS prog w h₀ d (x :: l) (B :: Bs)
theorem AllS.len {prog : Program} {w : World} {h₀ : Heap} {d : Nat} : ∀ {l : List Value} {Bs : List Nat}, AllS prog w h₀ d l Bs → Bs.length = l.length
  | _, _, .nil => rfl
  | _, _, .cons _ h => by simp [h.len]
theorem AllS.at_ {prog : Program} {w : World} {h₀ : Heap} {d : Nat} : ∀ {l : List Value} {Bs : List Nat}, AllS prog w h₀ d l Bs → ∀ (i : Nat) (x : Value), l[i]? = some x → ∃ B, Bs[i]? = some B ∧ ReprS prog w h₀ d B x
  | _, _, .nil, _, _, e => by simp at e
  | _, _, .cons h _, 0, _, e => by
    simp at e
    subst e
    exact ⟨_, rfl, h⟩
  | _, _, .cons _ h, i + 1, x, e => by
    obtain ⟨B, e1, r⟩ := h.at_ i x (by simpa using e)
    exact ⟨B, by simpa using e1, r⟩
section
variable {prog : Program} {w : World} {A : Around} {E : Value → Shared → Prop}
theorem foldS {h₀ : Heap} {d : Nat} (hu : A.units + d < cLine) : ∀ (l : List Value) (Bs : List Nat) (acc : Array Str) (n : Nat) (s : Shared) (Q : (Array Str × Nat) → Shared → Prop), AllS prog w h₀ d l Bs → n + pil Bs + 1 ≤ sizeLine →
    (∀ b o, h₀.get? b = some o → s.heap.get? b = some o) → (∀ ts h' tk m, ts.length = l.length → piled ts ≤ pil Bs → (∀ b o, s.heap.get? b = some o → h'.get? b = some o) → Q ⟨acc ++ ts.toArray, m⟩ { s with heap := h', toks := tk }) →
    wpAny (model prog w) A (forIn l (⟨acc, n⟩ : (Array Str × Nat)) tupBody) Q E s := by
  intro l
  induction l with
  | nil =>
    intro Bs acc n s Q hT _ _ h
    cases hT
    have h0 := h [] s.heap s.toks n rfl (Nat.le_refl _) fun _ _ e => e
    simp only [List.forIn_nil]
    exact wpAny_pure (by simpa using h0)
  | cons x l ih =>
    intro Bs acc n s Q hT hn hk0 h
    cases hT with
    | cons hx hl =>
      rename_i B Bs'
      rw [pil_cons] at hn
      rw [List.forIn_cons]
      refine wpAny_bind (wpAny_bind (hx (n + 1) (by omega) _ _ _ _ hu hk0 fun t h' tk ht hkp => wpAny_pure ?_))
      refine ih Bs' (acc.push t) (n + (t.length + 2)) _ Q hl (by omega) (fun b o e => hkp _ _ (hk0 _ _ e)) fun ts h'' tk' m hlen hp hk2 => ?_
      have h1 := h (t :: ts) h'' tk' m (by simp [hlen]) (by rw [piled_cons, pil_cons]; omega) fun b o e => hk2 _ _ (hkp _ _ e)
      simpa using h1
theorem tup_atS {h₀ : Heap} {d M : Nat} {a : Addr} {o : Obj} {items : Array Value} {n : Nat} {Bs : List Nat} {s : Shared} {Qf : Fin → Shared → Prop} {base : Nat} (ha : h₀.get? a = some o) (hd : o.data = .seq items n) (hT : AllS prog w h₀ d items.toList Bs)
    (hu : A.units + d < cLine) (hk0 : ∀ b o, h₀.get? b = some o → s.heap.get? b = some o) (hM : M ≤ sizeLine) (hp : pil Bs + 5 ≤ M) (hb : base + M ≤ sizeLine)
    (hR : ∀ t h' u tk, t.length ≤ M → (∀ b o, s.heap.get? b = some o → h'.get? b = some o) → Qf (.done (.ret (.str t u))) { s with heap := h', toks := tk }) :
    wpAny (model prog w) A (Builtin.tupleReprAt base ⟨[.ref a], []⟩) Qf E s := by
  rw [tuple_repr_tree]
  refine wpAny_bind (fmt_underWay fun b => ?_)
  cases b with
  | true =>
    refine PySem.W.KFB.if_so rfl ?_
    refine wpAny_bind (wpAny_rule ?_)
    refine wpAny_bind (wpAny_mkStr (wpAny_pure ?_) (by decide +kernel))
    exact hR "(...)" s.heap _ _ (Nat.le_trans fmt_way (by omega)) fun _ _ e => e
  | false =>
    refine PySem.W.KFB.if_not rfl ?_
    unfold tupleReprRest Builtin.Tuple.tupleItemsOf
    refine wpAny_bind (wpAny_bind (wpAny_seqItems (hk0 _ _ ha) hd (wpAny_pure ?_)))
    rw [← Array.forIn_toList]
    refine wpAny_bind (foldS hu _ Bs _ _ _ _ hT (by omega) hk0 fun ts h' tk m hlen hpl hkp => ?_)
    have hl := tupleText_le ts
    have e : ts.length = items.size := by simpa using hlen
    have hl2 : (tupleText ts).length ≤ sizeLine := by omega
    refine wpAny_bind (wpAny_mkStr (wpAny_pure ?_) (by simpa [tupleText, e] using hl2))
    have h1 := hR (tupleText ts) h' tk (tk + 1) (by omega) hkp
    simpa [tupleText, e] using h1
end
section
variable {prog : Program} {w : World}
theorem ReprS.list {h₀ : Heap} {d M : Nat} {a : Addr} {oa : Obj} {l : List Value} {na : Nat} {Bs : List Nat} (ha : h₀.get? a = some oa) (hc : oa.cls = .type "list") (hda : oa.data = .seq l.toArray na) (hsz : l.length ≤ 1000)
    (hT : AllS prog w h₀ d l Bs) (hp : pil Bs + 5 ≤ M) : ReprS prog w h₀ (d + 1) M (.ref a) := by
  intro base hb A E s Q hu hk0 hQ
  cases l with
  | nil => exact wpAny_pyReprUnder_ref (by omega) (wpAny_pyReprObjUnder_list_empty ⟨oa, hk0 _ _ ha, hc⟩ (by omega) (hk0 _ _ ha) hda ⟨_, _, rfl, hQ _ s.heap _ (Nat.le_trans (show ("[]" : Str).length ≤ 5 by decide +kernel) (by omega)) fun _ _ e => e⟩)
  | cons x l =>
    refine wpAny_pyReprUnder_ref (by omega) (wpAny_pyReprObjUnder_twin (twin := "list.__repr__.under") ⟨oa, hk0 _ _ ha, hc⟩ F.slot_list_repr.toG rfl (by omega) ?_)
    refine call_twin_plain F.plain_list_repr_under F.entry_list_repr_under F.check_list_repr_under ⟨oa, hk0 _ _ ha, hc⟩ F.slot_list_repr.toG (F.args_list_repr_1 _) ?_
    refine list_atS (M := M) (R := callEnd _ E) ha hda (by simpa using hT.len) (Nat.le_trans (show (x :: l).toArray.size ≤ 1000 by simpa using hsz) (by decide)) (fun i y e => hT.at_ i y (by simpa using e)) hu hk0 (by omega) hp hb fun t h' u tk ht hk => ⟨⟨_, _, rfl⟩, _, _, rfl, hQ t h' tk ht hk⟩
theorem ReprS.tuple {h₀ : Heap} {d M : Nat} {a : Addr} {oa : Obj} {items : Array Value} {na : Nat} {Bs : List Nat} (ha : h₀.get? a = some oa) (hc : oa.cls = .type "tuple") (hda : oa.data = .seq items na)
    (hT : AllS prog w h₀ d items.toList Bs) (hp : pil Bs + 5 ≤ M) : ReprS prog w h₀ (d + 1) M (.ref a) := by
  intro base hb A E s Q hu hk0 hQ
  refine wpAny_pyReprUnder_ref (by omega) (wpAny_pyReprObjUnder_twin (twin := "tuple.__repr__.under") ⟨oa, hk0 _ _ ha, hc⟩ F.slot_tuple_repr rfl (by omega) ?_)
  refine call_twin_own (F.quiet_tuple_repr_under _) F.entry_tuple_repr_under F.check_tuple_repr_under ⟨oa, hk0 _ _ ha, hc⟩ F.slot_tuple_repr (F.args_tuple_repr_1 _) (wpOwn_of_wpAny ?_)
  refine tup_atS (A := A.under (.builtin "tuple.__repr__.under" ⟨[.ref a, rawInt base], []⟩)) (M := M) ha hda hT (by rw [units_under_tuple_repr_under]; omega) hk0 (by omega) hp hb fun t h' u tk ht hk => ⟨⟨_, _, rfl⟩, _, _, rfl, hQ t h' tk ht hk⟩
end
end Own

namespace Own
open PySem PySem.Spec PyProof.Rows L2
inductive EntS (prog : Program) (w : World) (h₀ : Heap) (d : Nat) : List DictEntry → List Nat → Prop
  | nil : EntS prog w h₀ d [] []
  | cons {e : DictEntry} {B C : Nat} {es : List DictEntry} {Bs : List Nat} : ReprS prog w h₀ d B e.key → ReprS prog w h₀ d C e.val → EntS prog w h₀ d es Bs → EntS prog w h₀ d (e :: es) ((B + C + 2) :: Bs)
theorem EntS.len {prog : Program} {w : World} {h₀ : Heap} {d : Nat} : ∀ {l : List DictEntry} {Bs : List Nat}, EntS prog w h₀ d l Bs → Bs.length = l.length
  | _, _, .nil => rfl
  | _, _, .cons _ _ h => by simp [h.len]
theorem EntS.at_ {prog : Program} {w : World} {h₀ : Heap} {d : Nat} : ∀ {l : List DictEntry} {Bs : List Nat}, EntS prog w h₀ d l Bs → ∀ (i : Nat) (e : DictEntry), l[i]? = some e → ∃ B C, Bs[i]? = some (B + C + 2) ∧ ReprS prog w h₀ d B e.key ∧ ReprS prog w h₀ d C e.val
  | _, _, .nil, _, _, e => by simp at e
  | _, _, .cons h k _, 0, _, e => by
    simp at e
    subst e
    exact ⟨_, _, rfl, h, k⟩
  | _, _, .cons _ _ h, i + 1, x, e => by
    obtain ⟨B, C, e1, r⟩ := h.at_ i x (by simpa using e)
    exact ⟨B, C, by simpa using e1, r⟩
theorem dictText_le (ts : List Str) : (dictText ts).length ≤ piled ts + 3 := by
  have e : (dictText ts).length = 1 + (Str.join ", " ts).length + 1 := by
    unfold dictText
    rw [strLen_append, strLen_append]
    rfl
  by_cases h : ts = []
  · subst h
    have : (Str.join ", " []).length = 0 := by decide +kernel
    omega
  · have := join_length_add ts h
    omega
section
variable {prog : Program} {w : World} {A : Around} {E : Value → Shared → Prop}
theorem dict_atS {h₀ : Heap} {d M : Nat} {a : Addr} {o : Obj} {es : Array DictEntry} {n : Nat} {Bs : List Nat} {s : Shared} {Qf : Fin → Shared → Prop} {base : Nat} (ha : h₀.get? a = some o) (hc : o.cls = .type "dict") (hd : o.data = .dict es n) (hsys : (a == sysModules) = false) (hE : EntS prog w h₀ d es.toList Bs)
    (hu : A.units + d < cLine) (hk0 : ∀ b o, h₀.get? b = some o → s.heap.get? b = some o) (hM : M ≤ sizeLine) (hp : pil Bs + 5 ≤ M) (hb : base + M ≤ sizeLine)
    (hR : ∀ t h' u tk, t.length ≤ M → (∀ b o, s.heap.get? b = some o → h'.get? b = some o) → Qf (.done (.ret (.str t u))) { s with heap := h', toks := tk }) :
    wpAny (model prog w) A (Builtin.dictReprAt base ⟨[.ref a], []⟩) Qf E s := by
  have hTy : s.TypeIs (.ref a) "dict" := ⟨o, hk0 _ _ ha, hc⟩
  have hlen : Bs.length = es.size := by simpa using hE.len
  unfold Builtin.dictReprAt
  refine wpAny_bind ?_
  unfold Builtin.Dict.dictSlotNone
  refine wpAny_bind (wpAny_notOrdered_dict hTy ?_)
  show wpAny _ _ (pure (Value.ref a)) _ _ s
  refine wpAny_pure ?_
  rw [dictReprRunning_eq]
  refine wpAny_bind (wpAny_bind (wpAny_stack_any fun st => wpAny_pure ?_))
  generalize st.tail.any (dictGuardF (.ref a)) = running
  cases running with
  | true =>
    refine PySem.W.KFB.if_so rfl ?_
    refine wpAny_bind (wpAny_rule ?_)
    refine wpAny_bind (wpAny_mkStr (wpAny_pure ?_) (by decide +kernel))
    exact hR _ s.heap _ _ (Nat.le_trans (show ("{...}" : Str).length ≤ 5 by decide +kernel) (by omega)) fun _ _ e => e
  | false =>
    refine PySem.W.KFB.if_not rfl ?_
    show wpAny _ _ (Builtin.Dict.addrOf (.ref a) >>= _) _ _ s
    refine wpAny_bind (wpAny_pure ?_)
    show wpAny _ _ (Builtin.Dict.showsAll a >>= _) _ _ s
    unfold Builtin.Dict.showsAll
    rw [if_neg (by rw [hsys]; exact Bool.false_ne_true)]
    refine wpAny_bind (wpAny_pure ?_)
    refine wpAny_bind (wpAny_dictEpoch (hk0 _ _ ha) hd ?_)
    refine wpAny_bind (wpAny_dictEntries (hk0 _ _ ha) hd ?_)
    refine wpAny_bind ?_
    rw [Std.Legacy.Range.forIn_eq_forIn_range']
    simp only [Std.Legacy.Range.size, Nat.sub_zero, Nat.add_sub_cancel, Nat.div_one]
    refine wpAny_forIn_list _
      (fun rest' r s' => ∃ i h' tk ts m, rest' = List.range' i (es.size - i) ∧ i ≤ es.size ∧ r = (⟨List.toArray ts, m⟩ : (Array Str × Nat)) ∧ m + pil (Bs.drop i) + 1 ≤ sizeLine ∧ piled ts + pil (Bs.drop i) + 3 ≤ M ∧ s' = { s with heap := h', toks := tk } ∧ ∀ b o, s.heap.get? b = some o → h'.get? b = some o)
      _ ?_ ?_ _ _ ⟨0, s.heap, s.toks, [], base, by simp, Nat.zero_le _, rfl, by rw [List.drop_zero]; omega, by rw [List.drop_zero]; show 0 + _ + 3 ≤ M; omega, rfl, fun _ _ e => e⟩
    · rintro x rest' _ s' ⟨i, h', tk, ts, m, hr, hi, rfl, hm, hpl, rfl, hkp⟩
      have hlt : i < es.size := by
        rcases Nat.lt_or_ge i es.size with h | h
        · exact h
        · rw [Nat.sub_eq_zero_of_le h] at hr; simp at hr
      obtain ⟨rfl, hrest⟩ : x = i ∧ rest' = List.range' (i + 1) (es.size - (i + 1)) := by
        have e : es.size - i = (es.size - (i + 1)) + 1 := by omega
        rw [e, List.range'_succ] at hr
        injection hr with h1 h2
        exact ⟨h1, h2⟩
      obtain ⟨Bk, Bv, hB, rk, rv⟩ := hE.at_ x es[x] (by simp [hlt])
      have hp1 := pil_drop hB
      refine wpAny_bind (wpAny_dictEntries (hkp _ _ (hk0 _ _ ha)) hd ?_)
      rw [Array.getElem?_eq_getElem hlt]
      refine wpAny_bind (wpAny_holding (wpAny_bind (rk (m + 1) (by omega) _ _ _ _ hu (fun b o e => hkp _ _ (hk0 _ _ e)) fun k h1 t1 hk1l hk1 =>
        wpAny_bind (rv (m + (k.length + 3)) (by omega) _ _ _ _ hu (fun b o e => hk1 _ _ (hkp _ _ (hk0 _ _ e))) fun v h2 t2 hv2l hk2 => wpAny_pure ?_))))
      refine wpAny_bind (wpAny_dictEpoch (hk2 _ _ (hk1 _ _ (hkp _ _ (hk0 _ _ ha)))) hd ?_)
      rw [if_neg (by simp)]
      have e1 : (List.toArray ts).push (k ++ ": " ++ v) = List.toArray (ts ++ [k ++ ": " ++ v]) := by simp
      have hkl : (k ++ ": " ++ v).length = k.length + 2 + v.length := by
        rw [strLen_append, strLen_append]; rfl
      refine wpAny_pure ⟨x + 1, h2, t2, ts ++ [k ++ ": " ++ v], m + (k.length + v.length + 4), hrest, hlt, ?_, by omega, ?_, rfl, fun b o e => hk2 _ _ (hk1 _ _ (hkp _ _ e))⟩
      · rw [e1]
      · have e2 : piled [k ++ ": " ++ v] = k.length + 2 + v.length + 2 := by simp [piled, hkl]
        rw [piled_append, e2]
        omega
    · rintro _ s' ⟨i, h', tk, ts, m, hr, hi, rfl, hm, hpl, rfl, hkp⟩
      have hl := dictText_le ts
      have hl2 : (dictText ts).length ≤ sizeLine := by omega
      refine wpAny_bind (wpAny_mkStr (wpAny_pure ?_) (by simpa [dictText] using hl2))
      have h1 := hR (dictText ts) h' tk (tk + 1) (by omega) hkp
      simpa [dictText] using h1
end
section
variable {prog : Program} {w : World}
theorem ReprS.dict {h₀ : Heap} {d M : Nat} {a : Addr} {oa : Obj} {es : Array DictEntry} {na : Nat} {Bs : List Nat} (ha : h₀.get? a = some oa) (hc : oa.cls = .type "dict") (hda : oa.data = .dict es na) (hsys : (a == sysModules) = false)
    (hT : EntS prog w h₀ d es.toList Bs) (hp : pil Bs + 5 ≤ M) : ReprS prog w h₀ (d + 1) M (.ref a) := by
  intro base hb A E s Q hu hk0 hQ
  refine wpAny_pyReprUnder_ref (by omega) (wpAny_pyReprObjUnder_twin (twin := "dict.__repr__.under") ⟨oa, hk0 _ _ ha, hc⟩ F.slot_dict_repr rfl (by omega) ?_)
  refine call_twin_own (F.quiet_dict_repr_under _) F.entry_dict_repr_under F.check_dict_repr_under ⟨oa, hk0 _ _ ha, hc⟩ F.slot_dict_repr (F.args_dict_repr_1 _) (wpOwn_of_wpAny ?_)
  refine dict_atS (A := A.under (.builtin "dict.__repr__.under" ⟨[.ref a, rawInt base], []⟩)) (M := M) ha hc hda hsys hT (by rw [units_under_dict_repr_under]; omega) hk0 (by omega) hp hb fun t h' u tk ht hk => ⟨⟨_, _, rfl⟩, _, _, rfl, hQ t h' tk ht hk⟩
variable {A : Around} {E : Value → Shared → Prop} {s : Shared}
/-- as an object's text -/
theorem objS_list {d M : Nat} {a : Addr} {oa : Obj} {l : List Value} {na : Nat} {Bs : List Nat} {Q : Value → Shared → Prop} (ha : s.heap.get? a = some oa) (hc : oa.cls = .type "list") (hda : oa.data = .seq l.toArray na) (hsz : l.length ≤ 1000)
    (hT : AllS prog w s.heap d l Bs) (hp : pil Bs + 5 ≤ M) (hM : M ≤ sizeLine) (hu : A.units + (d + 1) < cLine)
    (hQ : ∀ t h' u tk, t.length ≤ M → (∀ b o, s.heap.get? b = some o → h'.get? b = some o) → Q (.str t u) { s with heap := h', toks := tk }) : wpAny (model prog w) A (pyReprObj (.ref a)) Q E s := by
  cases l with
  | nil => exact wpAny_pyReprObj_list_empty ⟨oa, ha, hc⟩ (by omega) ha hda (hQ _ s.heap _ _ (Nat.le_trans (show ("[]" : Str).length ≤ 5 by decide +kernel) (by omega)) fun _ _ e => e)
  | cons x l =>
    refine wpAny_pyReprObj_slot (by omega) ⟨oa, ha, hc⟩ F.slot_list_repr.toG ?_
    refine wpAny_call (codeAny_call_builtin F.slot_list_repr.plain F.entry_list_repr (F.slot_list_repr.check _ _ _ _ _ _ _ _ ⟨oa, ha, hc⟩ (F.args_list_repr_1 _) ?_))
    exact list_atS (base := 0) (M := M) (R := callEnd _ E) ha hda (by simpa using hT.len) (Nat.le_trans (show (x :: l).toArray.size ≤ 1000 by simpa using hsz) (by decide)) (fun i y e => hT.at_ i y (by simpa using e)) hu (fun _ _ e => e) hM hp (by omega) fun t h' u tk ht hk => ⟨_, _, rfl, hQ t h' u tk ht hk⟩
theorem objS_tuple {d M : Nat} {a : Addr} {oa : Obj} {items : Array Value} {na : Nat} {Bs : List Nat} {Q : Value → Shared → Prop} (ha : s.heap.get? a = some oa) (hc : oa.cls = .type "tuple") (hda : oa.data = .seq items na)
    (hT : AllS prog w s.heap d items.toList Bs) (hp : pil Bs + 5 ≤ M) (hM : M ≤ sizeLine) (hu : A.units + (d + 1) < cLine)
    (hQ : ∀ t h' u tk, t.length ≤ M → (∀ b o, s.heap.get? b = some o → h'.get? b = some o) → Q (.str t u) { s with heap := h', toks := tk }) : wpAny (model prog w) A (pyReprObj (.ref a)) Q E s := by
  refine wpAny_pyReprObj_slot (by omega) ⟨oa, ha, hc⟩ F.slot_tuple_repr ?_
  refine wpAny_call (codeAny_call_builtin_own (Code.quiet_builtin _ (by decide +kernel)) F.entry_tuple_repr (F.slot_tuple_repr.check _ _ _ _ _ _ _ _ ⟨oa, ha, hc⟩ (F.args_tuple_repr_1 _) (wpOwn_of_wpAny ?_)))
  refine tup_atS (A := A.under (.builtin "tuple.__repr__" ⟨[.ref a], []⟩)) (base := 0) (M := M) ha hda hT (by rw [units_under_tuple_repr]; omega) (fun _ _ e => e) hM hp (by omega) fun t h' u tk ht hk => ⟨_, _, rfl, hQ t h' u tk ht hk⟩
theorem objS_dict {d M : Nat} {a : Addr} {oa : Obj} {es : Array DictEntry} {na : Nat} {Bs : List Nat} {Q : Value → Shared → Prop} (ha : s.heap.get? a = some oa) (hc : oa.cls = .type "dict") (hda : oa.data = .dict es na) (hsys : (a == sysModules) = false)
    (hT : EntS prog w s.heap d es.toList Bs) (hp : pil Bs + 5 ≤ M) (hM : M ≤ sizeLine) (hu : A.units + (d + 1) < cLine)
    (hQ : ∀ t h' u tk, t.length ≤ M → (∀ b o, s.heap.get? b = some o → h'.get? b = some o) → Q (.str t u) { s with heap := h', toks := tk }) : wpAny (model prog w) A (pyReprObj (.ref a)) Q E s := by
  refine wpAny_pyReprObj_slot (by omega) ⟨oa, ha, hc⟩ F.slot_dict_repr ?_
  refine wpAny_call (codeAny_call_builtin_own (Code.quiet_builtin _ (by decide +kernel)) F.entry_dict_repr (F.slot_dict_repr.check _ _ _ _ _ _ _ _ ⟨oa, ha, hc⟩ (F.args_dict_repr_1 _) (wpOwn_of_wpAny ?_)))
  refine dict_atS (A := A.under (.builtin "dict.__repr__" ⟨[.ref a], []⟩)) (base := 0) (M := M) ha hc hda hsys hT (by rw [units_under_dict_repr]; omega) (fun _ _ e => e) hM hp (by omega) fun t h' u tk ht hk => ⟨_, _, rfl, hQ t h' u tk ht hk⟩
end
end Own

namespace Own
open PySem PySem.Spec PyProof.Rows L2
/-- a number, a truth value, None, a text -/
def Leaf (v : V) : Prop := (∃ i : Int, v = .int i ∧ i.natAbs.log2 < 1000) ∨ (∃ b : Bool, v = .bl b) ∨ v = .non ∨ ∃ y : Str, v = .str y ∧ (reprText y).length ≤ 1000
/-- .. and lists, tuples and dicts of these -/
def ShoD (K : PySem.W.Frag) (H : Hp) : Nat → V → Prop
  | 0, v => Leaf v
  | n + 1, v => ShoD K H n v ∨ (∃ (p : Addr) (xs : List V), v = .ref p ∧ (SqL K H p xs ∨ SqT K H p xs) ∧ xs.length ≤ 8 ∧ ∀ x ∈ xs, ShoD K H n x) ∨
    ∃ (p : Addr) (kvs : List (Key × V)), v = .ref p ∧ H p = some (.dK kvs) ∧ kvs.length ≤ 8 ∧ ∀ kv ∈ kvs, Leaf (kV kv.1) ∧ Leaf kv.2
def bd : Nat → Nat
  | 0 => 1010
  | n + 1 => 10 * bd n + 20000
theorem bd_ge (n : Nat) : 1010 ≤ bd n := by
  induction n with
  | zero => exact Nat.le_refl _
  | succ n ih => show 1010 ≤ 10 * bd n + 20000; omega
theorem leafS {prog : Program} {w : World} {h₀ : Heap} {d : Nat} {v : V} {u : Value} (h : Leaf v) (r : RelV v u) : ReprS prog w h₀ d 1010 u := by
  rcases h with ⟨i, rfl, hi⟩ | ⟨b, rfl⟩ | rfl | ⟨y, rfl, hy⟩
  · obtain ⟨t, rfl⟩ := r
    exact ReprS.of_is (ReprIs.int t (by omega)) (Nat.le_trans (txt_len hi) (by decide))
  · cases (show u = Value.bool b from r)
    exact ReprS.of_is (ReprIs.bool b) (by cases b <;> decide +kernel)
  · cases (show u = Value.none from r)
    exact ReprS.of_is ReprIs.none (by decide +kernel)
  · obtain ⟨t, rfl⟩ := r
    exact ReprS.of_is (ReprIs.str y t (Nat.le_trans hy (by decide))) (by omega)
theorem allS {prog : Program} {w : World} {h₀ : Heap} {d B : Nat} : ∀ {xs : List V} {us : List Value}, Vals xs us → (∀ x ∈ xs, ∀ u, RelV x u → ReprS prog w h₀ d B u) → AllS prog w h₀ d us (List.replicate xs.length B)
  | _, _, .nil, _ => .nil
  | _, _, .cons r t, h => .cons (h _ List.mem_cons_self _ r) (allS t fun x hx => h x (List.mem_cons_of_mem _ hx))
theorem pil_rep (n B : Nat) : pil (List.replicate n B) = n * (B + 2) := by
  induction n with
  | zero => simp [pil]
  | succ n ih => rw [List.replicate_succ, pil_cons, ih, Nat.succ_mul]; omega
theorem entS {prog : Program} {w : World} {h₀ : Heap} {d : Nat} : ∀ {kvs : List (Key × V)} {vs : List (Key × Value)} {es : List DictEntry}, KV kvs vs → Pairs (mixKind prog w) es vs → (∀ kv ∈ kvs, Leaf (kV kv.1) ∧ Leaf kv.2) → EntS prog w h₀ d es (List.replicate kvs.length 2022)
  | _, _, _, .nil, .nil, _ => .nil
  | kv :: kvs, _, _, .cons r t, .cons k e p, h => by
    have hh := h _ List.mem_cons_self
    refine EntS.cons (B := 1010) (C := 1010) ?_ ?_ (entS t p fun x hx => h x (List.mem_cons_of_mem _ hx))
    · rcases keyIs_shape k with ⟨i, t', e1, e2⟩ | ⟨x, t', e1, e2⟩
      · rw [e2]
        refine leafS hh.1 ?_
        rw [r.1, e1]
        exact ⟨t', rfl⟩
      · rw [e2]
        refine leafS hh.1 ?_
        rw [r.1, e1]
        exact ⟨t', rfl⟩
    · rw [e]
      exact leafS hh.2 r.2
section
variable {X : Cx}
theorem shoS {pins : List (Addr × Obj)} {σ : L2.St} {H : Hp} {s : Shared} (I : Inv X pins σ H s) : ∀ (n : Nat) (v : V) (u : Value), ShoD X.K H n v → RelV v u → ReprS X.prog X.w s.heap n (bd n) u
  | 0, v, u, h, r => leafS h r
  | n + 1, v, u, h, r => by
    have ge := bd_ge n
    rcases h with h | ⟨p, xs, rfl, hp, hl, hx⟩ | ⟨p, kvs, rfl, hp, hl, hx⟩
    · exact (shoS I n v u h r).le (Nat.le_succ n) (by show bd n ≤ 10 * bd n + 20000; omega)
    · cases (show u = Value.ref p from r)
      have le : pil (List.replicate xs.length (bd n)) + 5 ≤ bd (n + 1) := by
        rw [pil_rep]
        show _ ≤ 10 * bd n + 20000
        have : xs.length * (bd n + 2) ≤ 8 * (bd n + 2) := Nat.mul_le_mul_right _ hl
        omega
      rcases hp with hp | hp
      · obtain ⟨its, rv, obj, _⟩ := I.list hp
        obtain ⟨⟨oc, od, dt, sl⟩, ho, hc, m, hd⟩ := obj.isList
        have hlen : its.length = xs.length := (Vals.length rv).symm
        exact ReprS.list ho hc hd (by omega) (allS rv fun x hxm u r => shoS I n x u (hx x hxm) r) le
      · obtain ⟨its, rv, ⟨o, ho, hc, m, hd⟩, _⟩ := I.tuple hp
        exact ReprS.tuple ho hc hd (by simpa using allS rv fun x hxm u r => shoS I n x u (hx x hxm) r) le
    · cases (show u = Value.ref p from r)
      obtain ⟨_, hS, vs, kv, o, es, ep, ho, ex, hd, _, pr, _⟩ := I.hok p _ hp
      refine ReprS.dict ho ex.1 hd hS (entS kv pr hx) ?_
      rw [pil_rep]
      show _ ≤ 10 * bd n + 20000
      have : kvs.length * (2022 + 2) ≤ 8 * (2022 + 2) := Nat.mul_le_mul_right _ hl
      omega
/-- {x!r}: some text -/
def tFmtD (K : PySem.W.Frag) (te : TE) : TE := fun σ H Q => te σ H fun x H1 => ShoD K H1 3 x ∧ ∀ y : Str, y.length ≤ 4000000 → Q (.str y) H1
set_option maxHeartbeats 600000 in
theorem pe_fmtD {k : Nat} {e : Expr} {te : TE} {pos : Pos} (room : Room k X.A) (he : PE X e te) : PE X (.FormattedValue e 114 none pos) (tFmtD X.K te) := by
  refine ⟨fun pins s σ H Q inv ask => ?_⟩
  refine wpAny_FormattedValue_repr (thn (he.run pins s σ H _ inv ask) fun v s1 hv => ?_)
  obtain ⟨x, H1, I1, r1, sho, q⟩ := hv
  have un := room.units
  have room0 := room.units0
  have put : ∀ (m : Str) (t : Tok) (s2 : Shared), m.length ≤ 4000000 → Inv X pins σ H1 s2 → wpAny (model X.prog X.w) X.A (formatField (.str m t) Str.empty) (EP X pins σ Q) X.xe s2 := fun m t s2 hm J =>
    wpAny_formatField_str ⟨.str m, H1, J, ⟨_, rfl⟩, q m hm⟩ ⟨.str m, H1, J.tok _, ⟨_, rfl⟩, q m hm⟩ (Nat.le_trans hm (by decide))
  have leaf : ∀ x, Leaf x → RelV x v → wpAny (model X.prog X.w) X.A (pyReprObj v) (fun m s2 => wpAny (model X.prog X.w) X.A (formatField m Str.empty) (EP X pins σ Q) X.xe s2) X.xe s1 := fun x h r1 => by
    rcases h with ⟨i, rfl, hi⟩ | ⟨b, rfl⟩ | rfl | ⟨y, rfl, hy⟩
    · obtain ⟨t, rfl⟩ := r1
      exact pyReprObj_int (by omega) (put _ _ _ (Nat.le_trans (txt_len hi) (by decide)) (I1.tok _))
    · cases (show v = Value.bool b from r1)
      exact pyReprObj_bool (put _ _ _ (by cases b <;> decide +kernel) (I1.tok _))
    · cases (show v = Value.none from r1)
      exact pyReprObj_none (put _ _ _ (by decide +kernel) (I1.tok _))
    · obtain ⟨t, rfl⟩ := r1
      exact pyReprObj_str (put _ _ _ (by omega) (I1.tok _)) (Nat.le_trans hy (by decide))
  have all : ∀ n, n ≤ 3 → ∀ x, ShoD X.K H1 n x → RelV x v → wpAny (model X.prog X.w) X.A (pyReprObj v) (fun m s2 => wpAny (model X.prog X.w) X.A (formatField m Str.empty) (EP X pins σ Q) X.xe s2) X.xe s1 := by
    intro n
    induction n with
    | zero => exact fun _ x h r => leaf x h r
    | succ n ih =>
      intro hn x h r1
      have ge := bd_ge n
      have up : bd (n + 1) ≤ 4000000 := by
        have b0 : bd 0 = 1010 := rfl
        have b1 : bd (0 + 1) = 10 * bd 0 + 20000 := rfl
        have b2 : bd (1 + 1) = 10 * bd (0 + 1) + 20000 := rfl
        have b3 : bd (2 + 1) = 10 * bd (1 + 1) + 20000 := rfl
        have : n = 0 ∨ n = 1 ∨ n = 2 := by omega
        rcases this with e | e | e <;> rw [e] <;> omega
      rcases h with h | ⟨p, xs, rfl, hp, hl, hx⟩ | ⟨p, kvs, rfl, hp, hl, hx⟩
      · exact ih (by omega) x h r1
      · cases (show v = Value.ref p from r1)
        have le : pil (List.replicate xs.length (bd n)) + 5 ≤ bd (n + 1) := by
          rw [pil_rep]
          show _ ≤ 10 * bd n + 20000
          have : xs.length * (bd n + 2) ≤ 8 * (bd n + 2) := Nat.mul_le_mul_right _ hl
          omega
        rcases hp with hp | hp
        · obtain ⟨its, rv, obj, _⟩ := I1.list hp
          obtain ⟨⟨oc, od, dt, sl⟩, ho, hc, m, hd⟩ := obj.isList
          have hlen : its.length = xs.length := (Vals.length rv).symm
          exact objS_list (M := bd (n + 1)) ho hc hd (by omega) (allS rv fun x hxm u r => shoS I1 n x u (hx x hxm) r) le (Nat.le_trans up (by decide)) (by omega) fun t h' u tk ht hk => put t u _ (by omega) (I1.kept (t' := tk) hk)
        · obtain ⟨its, rv, ⟨o, ho, hc, m, hd⟩, _⟩ := I1.tuple hp
          exact objS_tuple (M := bd (n + 1)) ho hc hd (by simpa using allS rv fun x hxm u r => shoS I1 n x u (hx x hxm) r) le (Nat.le_trans up (by decide)) (by omega) fun t h' u tk ht hk => put t u _ (by omega) (I1.kept (t' := tk) hk)
      · cases (show v = Value.ref p from r1)
        obtain ⟨_, hS, vs, kv, o, es, ep, ho, ex, hd, _, pr, _⟩ := I1.hok p _ hp
        have ent : EntS X.prog X.w s1.heap n es.toList (List.replicate kvs.length 2022) := entS kv pr hx
        have le : pil (List.replicate kvs.length 2022) + 5 ≤ bd (n + 1) := by
          rw [pil_rep]
          show _ ≤ 10 * bd n + 20000
          have : kvs.length * (2022 + 2) ≤ 8 * (2022 + 2) := Nat.mul_le_mul_right _ hl
          omega
        have hz : bd (n + 1) ≤ sizeLine := Nat.le_trans up (by decide)
        have hn4 : X.A.units + (n + 1) < cLine := by omega
        have ho' := ex.1
        clear hx pr kv hp
        generalize bd (n + 1) = M at le up hz
        exact objS_dict (M := M) ho ho' hd hS ent le hz hn4 fun t h' u tk ht hk => put t u _ (Nat.le_trans ht up) (I1.kept (t' := tk) hk)
  exact all 3 (Nat.le_refl _) x sho r1
end
end Own

/-! Own errors whose fields are values of many kinds. -/
namespace Own
open PySem PySem.Spec PyProof.Rows L2 NdefX
theorem sq_keep {K : PySem.W.Frag} {H H' : Hp} {p : Addr} {xs : List V} (s : ∀ b o, H b = some o → H' b = some o) (h : SqL K H p xs ∨ SqT K H p xs) : SqL K H' p xs ∨ SqT K H' p xs := by
  rcases h with ((h | ⟨o, h⟩) | h) | ((h | ⟨o, h⟩) | h)
  · exact .inl (.inl (.inl (s _ _ h)))
  · exact .inl (.inl (.inr ⟨o, s _ _ h⟩))
  · exact .inl (.inr h)
  · exact .inr (.inl (.inl (s _ _ h)))
  · exact .inr (.inl (.inr ⟨o, s _ _ h⟩))
  · exact .inr (.inr h)
theorem ShoD.keep {K : PySem.W.Frag} {H H' : Hp} (s : ∀ b o, H b = some o → H' b = some o) : ∀ {n : Nat} {v : V}, ShoD K H n v → ShoD K H' n v
  | 0, _, h => h
  | n + 1, _, .inl h => .inl (h.keep s)
  | n + 1, _, .inr (.inl ⟨p, xs, e, hp, hl, hx⟩) => .inr (.inl ⟨p, xs, e, sq_keep s hp, hl, fun x m => (hx x m).keep s⟩)
  | n + 1, _, .inr (.inr ⟨p, kvs, e, hp, hl, hx⟩) => .inr (.inr ⟨p, kvs, e, s _ _ hp, hl, hx⟩)
theorem ShoD.up {K : PySem.W.Frag} {H : Hp} {n : Nat} {v : V} (h : ShoD K H n v) : ShoD K H (n + 1) v := .inl h
theorem ShoD.leaf {K : PySem.W.Frag} {H : Hp} {v : V} (h : Leaf v) : ∀ n, ShoD K H n v
  | 0 => h
  | n + 1 => .inl (ShoD.leaf h n)
/-- the promise of its __init__ -/
def spErrD (K : PySem.W.Frag) (D : Addr) (nm : List Str) : Sp := fun vs H Q _ => ∃ (a : Addr) (ys : List V), vs = .ref a :: ys ∧ ys.length = nm.length ∧ (∀ y ∈ ys, ShoD K H 3 y) ∧ H a = some (exo a D none) ∧
  ∀ d H', H d = none → d ≠ a → (∀ b, H' b = if b = d then some (exd d (flE nm ys)) else if b = a then some (exo a D (some d)) else H b) → Q .non H'
section
variable {X : Cx} {pins : List (Addr × Obj)} {σ : L2.St} {H : Hp} {s : Shared} {Q : XK} {D f : Addr} {k : Nat} {fd : FuncData} {ps nm : List Str} {ys : List V} {us : List Value} {x : Str}
/-- what is asked of the class when it is called -/
theorem ask_errD {K : PySem.W.Frag} (hl : ys.length = nm.length) (hs : ∀ y ∈ ys, ShoD K H 3 y) (q : ∀ d, H d = none → Q (.ref D) (some d) (upd H d (.xd (flE nm ys)))) {a : Addr} (na : H a = none) :
    spErrD K D nm (.ref a :: ys) (upd H a (exo a D none)) (fun v H2 => v = .non ∧ ∃ (d : Addr) (fs : List (Str × V)), H2 a = some (exo a D (some d)) ∧ H2 d = some (exd d fs) ∧ H d = none ∧ Q (.ref D) (some d) (upd (del H2 a) d (.xd fs))) (fun _ _ _ => False) := by
  refine ⟨a, ys, rfl, hl, fun y hy => (hs y hy).keep fun b o e => ?_, upd_same, fun d H' nd ne h => ⟨rfl, d, flE nm ys, ?_, ?_, ?_, ?_⟩⟩
  · by_cases hb : b = a
    · rw [hb, na] at e
      cases e
    · rw [upd_ne hb]
      exact e
  · rw [h, if_neg ne.symm, if_pos rfl]
  · rw [h, if_pos rfl]
  · rw [upd_ne ne] at nd
    exact nd
  · have : upd (del H' a) d (.xd (flE nm ys)) = upd H d (.xd (flE nm ys)) := by
      funext b
      by_cases hb : b = d
      · rw [hb, upd_same, upd_same]
      · rw [upd_ne hb, upd_ne hb]
        by_cases ha : b = a
        · rw [ha, del_same, na]
        · rw [del_ne ha, h, if_neg hb, if_neg ha, upd_ne ha]
    rw [this]
    rw [upd_ne ne] at nd
    exact q d nd
/-- the call of the class -/
theorem err_madeD (T : OexC X.K D) (R : ErrT X.K X.mg x D f) (F1 : FnOk X.prog X.w X.K X.mg X.base CX0 k f fd ps (spErrD X.K D nm)) (hr : Room (k + 1) X.A) (hb : Binds X.K fd ps []) (I : Inv X pins σ H s) (r : Vals ys us) (hl : ys.length = nm.length) (hz : nm.length ≤ 1000)
    (hs : ∀ y ∈ ys, ShoD X.K H 3 y) (q : ∀ d, H d = none → Q (.ref D) (some d) (upd H d (.xd (flE nm ys)))) : wpAny (model X.prog X.w) X.A (call (.ref D) us) (L2N.MkP X pins σ Q) X.xe s := by
  obtain ⟨nn, qq, N, bs, bm, sn, sub, ab, col, dd, k0, k1, k2, k3, k5, hC, hbm⟩ := T.cls
  obtain ⟨hp, g, dr, tk, os⟩ := s
  have far : hp.objs.size ≤ hp.objs.size + 1 := Nat.le_succ _
  have free : H (hp.objs.size + 1) = none := I.hok.fresh far
  have ask := ask_errD (D := D) hl hs q free
  have old : ∀ b o, hp.get? b = some o → ((hp.push (PySem.W.kdv_tup us)).push (PySem.HandSPX.excO D hp.objs.size)).get? b = some o := fun b o e => Heap.get?_push_of_some _ (Heap.get?_push_of_some _ e)
  have here : ((hp.push (PySem.W.kdv_tup us)).push (PySem.HandSPX.excO D hp.objs.size)).get? (hp.objs.size + 1) = some (PySem.HandSPX.excO D hp.objs.size) := by heap_get
  have J : Inv X pins σ (upd H (hp.objs.size + 1) (exo (hp.objs.size + 1) D none)) ⟨(hp.push (PySem.W.kdv_tup us)).push (PySem.HandSPX.excO D hp.objs.size), g, dr, tk, os⟩ := I.laid (t' := tk) (a := hp.objs.size + 1) (o := exo (hp.objs.size + 1) D none) old far (exo_ok here)
  have vals : Vals (V.ref (hp.objs.size + 1) :: ys) (Value.ref (hp.objs.size + 1) :: us) := .cons rfl r
  have len : (Value.ref (hp.objs.size + 1) :: us).length = ps.length := by
    rw [← vals.length]
    exact F1.len _ _ _ _ ask
  have few : us.length ≤ sizeLine := by
    rw [← Paired.length r, hl]
    exact Nat.le_trans hz (by decide)
  have bind := hb _ (Value.ref (hp.objs.size + 1) :: us) J.kIn (by rw [List.append_nil]; exact len)
  rw [List.append_nil] at bind
  have run := F1.run _ X.stack _ _ ⟨Value.ref (hp.objs.size + 1) :: us, []⟩ _ _ _ (fun _ _ _ => False) (hr.make D us []) (J.env0.make D us []) bind vals ask
  refine wpAny_call (PySem.HandSPX.call_own F.excBase_ValueError (fun Y => PySem.HandSPX.refsVE_contains Y bm hbm) (I.kIn _ _ hC) (PySem.W.looks_findIn I.kIn R.i) (fun self => PySem.W.bind_fn I.kIn self R.t) few (codeAny_mono run fun res s' back => ?_))
  cases res with
  | error er => exact back.elim
  | ok fl =>
    cases fl with
    | ret u =>
      obtain ⟨v, H2, os2, bare2, un2, hok2, rv, ev, d, fs, ea, ed, hd1, q2⟩ := back
      subst ev
      obtain ⟨h2, g2, d2, t2, os'⟩ := s'
      obtain ⟨t0, G, K1, kG, ge, hoe, na⟩ := mk_end0 (d2 := d2) (t2 := t2) I far old un2 hok2 os2 bare2 ea ed hd1
      exact ⟨rv, hp.objs.size + 1, _, _, ⟨G, g2, d2, t2, os'⟩, _, .ref D, some d, rfl, K1, kG, ge, hoe, ⟨rfl, rfl, fun vs e => by cases e; rfl⟩, rfl, rfl, na, rfl, bare2, raises_own T.exC T.tyC, q2⟩
    | next => exact back.elim
    | brk => exact back.elim
    | cont => exact back.elim
end
/-- raise X(e, ..) -/
def tErrD (K : PySem.W.Frag) (D : Addr) (nm : List Str) (ta : TA) : L2.St → Hp → XK → Prop := fun σ H Q => ta σ H fun ys H1 => ys.length = nm.length ∧ nm.length ≤ 1000 ∧ (∀ y ∈ ys, ShoD K H1 3 y) ∧ ∀ d, H1 d = none → Q (.ref D) (some d) (upd H1 d (.xd (flE nm ys)))
section
variable {X : Cx} {W : WX} {x : Str} {D f : Addr} {k : Nat} {fd : FuncData} {ps nm : List Str} {e : Expr} {es : List Expr} {ta : TA} {p pos pos' : Pos}
theorem ps_errD (hc : X.calm = true) (tk : L2N.Takes X W) (T : OexC X.K D) (R : ErrT X.K X.mg x D f) (F1 : FnOk X.prog X.w X.K X.mg X.base CX0 k f fd ps (spErrD X.K D nm)) (hr : Room (k + 1) X.A) (hb : Binds X.K fd ps []) (hg : Gl X x) (ha : PA X (e :: es) ta)
    (hdb : (x == ("__debug__" : Str)) = false := by decide)
    (he : starEach (e :: es) X.env = (false, eval e X.env) :: starEach es X.env := by rfl)
    (hpl : (backTo pos (starEach es X.env)).any (·.1) = false := by rfl) :
    PS X (.Raise (some (.Call (.Name x p) (e :: es) [] pos)) none pos') (fun _ σ H => tErrD X.K D nm ta σ H fun cls d H' => W cls d σ H') := by
  refine L2N.ps_raise hc tk fun pins s σ H Q I h => ?_
  refine wpAny_Call_Name_kw (ld_glob I hg R.g ?_ hdb)
  refine PySem.W.callWith_K (h₀ := X.base) I.ok.mod.kin T.kC (thn (ha.run pos pins s σ H _ I h) fun us s1 ⟨ys, H1, I1, r, hl, hz, hs, q⟩ => ⟨I1.kIn, ?_⟩) he hpl
  exact err_madeD T R F1 hr hb I1 r hl hz hs q
end
end Own

namespace Own
open PySem PySem.Spec PyProof.Rows L2 NdefX
section
variable {P : Program} {w : World} {K : PySem.W.Frag} {mg : Str → Option Value} {base : Heap} {D cc cda f : Addr}
abbrev s_BadPins_init : Stmt := inClass (top 3) 0
theorem sn_BadPins : NScope ["self", "pins", "__class__"] ["self", "pins"] ["__class__"] (defScope s_BadPins_init) := nscope_by (by decide +kernel)
theorem ok_BadPins {oc kV dc pm ct : Value} {an od : Option Addr} {sl : Array (Option Value)} (T : ErrK P K mg D cc cda)
    (lk : K.lookup f = some ⟨oc, od, .func (PySem.W.fnX "__init__" "BadPins.__init__" (defArgs s_BadPins_init) (defBody s_BadPins_init) (defScope s_BadPins_init) [("__class__", cc)] .none kV dc pm an (.ref cda) ct), sl⟩) (hcd : PySem.W.codeIn K (.ref cda) "BadPins.__init__" = true)
    (n1 : PySem.W.findIn K (.ref D) "pins" = some none) :
    FnOk P w K mg base CX0 1 f (PySem.W.fnX "__init__" "BadPins.__init__" (defArgs s_BadPins_init) (defBody s_BadPins_init) (defScope s_BadPins_init) [("__class__", cc)] .none kV dc pm an (.ref cda) ct) ["self", "pins"] (spErrD K D ["pins"]) := by
  refine fn_err (N := ["self", "pins", "__class__"]) (ps := ["self", "pins"]) T lk hcd sn_BadPins rfl rfl rfl (fun vs H Q E h => ?_) (fun A outer s H vs Q E hr h => ?_)
  · obtain ⟨a, ys, rfl, hl, _⟩ := h
    show ys.length + 1 = _
    rw [hl]
    rfl
  · obtain ⟨a, ys, rfl, hl, hs, ha, q⟩ := h
    match ys, hl with
    | [y1], _ =>
      have h1 := hs y1 (by simp)
      refine ⟨a, _, _, rfl, ha, pa_cons (pe_joined (PJ.cons pe_str (PJ.cons (pe_fmtD hr (pv 1)) PJ.nil))) pa_nil, (pss_one (ps_ost (pv 0) (pv 1))), ?_⟩
      have e0 : (Str.empty).length = 0 := rfl
      have c1 : (Str.ofString "pins ").length ≤ 100 := by decide +kernel
      refine ⟨_, rfl, ?_, _, rfl, h1, fun z1 hz1 => ⟨_, rfl, ?_, ⟨by show 1 ≤ 1000; decide, ha, ?_⟩⟩⟩
      all_goals first | (simp only [strLen_append, sizeLine_eq, e0] at *; (first | omega | (show _ ≤ _; omega))) | skip
      refine ⟨_, rfl, _, rfl, a, D, rfl, T.oex, n1, .inl ⟨ha, fun dx nd ne => ?_⟩⟩
      refine q dx _ nd ne fun b => ?_
      by_cases hb : b = dx
      · subst hb
        rw [if_pos rfl]
        first | (rw [upd_ne ne, upd_same]; rfl) | (rw [upd_same]; rfl)
      · rw [if_neg hb]
        by_cases hb2 : b = a
        · subst hb2
          rw [if_pos rfl]
          first | (rw [upd_same]) | (rw [upd_ne hb, upd_same]) | (rw [upd_ne hb, upd_ne hb, upd_same])
        · rw [if_neg hb2]
          repeat (first | rw [upd_ne hb] | rw [upd_ne hb2])
abbrev s_BadCord_init : Stmt := inClass (top 7) 0
theorem sn_BadCord : NScope ["self", "entry", "__class__"] ["self", "entry"] ["__class__"] (defScope s_BadCord_init) := nscope_by (by decide +kernel)
theorem ok_BadCord {oc kV dc pm ct : Value} {an od : Option Addr} {sl : Array (Option Value)} (T : ErrK P K mg D cc cda)
    (lk : K.lookup f = some ⟨oc, od, .func (PySem.W.fnX "__init__" "BadCord.__init__" (defArgs s_BadCord_init) (defBody s_BadCord_init) (defScope s_BadCord_init) [("__class__", cc)] .none kV dc pm an (.ref cda) ct), sl⟩) (hcd : PySem.W.codeIn K (.ref cda) "BadCord.__init__" = true)
    (n1 : PySem.W.findIn K (.ref D) "entry" = some none) :
    FnOk P w K mg base CX0 1 f (PySem.W.fnX "__init__" "BadCord.__init__" (defArgs s_BadCord_init) (defBody s_BadCord_init) (defScope s_BadCord_init) [("__class__", cc)] .none kV dc pm an (.ref cda) ct) ["self", "entry"] (spErrD K D ["entry"]) := by
  refine fn_err (N := ["self", "entry", "__class__"]) (ps := ["self", "entry"]) T lk hcd sn_BadCord rfl rfl rfl (fun vs H Q E h => ?_) (fun A outer s H vs Q E hr h => ?_)
  · obtain ⟨a, ys, rfl, hl, _⟩ := h
    show ys.length + 1 = _
    rw [hl]
    rfl
  · obtain ⟨a, ys, rfl, hl, hs, ha, q⟩ := h
    match ys, hl with
    | [y1], _ =>
      have h1 := hs y1 (by simp)
      refine ⟨a, _, _, rfl, ha, pa_cons (pe_joined (PJ.cons pe_str (PJ.cons (pe_fmtD hr (pv 1)) PJ.nil))) pa_nil, (pss_one (ps_ost (pv 0) (pv 1))), ?_⟩
      have e0 : (Str.empty).length = 0 := rfl
      have c1 : (Str.ofString "entry ").length ≤ 100 := by decide +kernel
      refine ⟨_, rfl, ?_, _, rfl, h1, fun z1 hz1 => ⟨_, rfl, ?_, ⟨by show 1 ≤ 1000; decide, ha, ?_⟩⟩⟩
      all_goals first | (simp only [strLen_append, sizeLine_eq, e0] at *; (first | omega | (show _ ≤ _; omega))) | skip
      refine ⟨_, rfl, _, rfl, a, D, rfl, T.oex, n1, .inl ⟨ha, fun dx nd ne => ?_⟩⟩
      refine q dx _ nd ne fun b => ?_
      by_cases hb : b = dx
      · subst hb
        rw [if_pos rfl]
        first | (rw [upd_ne ne, upd_same]; rfl) | (rw [upd_same]; rfl)
      · rw [if_neg hb]
        by_cases hb2 : b = a
        · subst hb2
          rw [if_pos rfl]
          first | (rw [upd_same]) | (rw [upd_ne hb, upd_same]) | (rw [upd_ne hb, upd_ne hb, upd_same])
        · rw [if_neg hb2]
          repeat (first | rw [upd_ne hb] | rw [upd_ne hb2])
end
end Own

namespace Own
open PySem PySem.Spec PyProof.Rows L2
/-! ### what is no whole number, what is no sequence -/
def NotWh (K : PySem.W.Frag) (H : Hp) (v : V) : Prop := ∃ T, TyX K H v (.type T) ∧ T ∈ ["bool", "NoneType", "str", "list", "tuple", "dict"]
def NotSq (K : PySem.W.Frag) (H : Hp) (v : V) : Prop := ∃ T, TyX K H v (.type T) ∧ T ∈ ["int", "bool", "NoneType", "str", "dict"]
theorem tyx_same {K : PySem.W.Frag} {H H' : Hp} {v : V} {t : Value} (s : Same H H') (h : TyX K H v t) : TyX K H' v t := by
  cases h with
  | base b =>
    cases b with
    | non => exact .base .non
    | bl x => exact .base (.bl x)
    | int i => exact .base (.int i)
    | str x => exact .base (.str x)
    | flt x => exact .base (.flt x)
    | lst e => exact .base (.lst (s _ _ e))
    | frz e => exact .base (.frz (s _ _ e))
    | tup e => exact .base (.tup (s _ _ e))
    | dK e => exact .base (.dK (s _ _ e))
    | dT e => exact .base (.dT (s _ _ e))
    | ins e a b c d m => exact .base (.ins (s _ _ e) a b c d m)
  | byt b => exact .byt b
  | set e => exact .set (s _ _ e)
  | kList e c => exact .kList e c
  | kTuple e c => exact .kTuple e c
  | kDict e c => exact .kDict e c
  | fTuple e => exact .fTuple (s _ _ e)
  | fDict e => exact .fDict (s _ _ e)
theorem NotWh.same {K : PySem.W.Frag} {H H' : Hp} {v : V} (s : Same H H') (h : NotWh K H v) : NotWh K H' v := by
  obtain ⟨T, t, m⟩ := h
  exact ⟨T, tyx_same s t, m⟩
theorem NotSq.same {K : PySem.W.Frag} {H H' : Hp} {v : V} (s : Same H H') (h : NotSq K H v) : NotSq K H' v := by
  obtain ⟨T, t, m⟩ := h
  exact ⟨T, tyx_same s t, m⟩
theorem NotWh.bl {K : PySem.W.Frag} {H : Hp} (b : Bool) : NotWh K H (.bl b) := ⟨"bool", .base (.bl b), by decide⟩
theorem NotWh.non {K : PySem.W.Frag} {H : Hp} : NotWh K H .non := ⟨"NoneType", .base .non, by decide⟩
theorem NotWh.str {K : PySem.W.Frag} {H : Hp} (z : Str) : NotWh K H (.str z) := ⟨"str", .base (.str z), by decide⟩
theorem NotWh.lst {K : PySem.W.Frag} {H : Hp} {p : Addr} {xs : List V} (e : H p = some (.lst xs)) : NotWh K H (.ref p) := ⟨"list", .base (.lst e), by decide⟩
theorem NotWh.tup {K : PySem.W.Frag} {H : Hp} {p : Addr} {xs : List V} (e : H p = some (.tup xs)) : NotWh K H (.ref p) := ⟨"tuple", .base (.tup e), by decide⟩
theorem NotWh.dK {K : PySem.W.Frag} {H : Hp} {p : Addr} {kvs : List (Key × V)} (e : H p = some (.dK kvs)) : NotWh K H (.ref p) := ⟨"dict", .base (.dK e), by decide⟩
theorem NotSq.int {K : PySem.W.Frag} {H : Hp} (i : Int) : NotSq K H (.int i) := ⟨"int", .base (.int i), by decide⟩
theorem NotSq.bl {K : PySem.W.Frag} {H : Hp} (b : Bool) : NotSq K H (.bl b) := ⟨"bool", .base (.bl b), by decide⟩
theorem NotSq.non {K : PySem.W.Frag} {H : Hp} : NotSq K H .non := ⟨"NoneType", .base .non, by decide⟩
theorem NotSq.str {K : PySem.W.Frag} {H : Hp} (z : Str) : NotSq K H (.str z) := ⟨"str", .base (.str z), by decide⟩
theorem NotSq.dK {K : PySem.W.Frag} {H : Hp} {p : Addr} {kvs : List (Key × V)} (e : H p = some (.dK kvs)) : NotSq K H (.ref p) := ⟨"dict", .base (.dK e), by decide⟩
/-- no number of 0, 1, .., n - 1 -/
def NotIn (K : PySem.W.Frag) (H : Hp) (n : Int) (v : V) : Prop := (∃ i : Int, v = .int i ∧ (i < 0 ∨ n ≤ i)) ∨ NotWh K H v
theorem NotIn.same {K : PySem.W.Frag} {H H' : Hp} {n : Int} {v : V} (s : Same H H') (h : NotIn K H n v) : NotIn K H' n v := h.elim .inl fun x => .inr (x.same s)
/-- a list or a tuple of one's own -/
def SqH (H : Hp) (a : Addr) (xs : List V) : Prop := H a = some (.lst xs) ∨ H a = some (.tup xs)
theorem SqH.same {H H' : Hp} {a : Addr} {xs : List V} (s : Same H H') (h : SqH H a xs) : SqH H' a xs := h.elim (fun e => .inl (s _ _ e)) fun e => .inr (s _ _ e)
theorem SqH.b {K : PySem.W.Frag} {H : Hp} {a : Addr} {xs : List V} (h : SqH H a xs) : SqB K H a xs := h.elim (fun e => .inl (.inl (.inl e))) fun e => .inr (.inl (.inl e))
/-- an error's class with its __init__ -/
structure ErrU (K : PySem.W.Frag) (mg : Str → Option Value) (x : Str) (D f : Addr) (d : FuncData) (ps : List Str) : Prop where
  T : OexC K D
  R : ErrT K mg x D f
  b : Binds K d ps []
abbrev GE (P : Program) (w : World) (K : PySem.W.Frag) (mg : Str → Option Value) (base : Heap) (D f : Addr) (d : FuncData) (nm : List Str) : Prop := FnOk P w K mg base CX0 1 f d ("self" :: nm) (spErrD K D nm)
/-- the error is let out, its fields are these -/
def Out (D : Addr) (nm : List Str) (ys : List V) (H : Hp) (E : XK) : Prop := ∀ d, H d = none → E (.ref D) (some d) (upd H d (.xd (flE nm ys)))
section
variable {X : Cx} {pos : Pos}
/-- (a, b, ..) = a list or a tuple of that length -/
def gB (K : PySem.W.Frag) (n : Nat) (t : TGs) : TG := fun v σ H Q => ∃ a xs, v = .ref a ∧ SqB K H a xs ∧ xs.length = n ∧ t xs σ H Q
theorem pg_B {es : List Expr} {k : Nat} {t : TGs} {n : Nat} (hc : X.calm = true) (h : PGs X es t)
    (hn : (assignEach es X.env).length = n := by rfl) (hst : (assignEach es X.env).findIdx? (·.1) = none := by rfl) : PG X (.Tuple es k pos) (gB X.K n t) := by
  refine ⟨fun pins s σ H v u Q I r hw => ?_⟩
  obtain ⟨a, xs, e, hB, hl, q⟩ := hw
  rcases hB with hB | hB
  · exact (pg_unl hc h hn hst).run pins s σ H v u Q I r ⟨a, xs, e, hB, hl, q⟩
  · exact (pg_tup hc h hn hst).run pins s σ H v u Q I r ⟨a, xs, e, hB, hl, q⟩
end
section
variable {P : Program} {w : World} {K : PySem.W.Frag} {mg : Str → Option Value} {base : Heap} {C D f_u : Addr} {d_u : FuncData}
def spWholeY (K : PySem.W.Frag) : Sp := fun vs H Q _ => ∃ v : V, vs = [v] ∧ ((∃ i : Int, v = .int i ∧ Q (.bl true) H) ∨ (NotWh K H v ∧ Q (.bl false) H))
theorem ok_wholeY {f : Addr} {fd : FuncData} (F : Fun K "is_whole" "is_whole" s_is_whole f fd) (T : Bi mg) : FnOk P w K mg base CX0 1 f fd ["value"] (spWholeY K) := by
  refine F.ok sc_is_whole (fun vs H Q E h => ?_) (fun cdv A outer s H vs Q E hr h => ?_)
  · obtain ⟨v, rfl, _⟩ := h
    rfl
  · obtain ⟨v, rfl, h⟩ := h
    refine ⟨_, (pss_one (ps_ret (pe_and (pe_callB call_isi (by rfl) T.b_isinstance (by decide +kernel) (pa_cons (pv 0) (pa_cons (pe_bltn (v := .ty "int") (by rfl) T.b_int (by decide +kernel) rfl) pa_nil))) (pe_one (pe_not (pe_callB call_isi (by rfl) T.b_isinstance (by decide +kernel) (pa_cons (pv 0) (pa_cons (pe_bltn (v := .ty "bool") (by rfl) T.b_bool (by decide +kernel) rfl) pa_nil)))))))), ?_⟩
    rcases h with ⟨i, rfl, q⟩ | ⟨⟨T, ty, m⟩, q⟩
    · refine ⟨_, rfl, _, _, _, _, true, rfl, .ty "int", .base (.int i), kit_ty (by decide +kernel), true, rfl, ?_⟩
      exact ⟨_, rfl, _, _, _, _, false, rfl, .ty "bool", .base (.int i), kit_ty (by decide +kernel), false, rfl, q⟩
    · simp only [List.mem_cons, List.not_mem_nil, or_false] at m
      rcases m with rfl | rfl | rfl | rfl | rfl | rfl
      · refine ⟨_, rfl, _, _, _, _, true, rfl, .ty "int", ty, kit_ty (by decide +kernel), true, rfl, ?_⟩
        exact ⟨_, rfl, _, _, _, _, true, rfl, .ty "bool", ty, kit_ty (by decide +kernel), true, rfl, q⟩
      · refine ⟨_, rfl, _, _, _, _, false, rfl, .ty "int", ty, kit_ty (by decide +kernel), false, rfl, ?_⟩
        exact q
      · refine ⟨_, rfl, _, _, _, _, false, rfl, .ty "int", ty, kit_ty (by decide +kernel), false, rfl, ?_⟩
        exact q
      · refine ⟨_, rfl, _, _, _, _, false, rfl, .ty "int", ty, kit_ty (by decide +kernel), false, rfl, ?_⟩
        exact q
      · refine ⟨_, rfl, _, _, _, _, false, rfl, .ty "int", ty, kit_ty (by decide +kernel), false, rfl, ?_⟩
        exact q
      · refine ⟨_, rfl, _, _, _, _, false, rfl, .ty "int", ty, kit_ty (by decide +kernel), false, rfl, ?_⟩
        exact q
def spSeqY (K : PySem.W.Frag) : Sp := fun vs H Q _ => ∃ v : V, vs = [v] ∧ ((∃ (a : Addr) (xs : List V), v = .ref a ∧ SqH H a xs ∧ ∀ H', Same H H' → Q (.bl true) H') ∨ (NotSq K H v ∧ ∀ H', Same H H' → Q (.bl false) H'))
theorem ok_seqY {f : Addr} {fd : FuncData} (F : Fun K "is_sequence" "is_sequence" s_is_sequence f fd) (T : Bi mg) : FnOk P w K mg base CX0 1 f fd ["value"] (spSeqY K) := by
  refine F.ok sc_is_sequence (fun vs H Q E h => ?_) (fun cdv A outer s H vs Q E hr h => ?_)
  · obtain ⟨v, rfl, _⟩ := h
    rfl
  · obtain ⟨v, rfl, h⟩ := h
    refine ⟨_, (pss_one (ps_ret (pe_callB call_isiT (by rfl) T.b_isinstance (by decide +kernel) (pa_cons (pv 0) (pa_cons (pe_tup (pa_cons (pe_bltn (v := .ty "list") (by rfl) T.b_list (by decide +kernel) rfl) (pa_cons (pe_bltn (v := .ty "tuple") (by rfl) T.b_tuple (by decide +kernel) rfl) pa_nil))) pa_nil))))), ?_⟩
    refine ⟨_, rfl, by show 2 ≤ sizeLine; decide, fun p np => ?_⟩
    have s1 : Same H (upd H p (.tup [.ty "list", .ty "tuple"])) := same_upd np
    rcases h with ⟨a, xs, rfl, hs | hs, q⟩ | ⟨⟨T, ty, m⟩, q⟩
    · exact ⟨_, p, _, _, _, true, rfl, upd_same, .cons (.ty "list") (.cons (.ty "tuple") .nil), .base (.lst (s1 _ _ hs)), kitAny_cons (b := true) (kit_ty (by decide +kernel)) (fun z => by cases z) (fun _ => rfl), q _ s1⟩
    · exact ⟨_, p, _, _, _, true, rfl, upd_same, .cons (.ty "list") (.cons (.ty "tuple") .nil), .base (.tup (s1 _ _ hs)), kitAny_cons (b := false) (kit_ty (by decide +kernel)) (fun _ => kitAny_cons (b := true) (kit_ty (by decide +kernel)) (fun z => by cases z) (fun _ => rfl)) (fun z => by cases z), q _ s1⟩
    · simp only [List.mem_cons, List.not_mem_nil, or_false] at m
      rcases m with rfl | rfl | rfl | rfl | rfl
      · exact ⟨_, p, _, _, _, false, rfl, upd_same, .cons (.ty "list") (.cons (.ty "tuple") .nil), tyx_same s1 ty, kitAny_cons (b := false) (kit_ty (by decide +kernel)) (fun _ => kitAny_cons (b := false) (kit_ty (by decide +kernel)) (fun _ => rfl) (fun z => by cases z)) (fun z => by cases z), q _ s1⟩
      · exact ⟨_, p, _, _, _, false, rfl, upd_same, .cons (.ty "list") (.cons (.ty "tuple") .nil), tyx_same s1 ty, kitAny_cons (b := false) (kit_ty (by decide +kernel)) (fun _ => kitAny_cons (b := false) (kit_ty (by decide +kernel)) (fun _ => rfl) (fun z => by cases z)) (fun z => by cases z), q _ s1⟩
      · exact ⟨_, p, _, _, _, false, rfl, upd_same, .cons (.ty "list") (.cons (.ty "tuple") .nil), tyx_same s1 ty, kitAny_cons (b := false) (kit_ty (by decide +kernel)) (fun _ => kitAny_cons (b := false) (kit_ty (by decide +kernel)) (fun _ => rfl) (fun z => by cases z)) (fun z => by cases z), q _ s1⟩
      · exact ⟨_, p, _, _, _, false, rfl, upd_same, .cons (.ty "list") (.cons (.ty "tuple") .nil), tyx_same s1 ty, kitAny_cons (b := false) (kit_ty (by decide +kernel)) (fun _ => kitAny_cons (b := false) (kit_ty (by decide +kernel)) (fun _ => rfl) (fun z => by cases z)) (fun z => by cases z), q _ s1⟩
      · exact ⟨_, p, _, _, _, false, rfl, upd_same, .cons (.ty "list") (.cons (.ty "tuple") .nil), tyx_same s1 ty, kitAny_cons (b := false) (kit_ty (by decide +kernel)) (fun _ => kitAny_cons (b := false) (kit_ty (by decide +kernel)) (fun _ => rfl) (fun z => by cases z)) (fun z => by cases z), q _ s1⟩
def spBelowY (K : PySem.W.Frag) : Sp := fun vs H Q _ => ∃ (v : V) (n : Int), vs = [v, .int n] ∧ ((∃ i : Int, v = .int i ∧ 0 ≤ i ∧ i < n ∧ Q (.bl true) H) ∨ (NotIn K H n v ∧ Q (.bl false) H))
theorem ok_belowY {f : Addr} {fd : FuncData} (F : Fun K "is_below" "is_below" s_is_below f fd) {f_w : Addr} {d_w : FuncData} (D_w : Df K mg "is_whole" s_is_whole ["value"] f_w d_w) (G_w : FnOk P w K mg base CX0 1 f_w d_w ["value"] (spWholeY K))  : FnOk P w K mg base CX0 2 f fd ["value", "bound"] (spBelowY K) := by
  refine F.ok sc_is_below (fun vs H Q E h => ?_) (fun cdv A outer s H vs Q E hr h => ?_)
  · obtain ⟨v, n, rfl, _⟩ := h
    rfl
  · obtain ⟨v, n, rfl, h⟩ := h
    refine ⟨_, (pss_one (ps_ret (pe_and (pe_call G_w (hr.mono (by decide)) (by rfl) D_w.g D_w.F.kp D_w.b .nil pass0 (pa_cons (pv 0) pa_nil)) (pe_one (pe_chain op_le op_lt pe_int (pv 0) (pv 1)))))), ?_⟩
    rcases h with ⟨i, rfl, h0, h1, q⟩ | ⟨⟨i, rfl, hi⟩ | hw, q⟩
    · refine ⟨_, rfl, _, rfl, .inl ⟨i, rfl, true, rfl, ?_⟩⟩
      refine ⟨_, rfl, _, _, rfl, rfl, _, rfl, ?_⟩
      rw [decide_eq_true h0]
      refine ⟨_, rfl, _, _, rfl, rfl, ?_⟩
      show Q (.bl (decide (i < n))) H
      rw [decide_eq_true h1]
      exact q
    · refine ⟨_, rfl, _, rfl, .inl ⟨i, rfl, true, rfl, ?_⟩⟩
      refine ⟨_, rfl, _, _, rfl, rfl, _, rfl, ?_⟩
      by_cases h0 : 0 ≤ i
      · rw [decide_eq_true h0]
        refine ⟨_, rfl, _, _, rfl, rfl, ?_⟩
        show Q (.bl (decide (i < n))) H
        rw [decide_eq_false (show ¬ i < n by omega)]
        exact q
      · rw [decide_eq_false h0]
        exact q
    · exact ⟨_, rfl, _, rfl, .inr ⟨hw, false, rfl, q⟩⟩
def spCkPinsY (K : PySem.W.Frag) (D : Addr) : Sp := fun vs H Q E => ∃ v : V, vs = [v] ∧ ((∃ i : Int, v = .int i ∧ 0 ≤ i ∧ Q .non H) ∨ (((∃ i : Int, v = .int i ∧ i < 0) ∨ NotWh K H v) ∧ ShoD K H 3 v ∧ Out D ["pins"] [v] H E))
theorem ok_ckpinsY {f : Addr} {fd : FuncData} (F : Fun K "check_pins" "check_pins" s_check_pins f fd) {f_w : Addr} {d_w : FuncData} (D_w : Df K mg "is_whole" s_is_whole ["value"] f_w d_w) (G_w : FnOk P w K mg base CX0 1 f_w d_w ["value"] (spWholeY K)) (U : ErrU K mg "BadPins" D f_u d_u ["self", "pins"]) (G_u : GE P w K mg base D f_u d_u ["pins"]) : FnOk P w K mg base (L2N.CX P w) 4 f fd ["pins"] (spCkPinsY K D) := by
  refine okN F sc_check_pins (fun vs H Q E h => ?_) (fun cdv A outer s H vs Q E hr h => ?_)
  · obtain ⟨v, rfl, _⟩ := h
    rfl
  · obtain ⟨v, rfl, h⟩ := h
    refine ⟨_, (pss_one (ps_if (PW.pt (pw_or (pt_not (pt_val (pe_call G_w (hr.mono (by decide)) (by rfl) D_w.g D_w.F.kp D_w.b .nil pass0 (pa_cons (pv 0) pa_nil)))) (pw_or1 (pt_cmpR op_lt (pv 0) pe_int (nomark _))))) (pss_one (ps_errD rfl (L2N.takes_of rfl rfl rfl rfl) U.T U.R G_u (hr.mono (by decide)) U.b (by rfl) (pa_cons (pv 0) pa_nil))) pss_nil)), ?_⟩
    have bad : ShoD K H 3 v → Out D ["pins"] [v] H E → tErrD K D ["pins"] (tCons (tVar 0) tNil) (start ["pins"] [v]) H (fun cls d H' => E cls d H') := fun hs q => by
      refine ⟨_, rfl, rfl, by decide, fun y hy => ?_, fun d nd => q d nd⟩
      rw [List.mem_singleton.mp hy]
      exact hs
    rcases h with ⟨i, rfl, h0, q⟩ | ⟨⟨i, rfl, hi⟩ | hw, hs, q⟩
    · refine ⟨_, rfl, _, rfl, .inl ⟨i, rfl, true, rfl, ?_⟩⟩
      refine ⟨_, rfl, _, _, rfl, rfl, _, rfl, ?_⟩
      rw [decide_eq_false (show ¬ i < 0 by omega)]
      exact q
    · refine ⟨_, rfl, _, rfl, .inl ⟨i, rfl, true, rfl, ?_⟩⟩
      refine ⟨_, rfl, _, _, rfl, rfl, _, rfl, ?_⟩
      rw [decide_eq_true hi]
      exact bad hs q
    · exact ⟨_, rfl, _, rfl, .inr ⟨hw, false, rfl, bad hs q⟩⟩
/-- what is no entry of a lot on a rim of n pins -/
def BadE (K : PySem.W.Frag) (H : Hp) (n : Int) (v : V) : Prop := NotSq K H v ∨ ∃ (b : Addr) (xs : List V), v = .ref b ∧ SqH H b xs ∧ (xs.length ≠ 3 ∨ ∃ x y z, xs = [x, y, z] ∧ (NotIn K H n x ∨ ∃ i : Int, x = .int i ∧ 0 ≤ i ∧ i < n ∧ (NotIn K H n y ∨ ∃ j : Int, y = .int j ∧ 0 ≤ j ∧ j < n ∧ (i = j ∨ (i ≠ j ∧ ((∃ k : Int, z = .int k ∧ k < 1) ∨ NotWh K H z))))))
theorem BadE.same {K : PySem.W.Frag} {H H' : Hp} {n : Int} {v : V} (s : Same H H') (h : BadE K H n v) : BadE K H' n v := by
  rcases h with h | ⟨b, xs, e, hs, h⟩
  · exact .inl (h.same s)
  · refine .inr ⟨b, xs, e, hs.same s, ?_⟩
    rcases h with h | ⟨x, y, z, e, h⟩
    · exact .inl h
    · refine .inr ⟨x, y, z, e, ?_⟩
      rcases h with h | ⟨i, e1, h0, h1, h⟩
      · exact .inl (h.same s)
      · refine .inr ⟨i, e1, h0, h1, ?_⟩
        rcases h with h | ⟨j, e2, h2, h3, h⟩
        · exact .inl (h.same s)
        · refine .inr ⟨j, e2, h2, h3, ?_⟩
          rcases h with h | ⟨h4, h | h⟩
          · exact .inl h
          · exact .inr ⟨h4, .inl h⟩
          · exact .inr ⟨h4, .inr (h.same s)⟩
def spEntryY (K : PySem.W.Frag) : Sp := fun vs H Q _ => ∃ (n : Int) (v : V), vs = [.int n, v] ∧ ((∃ (b : Addr) (t : Tr), v = .ref b ∧ SqH H b (tv t) ∧ Vld n t ∧ ∀ H', Same H H' → Q (.bl true) H') ∨ (BadE K H n v ∧ ∀ H', Same H H' → Q (.bl false) H'))
theorem ok_entryY {f : Addr} {fd : FuncData} (F : Fun K "is_entry" "is_entry" s_is_entry f fd) (T : Bi mg) {f_w : Addr} {d_w : FuncData} (D_w : Df K mg "is_whole" s_is_whole ["value"] f_w d_w) (G_w : FnOk P w K mg base CX0 1 f_w d_w ["value"] (spWholeY K)) {f_b : Addr} {d_b : FuncData} (D_b : Df K mg "is_below" s_is_below ["value", "bound"] f_b d_b) (G_b : FnOk P w K mg base CX0 2 f_b d_b ["value", "bound"] (spBelowY K)) {f_q : Addr} {d_q : FuncData} (D_q : Df K mg "is_sequence" s_is_sequence ["value"] f_q d_q) (G_q : FnOk P w K mg base CX0 1 f_q d_q ["value"] (spSeqY K)) : FnOk P w K mg base CX0 3 f fd ["pins", "entry"] (spEntryY K) := by
  refine F.ok sc_is_entry (fun vs H Q E h => ?_) (fun cdv A outer s H vs Q E hr h => ?_)
  · obtain ⟨n, v, rfl, _⟩ := h
    rfl
  · obtain ⟨n, v, rfl, h⟩ := h
    refine ⟨_, (pss_cons (ps_if (PW.pt (pw_or (pt_not (pt_val (pe_call G_q (hr.mono (by decide)) (by rfl) D_q.g D_q.F.kp D_q.b .nil pass0 (pa_cons (pv 1) pa_nil)))) (pw_or1 (pt_cmpR op_ne (pe_callB call_len_seq (by rfl) T.b_len PySem.boot_len (pa_cons (pv 1) pa_nil)) pe_int (nomark _))))) (pss_one (ps_ret pe_bl)) pss_nil)
        (pss_cons (ps_asg (pv 1) (pg_B rfl (pgs_cons (pg_name (i := 2) sc_is_entry.nd rfl (.inl rfl)) (pgs_cons (pg_name (i := 3) sc_is_entry.nd rfl (.inl rfl)) (pgs_cons (pg_name (i := 4) sc_is_entry.nd rfl (.inl rfl)) pgs_nil)))))
        (pss_one (ps_ret (pe_and (pe_call G_b hr (by rfl) D_b.g D_b.F.kp D_b.b .nil pass0 (pa_cons (pv 2) (pa_cons (pv 0) pa_nil))) (pe_and (pe_call G_b hr (by rfl) D_b.g D_b.F.kp D_b.b .nil pass0 (pa_cons (pv 3) (pa_cons (pv 0) pa_nil))) (pe_and (pe_cmpR op_ne (pv 2) (pv 3) (nomark _)) (pe_and (pe_call G_w (hr.mono (by decide)) (by rfl) D_w.g D_w.F.kp D_w.b .nil pass0 (pa_cons (pv 4) pa_nil)) (pe_one (pe_cmpR op_ge (pv 4) pe_int (nomark _))))))))))), ?_⟩
    rcases h with ⟨b, t, rfl, hb, ⟨v0, v1, v2, v3, v4, v5⟩, q⟩ | ⟨h, q⟩
    · refine ⟨_, rfl, _, rfl, .inl ⟨b, _, rfl, hb, fun H1 sm => ⟨true, rfl, ?_⟩⟩⟩
      have hT : SqB K H1 b (tv t) := (hb.same sm).b
      refine ⟨_, rfl, b, _, rfl, hT, rfl, _, rfl, iteNS rfl ?_⟩
      refine ⟨_, rfl, b, _, rfl, hT, rfl, _, _, rfl, _, _, rfl, _, _, rfl, rfl, ?_⟩
      refine ⟨_, rfl, _, rfl, _, n, rfl, .inl ⟨t.1, rfl, v0, v1, true, rfl, ?_⟩⟩
      refine ⟨_, rfl, _, rfl, _, n, rfl, .inl ⟨t.2.1, rfl, v2, v3, true, rfl, ?_⟩⟩
      refine ⟨_, rfl, _, rfl, rfl, _, rfl, ?_⟩
      rw [decide_eq_false (fun z => v4 (V.int.inj z))]
      refine ⟨_, rfl, _, rfl, .inl ⟨t.2.2, rfl, true, rfl, ?_⟩⟩
      refine ⟨_, rfl, t.2.2, 1, rfl, rfl, ?_⟩
      show Q (.bl (decide (1 ≤ t.2.2))) H1
      rw [decide_eq_true v5]
      exact q H1 sm
    · rcases h with h | ⟨b, xs, rfl, hs, h⟩
      · exact ⟨_, rfl, _, rfl, .inr ⟨h, fun H1 sm => ⟨false, rfl, q H1 sm⟩⟩⟩
      · refine ⟨_, rfl, _, rfl, .inl ⟨b, xs, rfl, hs, fun H1 sm => ⟨true, rfl, ?_⟩⟩⟩
        have hT : SqB K H1 b xs := (hs.same sm).b
        refine ⟨_, rfl, b, _, rfl, hT, rfl, _, rfl, ?_⟩
        rcases h with h | ⟨x, y, z, rfl, h⟩
        · have e : decide (V.int (xs.length : Int) = V.int 3) = false := decide_eq_false fun z => h (by injection z with z; omega)
          rw [e]
          exact q H1 sm
        · refine iteNS rfl ?_
          refine ⟨_, rfl, b, _, rfl, hT, rfl, _, _, rfl, _, _, rfl, _, _, rfl, rfl, ?_⟩
          rcases h with h | ⟨i, rfl, i0, i1, h⟩
          · exact ⟨_, rfl, _, rfl, _, n, rfl, .inr ⟨h.same sm, false, rfl, q H1 sm⟩⟩
          · refine ⟨_, rfl, _, rfl, _, n, rfl, .inl ⟨i, rfl, i0, i1, true, rfl, ?_⟩⟩
            rcases h with h | ⟨j, rfl, j0, j1, h⟩
            · exact ⟨_, rfl, _, rfl, _, n, rfl, .inr ⟨h.same sm, false, rfl, q H1 sm⟩⟩
            · refine ⟨_, rfl, _, rfl, _, n, rfl, .inl ⟨j, rfl, j0, j1, true, rfl, ?_⟩⟩
              refine ⟨_, rfl, _, rfl, rfl, _, rfl, ?_⟩
              rcases h with rfl | ⟨ne, h⟩
              · rw [decide_eq_true rfl]
                exact q H1 sm
              · rw [decide_eq_false (fun z => ne (V.int.inj z))]
                rcases h with ⟨k, rfl, hk⟩ | h
                · refine ⟨_, rfl, _, rfl, .inl ⟨k, rfl, true, rfl, ?_⟩⟩
                  refine ⟨_, rfl, k, 1, rfl, rfl, ?_⟩
                  show Q (.bl (decide (1 ≤ k))) H1
                  rw [decide_eq_false (show ¬ 1 ≤ k by omega)]
                  exact q H1 sm
                · exact ⟨_, rfl, _, rfl, .inr ⟨h.same sm, false, rfl, q H1 sm⟩⟩
end
end Own

namespace Own
open PySem PySem.Spec PyProof.Rows L2
/-- entries, each a list or a tuple -/
def EnB (H : Hp) (vs : List V) (l : List Tr) : Prop := vs.length = l.length ∧ ∀ (i : Nat) (t : Tr), l[i]? = some t → ∃ b, vs[i]? = some (.ref b) ∧ SqH H b (tv t)
theorem EnB.same {H H' : Hp} {vs : List V} {l : List Tr} (s : Same H H') (h : EnB H vs l) : EnB H' vs l := ⟨h.1, fun i t e => by
  obtain ⟨b, e1, e2⟩ := h.2 i t e
  exact ⟨b, e1, e2.same s⟩⟩
theorem EnB.at_ {H : Hp} {vs : List V} {l : List Tr} (h : EnB H vs l) {i : Nat} {x : V} (e : vs[i]? = some x) : ∃ b t, x = .ref b ∧ l[i]? = some t ∧ SqH H b (tv t) := by
  have hi : i < l.length := by
    rw [← h.1]
    exact (List.getElem?_eq_some_iff.mp e).1
  obtain ⟨b, e1, e2⟩ := h.2 i l[i] (List.getElem?_eq_getElem hi)
  rw [e] at e1
  cases e1
  exact ⟨b, l[i], rfl, List.getElem?_eq_getElem hi, e2⟩
theorem TrV.en {H : Hp} {vs : List V} {l : List Tr} (h : TrV H vs l) : EnB H vs l := ⟨h.1, fun i t e => by
  obtain ⟨b, e1, e2⟩ := h.2 i t e
  exact ⟨b, e1, .inr e2⟩⟩
section
variable {P : Program} {w : World} {K : PySem.W.Frag} {mg : Str → Option Value} {base : Heap} {C D f_u : Addr} {d_u : FuncData}
/-- the entries of a list: all are good, or the first bad one stands behind good ones -/
def spGathY (K : PySem.W.Frag) (D : Addr) : Sp := fun vs H Q E => ∃ (n : Int) (a : Addr) (xs : List V) (l : List Tr), vs = [.int n, .ref a] ∧ SqB K H a xs ∧ EnB H (xs.take l.length) l ∧ (∀ t ∈ l, Vld n t) ∧ xs.length ≤ 1000 ∧
  ((l.length = xs.length ∧ ∀ H' c r, Same H H' → H c = none → Trip H' c r → IsNorm l r → Q (.ref c) H') ∨
    ∃ v, xs[l.length]? = some v ∧ BadE K H n v ∧ ShoD K H 3 v ∧ ∀ H', Same H H' → Out D ["entry"] [v] H' E)
theorem ok_gathY {f : Addr} {fd : FuncData} (F : Fun K "gathered" "gathered" s_gathered f fd) (T : Bi mg) {f_e : Addr} {d_e : FuncData} (D_e : Df K mg "is_entry" s_is_entry ["pins", "entry"] f_e d_e) (G_e : FnOk P w K mg base CX0 3 f_e d_e ["pins", "entry"] (spEntryY K)) (U : ErrU K mg "BadCord" D f_u d_u ["self", "entry"]) (G_u : GE P w K mg base D f_u d_u ["entry"]) :
    FnOk P w K mg base (L2N.CX P w) 5 f fd ["pins", "entries"] (spGathY K D) := by
  refine okN F sc_gathered (fun vs H Q E h => ?_) (fun cdv A outer s H vs Q E hr h => ?_)
  · obtain ⟨n, a, xs, l, rfl, _⟩ := h
    rfl
  · obtain ⟨n, a, xs, l, rfl, hB, hx, hv, hl, h⟩ := h
    have lx : l.length ≤ xs.length := by
      have := hx.1
      rw [List.length_take] at this
      omega
    have hu := hu_of hr
    refine ⟨_, (pss_cons (ps_set (i := 2) sc_gathered.nd rfl (.inr rfl) pe_dnewT)
        (pss_cons (ps_for PassesOwn.leaving rfl (pi_seq (pv 1)) (pg_name (i := 3) sc_gathered.nd rfl (.inl rfl))
        (pss_cons (ps_if (pt_not (pt_val (pe_call G_e (hr.mono (by decide)) (by rfl) D_e.g D_e.F.kp D_e.b .nil pass0 (pa_cons (pv 0) (pa_cons (pv 3) pa_nil))))) (pss_one (ps_errD rfl (L2N.takes_of rfl rfl rfl rfl) U.T U.R G_u (hr.mono (by decide)) U.b (by rfl) (pa_cons (pv 3) pa_nil))) pss_nil)
        (pss_cons (ps_asg (pv 3) (pg_B rfl (pgs_cons (pg_name (i := 5) sc_gathered.nd rfl (.inl rfl)) (pgs_cons (pg_name (i := 6) sc_gathered.nd rfl (.inl rfl)) (pgs_cons (pg_name (i := 7) sc_gathered.nd rfl (.inl rfl)) pgs_nil)))))
        (pss_cons (ps_set (i := 4) sc_gathered.nd rfl (.inl rfl) (pe_tup (pa_cons (pe_callB (call_min2 rfl) (by rfl) T.b_min (by decide +kernel) (pa_cons (pv 5) (pa_cons (pv 6) pa_nil))) (pa_cons (pe_callB (call_max2 rfl) (by rfl) T.b_max (by decide +kernel) (pa_cons (pv 5) (pa_cons (pv 6) pa_nil))) pa_nil))))
        (pss_one (ps_dput hu (pv 2) (pv 4) (pe_op op_add (pe_dget2 hu (pv 2) (pv 4) pe_int ⟨rfl, rfl, rfl, rfl⟩) (pv 7)) rfl))))))
        (pss_one (ps_ret (pe_callTy call_tuple_of (by rfl) T.b_tuple (by decide +kernel) (pa_cons (pe_lc (own := [("a", 5), ("b", 6)]) (g := gTup K 2 (gCons (gName 5) (gCons (gName 6) gNil))) (tt := tYes) rfl sc_gathered.nd (pi_list (pe_callB (cr_sortedDT rfl) (by rfl) T.b_sorted (by decide +kernel) (pa_cons (pv 2) pa_nil))) (blkOk_by (own := [("a", 5), ("b", 6)]) (N := ["pins", "entries", "held", "entry", "pair", "a", "b", "many"]) (sc := defScope s_gathered) (by decide +kernel)) (fun _ _ _ _ _ => (pg_tup (by rfl) (pgs_cons (pg_name (i := 5) sc_gathered.nd rfl (.inl rfl)) (pgs_cons (pg_name (i := 6) sc_gathered.nd rfl (.inl rfl)) pgs_nil)))) (fun _ _ _ _ _ => pts_nil) (fun _ _ _ _ _ => (pe_tup (pa_cons (pv 5) (pa_cons (pv 6) (pa_cons (pe_dget hu (pv 2) (pe_tup (pa_cons (pv 5) (pa_cons (pv 6) pa_nil))) (fun _ _ => rfl)) pa_nil)))))) pa_nil)))))), ?_⟩
    intro d hd
    refine ⟨_, rfl, a, rfl, for_same (Hb := H) hB (fun i σ H' => ∃ kvs y3 y4 y5 y6 y7, σ = [some (.int n), some (.ref a), some (.ref d), y3, y4, y5, y6, y7] ∧ H' d = some (.dT kvs) ∧ DInv kvs (l.take i) ∧ kvs.length ≤ i ∧ Same H H' ∧ i ≤ l.length) ⟨[], none, none, none, none, none, rfl, upd_same, DInv.nil, Nat.le_refl _, same_upd hd, Nat.zero_le _⟩ (fun i σ' H' p => by obtain ⟨_, _, _, _, _, _, _, _, _, _, s, _⟩ := p; exact s) (fun i x σ H' hxi p => ?_) (fun σ H' p => ?_)⟩
    · obtain ⟨kvs, y3, y4, y5, y6, y7, rfl, ed, dI, klen, sm, il⟩ := p
      rcases Nat.lt_or_eq_of_le il with hil | hil
      rotate_left
      · rcases h with ⟨hlen, q⟩ | ⟨v, hv_, bad, sho, q⟩
        · have := (List.getElem?_eq_some_iff.mp hxi).1
          omega
        · rw [← hil, hxi] at hv_
          cases hv_
          refine ⟨_, rfl, _, rfl, n, x, rfl, .inr ⟨bad.same sm, fun H1 s1 => ⟨false, rfl, ?_⟩⟩⟩
          exact ⟨_, rfl, rfl, by decide, fun y hy => by rw [List.mem_singleton.mp hy]; exact sho.keep (sm.trans s1), fun d nd => q H1 (sm.trans s1) d nd⟩
      obtain ⟨b, t, rfl, hti, hb⟩ := (hx.same sm).at_ (i := i) (x := x) (by rw [List.getElem?_take, if_pos hil]; exact hxi)
      have hvt : Vld n t := hv t (List.mem_of_getElem? hti)
      refine ⟨_, rfl, _, rfl, n, _, rfl, .inl ⟨b, t, rfl, hb, hvt, fun H1 s1 => ⟨true, rfl, ?_⟩⟩⟩
      refine ⟨_, rfl, b, _, rfl, (hb.same s1).b, rfl, _, _, rfl, _, _, rfl, _, _, rfl, rfl, ?_⟩
      refine ⟨_, rfl, _, rfl, _, _, rfl, _, rfl, _, rfl, _, _, rfl, by show 2 ≤ sizeLine; decide, fun p np => ?_⟩
      have ed1 : (upd H1 p (.tup [.int (lo t.1 t.2.1), .int (hi t.1 t.2.1)])) d = some (.dT kvs) := by
        rw [upd_ne (ne_of_none (s1 _ _ ed) np)]
        exact s1 _ _ ed
      have ep : (upd H1 p (.tup [.int (lo t.1 t.2.1), .int (hi t.1 t.2.1)])) p = some (.tup ((kk (ky t)).map kV)) := upd_same
      refine ⟨_, rfl, d, rfl, .inr ⟨kvs, .inl ed1⟩, _, rfl, _, DGet.t ed1 ep, ?_⟩
      rw [dI.get]
      refine ⟨_, rfl, _, _, rfl, rfl, _, rfl, _, rfl, d, _, rfl, DPut.t ed1 ep (small1000 (by omega)), ?_⟩
      have hd1 : H1 d ≠ none := fun z => by rw [s1 _ _ ed] at z; cases z
      refine ⟨_, _, _, _, _, _, rfl, upd_same, ?_, Nat.le_trans putK_len (by omega), fun c o e => ?_, hil⟩
      · rw [List.take_add_one, hti]
        exact dI.put t
      · rw [upd_ne (ne_of_none e hd)]
        exact same_upd np _ _ (s1 _ _ (sm _ _ e))
    · obtain ⟨kvs, y3, y4, y5, y6, y7, rfl, ed, dI, klen, sm, il⟩ := p
      obtain ⟨hlen, q⟩ : l.length = xs.length ∧ ∀ H' c r, Same H H' → H c = none → Trip H' c r → IsNorm l r → Q (.ref c) H' := by
        rcases h with h | ⟨v, hv_, _⟩
        · exact h
        · have := (List.getElem?_eq_some_iff.mp hv_).1
          omega
      rw [← hlen, List.take_length] at dI
      refine ⟨_, rfl, d, kvs, rfl, .inl ed, fun kv hkv => by obtain ⟨p, hp⟩ := dI.frm kv hkv; exact ⟨p.1, p.2, hp⟩, fun bs ys p0 hk hsrt hstb np0 => ?_⟩
      obtain ⟨kEq, kAt⟩ := keys_of hk dI.frm
      have hall : ∀ y ∈ ys, ∃ b, y = .ref b ∧ H' b = some (.tup [.int (kOf H' y).1, .int (kOf H' y).2]) := fun y hy => by
        obtain ⟨b, hb, rfl⟩ := List.mem_map.mp (hstb.perm.mem_iff.mp hy)
        obtain ⟨p, hp⟩ := kAt b hb
        exact ⟨b, rfl, by rw [kOf_at hp]; exact hp⟩
      have hperm : (ys.map (kOf H')).Perm ((bs.map V.ref).map (kOf H')) := hstb.perm.map _
      have hnd : (ys.map (kOf H')).Nodup := by
        refine hperm.nodup_iff.mpr ?_
        have := dI.nd
        rw [← kEq] at this
        unfold List.Nodup at this ⊢
        exact (List.pairwise_map.mp this).imp fun h e => h (congrArg kk e)
      have hmem : ∀ p, p ∈ ys.map (kOf H') ↔ p ∈ l.map ky := fun p => by
        rw [hperm.mem_iff, ← dI.mem p, ← kEq]
        exact ⟨fun m => List.mem_map.mpr ⟨p, m, rfl⟩, fun m => by
          obtain ⟨p2, m2, e2⟩ := List.mem_map.mp m
          rw [← kk_inj e2]
          exact m2⟩
      have hlex : (ys.map (kOf H')).Pairwise Lex := sorted_lex hnd (SrtO.srtd_map (lt := SrtO.lexB) (f := kOf H') hsrt)
      have hN : IsNorm l ((ys.map (kOf H')).map fun p => (p.1, p.2, tot p l)) := by
        have e1 : (((ys.map (kOf H')).map fun p => ((p.1, p.2, tot p l) : Tr))).map pr = ys.map (kOf H') := by
          rw [List.map_map]
          exact List.map_id' _
        refine ⟨by rw [e1]; exact hlex, fun p => by rw [e1]; exact hmem p, fun e he => ?_⟩
        obtain ⟨p, _, rfl⟩ := List.mem_map.mp he
        rfl
      have hylen : ys.length ≤ 1000 := by
        have h1 := hstb.perm.length_eq
        have h2 := congrArg List.length kEq
        rw [List.length_map] at h1
        rw [List.length_map, List.length_map, List.length_map, List.length_map] at h2
        omega
      generalize hr0 : ((ys.map (kOf H')).map fun p => ((p.1, p.2, tot p l) : Tr)) = r at hN
      have hrl : r.length = ys.length := by rw [← hr0, List.length_map, List.length_map]
      have s0 : Same H' (upd H' p0 (.lst ys)) := same_upd np0
      refine ⟨p0, rfl, ⟨_, .inl (.inl upd_same)⟩, fun D hD => ?_⟩
      refine lc_list (K := K) (a := p0) (xs := ys) (fun i H2 => Same (upd H' p0 (.lst ys)) H2 ∧ ∃ vs, H2 D = some (.lst vs) ∧ TrV H2 vs (r.take i)) ⟨same_upd hD, [], upd_same, TrV.nil⟩ (fun i H2 _ p => .inl (.inl (p.1 _ _ upd_same))) (fun i x H2 hxi p => ?_) (fun H2 p => ?_)
      · obtain ⟨s2, vs, eD, tV⟩ := p
        obtain ⟨b, rfl, hb⟩ := hall x (List.mem_of_getElem? hxi)
        have hil : i < ys.length := (List.getElem?_eq_some_iff.mp hxi).1
        generalize hp : kOf H' (.ref b) = p at hb
        have hri : r[i]? = some (p.1, p.2, tot p l) := by
          rw [← hr0, List.getElem?_map, List.getElem?_map, hxi, ← hp]
          rfl
        have hpm : p ∈ l.map ky := (hmem p).mp (by rw [← hp]; exact List.mem_map.mpr ⟨_, List.mem_of_getElem? hxi, rfl⟩)
        have hval : valV kvs (kk p) = some (.int (tot p l)) := by
          rw [dI.val, if_pos hpm]
        have hb2 := s2 _ _ (s0 _ _ hb)
        have ed2 := s2 _ _ (s0 _ _ ed)
        refine ⟨b, _, rfl, .inl (.inl hb2), rfl, _, _, rfl, _, _, rfl, rfl, rfl, ?_⟩
        refine ⟨_, rfl, _, rfl, _, rfl, _, rfl, _, rfl, by show 2 ≤ sizeLine; decide, fun p1 np1 => ⟨d, .int (tot p l), rfl, ?_, ?_⟩⟩
        · have g := DGet.t (k := kk p) (b := p1) (H := upd H2 p1 (.tup [.int p.1, .int p.2])) (a := d) (kvs := kvs) (by rw [upd_ne (ne_of_none ed2 np1)]; exact ed2) upd_same
          rw [hval] at g
          exact g
        · refine ⟨by show 3 ≤ sizeLine; decide, fun p2 np2 => ?_⟩
          have s3 : Same H2 (upd (upd H2 p1 (.tup [.int p.1, .int p.2])) p2 (.tup [.int p.1, .int p.2, .int (tot p l)])) := (same_upd np1).trans (same_upd np2)
          refine ⟨vs, s3 _ _ eD, ?_, same_put (H1 := H2) hD (s2.trans s3), _, upd_same, ?_⟩
          · rw [tV.1, List.length_take]
            exact Nat.lt_of_le_of_lt (Nat.min_le_right _ _) (small1000 (by omega))
          · rw [List.take_add_one, hri]
            have nD : p2 ≠ D := fun z => by
              rw [z] at np2
              have := (same_upd (o := .tup [.int p.1, .int p.2]) np1) _ _ eD
              rw [this] at np2
              cases np2
            refine (tV.sameT (sameT_put eD s3)).snoc ?_
            rw [upd_ne nD, upd_same]
      · obtain ⟨s2, vs, eD, tV⟩ := p
        rw [← hrl, List.take_length] at tV
        refine ⟨D, vs, rfl, .inl ⟨.inl (.inl eD), fun c nc => ?_⟩⟩
        have sA : Same H (upd H2 c (.tup vs)) := ((sm.trans s0).trans s2).trans (same_upd nc)
        exact q _ c r sA (((sm.trans s0).trans s2).free nc) ⟨vs, upd_same, tV.same (same_upd nc)⟩ hN
end
end Own

namespace Own
open PySem PySem.Spec PyProof.Rows L2
section
variable {P : Program} {w : World} {K : PySem.W.Frag} {mg : Str → Option Value} {base : Heap} {C D1 D2 : Addr}
/-- what is asked of the values that a lot is made of; q: all is well, u: the number of pins is bad, v: this entry is the first bad one -/
structure MkA (K : PySem.W.Frag) (H : Hp) (v : V) (a : Addr) (q : Int → List Tr → Prop) (u : Prop) (e : V → Prop) : Prop where
  ex : ∃ xs : List V, SqB K H a xs ∧ xs.length ≤ 1000 ∧
    ((∃ (n : Int) (l : List Tr), v = .int n ∧ 0 ≤ n ∧ EnB H (xs.take l.length) l ∧ (∀ t ∈ l, Vld n t) ∧ ((l.length = xs.length ∧ q n l) ∨ ∃ y, xs[l.length]? = some y ∧ BadE K H n y ∧ ShoD K H 3 y ∧ e y)) ∨
     (((∃ i : Int, v = .int i ∧ i < 0) ∨ NotWh K H v) ∧ ShoD K H 3 v ∧ u))
def spInitY (K : PySem.W.Frag) (C D1 D2 : Addr) : Sp := fun vs H Q E => ∃ (p dx : Addr) (v : V) (a : Addr) (H0 : Hp), vs = [.ref p, v, .ref a] ∧ H p = some (.ins C dx []) ∧ H0 p = none ∧ Same H0 H ∧
  MkA K H0 v a (fun n l => ∀ H' c r, Same H0 H' → H' p = some (.ins C dx (flds n c)) → Trip H' c r → IsNorm l r → Q .non H') (Out D1 ["pins"] [v] H E) (fun y => ∀ H', Same H0 H' → Out D2 ["entry"] [y] H' E)
abbrev GIY (P : Program) (w : World) (K : PySem.W.Frag) (mg : Str → Option Value) (base : Heap) (C D1 D2 f : Addr) (d : FuncData) : Prop := FnOk P w K mg base (L2N.CX P w) 6 f d ["self", "pins", "cords"] (spInitY K C D1 D2)
theorem ok_initY {z f : Addr} {fd : FuncData} (F : FI K z f fd) (L : LotC K mg C) {f_k : Addr} {d_k : FuncData} (D_k : Df K mg "check_pins" s_check_pins ["pins"] f_k d_k) (G_k : FnOk P w K mg base (L2N.CX P w) 4 f_k d_k ["pins"] (spCkPinsY K D1))
    {f_g : Addr} {d_g : FuncData} (D_g : Df K mg "gathered" s_gathered ["pins", "entries"] f_g d_g) (G_g : FnOk P w K mg base (L2N.CX P w) 5 f_g d_g ["pins", "entries"] (spGathY K D2)) : GIY P w K mg base C D1 D2 f fd := by
  refine F.ok sc_Lot_init (fun vs H Q E h => ?_) (fun cdv A outer s H vs Q E hr h => ?_)
  · obtain ⟨p, dx, v, a, H0, rfl, _⟩ := h
    rfl
  · obtain ⟨p, dx, v, a, H0, rfl, ep, np, s0, ⟨xs, hB, lx, h⟩⟩ := h
    refine ⟨_, pss_cons (ps_expr (pe_call G_k (hr.mono (by decide)) (by rfl) D_k.g D_k.F.kp D_k.b .nil (L2N.passes_call (L2N.takes_of rfl rfl rfl rfl) (fun _ _ _ _ h => h)) (pa_cons (pv 1) pa_nil)))
      (pss_cons (ps_fld (pv 0) (pv 1) rfl) (pss_one (ps_fld (pv 0) (pe_call G_g hr (by rfl) D_g.g D_g.F.kp D_g.b .nil (L2N.passes_call (L2N.takes_of rfl rfl rfl rfl) (fun _ _ _ _ h => h)) (pa_cons (pv 1) (pa_cons (pv 2) pa_nil))) rfl))), ?_⟩
    rcases h with ⟨n, l, rfl, hn, hx, hv, h⟩ | ⟨bad, sho, u⟩
    rotate_left
    · refine ⟨_, rfl, v, rfl, .inr ⟨?_, sho.keep s0, u⟩⟩
      rcases bad with h | h
      · exact .inl h
      · exact .inr (h.same s0)
    refine ⟨_, rfl, _, rfl, .inl ⟨n, rfl, hn, ?_⟩⟩
    refine ⟨_, rfl, _, rfl, p, C, dx, [], rfl, ep, L.cl, L.nP, by show 0 < 1000; decide, ?_⟩
    have k1 : Same H0 (upd H p (.ins C dx (putF "pins" (.int n) []))) := same_put (H1 := H) np s0
    refine ⟨_, rfl, _, rfl, n, a, xs, l, rfl, hB.same k1, hx.same k1, hv, lx, ?_⟩
    rcases h with ⟨le, q⟩ | ⟨y, hy, bad, sho, q⟩
    · refine .inl ⟨le, fun H1 c r s1 nc tc hN => ?_⟩
      have eH : H1 p = some (.ins C dx (putF "pins" (.int n) [])) := s1 _ _ upd_same
      refine ⟨_, rfl, p, C, dx, _, rfl, eH, L.cl, L.nC, by show 1 < 1000; decide, ?_⟩
      have s2 : ∀ b o, H1 b = some o → b ≠ p → (upd H1 p (.ins C dx (putF "cords" (.ref c) (putF "pins" (.int n) [])))) b = some o := fun b o e nb => by
        rw [upd_ne nb]
        exact e
      refine q _ c r (same_put (H1 := H) np (k1.trans s1)) upd_same ?_ hN
      obtain ⟨vs, e, t⟩ := tc
      refine ⟨vs, s2 _ _ e fun z => ?_, t.sameT fun b o h => s2 _ _ h fun z => ?_⟩
      · rw [z, eH] at e
        cases e
      · rw [z, eH] at h
        cases h
    · exact .inr ⟨y, hy, bad.same k1, sho.keep k1, fun H' s' => q H' (k1.trans s')⟩
/-- Lot(v, entries) -/
theorem rd_makeY {v : V} {a : Addr} {H : Hp} {R : VK} {E : XK}
    (h : MkA K H v a (fun n l => ∀ H' x cs, Same H H' → LotAt C H' x n cs → IsNorm l cs → R (.ref x) H') (∀ H', Same H H' → Out D1 ["pins"] [v] H' E) (fun y => ∀ H', Same H H' → Out D2 ["entry"] [y] H' E)) :
    ∀ x dx, H x = none → H dx = none → dx ≠ x → spInitY K C D1 D2 (.ref x :: ([v, .ref a] ++ [])) (upd (upd H dx (.own x)) x (.ins C dx [])) (fun v H2 => v = .non ∧ R (.ref x) H2) E := fun x dx nx nd ne => by
  have s1 : Same H (upd H dx (.own x)) := same_upd nd
  have nx1 : (upd H dx (.own x)) x = none := by
    rw [upd_ne ne.symm]
    exact nx
  have s2 : Same H (upd (upd H dx (.own x)) x (.ins C dx [])) := s1.trans (same_upd nx1)
  obtain ⟨xs, hB, lx, h⟩ := h.ex
  refine ⟨x, dx, v, a, H, rfl, upd_same, nx, s2, ⟨xs, hB, lx, ?_⟩⟩
  rcases h with ⟨n, l, rfl, hn, hx, hv, h⟩ | ⟨bad, sho, u⟩
  · refine .inl ⟨n, l, rfl, hn, hx, hv, ?_⟩
    rcases h with ⟨le, q⟩ | ⟨y, hy, bad, sho, q⟩
    · exact .inl ⟨le, fun H' c r s' e t hN => ⟨rfl, q H' x r s' ⟨dx, c, e, t⟩ hN⟩⟩
    · exact .inr ⟨y, hy, bad, sho, q⟩
  · exact .inr ⟨bad, sho, u _ s2⟩
theorem rd_makeG {n : Int} {a : Addr} {xs : List V} {l : List Tr} {H : Hp} {R : VK} {E : XK} (hn : 0 ≤ n) (hB : SqB K H a xs) (hx : EnB H xs l) (hv : ∀ t ∈ l, Vld n t) (hl : l.length ≤ 1000) (q : ∀ H' x cs, Same H H' → LotAt C H' x n cs → IsNorm l cs → R (.ref x) H') :
    ∀ x dx, H x = none → H dx = none → dx ≠ x → spInitY K C D1 D2 (.ref x :: ([.int n, .ref a] ++ [])) (upd (upd H dx (.own x)) x (.ins C dx [])) (fun v H2 => v = .non ∧ R (.ref x) H2) E :=
  rd_makeY ⟨xs, hB, by rw [hx.1]; exact hl, .inl ⟨n, l, rfl, hn, by rw [← hx.1, List.take_length]; exact hx, hv, .inl ⟨hx.1.symm, q⟩⟩⟩
end
end Own

namespace Own
open PySem PySem.Spec PyProof.Rows L2
theorem Grid.other {H : Hp} {p M : Addr} {rs : List Addr} {n m : Int} {f : Int → Int → Int} {o : HO} (g : Grid H p rs n m f) (h1 : p ≠ M) (h2 : M ∉ rs) : Grid (upd H M o) p rs n m f :=
  ⟨by rw [upd_ne h1]; exact g.at_, g.len, g.nd, g.out, fun j r e => by
    have hr : r ≠ M := fun z => h2 (by rw [← z]; exact List.mem_of_getElem? e)
    rw [upd_ne hr]
    exact g.row j r e⟩
/-- a list that is made stands apart from the rows -/
theorem Grid.apart {H : Hp} {p M : Addr} {rs : List Addr} {n m : Int} {f : Int → Int → Int} (g : Grid H p rs n m f) (h : H M = none) : p ≠ M ∧ M ∉ rs := by
  refine ⟨fun z => ?_, fun mm => ?_⟩
  · rw [← z, g.at_] at h
    cases h
  · obtain ⟨j, hj, e⟩ := List.mem_iff_getElem.mp mm
    rw [g.row j M (by rw [List.getElem?_eq_getElem hj, e])] at h
    cases h
/-- the scope of the outer of two comprehensions -/
abbrev scI : Scope := { kind := .function, names := [(".0", .local), ("_law_i", .local), ("range", .globalImplicit), ("_law_size", .cell)], isGenerator := false, isCoroutine := false }
section
variable {P : Program} {w : World} {K : PySem.W.Frag} {mg : Str → Option Value} {base : Heap} {C : Addr}
def spLTab : Sp := fun vs H Q _ => ∃ (n : Int) (c : Addr) (cs : List Tr), vs = [.int n, .ref c] ∧ 0 ≤ n ∧ n ≤ 1000 ∧ Trip H c cs ∧ Good n cs ∧ cs.length ≤ 1000 ∧ ∀ H' p, Same H H' → TabAt H' p (hi n 1) (tabE cs) → Q (.ref p) H'
theorem ok_ltab {f : Addr} {fd : FuncData} (F : Fun K "_law_table" "_law_table" s__law_table f fd) (T : Bi mg) : FnOk P w K mg base CX0 1 f fd ["_law_rim", "_law_held"] spLTab := by
  refine F.ok sc__law_table (fun vs H Q E h => ?_) (fun cdv A outer s H vs Q E hr h => ?_)
  · obtain ⟨n, c, cs, rfl, _⟩ := h
    rfl
  · obtain ⟨n, c, cs, rfl, n0, n1, hc, hG, hl, q⟩ := h
    refine ⟨_, (pss_cons (ps_set (i := 2) sc__law_table.nd rfl (.inr rfl) (pe_callB (call_max2 rfl) (by rfl) T.b_max (by decide +kernel) (pa_cons (pv 0) (pa_cons pe_int pa_nil))))
        (pss_cons (ps_setLc (i := 3) (own := [("_law_i", 4)]) (g := gName 4) (tt := tYes) rfl sc__law_table.nd rfl rfl (sw_true rfl rfl rfl (by decide +kernel)) (pi_range1 (by rfl) T.b_range (pa_cons (pv 2) pa_nil)) (blkOk_by (own := [("_law_i", 4)]) (N := ["_law_rim", "_law_held", "_law_size", "_law_grid", "_law_i", "_law_met", "_law_step", "_law_j", "_law_row", "_law_entry_here"]) (sc := defScope s__law_table) (by decide +kernel)) (fun _ _ _ _ _ => (pg_name (i := 4) sc__law_table.nd rfl (.inl rfl))) (fun _ _ _ _ _ => pts_nil) (fun _ _ _ _ _ => (show PE _ _ (tLc (iRng1 (tCons (tVar 2) tNil)) (gName 7) tYes (tC (.int 0)) [7]) from pe_lc (own := [("_law_j", 7)]) (g := gName 7) (tt := tYes) rfl sc__law_table.nd (pi_range1 (by rfl) T.b_range (pa_cons (pv 2) pa_nil)) (blkOk_by (own := [("_law_j", 7)]) (N := ["_law_rim", "_law_held", "_law_size", "_law_grid", "_law_i", "_law_met", "_law_step", "_law_j", "_law_row", "_law_entry_here"]) (sc := scI) (by decide +kernel)) (fun _ _ _ _ _ => pg_name (i := 7) sc__law_table.nd rfl (Or.inl rfl)) (fun _ _ _ _ _ => pts_nil) (fun _ _ _ _ _ => pe_int))))
        (pss_cons (ps_for PassesOwn.never rfl (pi_range1 (by rfl) T.b_range (pa_cons (pv 2) pa_nil)) (pg_name (i := 4) sc__law_table.nd rfl (.inl rfl))
        (pss_cons (ps_set (i := 5) sc__law_table.nd rfl (.inr rfl) (pe_lc (own := [("_law_j", 7)]) (g := gName 7) (tt := tYes) rfl sc__law_table.nd (pi_range1 (by rfl) T.b_range (pa_cons (pv 2) pa_nil)) (blkOk_by (own := [("_law_j", 7)]) (N := ["_law_rim", "_law_held", "_law_size", "_law_grid", "_law_i", "_law_met", "_law_step", "_law_j", "_law_row", "_law_entry_here"]) (sc := defScope s__law_table) (by decide +kernel)) (fun _ _ _ _ _ => (pg_name (i := 7) sc__law_table.nd rfl (.inl rfl))) (fun _ _ _ _ _ => pts_nil) (fun _ _ _ _ _ => pe_bl)))
        (pss_one (ps_for PassesOwn.never rfl (pi_range2 (by rfl) T.b_range (pa_cons pe_int (pa_cons (pv 2) pa_nil))) (pg_name (i := 6) sc__law_table.nd rfl (.inl rfl))
        (pss_cons (ps_set (i := 7) sc__law_table.nd rfl (.inl rfl) (pe_op op_modN (pe_callTy call_int1 (by rfl) T.b_int (by decide +kernel) (pa_cons (pe_op op_add (pv 4) (pv 6)) pa_nil)) (pv 2)))
        (pss_cons (ps_asg pe_bl (pg_sub (pv 5) (pv 7) set_list))
        (pss_one (ps_asg (pe_callB (cr_sum rfl) (by rfl) T.b_sum (by decide +kernel) (pa_cons (pe_lc (own := [("_law_entry_here", 9)]) (g := gName 9) rfl sc__law_table.nd (pi_tup (pv 1)) (blkOk_by (own := [("_law_entry_here", 9)]) (N := ["_law_rim", "_law_held", "_law_size", "_law_grid", "_law_i", "_law_met", "_law_step", "_law_j", "_law_row", "_law_entry_here"]) (sc := defScope s__law_table) (by decide +kernel)) (fun _ _ _ _ _ => (pg_name (i := 9) sc__law_table.nd rfl (.inl rfl))) (fun _ _ _ _ _ => pts_one (pt_cmpR op_ne (pe_ix (r := rIxL K) ix_list (pv 5) (pe_ix (r := rIxT K) ix_tup (pv 9) pe_int (fun _ _ => rfl)) (fun _ _ => rfl)) (pe_ix (r := rIxL K) ix_list (pv 5) (pe_ix (r := rIxT K) ix_tup (pv 9) pe_int (fun _ _ => rfl)) (fun _ _ => rfl)) (nomark _))) (fun _ _ _ _ _ => (pe_ix (r := rIxT K) ix_tup (pv 9) pe_int (fun _ _ => rfl)))) pa_nil)) (pg_sub (pe_ix (r := rIxL K) ix_list (pv 3) (pv 4) (fun _ _ => rfl)) (pv 7) set_list)))))))))
        (pss_one (ps_ret (pe_callTy call_tuple_of (by rfl) T.b_tuple (by decide +kernel) (pa_cons (pe_lc (own := [("_law_row", 8)]) (g := gName 8) (tt := tYes) rfl sc__law_table.nd (pi_list (pv 3)) (blkOk_by (own := [("_law_row", 8)]) (N := ["_law_rim", "_law_held", "_law_size", "_law_grid", "_law_i", "_law_met", "_law_step", "_law_j", "_law_row", "_law_entry_here"]) (sc := defScope s__law_table) (by decide +kernel)) (fun _ _ _ _ _ => (pg_name (i := 8) sc__law_table.nd rfl (.inl rfl))) (fun _ _ _ _ _ => pts_nil) (fun _ _ _ _ _ => (pe_callTy (r := rTupOf K) cr_tupOf (by rfl) T.b_tuple (by decide +kernel) (pa_cons (pv 8) pa_nil)))) pa_nil))))))), ?_⟩
    refine ⟨_, rfl, n, 1, rfl, ?_⟩
    have hsz := lo_hi n 1
    have hz0 : 1 ≤ hi n 1 ∧ hi n 1 ≤ 1000 ∧ (2 ≤ hi n 1 → hi n 1 = n) := by omega
    refine ⟨_, rfl, hi n 1, rfl, by omega, by omega, fun R hR => ?_⟩
    refine lc_range (lo := 0) (n := (hi n 1).toNat) (fun i H3 => ∃ rr, ZInv H R (hi n 1) i rr H3) ⟨[], same_upd hR, upd_same, rfl, List.nodup_nil, by simp, by simp, by simp⟩ (fun i H3 hi3 pv => ?_) (fun H3 pv => ?_)
    · obtain ⟨rr, z⟩ := pv
      refine ⟨rfl, ?_⟩
      refine ⟨_, rfl, hi n 1, rfl, by omega, by omega, fun D hD => ?_⟩
      refine lc_range (lo := 0) (n := (hi n 1).toNat) (fun k H4 => H4 = upd H3 D (.lst ((gl (hi n 1) fun _ => 0).take k))) rfl (fun k H4 hk pv => ?_) (fun H4 pv => ?_)
      · subst pv
        refine ⟨rfl, ?_⟩
        refine ⟨_, upd_same, ?_, ?_⟩
        · rw [List.length_take, gl_len]
          exact Nat.lt_of_le_of_lt (Nat.min_le_right _ _) (small1000 (by omega))
        · rw [upd_upd, List.take_add_one]
          have : (gl (hi n 1) fun _ => 0)[k]? = some (.int 0) := by
            unfold gl
            rw [List.getElem?_map, List.getElem?_range hk]
            rfl
          rw [this]
          rfl
      · subst pv
        rw [List.take_of_length_le (by rw [gl_len]; exact Nat.le_refl _)]
        have sA : Same H3 (upd H3 D (.lst (gl (hi n 1) fun _ => 0))) := same_upd hD
        refine ⟨_, sA _ _ z.at_, ?_, _, z.step hR sA hD upd_same⟩
        rw [List.length_map, z.len]
        exact small1000 (by omega)
    obtain ⟨rr, z⟩ := pv
    have gz : Grid H3 R rr (hi n 1) (hi n 1) (fun x y => if x < 0 then tabE cs x y else 0) := by
      refine Grid.congr (f := fun _ _ => 0) ⟨z.at_, z.len, z.nd, z.out, fun j r e => z.row j r e⟩ fun x y x0 x1 y0 y1 => ?_
      rw [if_neg (by omega)]
    obtain ⟨cvs, ec, tc⟩ := id hc
    generalize hsz2 : hi n 1 = sz at hz0 gz
    refine ⟨_, rfl, sz, by rw [← hsz2]; rfl, by omega, by omega, for_range (lo := 0) (n := sz.toNat) (fun i σ H4 => (∃ y4 y5 y6 y7 y8 y9, σ = [some (.int n), some (.ref c), some (.int sz), some (.ref R), y4, y5, y6, y7, y8, y9]) ∧ Same H H4 ∧ Grid H4 R rr sz sz (fun x y => if x < (i : Int) then tabE cs x y else 0)) ⟨⟨none, none, none, none, none, none, by rw [← hsz2]; rfl⟩, z.sm, gz⟩ (fun i σ H4 hi4 pv => ?_) (fun σ H4 pv => ?_)⟩
    · obtain ⟨⟨y4, y5, y6, y7, y8, y9, rfl⟩, s4, g4⟩ := pv
      rw [Int.zero_add]
      -- met
      refine ⟨_, rfl, sz, rfl, by omega, by omega, fun M hM => ?_⟩
      refine lc_range (lo := 0) (n := sz.toNat) (fun k H5 => H5 = upd H4 M (.lst ((bl sz fun _ => false).take k))) rfl (fun k H5 hk pv => ?_) (fun H5 pv => ?_)
      · subst pv
        refine ⟨rfl, ?_⟩
        refine ⟨_, upd_same, ?_, ?_⟩
        · rw [List.length_take, bl_len]
          exact Nat.lt_of_le_of_lt (Nat.min_le_right _ _) (small1000 (by omega))
        · rw [upd_upd, List.take_add_one]
          have : (bl sz fun _ => false)[k]? = some (.bl false) := by
            unfold bl
            rw [List.getElem?_map, List.getElem?_range hk]
            rfl
          rw [this]
          rfl
      subst pv
      rw [List.take_of_length_le (by rw [bl_len]; exact Nat.le_refl _)]
      obtain ⟨nRM, nMrr⟩ := g4.apart hM
      have nHM : H M = none := s4.free hM
      have s5 : Same H (upd H4 M (.lst (bl sz fun _ => false))) := s4.trans (same_upd hM)
      have g5 := g4.other (o := .lst (bl sz fun _ => false)) nRM nMrr
      refine ⟨_, rfl, 1, sz, rfl, ⟨by omega, by omega, by omega, by omega⟩, for_range (lo := 1) (n := (sz - 1).toNat) (fun k σ H6 => (∃ y6 y7, σ = [some (.int n), some (.ref c), some (.int sz), some (.ref R), some (.int (i : Int)), some (.ref M), y6, y7, y8, y9]) ∧ Same H H6 ∧ Grid H6 R rr sz sz (fun x y => if x < (i : Int) ∨ (x = (i : Int) ∧ mt sz i k y = true) then tabE cs x y else 0) ∧ H6 M = some (.lst (bl sz (mt sz i k)))) ⟨⟨_, _, rfl⟩, s5, ?_, ?_⟩ (fun k σ H6 hk pv => ?_) (fun σ H6 pv => ?_)⟩
      · refine g5.congr fun x y x0 x1 y0 y1 => ?_
        rw [mt_zero]
        by_cases h : x < (i : Int)
        · rw [if_pos h, if_pos (.inl h)]
        · rw [if_neg h, if_neg (fun z => by rcases z with z | z; exact h z; exact Bool.false_ne_true z.2)]
      · rw [upd_same]
        congr 2
        exact bl_congr fun x _ _ => (mt_zero sz i x).symm
      · obtain ⟨⟨y6, y7, rfl⟩, s6, g6, eM⟩ := pv
        have hn : sz = n := hz0.2.2 (by omega)
        subst hn
        have hk1 : (k : Int) + 1 < sz := by omega
        have i1 : (i : Int) < sz := by omega
        obtain ⟨j0, j1⟩ := fmod_in ((i : Int) + (1 + (k : Int))) (show 0 < sz by omega)
        refine ⟨_, rfl, _, rfl, _, _, rfl, rfl, .inl ⟨_, rfl, _, rfl, _, _, rfl, rfl, by omega, ?_⟩⟩
        generalize hj : ((i : Int) + (1 + (k : Int))).fmod sz = j at j0 j1
        show (tSeq _ _) _ ([some (.int sz), some (.ref c), some (.int sz), some (.ref R), some (.int (i : Int)), some (.ref M), some (.int (1 + (k : Int))), some (.int (((i : Int) + (1 + (k : Int))).fmod sz)), y8, y9]) _
        rw [hj]
        -- met[j] = True
        refine ⟨_, rfl, _, rfl, M, _, _, _, rfl, rfl, eM, bl_ix _ j0 j1, ?_⟩
        rw [bl_set _ _ j0 j1]
        have emt : (bl sz fun y => if y = j then true else mt sz i k y) = bl sz (mt sz i (k + 1)) := bl_congr fun y h0 h1 => by
          rw [mt_step (by omega) i1 h0 h1 hk1, hj]
        rw [emt]
        have s7 : Same H (upd H6 M (.lst (bl sz (mt sz i (k + 1))))) := same_put (H1 := H) nHM s6
        have g7 := g6.other (o := .lst (bl sz (mt sz i (k + 1)))) nRM nMrr
        generalize hH7 : upd H6 M (.lst (bl sz (mt sz i (k + 1)))) = H7 at s7 g7
        have eM7 : H7 M = some (.lst (bl sz (mt sz i (k + 1)))) := by rw [← hH7]; exact upd_same
        -- the sum
        refine ⟨_, rfl, c, rfl, ⟨cvs, .inl (.inl (s7 _ _ ec))⟩, fun D hD => ?_⟩
        generalize hf : (fun q : Int × Int => mt sz i (k + 1) q.1 != mt sz i (k + 1) q.2) = fF
        refine lc_tup (K := K) (a := c) (xs := cvs) (fun m H8 => H8 = upd H7 D (.lst ((fl fF (cs.take m)).map V.int))) rfl (fun m H8 _ pv => by subst pv; exact .inl (.inl (same_upd hD _ _ (s7 _ _ ec)))) (fun m x H8 hxm pv => ?_) (fun H8 pv => ?_)
        · subst pv
          obtain ⟨u, t, rfl, htm, hu⟩ := (tc.same s7).at_ hxm
          have ho := hG.ord t (List.mem_of_getElem? htm)
          have sD := same_upd (o := .lst ((fl fF (cs.take m)).map V.int)) hD
          have qu : SqT K (upd H7 D (.lst ((fl fF (cs.take m)).map V.int))) u (tv t) := .inl (.inl (sD _ _ hu))
          have qM : SqL K (upd H7 D (.lst ((fl fF (cs.take m)).map V.int))) M (bl sz (mt sz i (k + 1))) := .inl (.inl (sD _ _ eM7))
          have a0 : atI (tv t) 0 = some (.int t.1) := atI_nat (j := 0) rfl
          have a1 : atI (tv t) 1 = some (.int t.2.1) := atI_nat (j := 1) rfl
          have a2 : atI (tv t) 2 = some (.int t.2.2) := atI_nat (j := 2) rfl
          have etake : fl fF (cs.take (m + 1)) = if fF (pr t) = true then fl fF (cs.take m) ++ [t.2.2] else fl fF (cs.take m) := by
            rw [List.take_add_one, htm]
            exact fl_snoc fF (cs.take m) t
          have eF : fF (pr t) = (mt sz i (k + 1) t.1 != mt sz i (k + 1) t.2.1) := by rw [← hf]; rfl
          refine ⟨rfl, ?_⟩
          refine ⟨_, rfl, _, rfl, u, _, 0, _, rfl, rfl, qu, a0, M, _, _, _, rfl, rfl, qM, bl_at _ (by omega) (by omega), ?_⟩
          refine ⟨_, rfl, _, rfl, u, _, 1, _, rfl, rfl, qu, a1, M, _, _, _, rfl, rfl, qM, bl_at _ (by omega) (by omega), rfl, _, rfl, ?_⟩
          refine ite2 (fun e => ?_) (fun e => ?_)
          · have e1 : fF (pr t) = true := by rw [eF, ← ne_bl]; exact e
            refine ⟨_, rfl, u, _, 2, _, rfl, rfl, qu, a2, _, upd_same, ?_, ?_⟩
            · rw [List.length_map]
              refine Nat.lt_of_le_of_lt (Nat.le_trans (fl_len _ _) ?_) (small1000 hl)
              rw [List.length_take]
              exact Nat.min_le_right _ _
            · rw [upd_upd, etake, if_pos e1, List.map_append]
              rfl
          · have e1 : ¬ fF (pr t) = true := by rw [eF, ← ne_bl]; exact e
            rw [etake, if_neg e1]
        · subst pv
          rw [tc.1, List.take_length]
          have sD := same_upd (o := .lst ((fl fF cs).map V.int)) hD
          refine ⟨D, _, rfl, .inl (.inl upd_same), ?_⟩
          rw [fl_sum]
          have eT : bs fF cs = tabE cs i j := by
            unfold tabE
            refine bs_congr fun t ht => ?_
            have ho := hG.ord t ht
            rw [← hf]
            have := mt_sep (k := k) (show (0 : Int) ≤ i by omega) i1 hk1 (show 0 ≤ t.1 by omega) (by omega) (show 0 ≤ t.2.1 by omega) (by omega)
            rw [hj] at this
            exact this
          rw [eT]
          have g8 := g7.same sD
          obtain ⟨r1, e1, a1, h1⟩ := g8.get (a := (i : Int)) (by omega) (by omega)
          refine ⟨_, rfl, _, rfl, R, _, _, _, rfl, rfl, .inl (.inl g8.at_), a1, _, rfl, r1, _, _, _, rfl, rfl, h1, gl_ix _ j0 j1, ?_⟩
          have g9 := g8.set (v := tabE cs i j) (by omega) j0 j1 e1
          refine ⟨⟨some (.int (1 + (k : Int))), some (.int j), rfl⟩, same_put (H1 := H) (z.fr r1 (List.mem_of_getElem? e1)) (s7.trans sD), g9.congr fun x y x0 x1 y0 y1 => ?_, ?_⟩
          · have hm := mt_step (k := k) (show (0 : Int) ≤ i by omega) i1 y0 y1 hk1
            rw [hj] at hm
            rw [hm]
            by_cases q1 : x = (i : Int) ∧ y = j
            · rw [if_pos q1, if_pos (.inr ⟨q1.1, by rw [if_pos q1.2]⟩), q1.1, q1.2]
            · rw [if_neg q1]
              by_cases q2 : x < (i : Int) ∨ (x = (i : Int) ∧ mt sz i k y = true)
              · rw [if_pos q2]
                rcases q2 with q2 | q2
                · rw [if_pos (.inl q2)]
                · rw [if_pos (.inr ⟨q2.1, by
                    split
                    · rfl
                    · exact q2.2⟩)]
              · rw [if_neg q2, if_neg]
                rintro (q3 | ⟨q3, q4⟩)
                · exact q2 (.inl q3)
                · have : ¬ y = j := fun z => q1 ⟨q3, z⟩
                  rw [if_neg this] at q4
                  exact q2 (.inr ⟨q3, q4⟩)
          · have nMr : M ≠ r1 := fun z => nMrr (by rw [z]; exact List.mem_of_getElem? e1)
            rw [upd_ne nMr]
            exact sD _ _ eM7
      · obtain ⟨⟨y6, y7, rfl⟩, s6, g6, eM⟩ := pv
        refine ⟨⟨_, _, _, _, _, _, rfl⟩, s6, g6.congr fun x y x0 x1 y0 y1 => ?_⟩
        by_cases q1 : x < (i : Int)
        · rw [if_pos (.inl q1), if_pos (by omega)]
        · by_cases q2 : x = (i : Int)
          · rw [mt_all (show (0 : Int) ≤ i by omega) (by omega) y0 y1 (by omega), if_pos (show x < ((i + 1 : Nat) : Int) by omega)]
            by_cases q3 : y = (i : Int)
            · rw [if_neg (fun z => by
                rcases z with z | z
                · exact q1 z
                · exact of_decide_eq_true z.2 q3), q2, q3, tabE_same]
            · rw [if_pos (.inr ⟨q2, decide_eq_true q3⟩)]
          · rw [if_neg (fun z => by
              rcases z with z | z
              · exact q1 z
              · exact q2 z.1), if_neg (by omega)]
    -- the tuples
    obtain ⟨⟨y4, y5, y6, y7, y8, y9, rfl⟩, s4, g4⟩ := pv
    have g5 : Grid H4 R rr sz sz (tabE cs) := g4.congr fun x y x0 x1 y0 y1 => by rw [if_pos (by omega)]
    refine ⟨_, rfl, R, rfl, ⟨_, .inl (.inl g5.at_)⟩, fun O hO => ?_⟩
    refine lc_list (K := K) (a := R) (xs := rr.map V.ref) (fun i H5 => Same H4 H5 ∧ ∃ us : List Addr, H5 O = some (.lst (us.map V.ref)) ∧ us.length = i ∧ ∀ (j : Nat) (u : Addr), us[j]? = some u → H5 u = some (.tup (gl sz (tabE cs j)))) ⟨same_upd hO, [], upd_same, rfl, by simp⟩ (fun i H5 _ p => .inl (.inl (p.1 _ _ g5.at_))) (fun i x H5 hxi p => ?_) (fun H5 p => ?_)
    · obtain ⟨s5, us, eO, hul, hus⟩ := p
      obtain ⟨r, hri, rfl⟩ : ∃ r, rr[i]? = some r ∧ x = .ref r := by
        rw [List.getElem?_map] at hxi
        cases e : rr[i]? with
        | none => rw [e] at hxi; cases hxi
        | some r =>
          rw [e] at hxi
          exact ⟨r, rfl, (Option.some.inj hxi).symm⟩
      have hi0 : i < sz.toNat := by
        rw [← g5.len]
        exact (List.getElem?_eq_some_iff.mp hri).1
      refine ⟨rfl, ?_⟩
      refine ⟨_, rfl, r, _, rfl, .inl ⟨.inl (.inl (s5 _ _ (g5.row i r hri))), fun u nu => ?_⟩⟩
      have nuO : u ≠ O := fun z => by
        rw [z, eO] at nu
        cases nu
      refine ⟨_, same_upd nu _ _ eO, ?_, same_put (H1 := H4) hO (s5.trans (same_upd nu)), us ++ [u], ?_, ?_, ?_⟩
      · rw [List.length_map, hul]
        exact small1000 (by omega)
      · rw [upd_same, List.map_append]
        rfl
      · rw [List.length_append, hul]
        rfl
      · intro j v e
        by_cases hj : j < us.length
        · rw [List.getElem?_append_left hj] at e
          have h5 := hus j v e
          have hv : v ≠ O := fun z => by
            rw [z, eO] at h5
            cases h5
          rw [upd_ne hv]
          exact same_upd nu _ _ h5
        · rw [List.getElem?_append_right (by omega)] at e
          have hk : j - us.length = 0 := by
            cases hk : j - us.length with
            | zero => rfl
            | succ k =>
              rw [hk] at e
              simp at e
          rw [hk] at e
          obtain rfl : u = v := Option.some.inj e
          have ej : j = i := by omega
          subst ej
          rw [upd_ne nuO, upd_same]
    · obtain ⟨s5, us, eO, hul, hus⟩ := p
      rw [List.length_map, g5.len] at hul
      refine ⟨O, _, rfl, .inl ⟨.inl (.inl eO), fun a na => ?_⟩⟩
      refine q _ a ((s4.trans s5).trans (same_upd na)) ⟨_, upd_same, ?_, fun j hj => ?_⟩
      · rw [List.length_map, hul, hsz2]
      · rw [hsz2] at hj
        have hj2 : j < us.length := by omega
        refine ⟨us[j], ?_, ?_⟩
        · rw [List.getElem?_map, List.getElem?_eq_getElem hj2]
          rfl
        · rw [hsz2]
          exact same_upd na _ _ (hus j _ (List.getElem?_eq_getElem hj2))
end
end Own

namespace Own
open PySem PySem.Spec PyProof.Rows L2
theorem gl_nat {n : Int} (f : Int → Int) {i : Nat} (h : i < n.toNat) : (gl n f)[i]? = some (.int (f (i : Int))) := by
  unfold gl
  rw [List.getElem?_map, List.getElem?_range h]
  rfl
theorem EqV.tab {H : Hp} {a b : Addr} {sz : Int} {f g : Int → Int → Int} (ha : TabAt H a sz f) (hb : TabAt H b sz g) (hs : sz ≤ 1000) (e : ∀ x y, 0 ≤ x → x < sz → 0 ≤ y → y < sz → f x y = g x y) : EqV 2 H (.ref a) (.ref b) := by
  obtain ⟨vs, e1, l1, r1⟩ := ha
  obtain ⟨us, e2, l2, r2⟩ := hb
  refine .inr ⟨a, b, vs, us, rfl, rfl, .inl ⟨e1, e2⟩, by rw [l1, l2], by omega, fun i x y hx hy => ?_⟩
  have hi : i < sz.toNat := by
    rw [← l1]
    exact (List.getElem?_eq_some_iff.mp hx).1
  obtain ⟨p, h1, h2⟩ := r1 i hi
  obtain ⟨q, h3, h4⟩ := r2 i hi
  rw [h1] at hx
  rw [h3] at hy
  obtain rfl := Option.some.inj hx
  obtain rfl := Option.some.inj hy
  refine .inr ⟨p, q, _, _, rfl, rfl, .inl ⟨h2, h4⟩, by rw [gl_len, gl_len], by rw [gl_len]; omega, fun k x y hx hy => ?_⟩
  have hk : k < sz.toNat := by
    have := (List.getElem?_eq_some_iff.mp hx).1
    rw [gl_len] at this
    exact this
  rw [gl_nat _ hk] at hx hy
  rw [e _ _ (by omega) (by omega) (by omega) (by omega)] at hx
  rw [hx] at hy
  cases hx
  cases hy
  exact EqV.int _
section
variable {P : Program} {w : World} {K : PySem.W.Frag} {mg : Str → Option Value} {base : Heap} {C : Addr}
def spLotIs (K : PySem.W.Frag) (C : Addr) : Sp := fun vs H Q _ => ∃ (p : Addr) (n : Int) (c : Addr) (cs : List Tr), vs = [.ref p, .int n, .ref c] ∧ LotAt C H p n cs ∧ Trip H c cs ∧ cs.length ≤ 1000 ∧ Q (.bl true) H
theorem ok_lotis {f : Addr} {fd : FuncData} (F : Fun K "_law_lot_is" "_law_lot_is" s__law_lot_is f fd) (T : Bi mg) (L : LotC K mg C) (I : C8.InsC K C) {f_s : Addr} {d_s : FuncData} (D_s : Df K mg "_law_same" s__law_same ["_law_value", "_law_due"] f_s d_s) (G_s : FnOk P w K mg base CX0 4 f_s d_s ["_law_value", "_law_due"] (spSame 2)) : FnOk P w K mg base CX0 5 f fd ["_law_lot", "_law_rim", "_law_held"] (spLotIs K C) := by
  refine F.ok sc__law_lot_is (fun vs H Q E h => ?_) (fun cdv A outer s H vs Q E hr h => ?_)
  · obtain ⟨p, n, c, cs, rfl, _⟩ := h
    rfl
  · obtain ⟨p, n, c, cs, rfl, hL, hc, hl, q⟩ := h
    refine ⟨_, (pss_one (ps_ret (pe_and (pe_callB call_isi (by rfl) T.b_isinstance (by decide +kernel) (pa_cons (pv 0) (pa_cons (pe_glob (v := .ref C) (by rfl) L.g rfl) pa_nil))) (pe_and (pe_call G_s (hr.mono (by decide)) (by rfl) D_s.g D_s.F.kp D_s.b .nil pass0 (pa_cons (pe_fld (pv 0) rfl) (pa_cons (pv 1) pa_nil))) (pe_one (pe_call G_s (hr.mono (by decide)) (by rfl) D_s.g D_s.F.kp D_s.b .nil pass0 (pa_cons (pe_fld (pv 0) rfl) (pa_cons (pv 2) pa_nil)))))))), ?_⟩
    obtain ⟨dx, c2, e, t⟩ := hL
    refine ⟨_, rfl, _, _, _, _, true, rfl, .own C, .base (.ins e I.cl I.ha I.hn I.htk I.hm), I.me, true, rfl, ?_⟩
    refine ⟨_, rfl, p, C, dx, _, _, rfl, e, L.cl, L.nP, flds_pins _ _, _, rfl, _, _, rfl, EqV.int n, true, rfl, ?_⟩
    exact ⟨_, rfl, p, C, dx, _, _, rfl, e, L.cl, L.nC, flds_cords _ _, _, rfl, _, _, rfl, EqV.trip t hc hl, q⟩
def spTold (C : Addr) : Sp := fun vs H Q _ => ∃ (p : Addr) (n : Int) (c : Addr) (cs : List Tr), vs = [.ref p, .int n, .ref c] ∧ LotAt C H p n cs ∧ Trip H c cs ∧ cs.length ≤ 1000 ∧ Good n cs ∧ 0 ≤ n ∧ n ≤ 1000 ∧ ∀ H', Same H H' → Q (.bl true) H'
theorem ok_told {f : Addr} {fd : FuncData} (F : Fun K "_law_told" "_law_told" s__law_told f fd) (T : Bi mg) (L : LotC K mg C) {f_s : Addr} {d_s : FuncData} (D_s : Df K mg "_law_same" s__law_same ["_law_value", "_law_due"] f_s d_s) (G_s : FnOk P w K mg base CX0 4 f_s d_s ["_law_value", "_law_due"] (spSame 2)) {f_lt : Addr} {d_lt : FuncData} (D_lt : Df K mg "_law_table" s__law_table ["_law_rim", "_law_held"] f_lt d_lt) (G_lt : FnOk P w K mg base CX0 1 f_lt d_lt ["_law_rim", "_law_held"] spLTab) {f_e f_t : Addr} {d_e d_t : FuncData}
    (M_e : Mt K C "ends" "Lot.ends" s_Lot_ends ["self", "pin"] f_e d_e) (G_e : FnOk P w K mg base CX0 4 f_e d_e ["self", "pin"] (spEnds C)) (M_t : Mt K C "total" "Lot.total" s_Lot_total ["self"] f_t d_t) (G_t : FnOk P w K mg base CX0 1 f_t d_t ["self"] (spTotal C))
    {f_tb p_t : Addr} {d_tb : FuncData} (P_t : PropOf K C "table" p_t f_tb) (b_t : Binds K d_tb ["self"] []) (G_tb : FnOk P w K mg base CX0 3 f_tb d_tb ["self"] (spTab C)) : FnOk P w K mg base CX0 5 f fd ["_law_lot", "_law_rim", "_law_due"] (spTold C) := by
  refine F.ok sc__law_told (fun vs H Q E h => ?_) (fun cdv A outer s H vs Q E hr h => ?_)
  · obtain ⟨p, n, c, cs, rfl, _⟩ := h
    rfl
  · obtain ⟨p, n, c, cs, rfl, hL, hc, hl, hG, n0, n1, q⟩ := h
    refine ⟨_, (pss_cons (ps_if (pt_not (pt_val (pe_call G_s hr (by rfl) D_s.g D_s.F.kp D_s.b .nil pass0 (pa_cons (pe_meth0 (pv 0) L.cl M_t.m G_t (hr.mono (by decide)) M_t.b .nil pass0) (pa_cons (pe_callB (cr_sum rfl) (by rfl) T.b_sum (by decide +kernel) (pa_cons (pe_lc (own := [("_law_entry_here", 4)]) (g := gName 4) (tt := tYes) rfl sc__law_told.nd (pi_tup (pv 2)) (blkOk_by (own := [("_law_entry_here", 4)]) (N := ["_law_lot", "_law_rim", "_law_due", "_law_spot", "_law_entry_here"]) (sc := defScope s__law_told) (by decide +kernel)) (fun _ _ _ _ _ => (pg_name (i := 4) sc__law_told.nd rfl (.inl rfl))) (fun _ _ _ _ _ => pts_nil) (fun _ _ _ _ _ => (pe_ix (r := rIxT K) ix_tup (pv 4) pe_int (fun _ _ => rfl)))) pa_nil)) pa_nil))))) (pss_one (ps_ret pe_bl)) pss_nil)
        (pss_cons (ps_for PassesOwn.never rfl (pi_range1 (by rfl) T.b_range (pa_cons (pv 1) pa_nil)) (pg_name (i := 3) sc__law_told.nd rfl (.inr rfl))
        (pss_one (ps_if (pt_not (pt_val (pe_call G_s hr (by rfl) D_s.g D_s.F.kp D_s.b .nil pass0 (pa_cons (pe_meth (pv 0) L.cl M_e.m G_e (hr.mono (by decide)) M_e.b .nil pass0 (pa_cons (pv 3) pa_nil)) (pa_cons (pe_callB (cr_sum rfl) (by rfl) T.b_sum (by decide +kernel) (pa_cons (pe_lc (own := [("_law_entry_here", 4)]) (g := gName 4) rfl sc__law_told.nd (pi_tup (pv 2)) (blkOk_by (own := [("_law_entry_here", 4)]) (N := ["_law_lot", "_law_rim", "_law_due", "_law_spot", "_law_entry_here"]) (sc := defScope s__law_told) (by decide +kernel)) (fun _ _ _ _ _ => (pg_name (i := 4) sc__law_told.nd rfl (.inl rfl))) (fun _ _ _ _ _ => pts_one (pt_cmpR (r := rIn K false) op_in_seq (pv 3) (pe_lst (pa_cons (pe_ix (r := rIxT K) ix_tup (pv 4) pe_int (fun _ _ => rfl)) (pa_cons (pe_ix (r := rIxT K) ix_tup (pv 4) pe_int (fun _ _ => rfl)) pa_nil))) (by rfl))) (fun _ _ _ _ _ => (pe_ix (r := rIxT K) ix_tup (pv 4) pe_int (fun _ _ => rfl)))) pa_nil)) pa_nil))))) (pss_one (ps_ret pe_bl)) pss_nil)))
        (pss_one (ps_ret (pe_or (pe_cmpR op_gt (pv 1) pe_int (nomark _)) (pe_one (pe_call G_s hr (by rfl) D_s.g D_s.F.kp D_s.b .nil pass0 (pa_cons (pe_prop (pv 0) L.cl P_t G_tb (hr.mono (by decide)) b_t .nil pass0 (by rfl)) (pa_cons (pe_call G_lt (hr.mono (by decide)) (by rfl) D_lt.g D_lt.F.kp D_lt.b .nil pass0 (pa_cons (pv 1) (pa_cons (pv 2) pa_nil))) pa_nil))))))))), ?_⟩
    have hv := hG.vld
    obtain ⟨vs, ec, tc⟩ := id hc
    obtain ⟨dx, c2, eL, tL⟩ := id hL
    refine ⟨_, rfl, p, dx, _, rfl, eL, flds_no _ _ (by decide +kernel) (by decide +kernel), p, n, cs, rfl, hL, hl, fun H1 s1 => ?_⟩
    refine ⟨_, rfl, c, rfl, ⟨vs, .inl (.inl (s1 _ _ ec))⟩, fun D hD => ?_⟩
    refine lc_tup (K := K) (a := c) (xs := vs) (fun i H2 => H2 = upd H1 D (.lst (((cs.map fun t => t.2.2).take i).map V.int))) rfl (fun i H2 _ p => by subst p; exact .inl (.inl (same_upd hD _ _ (s1 _ _ ec)))) (fun i x H2 hxi p => ?_) (fun H2 p => ?_)
    · subst p
      obtain ⟨u, t, rfl, hti, hu⟩ := (tc.same s1).at_ hxi
      refine ⟨rfl, ?_⟩
      refine ⟨_, rfl, u, _, 2, _, rfl, rfl, .inl (.inl (same_upd hD _ _ hu)), atI_nat (j := 2) rfl, _, upd_same, ?_, ?_⟩
      · rw [List.length_map, List.length_take, List.length_map]
        exact Nat.lt_of_le_of_lt (Nat.min_le_right _ _) (small1000 hl)
      · rw [upd_upd, List.take_add_one, List.getElem?_map, hti, List.map_append]
        rfl
    subst p
    rw [show vs.length = (cs.map fun t => t.2.2).length by rw [List.length_map]; exact tc.1, List.take_length]
    have s3 := s1.trans (same_upd (o := .lst ((cs.map fun t => t.2.2).map V.int)) hD)
    refine ⟨D, _, rfl, .inl (.inl upd_same), .int (totOf cs), .int (cs.map fun t => t.2.2).sum, rfl, EqV.int _, true, rfl, ?_⟩
    generalize (upd H1 D (.lst ((cs.map fun t => t.2.2).map V.int))) = H3 at s3
    refine ⟨_, rfl, n, rfl, by omega, by omega, for_range (lo := 0) (n := n.toNat) (fun i σ H' => (∃ y3 y4, σ = [some (.ref p), some (.int n), some (.ref c), y3, y4]) ∧ Same H H') ⟨⟨_, _, rfl⟩, s3⟩ (fun i σ H' hi pv => ?_) (fun σ H' pv => ?_)⟩
    · obtain ⟨⟨y3, y4, rfl⟩, sm⟩ := pv
      refine ⟨_, rfl, p, dx, _, rfl, sm _ _ eL, flds_no _ _ (by decide +kernel) (by decide +kernel), _, rfl, p, _, n, cs, rfl, hL.same sm, by omega, by omega, n1, hv, fun H1 s1 => ?_⟩
      refine ⟨_, rfl, c, rfl, ⟨vs, .inl (.inl (s1 _ _ (sm _ _ ec)))⟩, fun D hD => ?_⟩
      generalize hf : (fun q : Int × Int => decide (q.1 = 0 + (i : Int) ∨ q.2 = 0 + (i : Int))) = fF
      refine lc_tup (K := K) (a := c) (xs := vs) (fun m H2 => Same H1 H2 ∧ H2 D = some (.lst ((fl fF (cs.take m)).map V.int))) ⟨same_upd hD, upd_same⟩ (fun m H2 _ pv => .inl (.inl (pv.1 _ _ (s1 _ _ (sm _ _ ec))))) (fun m x H2 hxm pv => ?_) (fun H2 pv => ?_)
      · obtain ⟨s2, eD⟩ := pv
        obtain ⟨u, t, rfl, htm, hu⟩ := ((tc.same sm).same (s1.trans s2)).at_ hxm
        have qu : SqT K H2 u (tv t) := .inl (.inl hu)
        have a0 : atI (tv t) 0 = some (.int t.1) := atI_nat (j := 0) rfl
        have a1 : atI (tv t) 1 = some (.int t.2.1) := atI_nat (j := 1) rfl
        have a2 : atI (tv t) 2 = some (.int t.2.2) := atI_nat (j := 2) rfl
        have etake : fl fF (cs.take (m + 1)) = if fF (pr t) = true then fl fF (cs.take m) ++ [t.2.2] else fl fF (cs.take m) := by
          rw [List.take_add_one, htm]
          exact fl_snoc fF (cs.take m) t
        have eF : fF (pr t) = inV (.int (0 + (i : Int))) [.int t.1, .int t.2.1] := by
          rw [← hf]
          show decide (t.1 = 0 + (i : Int) ∨ t.2.1 = 0 + (i : Int)) = ((t.1 == 0 + (i : Int)) || ((t.2.1 == 0 + (i : Int)) || false))
          generalize 0 + (i : Int) = z
          by_cases h1 : t.1 = z <;> by_cases h2 : t.2.1 = z <;> simp [h1, h2]
        refine ⟨rfl, ?_⟩
        refine ⟨_, rfl, _, rfl, u, _, 0, _, rfl, rfl, qu, a0, _, rfl, u, _, 1, _, rfl, rfl, qu, a1, by show 2 ≤ sizeLine; decide, fun g hg => ⟨g, _, rfl, .inl (.inl (.inl upd_same)), rfl, rfl, _, rfl, ?_⟩⟩
        have sg := same_upd (o := .lst [.int t.1, .int t.2.1]) hg
        have eD2 := sg _ _ eD
        refine ite2 (fun e => ?_) (fun e => ?_)
        · have e1 : fF (pr t) = true := by rw [eF]; exact e
          refine ⟨_, rfl, u, _, 2, _, rfl, rfl, .inl (.inl (sg _ _ hu)), a2, _, eD2, ?_, same_put (H1 := H1) hD (s2.trans sg), ?_⟩
          · rw [List.length_map]
            refine Nat.lt_of_le_of_lt (Nat.le_trans (fl_len _ _) ?_) (small1000 hl)
            rw [List.length_take]
            exact Nat.min_le_right _ _
          · rw [upd_same, etake, if_pos e1, List.map_append]
            rfl
        · have e1 : ¬ fF (pr t) = true := by rw [eF]; exact e
          refine ⟨s2.trans sg, ?_⟩
          rw [etake, if_neg e1]
          exact eD2
      · obtain ⟨s2, eD⟩ := pv
        rw [tc.1, List.take_length] at eD
        refine ⟨D, _, rfl, .inl (.inl eD), ?_⟩
        rw [fl_sum]
        refine ⟨.int (endsOf cs (0 + (i : Int))), .int (bs fF cs), rfl, ?_, true, rfl, ⟨_, _, rfl⟩, (sm.trans s1).trans s2⟩
        rw [← hf]
        exact EqV.int _
    · obtain ⟨⟨y3, y4, rfl⟩, sm⟩ := pv
      refine ⟨_, rfl, n, 12, rfl, rfl, ?_⟩
      have hz := lo_hi n 1
      refine ⟨_, rfl, ite2 (fun e => ?_) (fun e => ?_)⟩
      · exact q _ sm
      · refine ⟨_, rfl, p, dx, _, rfl, sm _ _ eL, p, n, cs, rfl, hL.same sm, n0, n1, hG, fun H1 u s1 h1 => ?_⟩
        refine ⟨_, rfl, _, rfl, n, c, cs, rfl, n0, n1, hc.same (sm.trans s1), hG, hl, fun H2 u2 s2 h2 => ?_⟩
        exact ⟨_, _, rfl, EqV.tab (h1.same s2) h2 (by omega) (fun _ _ _ _ _ _ => rfl), q _ ((sm.trans s1).trans s2)⟩
end
end Own

namespace Own
open PySem PySem.Spec PyProof.Rows L2 L2H
theorem units0H {k : Nat} {A : Around} (r : L2H.RoomH k A) : A.units < cLine := by have := r.un; omega
theorem EqV.same {H H' : Hp} (s : Same H H') : ∀ {d : Nat} {x y : V}, EqV d H x y → EqV d H' x y
  | 0, x, y, h => by
    rcases h with h | h | h | h | ⟨p, kvs, e1, e2, h, k⟩
    · exact .inl h
    · exact .inr (.inl h)
    · exact .inr (.inr (.inl h))
    · exact .inr (.inr (.inr (.inl h)))
    · exact .inr (.inr (.inr (.inr ⟨p, kvs, e1, e2, s _ _ h, k⟩)))
  | d + 1, x, y, h => by
    rcases h with h | ⟨a, b, vs, us, e1, e2, hab, l1, l2, hi⟩
    · exact .inl (EqV.same s h)
    · refine .inr ⟨a, b, vs, us, e1, e2, ?_, l1, l2, fun i x y hx hy => EqV.same s (hi i x y hx hy)⟩
      rcases hab with ⟨h1, h2⟩ | ⟨h1, h2⟩
      · exact .inl ⟨s _ _ h1, s _ _ h2⟩
      · exact .inr ⟨s _ _ h1, s _ _ h2⟩
section
variable {P : Program} {w : World} {K : PySem.W.Frag} {mg : Str → Option Value} {base : Heap} {C : Addr}
theorem okH_lwhole {f : Addr} {fd : FuncData} (F : Fun K "_law_whole" "_law_whole" s__law_whole f fd) (T : Bi mg) : L2H.FnH P w K mg base CX0 1 f fd ["_law_value"] spWhole := by
  refine okH F sc__law_whole (fun vs H Q E h => ?_) (fun cdv A outer s H vs Q E p hot hr h => ?_)
  · obtain ⟨i, rfl, _⟩ := h
    rfl
  · obtain ⟨i, rfl, q⟩ := h
    refine ⟨_, (pss_one (ps_ret (pe_and (pe_callB call_isi (by rfl) T.b_isinstance (by decide +kernel) (pa_cons (pv 0) (pa_cons (pe_bltn (v := .ty "int") (by rfl) T.b_int (by decide +kernel) rfl) pa_nil))) (pe_one (pe_not (pe_callB call_isi (by rfl) T.b_isinstance (by decide +kernel) (pa_cons (pv 0) (pa_cons (pe_bltn (v := .ty "bool") (by rfl) T.b_bool (by decide +kernel) rfl) pa_nil)))))))), ?_⟩
    refine ⟨_, rfl, _, _, _, _, true, rfl, .ty "int", .base (.int i), kit_ty (by decide +kernel), true, rfl, ?_⟩
    exact ⟨_, rfl, _, _, _, _, false, rfl, .ty "bool", .base (.int i), kit_ty (by decide +kernel), false, rfl, q⟩
theorem fnH_no {k : Nat} {f : Addr} {fd : FuncData} {ps : List Str} : L2H.FnH P w K mg base CX0 k f fd ps spNo := ⟨fun _ _ _ _ h => h.elim, fun _ _ _ _ _ _ _ _ _ _ _ _ _ _ _ _ h => h.elim⟩
/-- its body, with any promise for the call within -/
theorem sameH_body {f : Addr} {fd : FuncData} {k : Nat} {sp : Sp} {d : Nat} (D_s : Df K mg "_law_same" s__law_same ["_law_value", "_law_due"] f fd) (T : Bi mg) (T_di : mg "dict" = none) {f_w : Addr} {d_w : FuncData} (D_w : Df K mg "_law_whole" s__law_whole ["_law_value"] f_w d_w) (G_w : L2H.FnH P w K mg base CX0 1 f_w d_w ["_law_value"] spWhole)
    (G_s : L2H.FnH P w K mg base CX0 (k + 1) f fd ["_law_value", "_law_due"] sp) (hsp : ∀ e x y H Q, e + 1 ≤ d → EqV e H x y → Q (.bl true) H → sp [x, y] H Q E0) : L2H.FnH P w K mg base CX0 (k + 2) f fd ["_law_value", "_law_due"] (spSame d) := by
  refine okH D_s.F sc__law_same (fun vs H Q E h => ?_) (fun cdv A outer s H vs Q E p hot hr h => ?_)
  · obtain ⟨x, y, rfl, _⟩ := h
    rfl
  · obtain ⟨x, y, rfl, hxy, q⟩ := h
    have hu1 := units0H hr
    refine ⟨_, (pss_cons (ps_if (pt_cmpR op_isN (pv 1) pe_non (nomark _)) (pss_one (ps_ret (pe_cmpR op_isN (pv 0) pe_non (nomark _)))) pss_nil)
        (pss_cons (ps_if (pt_val (pe_callB call_isi (by rfl) T.b_isinstance (by decide +kernel) (pa_cons (pv 1) (pa_cons (pe_bltn (v := .ty "bool") (by rfl) T.b_bool (by decide +kernel) rfl) pa_nil)))) (pss_one (ps_ret (pe_and (pe_callB call_isi (by rfl) T.b_isinstance (by decide +kernel) (pa_cons (pv 0) (pa_cons (pe_bltn (v := .ty "bool") (by rfl) T.b_bool (by decide +kernel) rfl) pa_nil))) (pe_one (pe_cmpR op_eq (pv 0) (pv 1) (nomark _)))))) pss_nil)
        (pss_cons (ps_if (pt_val (pe_callB call_isi (by rfl) T.b_isinstance (by decide +kernel) (pa_cons (pv 1) (pa_cons (pe_bltn (v := .ty "int") (by rfl) T.b_int (by decide +kernel) rfl) pa_nil)))) (pss_one (ps_ret (pe_and (pe_callH G_w (hr.mono (by omega)) hot (by rfl) D_w.g D_w.F.kp D_w.b (E := fun _ => E0) (fun _ => pass0A) (pa_cons (pv 0) pa_nil)) (pe_one (pe_cmpR op_eq (pv 0) (pv 1) (nomark _)))))) pss_nil)
        (pss_cons (ps_if (pt_val (pe_callB call_isi (by rfl) T.b_isinstance (by decide +kernel) (pa_cons (pv 1) (pa_cons (pe_bltn (v := .ty "str") (by rfl) T.b_str (by decide +kernel) rfl) pa_nil)))) (pss_one (ps_ret (pe_and (pe_callB call_isi (by rfl) T.b_isinstance (by decide +kernel) (pa_cons (pv 0) (pa_cons (pe_bltn (v := .ty "str") (by rfl) T.b_str (by decide +kernel) rfl) pa_nil))) (pe_one (pe_cmpR op_eq (pv 0) (pv 1) (nomark _)))))) pss_nil)
        (pss_cons (ps_if (pt_val (pe_callB call_isi (by rfl) T.b_isinstance (by decide +kernel) (pa_cons (pv 1) (pa_cons (pe_bltn (v := .ty "dict") (by rfl) T_di (by decide +kernel) rfl) pa_nil)))) (pss_one (ps_ret (pe_and (pe_callB call_isi (by rfl) T.b_isinstance (by decide +kernel) (pa_cons (pv 0) (pa_cons (pe_bltn (v := .ty "dict") (by rfl) T_di (by decide +kernel) rfl) pa_nil))) (pe_one (pe_cmpR (op_eq_dictA hu1) (pv 0) (pv 1) (nomark _)))))) pss_nil)
        (pss_cons (ps_if (PW.pt (pw_and (pt_val (pe_callB call_isi (by rfl) T.b_isinstance (by decide +kernel) (pa_cons (pv 1) (pa_cons (pe_bltn (v := .ty "list") (by rfl) T.b_list (by decide +kernel) rfl) pa_nil)))) (pw_and1 (pt_not (pt_val (pe_callB call_isi (by rfl) T.b_isinstance (by decide +kernel) (pa_cons (pv 0) (pa_cons (pe_bltn (v := .ty "list") (by rfl) T.b_list (by decide +kernel) rfl) pa_nil)))))))) (pss_one (ps_ret pe_bl)) pss_nil)
        (pss_cons (ps_if (PW.pt (pw_and (pt_val (pe_callB call_isi (by rfl) T.b_isinstance (by decide +kernel) (pa_cons (pv 1) (pa_cons (pe_bltn (v := .ty "tuple") (by rfl) T.b_tuple (by decide +kernel) rfl) pa_nil)))) (pw_and1 (pt_not (pt_val (pe_callB call_isi (by rfl) T.b_isinstance (by decide +kernel) (pa_cons (pv 0) (pa_cons (pe_bltn (v := .ty "tuple") (by rfl) T.b_tuple (by decide +kernel) rfl) pa_nil)))))))) (pss_one (ps_ret pe_bl)) pss_nil)
        (pss_cons (ps_if (pt_cmpR op_ne (pe_callB call_len_seq (by rfl) T.b_len PySem.boot_len (pa_cons (pv 0) pa_nil)) (pe_callB call_len_seq (by rfl) T.b_len PySem.boot_len (pa_cons (pv 1) pa_nil)) (nomark _)) (pss_one (ps_ret pe_bl)) pss_nil)
        (pss_cons (ps_forH PassesOwn.never hot (pi_range1H (by rfl) T.b_range (pa_cons (pe_callB call_len_seq (by rfl) T.b_len PySem.boot_len (pa_cons (pv 1) pa_nil)) pa_nil)) (pg_name (i := 2) sc__law_same.nd rfl (.inl rfl))
        (pss_one (ps_if (pt_not (pt_val (pe_callH G_s hr hot (by rfl) D_s.g D_s.F.kp D_s.b (E := fun _ => E0) (fun _ => pass0A) (pa_cons (pe_ix (r := rIxB K) ix_seqB (pv 0) (pv 2) (fun _ _ => rfl)) (pa_cons (pe_ix (r := rIxB K) ix_seqB (pv 1) (pv 2) (fun _ _ => rfl)) pa_nil))))) (pss_one (ps_ret pe_bl)) pss_nil)))
        (pss_one (ps_ret pe_bl))))))))))), ?_⟩
    rcases hxy.cases' with (⟨i, rfl, rfl⟩ | ⟨b, rfl, rfl⟩ | ⟨rfl, rfl⟩ | ⟨z, rfl, rfl⟩ | ⟨p_, kvs, rfl, rfl, hd, dk⟩) | ⟨e, a, b, vs, us, hle, rfl, rfl, hab, hlen, hl, hel⟩
    · refine ⟨_, rfl, rfl, _, rfl, ?_⟩
      refine ⟨_, rfl, _, _, _, _, false, rfl, .ty "bool", .base (.int i), kit_ty (by decide +kernel), false, rfl, ?_⟩
      refine ⟨_, rfl, _, _, _, _, true, rfl, .ty "int", .base (.int i), kit_ty (by decide +kernel), true, rfl, ?_⟩
      refine ⟨_, rfl, i, rfl, true, rfl, ?_⟩
      refine ⟨_, rfl, _, rfl, rfl, ?_⟩
      rw [decide_eq_true rfl]
      exact q
    · refine ⟨_, rfl, rfl, _, rfl, ?_⟩
      refine ⟨_, rfl, _, _, _, _, true, rfl, .ty "bool", .base (.bl b), kit_ty (by decide +kernel), true, rfl, ?_⟩
      refine ⟨_, rfl, _, _, _, _, true, rfl, .ty "bool", .base (.bl b), kit_ty (by decide +kernel), true, rfl, ?_⟩
      refine ⟨_, rfl, _, rfl, rfl, ?_⟩
      rw [decide_eq_true rfl]
      exact q
    · refine ⟨_, rfl, rfl, _, rfl, ?_⟩
      exact ⟨_, rfl, rfl, q⟩
    · refine ⟨_, rfl, rfl, _, rfl, ?_⟩
      refine ⟨_, rfl, _, _, _, _, false, rfl, .ty "bool", .base (.str z), kit_ty (by decide +kernel), false, rfl, ?_⟩
      refine ⟨_, rfl, _, _, _, _, false, rfl, .ty "int", .base (.str z), kit_ty (by decide +kernel), false, rfl, ?_⟩
      refine ⟨_, rfl, _, _, _, _, true, rfl, .ty "str", .base (.str z), kit_ty (by decide +kernel), true, rfl, ?_⟩
      refine ⟨_, rfl, _, _, _, _, true, rfl, .ty "str", .base (.str z), kit_ty (by decide +kernel), true, rfl, ?_⟩
      refine ⟨_, rfl, _, rfl, rfl, ?_⟩
      rw [decide_eq_true rfl]
      exact q
    · have tB : TyX K H (.ref p_) (.type "dict") := .base (.dK hd)
      refine ⟨_, rfl, rfl, _, rfl, ?_⟩
      refine ⟨_, rfl, _, _, _, _, false, rfl, .ty "bool", tB, kit_ty (by decide +kernel), false, rfl, ?_⟩
      refine ⟨_, rfl, _, _, _, _, false, rfl, .ty "int", tB, kit_ty (by decide +kernel), false, rfl, ?_⟩
      refine ⟨_, rfl, _, _, _, _, false, rfl, .ty "str", tB, kit_ty (by decide +kernel), false, rfl, ?_⟩
      refine ⟨_, rfl, _, _, _, _, true, rfl, .ty "dict", tB, kit_ty (by decide +kernel), true, rfl, ?_⟩
      refine ⟨_, rfl, _, _, _, _, true, rfl, .ty "dict", tB, kit_ty (by decide +kernel), true, rfl, ?_⟩
      exact ⟨_, rfl, _, rfl, p_, p_, kvs, kvs, rfl, rfl, hd, hd, rfl, dk, q⟩
    · rcases hab with ⟨ha, hb⟩ | ⟨ha, hb⟩
      · have tA : TyX K H (.ref a) (.type "tuple") := .base (.tup ha)
        have tB : TyX K H (.ref b) (.type "tuple") := .base (.tup hb)
        have qA : SqB K H a vs := .inr (.inl (.inl ha))
        have qB : SqB K H b us := .inr (.inl (.inl hb))
        refine ⟨_, rfl, rfl, _, rfl, ?_⟩
        refine ⟨_, rfl, _, _, _, _, false, rfl, .ty "bool", tB, kit_ty (by decide +kernel), false, rfl, ?_⟩
        refine ⟨_, rfl, _, _, _, _, false, rfl, .ty "int", tB, kit_ty (by decide +kernel), false, rfl, ?_⟩
        refine ⟨_, rfl, _, _, _, _, false, rfl, .ty "str", tB, kit_ty (by decide +kernel), false, rfl, ?_⟩
        refine ⟨_, rfl, _, _, _, _, false, rfl, .ty "dict", tB, kit_ty (by decide +kernel), false, rfl, ?_⟩
        refine ⟨_, rfl, _, _, _, _, false, rfl, .ty "list", tB, kit_ty (by decide +kernel), false, rfl, ?_⟩
        refine ⟨_, rfl, _, _, _, _, true, rfl, .ty "tuple", tB, kit_ty (by decide +kernel), true, rfl, ?_⟩
        refine ⟨_, rfl, _, _, _, _, true, rfl, .ty "tuple", tA, kit_ty (by decide +kernel), true, rfl, ?_⟩
        refine ⟨_, rfl, a, _, rfl, qA, _, rfl, b, _, rfl, qB, rfl, _, rfl, ?_⟩
        rw [hlen]
        refine iteNS rfl ?_
        refine ⟨_, rfl, b, _, rfl, qB, _, rfl, by omega, by omega, ?_⟩
        rw [show ((us.length : Int)).toNat = us.length by omega]
        refine for_range (lo := 0) (n := us.length) (fun i σ H' => (∃ y2, σ = [some (.ref a), some (.ref b), y2]) ∧ H' = H) ⟨⟨_, rfl⟩, rfl⟩ (fun i σ H' hi p => ?_) (fun σ H' p => ?_)
        · obtain ⟨⟨y2, rfl⟩, rfl⟩ := p
          have hv : vs[i]? = some vs[i] := List.getElem?_eq_getElem (by omega)
          have hu : us[i]? = some us[i] := List.getElem?_eq_getElem hi
          refine ⟨_, rfl, _, rfl, a, _, _, _, rfl, rfl, qA, at_of (j := i) (by omega) hv, _, rfl, _, rfl, b, _, _, _, rfl, rfl, qB, at_of (j := i) (by omega) hu, ?_⟩
          exact hsp e _ _ _ _ hle (hel i _ _ hv hu) ⟨true, rfl, ⟨_, rfl⟩, rfl⟩
        · obtain ⟨_, rfl⟩ := p
          exact q
      · have tA : TyX K H (.ref a) (.type "list") := .base (.lst ha)
        have tB : TyX K H (.ref b) (.type "list") := .base (.lst hb)
        have qA : SqB K H a vs := .inl (.inl (.inl ha))
        have qB : SqB K H b us := .inl (.inl (.inl hb))
        refine ⟨_, rfl, rfl, _, rfl, ?_⟩
        refine ⟨_, rfl, _, _, _, _, false, rfl, .ty "bool", tB, kit_ty (by decide +kernel), false, rfl, ?_⟩
        refine ⟨_, rfl, _, _, _, _, false, rfl, .ty "int", tB, kit_ty (by decide +kernel), false, rfl, ?_⟩
        refine ⟨_, rfl, _, _, _, _, false, rfl, .ty "str", tB, kit_ty (by decide +kernel), false, rfl, ?_⟩
        refine ⟨_, rfl, _, _, _, _, false, rfl, .ty "dict", tB, kit_ty (by decide +kernel), false, rfl, ?_⟩
        refine ⟨_, rfl, _, _, _, _, true, rfl, .ty "list", tB, kit_ty (by decide +kernel), true, rfl, ?_⟩
        refine ⟨_, rfl, _, _, _, _, true, rfl, .ty "list", tA, kit_ty (by decide +kernel), true, rfl, ?_⟩
        refine ⟨_, rfl, _, _, _, _, false, rfl, .ty "tuple", tB, kit_ty (by decide +kernel), false, rfl, ?_⟩
        refine ⟨_, rfl, a, _, rfl, qA, _, rfl, b, _, rfl, qB, rfl, _, rfl, ?_⟩
        rw [hlen]
        refine iteNS rfl ?_
        refine ⟨_, rfl, b, _, rfl, qB, _, rfl, by omega, by omega, ?_⟩
        rw [show ((us.length : Int)).toNat = us.length by omega]
        refine for_range (lo := 0) (n := us.length) (fun i σ H' => (∃ y2, σ = [some (.ref a), some (.ref b), y2]) ∧ H' = H) ⟨⟨_, rfl⟩, rfl⟩ (fun i σ H' hi p => ?_) (fun σ H' p => ?_)
        · obtain ⟨⟨y2, rfl⟩, rfl⟩ := p
          have hv : vs[i]? = some vs[i] := List.getElem?_eq_getElem (by omega)
          have hu : us[i]? = some us[i] := List.getElem?_eq_getElem hi
          refine ⟨_, rfl, _, rfl, a, _, _, _, rfl, rfl, qA, at_of (j := i) (by omega) hv, _, rfl, _, rfl, b, _, _, _, rfl, rfl, qB, at_of (j := i) (by omega) hu, ?_⟩
          exact hsp e _ _ _ _ hle (hel i _ _ hv hu) ⟨true, rfl, ⟨_, rfl⟩, rfl⟩
        · obtain ⟨_, rfl⟩ := p
          exact q
theorem okH_same {f : Addr} {fd : FuncData} (D_s : Df K mg "_law_same" s__law_same ["_law_value", "_law_due"] f fd) (T : Bi mg) (T_di : mg "dict" = none) {f_w : Addr} {d_w : FuncData} (D_w : Df K mg "_law_whole" s__law_whole ["_law_value"] f_w d_w) (G_w : L2H.FnH P w K mg base CX0 1 f_w d_w ["_law_value"] spWhole) :
    ∀ d : Nat, L2H.FnH P w K mg base CX0 (d + 2) f fd ["_law_value", "_law_due"] (spSame d)
  | 0 => sameH_body (k := 0) D_s T T_di D_w G_w (sp := spNo) fnH_no fun e x y H Q h => absurd h (by omega)
  | d + 1 => sameH_body (k := d + 1) D_s T T_di D_w G_w (okH_same D_s T T_di D_w G_w d) fun e x y H Q h h1 q => ⟨x, y, rfl, h1.le (by omega), q⟩
end
/-! ### an object made where an error may go to a handler -/
section
variable {X : Cx} {CX : CXT} {k : Nat} {f C : Addr} {fd : FuncData} {ps : List Str} {sp : Sp} {dvs : List V} {ds : List Value} {E : L2.St → XK} {x : Str} {p pos : Pos} {e : Expr} {es : List Expr} {t : TA}
def tMakeE (C : Addr) (sp : Sp) (dvs : List V) (E : L2.St → XK) (t : TA) : TE := fun σ H Q => tMake C sp dvs (E σ) t σ H Q
theorem pe_makeE (M : Mk X.K C f) (F : FnOk X.prog X.w X.K X.mg X.base CX k f fd ps sp) (hr : Room (k + 1) X.A) (hg : Gl X x) (hm : X.mg x = some (.ref C)) (hb : Binds X.K fd ps ds) (hd : Vals dvs ds) (hx : ∀ σ, PassesAt CX X σ (E σ))
    (ha : PA X (e :: es) t) (hdb : (x == ("__debug__" : Str)) = false := by decide)
    (he : starEach (e :: es) X.env = (false, eval e X.env) :: starEach es X.env := by rfl)
    (hpl : (backTo pos (starEach es X.env)).any (·.1) = false := by rfl) :
    PE X (.Call (.Name x p) (e :: es) [] pos) (tMakeE C sp dvs E t) := by
  constructor
  intro pins s σ H Q inv ask
  refine wpAny_Call_Name_kw (ld_glob inv hg hm ?_ hdb)
  refine PySem.W.callWith_K (h₀ := X.base) inv.ok.mod.kin M.kp (thn (ha.run pos pins s σ H _ inv ask) ?_) he hpl
  rintro us s1 ⟨vs, H1, inv1, r, q⟩
  refine ⟨inv1.kIn, ?_⟩
  have ask2 := q (s1.heap.objs.size + 1) s1.heap.objs.size (inv1.hok.fresh (Nat.le_succ _)) (inv1.hok.fresh (Nat.le_refl _)) (Nat.ne_of_lt (Nat.lt_succ_self _))
  have inv2 := Inv.made (C := C) inv1
  have rr : Vals (V.ref (s1.heap.objs.size + 1) :: (vs ++ dvs)) (Value.ref (s1.heap.objs.size + 1) :: (us ++ ds)) := .cons rfl (r.append hd)
  have len : (Value.ref (s1.heap.objs.size + 1) :: us ++ ds).length = ps.length := (rr.length).symm.trans (F.len _ _ _ _ ask2)
  refine wpAny_call (make_map (f := f) inv1.kIn M.makes M.init (beq_iff_eq.mp M.fn) (codeAny_mono (F.run _ X.stack _ _ ⟨Value.ref (s1.heap.objs.size + 1) :: us, []⟩ (Value.ref (s1.heap.objs.size + 1) :: (us ++ ds)) _ _ (E σ) (hr.make C us []) (inv2.env0.make C us []) (hb _ (Value.ref (s1.heap.objs.size + 1) :: us) inv2.kIn len) rr ask2) ?_))
  rintro (er | fl) s' hq
  · exact hx σ pins _ _ er s' inv2 hq
  · cases fl with
    | ret u =>
      obtain ⟨v, H', inv3, rv, ev, q3⟩ := inv2.after hq
      subst ev
      exact ⟨rv, ⟨V.ref (s1.heap.objs.size + 1), H', inv3, rfl, q3⟩⟩
    | _ => exact hq.elim
end
end Own

namespace Own
open PySem PySem.Spec PyProof.Rows L2
/-- what may stand in the entries that are passed: it is the same as itself, and a list's items are -/
def It (K : PySem.W.Frag) (H : Hp) (v : V) : Prop := EqV 2 H v v ∧ ((∃ (b : Addr) (us : List V), v = .ref b ∧ H b = some (.lst us) ∧ us.length ≤ 1000 ∧ ∀ u ∈ us, EqV 1 H u u) ∨ ∃ T, TyX K H v (.type T) ∧ T ∈ ["int", "bool", "NoneType", "str", "tuple", "dict"])
theorem It.same {K : PySem.W.Frag} {H H' : Hp} {v : V} (s : Same H H') (h : It K H v) : It K H' v := by
  refine ⟨h.1.same s, ?_⟩
  rcases h.2 with ⟨b, us, e, hb, l, q⟩ | ⟨T, ty, m⟩
  · exact .inl ⟨b, us, e, s _ _ hb, l, fun u hu => (q u hu).same s⟩
  · exact .inr ⟨T, tyx_same s ty, m⟩
/-- a value and its copy, the list D aside -/
def Cp (H0 : Hp) (D : Addr) (H' : Hp) (x y : V) : Prop := (x = y ∧ EqV 2 H0 x x) ∨ ∃ (b c : Addr) (us : List V), x = .ref b ∧ y = .ref c ∧ H0 b = some (.lst us) ∧ us.length ≤ 1000 ∧ (∀ u ∈ us, EqV 1 H0 u u) ∧ c ≠ D ∧ H' c = some (.lst us)
theorem Cp.put {H0 H H' : Hp} {D : Addr} {o : HO} {x y : V} (s : Same H H') (h : Cp H0 D H x y) : Cp H0 D (upd H' D o) x y := by
  rcases h with h | ⟨b, c, us, e1, e2, hb, l, q, n, hc⟩
  · exact .inl h
  · exact .inr ⟨b, c, us, e1, e2, hb, l, q, n, by rw [upd_ne n]; exact s _ _ hc⟩
theorem Cp.eqv {H0 H' : Hp} {D : Addr} {x y : V} (s : Same H0 H') (h : Cp H0 D H' x y) : EqV 2 H' x y := by
  rcases h with ⟨rfl, h⟩ | ⟨b, c, us, rfl, rfl, hb, l, q, n, hc⟩
  · exact h.same s
  · refine .inr ⟨b, c, us, us, rfl, rfl, .inr ⟨s _ _ hb, hc⟩, rfl, l, fun i x y hx hy => ?_⟩
    rw [hx] at hy
    cases hy
    exact (q _ (List.mem_of_getElem? hx)).same s
section
variable {P : Program} {w : World} {K : PySem.W.Frag} {mg : Str → Option Value} {base : Heap} {C : Addr}
def spCopied (K : PySem.W.Frag) : Sp := fun vs H Q _ => ∃ (h : Addr) (xs : List V), vs = [.ref h] ∧ SqH H h xs ∧ xs.length ≤ 1000 ∧ (∀ x ∈ xs, It K H x) ∧ ∀ H' c, Same H H' → EqV 3 H' (.ref h) (.ref c) → Q (.ref c) H'
theorem ok_copied {f : Addr} {fd : FuncData} (F : Fun K "_law_copied" "_law_copied" s__law_copied f fd) (T : Bi mg) : FnOk P w K mg base CX0 1 f fd ["_law_held"] (spCopied K) := by
  refine F.ok sc__law_copied (fun vs H Q E h => ?_) (fun cdv A outer s H vs Q E hr h => ?_)
  · obtain ⟨h, xs, rfl, _⟩ := h
    rfl
  · obtain ⟨h, xs, rfl, hs, hl, hx, q⟩ := h
    refine ⟨_, (pss_cons (ps_set (i := 1) sc__law_copied.nd rfl (.inl rfl) (pe_lst pa_nil))
        (pss_cons (ps_for PassesOwn.never rfl (pi_seq (pv 0)) (pg_name (i := 2) sc__law_copied.nd rfl (.inl rfl))
        (pss_one (ps_if (pt_val (pe_callB call_isi (by rfl) T.b_isinstance (by decide +kernel) (pa_cons (pv 2) (pa_cons (pe_bltn (v := .ty "list") (by rfl) T.b_list (by decide +kernel) rfl) pa_nil)))) (pss_one (ps_expr (pe_bm PySem.F.plainAttrs_list PySem.F.slot_list_append PySem.F.type_list_append mt_append (pv 1) (pa_cons (pe_callTy call_list_of (by rfl) T.b_list (by decide +kernel) (pa_cons (pv 2) pa_nil)) pa_nil)))) (pss_one (ps_expr (pe_bm PySem.F.plainAttrs_list PySem.F.slot_list_append PySem.F.type_list_append mt_append (pv 1) (pa_cons (pv 2) pa_nil)))))))
        (pss_cons (ps_if (pt_val (pe_callB call_isi (by rfl) T.b_isinstance (by decide +kernel) (pa_cons (pv 0) (pa_cons (pe_bltn (v := .ty "tuple") (by rfl) T.b_tuple (by decide +kernel) rfl) pa_nil)))) (pss_one (ps_ret (pe_callTy call_tuple_of (by rfl) T.b_tuple (by decide +kernel) (pa_cons (pv 1) pa_nil)))) pss_nil)
        (pss_one (ps_ret (pv 1)))))), ?_⟩
    refine ⟨by show 0 ≤ sizeLine; decide, fun D hD => ?_⟩
    have hB : SqB K H h xs := hs.b
    refine ⟨_, rfl, h, rfl, for_same (Hb := H) hB (fun i σ H' => (∃ y2, σ = [some (.ref h), some (.ref D), y2]) ∧ Same H H' ∧ ∃ ys, H' D = some (.lst ys) ∧ ys.length = i ∧ ∀ j x y, j < i → xs[j]? = some x → ys[j]? = some y → Cp H D H' x y) ⟨⟨_, rfl⟩, same_upd hD, [], upd_same, rfl, fun j x y z => absurd z (Nat.not_lt_zero _)⟩ (fun i σ H' p => p.2.1) (fun i x σ H' hxi p => ?_) (fun σ H' p => ?_)⟩
    · obtain ⟨⟨y2, rfl⟩, sm, ys, eD, ly, hc⟩ := p
      have hi : i < xs.length := (List.getElem?_eq_some_iff.mp hxi).1
      have next : ∀ H1 y, Same H' H1 → H1 D = some (.lst ys) → Cp H D (upd H1 D (.lst (ys ++ [y]))) x y → ((∃ y2, [some (V.ref h), some (V.ref D), some x] = [some (V.ref h), some (V.ref D), y2]) ∧ Same H (upd H1 D (.lst (ys ++ [y]))) ∧ ∃ zs, (upd H1 D (.lst (ys ++ [y]))) D = some (.lst zs) ∧ zs.length = i + 1 ∧ ∀ j x y', j < i + 1 → xs[j]? = some x → zs[j]? = some y' → Cp H D (upd H1 D (.lst (ys ++ [y]))) x y') := fun H1 y s1 e1 hcy => by
        refine ⟨⟨_, rfl⟩, same_put (H1 := H) hD (sm.trans s1), _, upd_same, by rw [List.length_append, ly]; rfl, fun j x' y' hj hx' hy' => ?_⟩
        by_cases hji : j < i
        · rw [List.getElem?_append_left (by omega)] at hy'
          exact (hc j x' y' hji hx' hy').put s1
        · have : j = i := by omega
          subst this
          rw [List.getElem?_append_right (by omega), ly, Nat.sub_self] at hy'
          rw [hx'] at hxi
          cases hxi
          cases hy'
          exact hcy
      have it := (hx x (List.mem_of_getElem? hxi))
      have lys : ys.length < sizeLine := by rw [ly]; exact small1000 (by omega)
      rcases it.2 with ⟨b, us, rfl, hb, lu, qu⟩ | ⟨T, ty, m⟩
      · refine ⟨_, rfl, _, _, _, _, true, rfl, .ty "list", .base (.lst (sm _ _ hb)), kit_ty (by decide +kernel), true, rfl, ?_⟩
        refine ⟨_, rfl, .inl ⟨rfl, _, .inl (.inl eD)⟩, _, rfl, b, us, rfl, .inl (.inl (.inl (sm _ _ hb))), fun c nc => ?_⟩
        have cD : c ≠ D := fun z => by rw [z, eD] at nc; cases nc
        have sc : Same H' (upd H' c (.lst us)) := same_upd nc
        exact ⟨D, ys, _, rfl, rfl, sc _ _ eD, lys, next _ _ sc (sc _ _ eD) (.inr ⟨b, c, us, rfl, rfl, hb, lu, qu, cD, by rw [upd_ne cD]; exact upd_same⟩)⟩
      · have no : ∃ y, PySem.W.kitOne K (.type T) (.type "list") = some y ∧ y = false := by
          simp only [List.mem_cons, List.not_mem_nil, or_false] at m
          rcases m with rfl | rfl | rfl | rfl | rfl | rfl <;> exact ⟨false, kit_ty (by decide +kernel), rfl⟩
        obtain ⟨y, ky, rfl⟩ := no
        refine ⟨_, rfl, _, _, _, _, false, rfl, .ty "list", tyx_same sm ty, ky, false, rfl, ?_⟩
        exact ⟨_, rfl, .inl ⟨rfl, _, .inl (.inl eD)⟩, _, rfl, D, ys, _, rfl, rfl, eD, lys, next _ _ (Same.refl H') eD (.inl ⟨rfl, it.1⟩)⟩
    · obtain ⟨⟨y2, rfl⟩, sm, ys, eD, ly, hc⟩ := p
      have el : ∀ H1, Same H' H1 → ∀ (j : Nat) (x y : V), xs[j]? = some x → ys[j]? = some y → EqV 2 H1 x y := fun H1 s1 j x y hx' hy' => ((hc j x y (List.getElem?_eq_some_iff.mp hx').1 hx' hy').eqv sm).same s1
      rcases hs with hs | hs
      · refine ⟨_, rfl, _, _, _, _, false, rfl, .ty "tuple", .base (.lst (sm _ _ hs)), kit_ty (by decide +kernel), false, rfl, ?_⟩
        exact ⟨_, rfl, q H' D sm (.inr ⟨h, D, xs, ys, rfl, rfl, .inr ⟨sm _ _ hs, eD⟩, ly.symm, by rw [ly]; exact hl, el H' (Same.refl H')⟩)⟩
      · refine ⟨_, rfl, _, _, _, _, true, rfl, .ty "tuple", .base (.tup (sm _ _ hs)), kit_ty (by decide +kernel), true, rfl, ?_⟩
        refine ⟨_, rfl, D, ys, rfl, .inl ⟨.inl (.inl eD), fun c nc => ?_⟩⟩
        have sc : Same H' (upd H' c (.tup ys)) := same_upd nc
        exact q _ c (sm.trans sc) (.inr ⟨h, c, xs, ys, rfl, rfl, .inl ⟨sc _ _ (sm _ _ hs), upd_same⟩, ly.symm, by rw [ly]; exact hl, el _ sc⟩)
end
end Own


namespace Own
open PySem PySem.Spec PyProof.Rows L2
def errs : List String := ["BadPins", "BadPin", "BadNumber", "BadGap", "NotPart", "UnlikePins", "BadTable", "NoLot", "BadCord", "RimError"]
/-- what the law knows of an error's class: it is none of these -/
structure XcE (K : PySem.W.Frag) (D : Addr) (c_ : String → Addr) (nm : List String) (not : List String) : Prop where
  c : ExcC K D
  x : XfC K D
  n : ∀ f ∈ nm, PySem.W.findIn K (.ref D) f = some none
  no : ∀ z ∈ not, PySem.W.kitOne K (.ref D) (.ref (c_ z)) = some false
  re : PySem.W.kitOne K (.ref D) (.ref (c_ "RimError")) = some true
  ve : PySem.W.kitOne K (.ref D) (.type "ValueError") = some true
  ex : PySem.W.exmOne K (.ref D) (.ref D) = some true
theorem sc_re : FnScope ["_law_rim", "_law_held", "_law_entry_here", "_law_kept", "e"] ["_law_rim", "_law_held", "_law_entry_here"] (defScope s__law_refused_entry) := ⟨rfl, rfl, rfl, by decide +kernel, rfl, by decide +kernel, by decide +kernel⟩
theorem sc_rp : FnScope ["_law_rim", "_law_held", "_law_kept", "e"] ["_law_rim", "_law_held"] (defScope s__law_refused_pins) := ⟨rfl, rfl, rfl, by decide +kernel, rfl, by decide +kernel, by decide +kernel⟩
def sc_re_s (K : PySem.W.Frag) (D : Addr) (c_ : String → Addr) (a : Addr) (cls : Value) (d : Option Addr) : TS := (tSeq (tIfS (tOr (tB (tCB (rIsX K D a cls d) (tCons (tVar 4) (tCons (tC (.ref (c_ "BadPins"))) tNil)))) (tOr (tB (tCB (rIsX K D a cls d) (tCons (tVar 4) (tCons (tC (.ref (c_ "BadPin"))) tNil)))) (tOr (tB (tCB (rIsX K D a cls d) (tCons (tVar 4) (tCons (tC (.ref (c_ "BadNumber"))) tNil)))) (tB (tCB (rIsX K D a cls d) (tCons (tVar 4) (tCons (tC (.ref (c_ "BadGap"))) tNil))))))) (tRet (tC (.bl false))) tNext) (tSeq (tIfS (tOr (tB (tCB (rIsX K D a cls d) (tCons (tVar 4) (tCons (tC (.ref (c_ "NotPart"))) tNil)))) (tOr (tB (tCB (rIsX K D a cls d) (tCons (tVar 4) (tCons (tC (.ref (c_ "UnlikePins"))) tNil)))) (tOr (tB (tCB (rIsX K D a cls d) (tCons (tVar 4) (tCons (tC (.ref (c_ "BadTable"))) tNil)))) (tB (tCB (rIsX K D a cls d) (tCons (tVar 4) (tCons (tC (.ref (c_ "NoLot"))) tNil))))))) (tRet (tC (.bl false))) tNext) (tSeq (tIfS (tOr (tNot (tB (tCB (rIsX K D a cls d) (tCons (tVar 4) (tCons (tC (.ref (c_ "RimError"))) tNil))))) (tNot (tB (tCB (rIsX K D a cls d) (tCons (tVar 4) (tCons (tC (.ty "ValueError")) tNil)))))) (tRet (tC (.bl false))) tNext) (tRet (tAndV (tCallS (spSame 3) (fun _ => E0) (tCons (tXf a cls d D "entry" (tVar 4)) (tCons (tVar 2) tNil))) (tCallS (spSame 3) (fun _ => E0) (tCons (tVar 1) (tCons (tVar 3) tNil))))))))
def sc_rp_s (K : PySem.W.Frag) (D : Addr) (c_ : String → Addr) (a : Addr) (cls : Value) (d : Option Addr) : TS := (tSeq (tIfS (tOr (tB (tCB (rIsX K D a cls d) (tCons (tVar 3) (tCons (tC (.ref (c_ "BadCord"))) tNil)))) (tOr (tB (tCB (rIsX K D a cls d) (tCons (tVar 3) (tCons (tC (.ref (c_ "BadPin"))) tNil)))) (tOr (tB (tCB (rIsX K D a cls d) (tCons (tVar 3) (tCons (tC (.ref (c_ "BadNumber"))) tNil)))) (tB (tCB (rIsX K D a cls d) (tCons (tVar 3) (tCons (tC (.ref (c_ "BadGap"))) tNil))))))) (tRet (tC (.bl false))) tNext) (tSeq (tIfS (tOr (tB (tCB (rIsX K D a cls d) (tCons (tVar 3) (tCons (tC (.ref (c_ "NotPart"))) tNil)))) (tOr (tB (tCB (rIsX K D a cls d) (tCons (tVar 3) (tCons (tC (.ref (c_ "UnlikePins"))) tNil)))) (tOr (tB (tCB (rIsX K D a cls d) (tCons (tVar 3) (tCons (tC (.ref (c_ "BadTable"))) tNil)))) (tB (tCB (rIsX K D a cls d) (tCons (tVar 3) (tCons (tC (.ref (c_ "NoLot"))) tNil))))))) (tRet (tC (.bl false))) tNext) (tSeq (tIfS (tOr (tNot (tB (tCB (rIsX K D a cls d) (tCons (tVar 3) (tCons (tC (.ref (c_ "RimError"))) tNil))))) (tNot (tB (tCB (rIsX K D a cls d) (tCons (tVar 3) (tCons (tC (.ty "ValueError")) tNil)))))) (tRet (tC (.bl false))) tNext) (tRet (tAndV (tCallS (spSame 3) (fun _ => E0) (tCons (tXf a cls d D "pins" (tVar 3)) (tCons (tVar 0) tNil))) (tCallS (spSame 3) (fun _ => E0) (tCons (tVar 1) (tCons (tVar 2) tNil))))))))
section
variable {P : Program} {w : World} {K : PySem.W.Frag} {mg : Str → Option Value} {base : Heap} {C D D1 D2 : Addr}
def spRefE (K : PySem.W.Frag) : Sp := fun vs H Q _ => ∃ (n : Int) (h : Addr) (y : V) (xs : List V) (l : List Tr), vs = [.int n, .ref h, y] ∧ 0 ≤ n ∧ SqH H h xs ∧ xs.length ≤ 1000 ∧ (∀ x ∈ xs, It K H x) ∧ EnB H (xs.take l.length) l ∧ (∀ t ∈ l, Vld n t) ∧ xs[l.length]? = some y ∧ BadE K H n y ∧ ShoD K H 3 y ∧ ∀ H', Same H H' → Q (.bl true) H'
theorem ok_refe {f : Addr} {fd : FuncData} (F : Fun K "_law_refused_entry" "_law_refused_entry" s__law_refused_entry f fd) (T : Bi mg) (L : LotC K mg C) (U : mg "BadCord" = some (.ref D)) {c_ : String → Addr} (T_ve : mg "ValueError" = none) (N_ : ∀ n ∈ errs, mg n = some (.ref (c_ n))) (X_c : XcE K D c_ ["entry"] ["BadPins", "BadPin", "BadNumber", "BadGap", "NotPart", "UnlikePins", "BadTable", "NoLot"]) {f_cp : Addr} {d_cp : FuncData} (D_cp : Df K mg "_law_copied" s__law_copied ["_law_held"] f_cp d_cp) (G_cp : FnOk P w K mg base CX0 1 f_cp d_cp ["_law_held"] (spCopied K)) {f_i : Addr} {d_i : FuncData} (M : Mk K C f_i) (b_i : Binds K d_i ["self", "pins", "cords"] []) (G_i : GIY P w K mg base C D1 D f_i d_i) {f_s : Addr} {d_s : FuncData} (D_s : Df K mg "_law_same" s__law_same ["_law_value", "_law_due"] f_s d_s) (H_s : L2H.FnH P w K mg base CX0 5 f_s d_s ["_law_value", "_law_due"] (spSame 3)) : FnOk P w K mg base CX0 8 f fd ["_law_rim", "_law_held", "_law_entry_here"] (spRefE K) := by
  refine F.ok sc_re (fun vs H Q E h => ?_) (fun cdv A outer s H vs Q E hr h => ?_)
  · obtain ⟨n, h, y, xs, l, rfl, _⟩ := h
    rfl
  · obtain ⟨n, h, y, xs, l, rfl, n0, hs, hl, hx, hE, hv, hy, bad, sho, q⟩ := h
    refine ⟨_, (pss_cons (ps_set (i := 3) sc_re.nd rfl (.inl rfl) (pe_call G_cp (hr.mono (by decide)) (by rfl) D_cp.g D_cp.F.kp D_cp.b .nil pass0 (pa_cons (pv 1) pa_nil)))
        (pss_cons (L2N.ps_try_as (i := 4) (Wout := fun _ _ _ _ => False) rfl rfl sc_re.nd rfl rfl ⟨by rfl, by decide, .inl U⟩ takesN
        (tb := fun W => tDrop (tMakeE C (spInitY K C D1 D) [] (WE W) (tCons (tVar 0) (tCons (tVar 1) tNil))))
        (ts := fun a cls d => sc_re_s K D c_ a cls d)
        (fun W pn xe tk _ => (pss_one (ps_expr (by exact (pe_makeE M G_i (hr.mono (by decide)) (by rfl) L.g b_i .nil (fun σ => L2N.passAt tk σ) (pa_cons (pv 0) (pa_cons (pv 1) pa_nil)))))))
        (fun a oe cls d pn hz hf => (pss_cons (ps_if (PW.pt (pw_or (pt_val (pe_callB (call_isX X_c.c hz.zc hf) (by rfl) T.b_isinstance (by decide +kernel) (pa_cons (pv 4) (pa_cons (pe_glob (v := .ref (c_ "BadPins")) (by rfl) (N_ "BadPins" (by decide +kernel)) rfl) pa_nil)))) (pw_or (pt_val (pe_callB (call_isX X_c.c hz.zc hf) (by rfl) T.b_isinstance (by decide +kernel) (pa_cons (pv 4) (pa_cons (pe_glob (v := .ref (c_ "BadPin")) (by rfl) (N_ "BadPin" (by decide +kernel)) rfl) pa_nil)))) (pw_or (pt_val (pe_callB (call_isX X_c.c hz.zc hf) (by rfl) T.b_isinstance (by decide +kernel) (pa_cons (pv 4) (pa_cons (pe_glob (v := .ref (c_ "BadNumber")) (by rfl) (N_ "BadNumber" (by decide +kernel)) rfl) pa_nil)))) (pw_or1 (pt_val (pe_callB (call_isX X_c.c hz.zc hf) (by rfl) T.b_isinstance (by decide +kernel) (pa_cons (pv 4) (pa_cons (pe_glob (v := .ref (c_ "BadGap")) (by rfl) (N_ "BadGap" (by decide +kernel)) rfl) pa_nil))))))))) (pss_one (ps_ret pe_bl)) pss_nil) (pss_cons (ps_if (PW.pt (pw_or (pt_val (pe_callB (call_isX X_c.c hz.zc hf) (by rfl) T.b_isinstance (by decide +kernel) (pa_cons (pv 4) (pa_cons (pe_glob (v := .ref (c_ "NotPart")) (by rfl) (N_ "NotPart" (by decide +kernel)) rfl) pa_nil)))) (pw_or (pt_val (pe_callB (call_isX X_c.c hz.zc hf) (by rfl) T.b_isinstance (by decide +kernel) (pa_cons (pv 4) (pa_cons (pe_glob (v := .ref (c_ "UnlikePins")) (by rfl) (N_ "UnlikePins" (by decide +kernel)) rfl) pa_nil)))) (pw_or (pt_val (pe_callB (call_isX X_c.c hz.zc hf) (by rfl) T.b_isinstance (by decide +kernel) (pa_cons (pv 4) (pa_cons (pe_glob (v := .ref (c_ "BadTable")) (by rfl) (N_ "BadTable" (by decide +kernel)) rfl) pa_nil)))) (pw_or1 (pt_val (pe_callB (call_isX X_c.c hz.zc hf) (by rfl) T.b_isinstance (by decide +kernel) (pa_cons (pv 4) (pa_cons (pe_glob (v := .ref (c_ "NoLot")) (by rfl) (N_ "NoLot" (by decide +kernel)) rfl) pa_nil))))))))) (pss_one (ps_ret pe_bl)) pss_nil) (pss_cons (ps_if (PW.pt (pw_or (pt_not (pt_val (pe_callB (call_isX X_c.c hz.zc hf) (by rfl) T.b_isinstance (by decide +kernel) (pa_cons (pv 4) (pa_cons (pe_glob (v := .ref (c_ "RimError")) (by rfl) (N_ "RimError" (by decide +kernel)) rfl) pa_nil))))) (pw_or1 (pt_not (pt_val (pe_callB (call_isX X_c.c hz.zc hf) (by rfl) T.b_isinstance (by decide +kernel) (pa_cons (pv 4) (pa_cons (pe_bltn (v := .ty "ValueError") (by rfl) T_ve (by decide +kernel) rfl) pa_nil)))))))) (pss_one (ps_ret pe_bl)) pss_nil) (pss_one (ps_ret (pe_and (L2H.pe_callH H_s ⟨(L2H.RoomH.mono (j := 5) (L2H.roomH_of hr) (by decide)).dp, (L2H.RoomH.mono (j := 5) (L2H.roomH_of hr) (by decide)).un⟩ (hotS hz hf) (by rfl) D_s.g D_s.F.kp D_s.b (E := fun _ => E0) (fun _ => pass0A) (pa_cons (pe_xf X_c.x (X_c.n "entry" (by decide +kernel)) hz.zc hf (pv 4)) (pa_cons (pv 2) pa_nil))) (pe_one (L2H.pe_callH H_s ⟨(L2H.RoomH.mono (j := 5) (L2H.roomH_of hr) (by decide)).dp, (L2H.RoomH.mono (j := 5) (L2H.roomH_of hr) (by decide)).un⟩ (hotS hz hf) (by rfl) D_s.g D_s.F.kp D_s.b (E := fun _ => E0) (fun _ => pass0A) (pa_cons (pv 1) (pa_cons (pv 3) pa_nil))))))))))))
        (pss_one (ps_ret pe_bl)))), ?_⟩
    refine ⟨_, rfl, h, xs, rfl, hs, hl, hx, fun H0 k s0 ek0 => ?_⟩
    have ey : EqV 3 H y y := (hx y (List.mem_of_getElem? hy)).1.up
    replace ey := ey.same s0
    have ek : ∀ H1, Same H0 H1 → EqV 3 H1 (.ref h) (.ref k) := fun H1 s1 => ek0.same s1
    have fin : ∀ H1, Same H0 H1 → ∀ d, H1 d = none → (wAs K (.ref D) 4 (fun a cls d => sc_re_s K D c_ a cls d) (fun _ _ _ _ => False) { nx := fun σ' H' => (tRet (tC (.bl false))) { nx := fun _ H' => Q .non H', rt := Q } σ' H', rt := Q }) (.ref D) (some d) [some (.int n), some (.ref h), some y, some (.ref k), none] (upd H1 d (.xd (flE ["entry"] [y]))) := fun H1 sH d nd => by
      refine ⟨true, X_c.ex, fun _ a na => ?_, fun z => by cases z⟩
      have sd := same_upd (o := .xd (flE ["entry"] [y])) nd
      have ed : upd H1 d (.xd (flE ["entry"] [y])) d = some (.xd (flE ["entry"] [y])) := upd_same
      refine ⟨_, rfl, rfl, d, .ref (c_ "BadPins"), .ref (c_ "BadPins"), false, _, rfl, rfl, ed, fun u h => h, X_c.no "BadPins" (by decide +kernel), false, rfl, ?_⟩
      refine ⟨_, rfl, rfl, d, .ref (c_ "BadPin"), .ref (c_ "BadPin"), false, _, rfl, rfl, ed, fun u h => h, X_c.no "BadPin" (by decide +kernel), false, rfl, ?_⟩
      refine ⟨_, rfl, rfl, d, .ref (c_ "BadNumber"), .ref (c_ "BadNumber"), false, _, rfl, rfl, ed, fun u h => h, X_c.no "BadNumber" (by decide +kernel), false, rfl, ?_⟩
      refine ⟨_, rfl, rfl, d, .ref (c_ "BadGap"), .ref (c_ "BadGap"), false, _, rfl, rfl, ed, fun u h => h, X_c.no "BadGap" (by decide +kernel), false, rfl, ?_⟩
      refine ⟨_, rfl, rfl, d, .ref (c_ "NotPart"), .ref (c_ "NotPart"), false, _, rfl, rfl, ed, fun u h => h, X_c.no "NotPart" (by decide +kernel), false, rfl, ?_⟩
      refine ⟨_, rfl, rfl, d, .ref (c_ "UnlikePins"), .ref (c_ "UnlikePins"), false, _, rfl, rfl, ed, fun u h => h, X_c.no "UnlikePins" (by decide +kernel), false, rfl, ?_⟩
      refine ⟨_, rfl, rfl, d, .ref (c_ "BadTable"), .ref (c_ "BadTable"), false, _, rfl, rfl, ed, fun u h => h, X_c.no "BadTable" (by decide +kernel), false, rfl, ?_⟩
      refine ⟨_, rfl, rfl, d, .ref (c_ "NoLot"), .ref (c_ "NoLot"), false, _, rfl, rfl, ed, fun u h => h, X_c.no "NoLot" (by decide +kernel), false, rfl, ?_⟩
      refine ⟨_, rfl, rfl, d, .ref (c_ "RimError"), .ref (c_ "RimError"), true, _, rfl, rfl, ed, fun u h => h, X_c.re , true, rfl, ?_⟩
      refine ⟨_, rfl, rfl, d, .ty "ValueError", .type "ValueError", true, _, rfl, rfl, ed, fun u h => h, X_c.ve, true, rfl, ?_⟩
      refine ⟨_, rfl, rfl, rfl, d, _, _, rfl, ed, rfl, _, rfl, _, _, rfl, (ey.same sH).same sd, true, rfl, ?_⟩
      exact ⟨_, rfl, _, rfl, _, _, rfl, ek H1 sH |>.same sd, q _ ((s0.trans sH).trans sd)⟩
    refine ⟨_, rfl, _, rfl, ?_⟩
    refine rd_makeY (R := fun _ H1 => Q (.bl false) H1) ?_
    exact ⟨xs, (hs.same s0).b, hl, .inl ⟨n, l, rfl, n0, hE.same s0, hv, .inr ⟨y, hy, bad.same s0, sho.keep s0, fun H1 s1 d nd => fin H1 s1 d nd⟩⟩⟩
def spRefP (K : PySem.W.Frag) : Sp := fun vs H Q _ => ∃ (v : V) (h : Addr) (xs : List V), vs = [v, .ref h] ∧ SqH H h xs ∧ xs.length ≤ 1000 ∧ (∀ x ∈ xs, It K H x) ∧ ((∃ i : Int, v = .int i ∧ i < 0) ∨ NotWh K H v) ∧ ShoD K H 3 v ∧ EqV 3 H v v ∧ ∀ H', Same H H' → Q (.bl true) H'
theorem ok_refp {f : Addr} {fd : FuncData} (F : Fun K "_law_refused_pins" "_law_refused_pins" s__law_refused_pins f fd) (T : Bi mg) (L : LotC K mg C) (U : mg "BadPins" = some (.ref D)) {c_ : String → Addr} (T_ve : mg "ValueError" = none) (N_ : ∀ n ∈ errs, mg n = some (.ref (c_ n))) (X_c : XcE K D c_ ["pins"] ["BadCord", "BadPin", "BadNumber", "BadGap", "NotPart", "UnlikePins", "BadTable", "NoLot"]) {f_cp : Addr} {d_cp : FuncData} (D_cp : Df K mg "_law_copied" s__law_copied ["_law_held"] f_cp d_cp) (G_cp : FnOk P w K mg base CX0 1 f_cp d_cp ["_law_held"] (spCopied K)) {f_i : Addr} {d_i : FuncData} (M : Mk K C f_i) (b_i : Binds K d_i ["self", "pins", "cords"] []) (G_i : GIY P w K mg base C D D2 f_i d_i) {f_s : Addr} {d_s : FuncData} (D_s : Df K mg "_law_same" s__law_same ["_law_value", "_law_due"] f_s d_s) (H_s : L2H.FnH P w K mg base CX0 5 f_s d_s ["_law_value", "_law_due"] (spSame 3)) : FnOk P w K mg base CX0 8 f fd ["_law_rim", "_law_held"] (spRefP K) := by
  refine F.ok sc_rp (fun vs H Q E h => ?_) (fun cdv A outer s H vs Q E hr h => ?_)
  · obtain ⟨v, h, xs, rfl, _⟩ := h
    rfl
  · obtain ⟨v, h, xs, rfl, hs, hl, hx, bad, sho, ey, q⟩ := h
    refine ⟨_, (pss_cons (ps_set (i := 2) sc_rp.nd rfl (.inl rfl) (pe_call G_cp (hr.mono (by decide)) (by rfl) D_cp.g D_cp.F.kp D_cp.b .nil pass0 (pa_cons (pv 1) pa_nil)))
        (pss_cons (L2N.ps_try_as (i := 3) (Wout := fun _ _ _ _ => False) rfl rfl sc_rp.nd rfl rfl ⟨by rfl, by decide, .inl U⟩ takesN
        (tb := fun W => tDrop (tMakeE C (spInitY K C D D2) [] (WE W) (tCons (tVar 0) (tCons (tVar 1) tNil))))
        (ts := fun a cls d => sc_rp_s K D c_ a cls d)
        (fun W pn xe tk _ => (pss_one (ps_expr (by exact (pe_makeE M G_i (hr.mono (by decide)) (by rfl) L.g b_i .nil (fun σ => L2N.passAt tk σ) (pa_cons (pv 0) (pa_cons (pv 1) pa_nil)))))))
        (fun a oe cls d pn hz hf => (pss_cons (ps_if (PW.pt (pw_or (pt_val (pe_callB (call_isX X_c.c hz.zc hf) (by rfl) T.b_isinstance (by decide +kernel) (pa_cons (pv 3) (pa_cons (pe_glob (v := .ref (c_ "BadCord")) (by rfl) (N_ "BadCord" (by decide +kernel)) rfl) pa_nil)))) (pw_or (pt_val (pe_callB (call_isX X_c.c hz.zc hf) (by rfl) T.b_isinstance (by decide +kernel) (pa_cons (pv 3) (pa_cons (pe_glob (v := .ref (c_ "BadPin")) (by rfl) (N_ "BadPin" (by decide +kernel)) rfl) pa_nil)))) (pw_or (pt_val (pe_callB (call_isX X_c.c hz.zc hf) (by rfl) T.b_isinstance (by decide +kernel) (pa_cons (pv 3) (pa_cons (pe_glob (v := .ref (c_ "BadNumber")) (by rfl) (N_ "BadNumber" (by decide +kernel)) rfl) pa_nil)))) (pw_or1 (pt_val (pe_callB (call_isX X_c.c hz.zc hf) (by rfl) T.b_isinstance (by decide +kernel) (pa_cons (pv 3) (pa_cons (pe_glob (v := .ref (c_ "BadGap")) (by rfl) (N_ "BadGap" (by decide +kernel)) rfl) pa_nil))))))))) (pss_one (ps_ret pe_bl)) pss_nil) (pss_cons (ps_if (PW.pt (pw_or (pt_val (pe_callB (call_isX X_c.c hz.zc hf) (by rfl) T.b_isinstance (by decide +kernel) (pa_cons (pv 3) (pa_cons (pe_glob (v := .ref (c_ "NotPart")) (by rfl) (N_ "NotPart" (by decide +kernel)) rfl) pa_nil)))) (pw_or (pt_val (pe_callB (call_isX X_c.c hz.zc hf) (by rfl) T.b_isinstance (by decide +kernel) (pa_cons (pv 3) (pa_cons (pe_glob (v := .ref (c_ "UnlikePins")) (by rfl) (N_ "UnlikePins" (by decide +kernel)) rfl) pa_nil)))) (pw_or (pt_val (pe_callB (call_isX X_c.c hz.zc hf) (by rfl) T.b_isinstance (by decide +kernel) (pa_cons (pv 3) (pa_cons (pe_glob (v := .ref (c_ "BadTable")) (by rfl) (N_ "BadTable" (by decide +kernel)) rfl) pa_nil)))) (pw_or1 (pt_val (pe_callB (call_isX X_c.c hz.zc hf) (by rfl) T.b_isinstance (by decide +kernel) (pa_cons (pv 3) (pa_cons (pe_glob (v := .ref (c_ "NoLot")) (by rfl) (N_ "NoLot" (by decide +kernel)) rfl) pa_nil))))))))) (pss_one (ps_ret pe_bl)) pss_nil) (pss_cons (ps_if (PW.pt (pw_or (pt_not (pt_val (pe_callB (call_isX X_c.c hz.zc hf) (by rfl) T.b_isinstance (by decide +kernel) (pa_cons (pv 3) (pa_cons (pe_glob (v := .ref (c_ "RimError")) (by rfl) (N_ "RimError" (by decide +kernel)) rfl) pa_nil))))) (pw_or1 (pt_not (pt_val (pe_callB (call_isX X_c.c hz.zc hf) (by rfl) T.b_isinstance (by decide +kernel) (pa_cons (pv 3) (pa_cons (pe_bltn (v := .ty "ValueError") (by rfl) T_ve (by decide +kernel) rfl) pa_nil)))))))) (pss_one (ps_ret pe_bl)) pss_nil) (pss_one (ps_ret (pe_and (L2H.pe_callH H_s ⟨(L2H.RoomH.mono (j := 5) (L2H.roomH_of hr) (by decide)).dp, (L2H.RoomH.mono (j := 5) (L2H.roomH_of hr) (by decide)).un⟩ (hotS hz hf) (by rfl) D_s.g D_s.F.kp D_s.b (E := fun _ => E0) (fun _ => pass0A) (pa_cons (pe_xf X_c.x (X_c.n "pins" (by decide +kernel)) hz.zc hf (pv 3)) (pa_cons (pv 0) pa_nil))) (pe_one (L2H.pe_callH H_s ⟨(L2H.RoomH.mono (j := 5) (L2H.roomH_of hr) (by decide)).dp, (L2H.RoomH.mono (j := 5) (L2H.roomH_of hr) (by decide)).un⟩ (hotS hz hf) (by rfl) D_s.g D_s.F.kp D_s.b (E := fun _ => E0) (fun _ => pass0A) (pa_cons (pv 1) (pa_cons (pv 2) pa_nil))))))))))))
        (pss_one (ps_ret pe_bl)))), ?_⟩
    refine ⟨_, rfl, h, xs, rfl, hs, hl, hx, fun H0 k s0 ek0 => ?_⟩
    replace ey := ey.same s0
    have ek : ∀ H1, Same H0 H1 → EqV 3 H1 (.ref h) (.ref k) := fun H1 s1 => ek0.same s1
    have fin : ∀ H1, Same H0 H1 → ∀ d, H1 d = none → (wAs K (.ref D) 3 (fun a cls d => sc_rp_s K D c_ a cls d) (fun _ _ _ _ => False) { nx := fun σ' H' => (tRet (tC (.bl false))) { nx := fun _ H' => Q .non H', rt := Q } σ' H', rt := Q }) (.ref D) (some d) [some v, some (.ref h), some (.ref k), none] (upd H1 d (.xd (flE ["pins"] [v]))) := fun H1 sH d nd => by
      refine ⟨true, X_c.ex, fun _ a na => ?_, fun z => by cases z⟩
      have sd := same_upd (o := .xd (flE ["pins"] [v])) nd
      have ed : upd H1 d (.xd (flE ["pins"] [v])) d = some (.xd (flE ["pins"] [v])) := upd_same
      refine ⟨_, rfl, rfl, d, .ref (c_ "BadCord"), .ref (c_ "BadCord"), false, _, rfl, rfl, ed, fun u h => h, X_c.no "BadCord" (by decide +kernel), false, rfl, ?_⟩
      refine ⟨_, rfl, rfl, d, .ref (c_ "BadPin"), .ref (c_ "BadPin"), false, _, rfl, rfl, ed, fun u h => h, X_c.no "BadPin" (by decide +kernel), false, rfl, ?_⟩
      refine ⟨_, rfl, rfl, d, .ref (c_ "BadNumber"), .ref (c_ "BadNumber"), false, _, rfl, rfl, ed, fun u h => h, X_c.no "BadNumber" (by decide +kernel), false, rfl, ?_⟩
      refine ⟨_, rfl, rfl, d, .ref (c_ "BadGap"), .ref (c_ "BadGap"), false, _, rfl, rfl, ed, fun u h => h, X_c.no "BadGap" (by decide +kernel), false, rfl, ?_⟩
      refine ⟨_, rfl, rfl, d, .ref (c_ "NotPart"), .ref (c_ "NotPart"), false, _, rfl, rfl, ed, fun u h => h, X_c.no "NotPart" (by decide +kernel), false, rfl, ?_⟩
      refine ⟨_, rfl, rfl, d, .ref (c_ "UnlikePins"), .ref (c_ "UnlikePins"), false, _, rfl, rfl, ed, fun u h => h, X_c.no "UnlikePins" (by decide +kernel), false, rfl, ?_⟩
      refine ⟨_, rfl, rfl, d, .ref (c_ "BadTable"), .ref (c_ "BadTable"), false, _, rfl, rfl, ed, fun u h => h, X_c.no "BadTable" (by decide +kernel), false, rfl, ?_⟩
      refine ⟨_, rfl, rfl, d, .ref (c_ "NoLot"), .ref (c_ "NoLot"), false, _, rfl, rfl, ed, fun u h => h, X_c.no "NoLot" (by decide +kernel), false, rfl, ?_⟩
      refine ⟨_, rfl, rfl, d, .ref (c_ "RimError"), .ref (c_ "RimError"), true, _, rfl, rfl, ed, fun u h => h, X_c.re , true, rfl, ?_⟩
      refine ⟨_, rfl, rfl, d, .ty "ValueError", .type "ValueError", true, _, rfl, rfl, ed, fun u h => h, X_c.ve, true, rfl, ?_⟩
      refine ⟨_, rfl, rfl, rfl, d, _, _, rfl, ed, rfl, _, rfl, _, _, rfl, (ey.same sH).same sd, true, rfl, ?_⟩
      exact ⟨_, rfl, _, rfl, _, _, rfl, ek H1 sH |>.same sd, q _ ((s0.trans sH).trans sd)⟩
    refine ⟨_, rfl, _, rfl, ?_⟩
    refine rd_makeY (R := fun _ H1 => Q (.bl false) H1) ?_
    exact ⟨xs, (hs.same s0).b, hl, .inr ⟨bad.elim .inl fun b => .inr (b.same s0), sho.keep s0, fun H1 s1 d nd => fin H1 s1 d nd⟩⟩
end
end Own

namespace Own
open PySem PySem.Spec PyProof.Rows L2
theorem digs6 {ds : List Int} {a b c d e f : Int} (h : Digs ds [a, b, c, d, e, f]) : ∃ u v w x y z, ds = [u, v, w, x, y, z] ∧ (0 ≤ u ∧ u < a) ∧ (0 ≤ v ∧ v < b) ∧ (0 ≤ w ∧ w < c) ∧ (0 ≤ x ∧ x < d) ∧ (0 ≤ y ∧ y < e) ∧ (0 ≤ z ∧ z < f) := by
  have hl := h.1
  match ds, hl with
  | [u, v, w, x, y, z], _ => exact ⟨u, v, w, x, y, z, rfl, h.2 0 u a rfl rfl, h.2 1 v b rfl rfl, h.2 2 w c rfl rfl, h.2 3 x d rfl rfl, h.2 4 y e rfl rfl, h.2 5 z f rfl rfl⟩
section
variable {P : Program} {w : World} {K : PySem.W.Frag} {mg : Str → Option Value} {base : Heap} {C : Addr}
def spEnt (K : PySem.W.Frag) : Sp := fun vs H Q _ => ∃ (c n : Int) (e : Addr) (l : List Tr), vs = [.int c, .int n, .ref e] ∧ 2 ≤ n ∧ n ≤ 1000 ∧ TripL H e l ∧ l.length ≤ 1000 ∧ (∀ t ∈ l, Vld n t) ∧ ∀ H' p t, Same H H' → H p = none → H' p = some (.tup (tv t)) → Vld n t → Q (.ref p) H'
theorem ok_ent {f : Addr} {fd : FuncData} (F : Fun K "_law_entry" "_law_entry" s__law_entry f fd) (T : Bi mg) {f_d : Addr} {d_d : FuncData} (D_d : Df K mg "_law_digits" s__law_digits ["_law_cell_here", "_law_sizes"] f_d d_d) (G_d : FnOk P w K mg base CX0 1 f_d d_d ["_law_cell_here", "_law_sizes"] (spDigs K)) : FnOk P w K mg base CX0 2 f fd ["_law_cell_here", "_law_rim", "_law_earlier"] (spEnt K) := by
  refine F.ok sc__law_entry (fun vs H Q E h => ?_) (fun cdv A outer s H vs Q E hr h => ?_)
  · obtain ⟨c, n, e, l, rfl, _⟩ := h
    rfl
  · obtain ⟨c, n, e, l, rfl, n0, n1, hT, hl, hv, q⟩ := h
    refine ⟨_, (pss_cons (ps_set (i := 3) sc__law_entry.nd rfl (.inl rfl) (pe_call G_d (hr.mono (by decide)) (by rfl) D_d.g D_d.F.kp D_d.b .nil pass0 (pa_cons (pv 0) (pa_cons (pe_lst (pa_cons (pv 1) (pa_cons (pe_op op_sub (pv 1) pe_int) (pa_cons pe_int (pa_cons pe_int (pa_cons pe_int (pa_cons (pe_op op_pow pe_int pe_int) pa_nil))))))) pa_nil))))
        (pss_cons (ps_set (i := 4) sc__law_entry.nd rfl (.inl rfl) (pe_ix (r := rIxL K) ix_list (pv 3) pe_int (fun _ _ => rfl)))
        (pss_cons (ps_set (i := 5) sc__law_entry.nd rfl (.inl rfl) (pe_op op_modN (pe_callTy call_int1 (by rfl) T.b_int (by decide +kernel) (pa_cons (pe_op op_add (pe_op op_add (pv 4) pe_int) (pe_ix (r := rIxL K) ix_list (pv 3) pe_int (fun _ _ => rfl))) pa_nil)) (pv 1)))
        (pss_cons (ps_if (PW.pt (pw_and (pt_cmpR op_eq (pe_ix (r := rIxL K) ix_list (pv 3) pe_int (fun _ _ => rfl)) pe_int (nomark _)) (pw_and1 (pt_cmpR op_gt (pe_callB call_len_seq (by rfl) T.b_len PySem.boot_len (pa_cons (pv 2) pa_nil)) pe_int (nomark _))))) (pss_cons (ps_set (i := 6) sc__law_entry.nd rfl (.inl rfl) (pe_ix (r := rIxL K) ix_list (pv 2) (pe_op op_modN (pe_callTy call_int1 (by rfl) T.b_int (by decide +kernel) (pa_cons (pe_ix (r := rIxL K) ix_list (pv 3) pe_int (fun _ _ => rfl)) pa_nil)) (pe_callB call_len_seq (by rfl) T.b_len PySem.boot_len (pa_cons (pv 2) pa_nil))) (fun _ _ => rfl)))
        (pss_cons (ps_set (i := 4) sc__law_entry.nd rfl (.inl rfl) (pe_ix (r := rIxT K) ix_tup (pv 6) pe_int (fun _ _ => rfl)))
        (pss_one (ps_set (i := 5) sc__law_entry.nd rfl (.inl rfl) (pe_ix (r := rIxT K) ix_tup (pv 6) pe_int (fun _ _ => rfl)))))) pss_nil)
        (pss_one (ps_ret (pe_tup (pa_cons (pv 4) (pa_cons (pv 5) (pa_cons (pe_op op_add pe_int (pe_op op_modN (pe_callTy call_int1 (by rfl) T.b_int (by decide +kernel) (pa_cons (pe_ix (r := rIxL K) ix_list (pv 3) pe_int (fun _ _ => rfl)) pa_nil)) (pe_ix (r := rIxL K) ix_list (pe_lst (pa_cons pe_int (pa_cons pe_int (pa_cons pe_int (pa_cons (pe_op op_pow pe_int pe_int) pa_nil))))) (pe_ix (r := rIxL K) ix_list (pv 3) pe_int (fun _ _ => rfl)) (fun _ _ => rfl)))) pa_nil)))))))))), ?_⟩
    refine ⟨_, rfl, _, rfl, _, rfl, n, 1, rfl, rfl, _, _, rfl, rfl, ⟨by decide, by decide, by decide⟩, by show 6 ≤ sizeLine; decide, fun b nb => ⟨c, b, [n, n - 1, 3, 12, 4, 10 ^ Int.toNat 9], rfl, .inl (.inl upd_same), by show 6 ≤ 1000; decide, fun x hx => ?_, fun H3 p3 ds3 s3 np3 ep3 dg3 => ?_⟩⟩
    · simp only [List.mem_cons, List.not_mem_nil, or_false] at hx
      have e8 : (10 ^ Int.toNat 9 : Int) = 1000000000 := by decide
      rw [e8] at hx
      omega
    obtain ⟨d0, d1, d2, d3, d4, d5, rfl, h0, h1, h2, h3, h4, h5⟩ := digs6 dg3
    have s23 : Same H H3 := (same_upd nb).trans s3
    have qp : SqL K H3 p3 [.int d0, .int d1, .int d2, .int d3, .int d4, .int d5] := .inl (.inl ep3)
    have a0 : atI [V.int d0, .int d1, .int d2, .int d3, .int d4, .int d5] 0 = some (.int d0) := atI_nat (j := 0) rfl
    have a1 : atI [V.int d0, .int d1, .int d2, .int d3, .int d4, .int d5] 1 = some (.int d1) := atI_nat (j := 1) rfl
    have a2 : atI [V.int d0, .int d1, .int d2, .int d3, .int d4, .int d5] 2 = some (.int d2) := atI_nat (j := 2) rfl
    have a3 : atI [V.int d0, .int d1, .int d2, .int d3, .int d4, .int d5] 3 = some (.int d3) := atI_nat (j := 3) rfl
    have a4 : atI [V.int d0, .int d1, .int d2, .int d3, .int d4, .int d5] 4 = some (.int d4) := atI_nat (j := 4) rfl
    have a5 : atI [V.int d0, .int d1, .int d2, .int d3, .int d4, .int d5] 5 = some (.int d5) := atI_nat (j := 5) rfl
    refine ⟨_, rfl, p3, _, 0, _, rfl, rfl, qp, a0, ?_⟩
    refine ⟨_, rfl, _, _, rfl, rfl, _, rfl, p3, _, 1, _, rfl, rfl, qp, a1, _, _, rfl, rfl, .inl ⟨_, rfl, _, rfl, _, _, rfl, rfl, by omega, ?_⟩⟩
    have hoth : 0 ≤ (d0 + 1 + d1).fmod n ∧ (d0 + 1 + d1).fmod n < n ∧ d0 ≠ (d0 + 1 + d1).fmod n := by
      have hm := fmod_in (d0 + 1 + d1) (show 0 < n by omega)
      refine ⟨hm.1, hm.2, ?_⟩
      by_cases hx : d0 + 1 + d1 < n
      · rw [fmod_lo (by omega) hx]
        omega
      · rw [fmod_hi (by omega) (by omega)]
        omega
    obtain ⟨z, ez, zpos⟩ : ∃ z : Int, atI [V.int 3, .int 3, .int 1000, .int (10 ^ Int.toNat 9)] d4 = some (.int z) ∧ 0 < z := by
      have hd : d4 = ((0 : Nat) : Int) ∨ d4 = ((1 : Nat) : Int) ∨ d4 = ((2 : Nat) : Int) ∨ d4 = ((3 : Nat) : Int) := by omega
      rcases hd with e | e | e | e <;> rw [e] <;> exact ⟨_, atI_nat rfl, by decide⟩
    obtain ⟨vl, eT, tV⟩ := hT.same s23
    have qe : SqL K H3 e vl := .inl (.inl eT)
    have ne_none : ∀ {H5 : Hp} {x : Addr}, Same H H5 → H5 x = none → H x = none := fun s5 hx => s5.free hx
    refine ⟨_, rfl, p3, _, 2, _, rfl, rfl, qp, a2, rfl, _, rfl, ?_⟩
    by_cases e2 : d2 = 0
    · rw [show decide (V.int d2 = V.int 0) = true from decide_eq_true (congrArg V.int e2)]
      refine ⟨_, rfl, e, vl, rfl, .inl qe, _, _, rfl, rfl, _, rfl, ite2 (fun e3 => ?_) (fun e3 => ?_)⟩
      · have l0 : (0 : Int) < (vl.length : Int) := of_decide_eq_true e3
        obtain ⟨r0, r1⟩ := fmod_in d3 l0
        obtain ⟨k, hk⟩ : ∃ k : Nat, d3.fmod (vl.length : Int) = (k : Int) := ⟨(d3.fmod (vl.length : Int)).toNat, by omega⟩
        have kl : k < vl.length := by omega
        obtain ⟨b2, t, eb, hti, hb2⟩ := tV.at_ (List.getElem?_eq_getElem kl)
        have vt := hv t (List.mem_of_getElem? hti)
        have ai : atI vl (d3.fmod (vl.length : Int)) = some (.ref b2) := by
          rw [hk]
          exact atI_nat (by rw [List.getElem?_eq_getElem kl, eb])
        refine ⟨_, rfl, _, rfl, p3, _, 3, _, rfl, rfl, qp, a3, .inl ⟨_, rfl, _, rfl, e, vl, rfl, .inl qe, _, _, rfl, rfl, by omega, e, vl, _, _, rfl, rfl, qe, ai, ?_⟩⟩
        refine ⟨_, rfl, b2, tv t, 1, _, rfl, rfl, .inl (.inl hb2), atI_nat (j := 1) rfl, ?_⟩
        refine ⟨_, rfl, b2, tv t, 0, _, rfl, rfl, .inl (.inl hb2), atI_nat (j := 0) rfl, ?_⟩
        refine ⟨_, rfl, _, rfl, _, rfl, p3, _, 5, _, rfl, rfl, qp, a5, .inl ⟨_, rfl, ?_⟩⟩
        refine ⟨_, _, rfl, rfl, ⟨by decide, by decide, by decide⟩, by show 4 ≤ sizeLine; decide, fun g ng => ⟨_, rfl, p3, _, 4, _, rfl, rfl, (same_upd ng).seq qp, a4, g, _, d4, _, rfl, rfl, .inl (.inl upd_same), ez, _, _, rfl, rfl, by omega, ?_⟩⟩
        refine ⟨_, _, rfl, rfl, by show 3 ≤ sizeLine; decide, fun v nv => ?_⟩
        have sg := (same_upd (o := .lst [.int 3, .int 3, .int 1000, .int (10 ^ Int.toNat 9)]) ng).trans (same_upd (o := .tup [.int (t.2.1), .int (t.1), .int (1 + d5.fmod z)]) nv)
        refine q _ v (t.2.1, t.1, 1 + d5.fmod z) (s23.trans sg) (ne_none (s23.trans (same_upd ng)) nv) upd_same ⟨vt.2.2.1, vt.2.2.2.1, vt.1, vt.2.1, fun z => vt.2.2.2.2.1 z.symm, by show 1 ≤ 1 + d5.fmod z; have := fmod_in d5 zpos; omega⟩
      ·
        refine ⟨_, rfl, _, rfl, _, rfl, p3, _, 5, _, rfl, rfl, qp, a5, .inl ⟨_, rfl, ?_⟩⟩
        refine ⟨_, _, rfl, rfl, ⟨by decide, by decide, by decide⟩, by show 4 ≤ sizeLine; decide, fun g ng => ⟨_, rfl, p3, _, 4, _, rfl, rfl, (same_upd ng).seq qp, a4, g, _, d4, _, rfl, rfl, .inl (.inl upd_same), ez, _, _, rfl, rfl, by omega, ?_⟩⟩
        refine ⟨_, _, rfl, rfl, by show 3 ≤ sizeLine; decide, fun v nv => ?_⟩
        have sg := (same_upd (o := .lst [.int 3, .int 3, .int 1000, .int (10 ^ Int.toNat 9)]) ng).trans (same_upd (o := .tup [.int (d0), .int ((d0 + 1 + d1).fmod n), .int (1 + d5.fmod z)]) nv)
        refine q _ v (d0, (d0 + 1 + d1).fmod n, 1 + d5.fmod z) (s23.trans sg) (ne_none (s23.trans (same_upd ng)) nv) upd_same ⟨h0.1, h0.2, hoth.1, hoth.2.1, hoth.2.2, by show 1 ≤ 1 + d5.fmod z; have := fmod_in d5 zpos; omega⟩
    · rw [show decide (V.int d2 = V.int 0) = false from decide_eq_false fun z => e2 (V.int.inj z)]
      refine ⟨_, rfl, _, rfl, _, rfl, p3, _, 5, _, rfl, rfl, qp, a5, .inl ⟨_, rfl, ?_⟩⟩
      refine ⟨_, _, rfl, rfl, ⟨by decide, by decide, by decide⟩, by show 4 ≤ sizeLine; decide, fun g ng => ⟨_, rfl, p3, _, 4, _, rfl, rfl, (same_upd ng).seq qp, a4, g, _, d4, _, rfl, rfl, .inl (.inl upd_same), ez, _, _, rfl, rfl, by omega, ?_⟩⟩
      refine ⟨_, _, rfl, rfl, by show 3 ≤ sizeLine; decide, fun v nv => ?_⟩
      have sg := (same_upd (o := .lst [.int 3, .int 3, .int 1000, .int (10 ^ Int.toNat 9)]) ng).trans (same_upd (o := .tup [.int (d0), .int ((d0 + 1 + d1).fmod n), .int (1 + d5.fmod z)]) nv)
      refine q _ v (d0, (d0 + 1 + d1).fmod n, 1 + d5.fmod z) (s23.trans sg) (ne_none (s23.trans (same_upd ng)) nv) upd_same ⟨h0.1, h0.2, hoth.1, hoth.2.1, hoth.2.2, by show 1 ≤ 1 + d5.fmod z; have := fmod_in d5 zpos; omega⟩
end
end Own

namespace Own
open PySem PySem.Spec PyProof.Rows L2
/-! ### bad entries -/
def BadT (K : PySem.W.Frag) (H : Hp) (n : Int) (xs : List V) : Prop := xs.length ≠ 3 ∨ ∃ x y z, xs = [x, y, z] ∧ (NotIn K H n x ∨ ∃ i : Int, x = .int i ∧ 0 ≤ i ∧ i < n ∧ (NotIn K H n y ∨ ∃ j : Int, y = .int j ∧ 0 ≤ j ∧ j < n ∧ (i = j ∨ (i ≠ j ∧ ((∃ k : Int, z = .int k ∧ k < 1) ∨ NotWh K H z)))))
theorem BadT.same {K : PySem.W.Frag} {H H' : Hp} {n : Int} {xs : List V} (s : Same H H') (h : BadT K H n xs) : BadT K H' n xs := by
  rcases h with h | ⟨x, y, z, e, h⟩
  · exact .inl h
  · refine .inr ⟨x, y, z, e, ?_⟩
    rcases h with h | ⟨i, e1, h0, h1, h⟩
    · exact .inl (h.same s)
    · refine .inr ⟨i, e1, h0, h1, ?_⟩
      rcases h with h | ⟨j, e2, h2, h3, h⟩
      · exact .inl (h.same s)
      · refine .inr ⟨j, e2, h2, h3, ?_⟩
        rcases h with h | ⟨h4, h | h⟩
        · exact .inl h
        · exact .inr ⟨h4, .inl h⟩
        · exact .inr ⟨h4, .inr (h.same s)⟩
section
variable {K : PySem.W.Frag} {H : Hp} {n : Int}
theorem badT_x {x y z : V} (h : NotWh K H x) : BadT K H n [x, y, z] := .inr ⟨x, y, z, rfl, .inl (.inr h)⟩
theorem badT_i {i : Int} {y z : V} (h : 0 ≤ i → i < n → NotIn K H n y ∨ ∃ j : Int, y = .int j ∧ 0 ≤ j ∧ j < n ∧ (i = j ∨ (i ≠ j ∧ ((∃ k : Int, z = .int k ∧ k < 1) ∨ NotWh K H z)))) : BadT K H n [.int i, y, z] := by
  by_cases h0 : 0 ≤ i ∧ i < n
  · exact .inr ⟨_, y, z, rfl, .inr ⟨i, rfl, h0.1, h0.2, h h0.1 h0.2⟩⟩
  · exact .inr ⟨_, y, z, rfl, .inl (.inl ⟨i, rfl, by omega⟩)⟩
theorem badT_y {i : Int} {y z : V} (h : NotWh K H y) : BadT K H n [.int i, y, z] := badT_i fun _ _ => .inl (.inr h)
theorem badT_j {i j : Int} {z : V} (h : 0 ≤ i → i < n → 0 ≤ j → j < n → i = j ∨ (i ≠ j ∧ ((∃ k : Int, z = .int k ∧ k < 1) ∨ NotWh K H z))) : BadT K H n [.int i, .int j, z] := badT_i fun i0 i1 => by
  by_cases h0 : 0 ≤ j ∧ j < n
  · exact .inr ⟨j, rfl, h0.1, h0.2, h i0 i1 h0.1 h0.2⟩
  · exact .inl (.inl ⟨j, rfl, by omega⟩)
theorem badT_z {i j : Int} {z : V} (h : (∃ k : Int, z = .int k ∧ k < 1) ∨ NotWh K H z) : BadT K H n [.int i, .int j, z] := badT_j fun _ _ _ _ => by
  by_cases e : i = j
  · exact .inl e
  · exact .inr ⟨e, h⟩
theorem badT_out {i : Int} {y z : V} (h : i < 0 ∨ n ≤ i) : BadT K H n [.int i, y, z] := badT_i fun _ _ => by omega
theorem badT_out2 {i j : Int} {z : V} (h : j < 0 ∨ n ≤ j) : BadT K H n [.int i, .int j, z] := badT_j fun _ _ _ _ => by omega
theorem badT_same {i : Int} {z : V} : BadT K H n [.int i, .int i, z] := badT_j fun _ _ _ _ => .inl rfl
theorem nw_bl (b : Bool) : NotWh K H (.bl b) := ⟨"bool", .base (.bl b), by decide⟩
theorem nw_non : NotWh K H .non := ⟨"NoneType", .base .non, by decide⟩
theorem nw_str (z : Str) : NotWh K H (.str z) := ⟨"str", .base (.str z), by decide⟩
theorem nw_lst {p : Addr} {xs : List V} (h : H p = some (.lst xs)) : NotWh K H (.ref p) := ⟨"list", .base (.lst h), by decide⟩
theorem nw_tup {p : Addr} {xs : List V} (h : H p = some (.tup xs)) : NotWh K H (.ref p) := ⟨"tuple", .base (.tup h), by decide⟩
/-- an item that can be shown and is the same as itself -/
def Kp (K : PySem.W.Frag) (H : Hp) (x : V) : Prop := ShoD K H 2 x ∧ EqV 1 H x x
theorem Kp.same {H' : Hp} {x : V} (s : Same H H') (h : Kp K H x) : Kp K H' x := ⟨h.1.keep s, h.2.same s⟩
theorem kp_int {i : Int} (h0 : -(2 ^ 64) < i) (h1 : i < 2 ^ 64) : Kp K H (.int i) := ⟨ShoD.leaf (.inl ⟨i, rfl, Nat.lt_of_lt_of_le (log_lt (k := 64) (by decide) (by omega)) (by decide)⟩) 2, EqV.int i⟩
theorem kp_bl (b : Bool) : Kp K H (.bl b) := ⟨ShoD.leaf (.inr (.inl ⟨b, rfl⟩)) 2, EqV.bl b⟩
theorem kp_non : Kp K H .non := ⟨ShoD.leaf (.inr (.inr (.inl rfl))) 2, EqV.non⟩
theorem kp_str {z : Str} (h : (reprText z).length ≤ 1000) : Kp K H (.str z) := ⟨ShoD.leaf (.inr (.inr (.inr ⟨z, rfl, h⟩))) 2, EqV.str z⟩
theorem kp_seq {p : Addr} {i : Int} (h : SqH H p [.int i]) (h0 : -(2 ^ 64) < i) (h1 : i < 2 ^ 64) : Kp K H (.ref p) := by
  have l : ∀ x ∈ [V.int i], ShoD K H 1 x := fun x hx => by
    rw [List.mem_singleton.mp hx]
    exact ShoD.leaf (.inl ⟨i, rfl, Nat.lt_of_lt_of_le (log_lt (k := 64) (by decide) (by omega)) (by decide)⟩) 1
  refine ⟨.inr (.inl ⟨p, [.int i], rfl, ?_, by show 1 ≤ 8; decide, l⟩), .inr ⟨p, p, [.int i], [.int i], rfl, rfl, ?_, rfl, by show 1 ≤ 1000; decide, fun k x y hx hy => ?_⟩⟩
  · exact h.elim (fun e => .inl (.inl (.inl e))) fun e => .inr (.inl (.inl e))
  · exact h.elim (fun e => .inr ⟨e, e⟩) fun e => .inl ⟨e, e⟩
  · rw [hx] at hy
    cases hy
    rw [List.mem_singleton.mp (List.mem_of_getElem? hx)]
    exact EqV.int i
/-- a bad tuple's items -/
def Kt (K : PySem.W.Frag) (H : Hp) (n : Int) (xs : List V) : Prop := BadT K H n xs ∧ xs.length ≤ 8 ∧ ∀ x ∈ xs, Kp K H x
theorem Kt.same {H' : Hp} {xs : List V} (s : Same H H') (h : Kt K H n xs) : Kt K H' n xs := ⟨h.1.same s, h.2.1, fun x hx => (h.2.2 x hx).same s⟩
theorem kt3 {x y z : V} (h : BadT K H n [x, y, z]) (hx : Kp K H x) (hy : Kp K H y) (hz : Kp K H z) : Kt K H n [x, y, z] := ⟨h, by show 3 ≤ 8; decide, fun u hu => by
  simp only [List.mem_cons, List.not_mem_nil, or_false] at hu
  rcases hu with rfl | rfl | rfl <;> assumption⟩
/-- a bad entry: no sequence, or a tuple -/
def Kd (K : PySem.W.Frag) (H : Hp) (n : Int) (v : V) : Prop := (ShoD K H 3 v ∧ EqV 2 H v v ∧ ∃ T, TyX K H v (.type T) ∧ T ∈ ["int", "bool", "NoneType", "str", "dict"]) ∨ ∃ (b : Addr) (xs : List V), v = .ref b ∧ H b = some (.tup xs) ∧ Kt K H n xs
theorem Kd.same {H' : Hp} {v : V} (s : Same H H') (h : Kd K H n v) : Kd K H' n v := by
  rcases h with ⟨h1, h2, T, ty, m⟩ | ⟨b, xs, e, hb, h⟩
  · exact .inl ⟨h1.keep s, h2.same s, T, tyx_same s ty, m⟩
  · exact .inr ⟨b, xs, e, s _ _ hb, h.same s⟩
theorem kd_tup {p : Addr} {xs : List V} (h : H p = some (.tup xs)) (k : Kt K H n xs) : Kd K H n (.ref p) := .inr ⟨p, xs, rfl, h, k⟩
theorem kd_int {i : Int} (h0 : -(2 ^ 64) < i) (h1 : i < 2 ^ 64) : Kd K H n (.int i) := .inl ⟨(kp_int h0 h1).1.up, EqV.int i, "int", .base (.int i), by decide⟩
theorem kd_bl (b : Bool) : Kd K H n (.bl b) := .inl ⟨(kp_bl b).1.up, EqV.bl b, "bool", .base (.bl b), by decide⟩
theorem kd_non : Kd K H n .non := .inl ⟨kp_non.1.up, EqV.non, "NoneType", .base .non, by decide⟩
theorem kd_str {z : Str} (h : (reprText z).length ≤ 1000) : Kd K H n (.str z) := .inl ⟨(kp_str h).1.up, EqV.str z, "str", .base (.str z), by decide⟩
/-- what a sequence of such items is -/
theorem kt_sho {p : Addr} {xs : List V} (h : SqH H p xs) (k : Kt K H n xs) : BadE K H n (.ref p) ∧ ShoD K H 3 (.ref p) ∧ EqV 2 H (.ref p) (.ref p) := by
  refine ⟨.inr ⟨p, xs, rfl, h, k.1⟩, .inr (.inl ⟨p, xs, rfl, ?_, k.2.1, fun x hx => (k.2.2 x hx).1⟩), .inr ⟨p, p, xs, xs, rfl, rfl, ?_, rfl, Nat.le_trans k.2.1 (by decide), fun i x y hx hy => ?_⟩⟩
  · exact h.elim (fun e => .inl (.inl (.inl e))) fun e => .inr (.inl (.inl e))
  · exact h.elim (fun e => .inr ⟨e, e⟩) fun e => .inl ⟨e, e⟩
  · rw [hx] at hy
    cases hy
    exact (k.2.2 _ (List.mem_of_getElem? hx)).2
/-- a bad entry as it is passed: one of these, or a list with a tuple's items -/
def Bd (K : PySem.W.Frag) (H : Hp) (n : Int) (v : V) : Prop := BadE K H n v ∧ ShoD K H 3 v ∧ It K H v
theorem Kd.bd {v : V} (h : Kd K H n v) : Bd K H n v := by
  rcases h with ⟨h1, h2, T, ty, m⟩ | ⟨b, xs, rfl, hb, h⟩
  · refine ⟨.inl ⟨T, ty, m⟩, h1, h2, .inr ⟨T, ty, ?_⟩⟩
    simp only [List.mem_cons, List.not_mem_nil, or_false] at m ⊢
    rcases m with rfl | rfl | rfl | rfl | rfl <;> decide
  · obtain ⟨h1, h2, h3⟩ := kt_sho (.inr hb) h
    exact ⟨h1, h2, h3, .inr ⟨"tuple", .base (.tup hb), by decide⟩⟩
theorem kt_lst {p : Addr} {xs : List V} (hb : H p = some (.lst xs)) (k : Kt K H n xs) : Bd K H n (.ref p) := by
  obtain ⟨h1, h2, h3⟩ := kt_sho (.inl hb) k
  exact ⟨h1, h2, h3, .inl ⟨p, xs, rfl, hb, Nat.le_trans k.2.1 (by decide), fun u hu => (k.2.2 u hu).2⟩⟩
theorem Bd.same {H' : Hp} {v : V} (s : Same H H') (h : Bd K H n v) : Bd K H' n v := ⟨h.1.same s, h.2.1.keep s, h.2.2.same s⟩
end
theorem rep_all : (List.range 1100).all (fun k => decide ((reprText (Str.ofString (toString (Int.ofNat k)))).length ≤ 1000)) = true := by decide +kernel
theorem rep_small {i : Int} (h0 : 0 ≤ i) (h1 : i < 1100) : (reprText (Str.ofString (toString i))).length ≤ 1000 := by
  obtain ⟨k, rfl⟩ : ∃ k : Nat, i = (k : Int) := ⟨i.toNat, by omega⟩
  exact of_decide_eq_true (List.all_eq_true.mp rep_all k (List.mem_range.mpr (by omega)))
/-! ### displays, item by item -/
/-- an expression's value has this property -/
def Cmp (σ : L2.St) (te : TE) (A : Hp → V → Prop) : Prop := ∀ H (R : VK), (∀ x H1, Same H H1 → A H1 x → R x H1) → te σ H R
def Cms (σ : L2.St) (ts : TA) (A : Hp → List V → Prop) : Prop := ∀ H (R : List V → Hp → Prop), (∀ xs H1, Same H H1 → A H1 xs → R xs H1) → ts σ H R
def Stb (A : Hp → V → Prop) : Prop := ∀ H H' x, Same H H' → A H x → A H' x
theorem cms_nil {σ : L2.St} : Cms σ tNil fun _ xs => xs = [] := fun H R r => r _ _ (Same.refl H) rfl
theorem cms_cons {σ : L2.St} {a : TE} {ts : TA} {A : Hp → V → Prop} {B : Hp → List V → Prop} (sA : Stb A) (h1 : Cmp σ a A) (h2 : Cms σ ts B) : Cms σ (tCons a ts) fun H xs => ∃ x r, xs = x :: r ∧ A H x ∧ B H r := fun H R r =>
  h1 H _ fun x H1 s1 hx => h2 H1 _ fun xs H2 s2 hxs => r _ _ (s1.trans s2) ⟨x, xs, rfl, sA _ _ _ s2 hx, hxs⟩
theorem cmp_tup {σ : L2.St} {ts : TA} {A : Hp → List V → Prop} {K : PySem.W.Frag} {n : Int} (h : Cms σ ts A) (k : ∀ H xs, A H xs → Kt K H n xs) : Cmp σ (tTup ts) (fun H v => Kd K H n v) := fun H R r =>
  h H _ fun xs H1 s1 hx => ⟨Nat.le_trans (k _ _ hx).2.1 (by show 8 ≤ sizeLine; decide), fun p np => r _ _ (s1.trans (same_upd np)) (kd_tup upd_same ((k _ _ hx).same (same_upd np)))⟩
/-- a flat value -/
def Flat (σ : L2.St) (te : TE) (v : V) : Prop := ∀ H (R : VK), R v H → te σ H R
theorem Flat.cmp {σ : L2.St} {te : TE} {v : V} (h : Flat σ te v) : Cmp σ te fun _ x => x = v := fun H R r => h H R (r _ _ (Same.refl H) rfl)
theorem stb_eq {v : V} : Stb fun _ x => x = v := fun _ _ _ _ h => h
theorem flat3 {σ : L2.St} {a b c : TE} {x y z : V} {K : PySem.W.Frag} {n : Int} (ha : Flat σ a x) (hb : Flat σ b y) (hc : Flat σ c z) (k : ∀ H, Kt K H n [x, y, z]) : Cmp σ (tTup (tCons a (tCons b (tCons c tNil)))) (fun H v => Kd K H n v) :=
  cmp_tup (cms_cons stb_eq ha.cmp (cms_cons stb_eq hb.cmp (cms_cons stb_eq hc.cmp cms_nil))) fun H xs h => by
    obtain ⟨_, _, rfl, rfl, _, _, rfl, rfl, _, _, rfl, rfl, rfl⟩ := h
    exact k H
theorem cmp_one {σ : L2.St} {a : TE} {v : V} (ha : Flat σ a v) : Cmp σ (tTup (tCons a tNil)) (fun H x => ∃ p, x = .ref p ∧ H p = some (.tup [v])) := fun H R r =>
  ha H _ ⟨by show 1 ≤ sizeLine; decide, fun p np => r _ _ (same_upd np) ⟨p, rfl, upd_same⟩⟩
theorem cmp_oneL {σ : L2.St} {a : TE} {v : V} (ha : Flat σ a v) : Cmp σ (tLst (tCons a tNil)) (fun H x => ∃ p, x = .ref p ∧ H p = some (.lst [v])) := fun H R r =>
  ha H _ ⟨by show 1 ≤ sizeLine; decide, fun p np => r _ _ (same_upd np) ⟨p, rfl, upd_same⟩⟩
/-- all of a list's items -/
def All (K : PySem.W.Frag) (n : Int) (m : Nat) (H : Hp) (xs : List V) : Prop := xs.length = m ∧ ∀ x ∈ xs, Kd K H n x
theorem All.same {K : PySem.W.Frag} {n : Int} {m : Nat} {H H' : Hp} {xs : List V} (s : Same H H') (h : All K n m H xs) : All K n m H' xs := ⟨h.1, fun x hx => (h.2 x hx).same s⟩
theorem all_nil {K : PySem.W.Frag} {n : Int} {σ : L2.St} : Cms σ tNil (All K n 0) := fun H R r => r _ _ (Same.refl H) ⟨rfl, fun x h => nomatch h⟩
theorem all_cons {K : PySem.W.Frag} {n : Int} {m : Nat} {σ : L2.St} {a : TE} {ts : TA} (h1 : Cmp σ a (fun H v => Kd K H n v)) (h2 : Cms σ ts (All K n m)) : Cms σ (tCons a ts) (All K n (m + 1)) := fun H R r =>
  h1 H _ fun x H1 s1 hx => h2 H1 _ fun xs H2 s2 hxs => r _ _ (s1.trans s2) ⟨by rw [List.length_cons, hxs.1], fun y hy => by
    rcases List.mem_cons.mp hy with rfl | hy
    · exact hx.same s2
    · exact hxs.2 y hy⟩
theorem All.app {K : PySem.W.Frag} {n : Int} {m k : Nat} {H : Hp} {xs ys : List V} (h : All K n m H xs) (g : All K n k H ys) : All K n (m + k) H (xs ++ ys) := ⟨by rw [List.length_append, h.1, g.1], fun x hx => (List.mem_append.mp hx).elim (h.2 x) (g.2 x)⟩
end Own

namespace Own
open PySem PySem.Spec PyProof.Rows L2
theorem digs4 {ds : List Int} {a b c d : Int} (h : Digs ds [a, b, c, d]) : ∃ w x y z, ds = [w, x, y, z] ∧ (0 ≤ w ∧ w < a) ∧ (0 ≤ x ∧ x < b) ∧ (0 ≤ y ∧ y < c) ∧ (0 ≤ z ∧ z < d) := by
  have hl := h.1
  match ds, hl with
  | [w, x, y, z], _ => exact ⟨w, x, y, z, rfl, h.2 0 w a rfl rfl, h.2 1 x b rfl rfl, h.2 2 y c rfl rfl, h.2 3 z d rfl rfl⟩
theorem lst_all {K : PySem.W.Frag} {n : Int} {m : Nat} {σ : L2.St} {ts : TA} (hm : m ≤ 1000) (h : Cms σ ts (All K n m)) (H : Hp) (R : VK) (r : ∀ p xs H1, Same H H1 → H1 p = some (.lst xs) → H p = none → All K n m H1 xs → R (.ref p) H1) : tLst ts σ H R :=
  h H _ fun xs H1 s1 ha => ⟨by rw [ha.1]; exact Nat.le_of_lt (small1000 hm), fun p np => r p xs _ (s1.trans (same_upd np)) upd_same (s1.free np) (ha.same (same_upd np))⟩
theorem stb_one {v : V} : Stb fun H x => ∃ p, x = .ref p ∧ H p = some (.tup [v]) := fun _ _ _ s ⟨p, e, h⟩ => ⟨p, e, s _ _ h⟩
theorem stb_oneL {v : V} : Stb fun H x => ∃ p, x = .ref p ∧ H p = some (.lst [v]) := fun _ _ _ s ⟨p, e, h⟩ => ⟨p, e, s _ _ h⟩
theorem kd_flat {K : PySem.W.Frag} {n : Int} {σ : L2.St} {a : TE} {v : V} (h : Flat σ a v) (k : ∀ H, Kd K H n v) : Cmp σ a (fun H v => Kd K H n v) := fun H R r => h H _ (r _ _ (Same.refl H) (k H))
/-- entries of a dict that are 1 each, at whole numbers -/
def Ones (kvs : List (Key × V)) : Prop := ∀ kv ∈ kvs, kv.2 = .int 1 ∧ ∃ i : Int, kv.1 = .inl i ∧ i.natAbs.log2 < 1000
theorem Ones.put {kvs : List (Key × V)} {i : Int} (h : Ones kvs) (hi : i.natAbs.log2 < 1000) : Ones (putK kvs (.inl i) (.int 1)) := fun kv hk => by
  unfold putK at hk
  split at hk
  · obtain ⟨q, hq, e⟩ := List.mem_map.mp hk
    obtain ⟨h1, h2⟩ := h q hq
    split at e
    · subst e
      exact ⟨rfl, h2⟩
    · subst e
      exact ⟨h1, h2⟩
  · rcases List.mem_append.mp hk with hk | hk
    · exact h kv hk
    · rw [List.mem_singleton.mp hk]
      exact ⟨rfl, i, rfl, hi⟩
theorem Ones.dok {kvs : List (Key × V)} (h : Ones kvs) : DOk kvs := fun p hp => by
  obtain ⟨h1, _⟩ := h p hp
  rw [h1]
  refine ⟨?_, rfl⟩
  unfold valV
  cases e : kvs.find? (fun kv => decide (kv.1 = p.1)) with
  | none =>
    have := List.find?_eq_none.mp e p hp
    simp at this
  | some q =>
    rw [Option.map_some, (h q (List.mem_of_find?_eq_some e)).1]
theorem cmp_dict {K : PySem.W.Frag} {n : Int} {σ : L2.St} {a b c : TE} {i j k : Int} (ha : Flat σ a (.int i)) (hb : Flat σ b (.int j)) (hc : Flat σ c (.int k)) (hi : 0 ≤ i ∧ i < 2 ^ 64) (hj : 0 ≤ j ∧ j < 2 ^ 64) (hk : 0 ≤ k ∧ k < 2 ^ 64) :
    Cmp σ (tDisp [(a, tC (.int 1)), (b, tC (.int 1)), (c, tC (.int 1))]) (fun H v => Kd K H n v) := fun H R r p np => by
  have lg : ∀ x : Int, 0 ≤ x ∧ x < 2 ^ 64 → x.natAbs.log2 < 1000 := fun x h => Nat.lt_of_lt_of_le (log_lt (k := 64) (by decide) (by omega)) (by decide)
  refine ha _ _ ?_
  refine hb _ _ ?_
  refine hc _ _ ?_
  refine ⟨upd_same, [(.inl i, .int 1), (.inl j, .int 1), (.inl k, .int 1)], rfl, by show 3 ≤ 15; decide, ?_⟩
  rw [upd_upd]
  have on : Ones (mergeK [] [(.inl i, .int 1), (.inl j, .int 1), (.inl k, .int 1)]) := Ones.put (Ones.put (Ones.put (fun kv h => nomatch h) (lg i hi)) (lg j hj)) (lg k hk)
  have len := length_mergeK [(.inl i, V.int 1), (.inl j, .int 1), (.inl k, .int 1)] []
  refine r _ _ (same_upd np) (.inl ⟨.inr (.inr ⟨p, _, rfl, upd_same, Nat.le_trans len (by show 0 + 3 ≤ 8; decide), fun kv hk => ?_⟩), EqV.le (d := 0) (.inr (.inr (.inr (.inr ⟨p, _, rfl, rfl, upd_same, on.dok⟩)))) (by decide), "dict", .base (.dK upd_same), by decide⟩)
  obtain ⟨h1, z, h2, h3⟩ := on kv hk
  rw [h1, h2]
  exact ⟨.inl ⟨z, rfl, h3⟩, .inl ⟨1, rfl, by decide +kernel⟩⟩
section
variable {P : Program} {w : World} {K : PySem.W.Frag} {mg : Str → Option Value} {base : Heap} {C : Addr}
def spBads (K : PySem.W.Frag) : Sp := fun vs H Q _ => ∃ (c n : Int), vs = [.int c, .int n] ∧ 0 ≤ n ∧ n ≤ 1000 ∧ ∀ H' p xs, Same H H' → H' p = some (.lst xs) → All K n 38 H' xs → Q (.ref p) H'
set_option maxHeartbeats 0 in
theorem ok_bads {f : Addr} {fd : FuncData} (F : Fun K "_law_bad_entries" "_law_bad_entries" s__law_bad_entries f fd) (T : Bi mg) {f_d : Addr} {d_d : FuncData} (D_d : Df K mg "_law_digits" s__law_digits ["_law_cell_here", "_law_sizes"] f_d d_d) (G_d : FnOk P w K mg base CX0 1 f_d d_d ["_law_cell_here", "_law_sizes"] (spDigs K)) : FnOk P w K mg base CX0 2 f fd ["_law_cell_here", "_law_rim"] (spBads K) := by
  refine F.ok sc__law_bad_entries (fun vs H Q E h => ?_) (fun cdv A outer s H vs Q E hr h => ?_)
  · obtain ⟨c, n, rfl, _⟩ := h
    rfl
  · obtain ⟨c, n, rfl, n0, n1, q⟩ := h
    refine ⟨_, (pss_cons (ps_set (i := 2) sc__law_bad_entries.nd rfl (.inl rfl) (pe_call G_d (hr.mono (by decide)) (by rfl) D_d.g D_d.F.kp D_d.b .nil pass0 (pa_cons (pv 0) (pa_cons (pe_lst (pa_cons pe_int (pa_cons pe_int (pa_cons pe_int (pa_cons pe_int pa_nil))))) pa_nil))))
        (pss_cons (ps_set (i := 3) sc__law_bad_entries.nd rfl (.inl rfl) (pe_op op_modN (pe_callTy call_int1 (by rfl) T.b_int (by decide +kernel) (pa_cons (pe_ix (r := rIxL K) ix_list (pv 2) pe_int (fun _ _ => rfl)) pa_nil)) (pe_callB (call_max2 rfl) (by rfl) T.b_max (by decide +kernel) (pa_cons (pv 1) (pa_cons pe_int pa_nil)))))
        (pss_cons (ps_set (i := 4) sc__law_bad_entries.nd rfl (.inl rfl) (pe_op op_modN (pe_callTy call_int1 (by rfl) T.b_int (by decide +kernel) (pa_cons (pe_op op_add (pe_op op_add (pv 3) pe_int) (pe_op op_modN (pe_callTy call_int1 (by rfl) T.b_int (by decide +kernel) (pa_cons (pe_ix (r := rIxL K) ix_list (pv 2) pe_int (fun _ _ => rfl)) pa_nil)) (pe_callB (call_max2 rfl) (by rfl) T.b_max (by decide +kernel) (pa_cons (pe_op op_sub (pv 1) pe_int) (pa_cons pe_int pa_nil))))) pa_nil)) (pe_callB (call_max2 rfl) (by rfl) T.b_max (by decide +kernel) (pa_cons (pv 1) (pa_cons pe_int pa_nil)))))
        (pss_cons (ps_set (i := 5) sc__law_bad_entries.nd rfl (.inl rfl) (pe_op op_add pe_int (pe_ix (r := rIxL K) ix_list (pv 2) pe_int (fun _ _ => rfl))))
        (pss_cons (ps_set (i := 6) sc__law_bad_entries.nd rfl (.inl rfl) (pe_ix (r := rIxL K) ix_list (pe_lst (pa_cons pe_int (pa_cons pe_int (pa_cons pe_int pa_nil)))) (pe_ix (r := rIxL K) ix_list (pv 2) pe_int (fun _ _ => rfl)) (fun _ _ => rfl)))
        (pss_cons (ps_set (i := 7) sc__law_bad_entries.nd rfl (.inl rfl) (pe_lst (pa_cons (pe_tup (pa_cons pe_bl (pa_cons pe_int (pa_cons (pv 5) pa_nil)))) (pa_cons (pe_tup (pa_cons pe_bl (pa_cons pe_int (pa_cons (pv 5) pa_nil)))) (pa_cons (pe_tup (pa_cons pe_int (pa_cons pe_bl (pa_cons (pv 5) pa_nil)))) (pa_cons (pe_tup (pa_cons pe_int (pa_cons pe_bl (pa_cons (pv 5) pa_nil)))) (pa_cons (pe_tup (pa_cons (pv 3) (pa_cons (pv 4) (pa_cons pe_bl pa_nil)))) (pa_cons (pe_tup (pa_cons (pv 3) (pa_cons (pv 4) (pa_cons pe_bl pa_nil)))) pa_nil))))))))
        (pss_cons (ps_set (i := 7) sc__law_bad_entries.nd rfl (.inl rfl) (pe_op op_cat (pv 7) (pe_lst (pa_cons (pe_tup (pa_cons pe_non (pa_cons (pv 4) (pa_cons (pv 5) pa_nil)))) (pa_cons (pe_tup (pa_cons (pv 3) (pa_cons pe_non (pa_cons (pv 5) pa_nil)))) (pa_cons (pe_tup (pa_cons (pv 3) (pa_cons (pv 4) (pa_cons pe_non pa_nil)))) (pa_cons (pe_tup (pa_cons (pe_callTy call_str_int (by rfl) T.b_str (by decide +kernel) (pa_cons (pv 3) pa_nil)) (pa_cons (pv 4) (pa_cons (pv 5) pa_nil)))) (pa_cons (pe_tup (pa_cons (pv 3) (pa_cons (pv 4) (pa_cons (pe_callTy call_str_int (by rfl) T.b_str (by decide +kernel) (pa_cons (pv 5) pa_nil)) pa_nil)))) pa_nil))))))))
        (pss_cons (ps_set (i := 7) sc__law_bad_entries.nd rfl (.inl rfl) (pe_op op_cat (pv 7) (pe_lst (pa_cons (pe_tup (pa_cons (pe_tup (pa_cons (pv 3) pa_nil)) (pa_cons (pv 4) (pa_cons (pv 5) pa_nil)))) (pa_cons (pe_tup (pa_cons (pv 3) (pa_cons (pe_tup (pa_cons (pv 4) pa_nil)) (pa_cons (pv 5) pa_nil)))) (pa_cons (pe_tup (pa_cons (pv 3) (pa_cons (pv 4) (pa_cons (pe_tup (pa_cons (pv 5) pa_nil)) pa_nil)))) pa_nil))))))
        (pss_cons (ps_set (i := 7) sc__law_bad_entries.nd rfl (.inl rfl) (pe_op op_cat (pv 7) (pe_lst (pa_cons (pe_tup (pa_cons (pe_lst (pa_cons (pv 3) pa_nil)) (pa_cons (pv 4) (pa_cons (pv 5) pa_nil)))) (pa_cons (pe_tup (pa_cons (pv 3) (pa_cons (pe_lst (pa_cons (pv 4) pa_nil)) (pa_cons (pv 5) pa_nil)))) (pa_cons (pe_tup (pa_cons (pv 3) (pa_cons (pv 4) (pa_cons (pe_lst (pa_cons (pv 5) pa_nil)) pa_nil)))) (pa_cons (pe_tup (pa_cons (pv 3) (pa_cons (pv 3) (pa_cons (pv 5) pa_nil)))) (pa_cons (pe_tup (pa_cons (pv 1) (pa_cons (pv 4) (pa_cons (pv 5) pa_nil)))) pa_nil))))))))
        (pss_cons (ps_set (i := 7) sc__law_bad_entries.nd rfl (.inl rfl) (pe_op op_cat (pv 7) (pe_lst (pa_cons (pe_tup (pa_cons (pv 3) (pa_cons (pv 1) (pa_cons (pv 5) pa_nil)))) (pa_cons (pe_tup (pa_cons (pe_un un_neg pe_int) (pa_cons (pv 4) (pa_cons (pv 5) pa_nil)))) (pa_cons (pe_tup (pa_cons (pv 3) (pa_cons (pe_un un_neg pe_int) (pa_cons (pv 5) pa_nil)))) (pa_cons (pe_tup (pa_cons (pe_op op_add (pv 1) (pv 6)) (pa_cons (pv 4) (pa_cons (pv 5) pa_nil)))) (pa_cons (pe_tup (pa_cons (pv 3) (pa_cons (pe_op op_add (pv 1) (pv 6)) (pa_cons (pv 5) pa_nil)))) pa_nil))))))))
        (pss_cons (ps_set (i := 7) sc__law_bad_entries.nd rfl (.inl rfl) (pe_op op_cat (pv 7) (pe_lst (pa_cons (pe_tup (pa_cons (pe_op op_sub (pe_un un_neg pe_int) (pv 6)) (pa_cons (pv 4) (pa_cons (pv 5) pa_nil)))) (pa_cons (pe_tup (pa_cons (pv 3) (pa_cons (pe_op op_sub (pe_un un_neg pe_int) (pv 6)) (pa_cons (pv 5) pa_nil)))) (pa_cons (pe_tup (pa_cons (pv 3) (pa_cons (pv 4) (pa_cons pe_int pa_nil)))) (pa_cons (pe_tup (pa_cons (pv 3) (pa_cons (pv 4) (pa_cons (pe_un un_neg (pv 5)) pa_nil)))) pa_nil)))))))
        (pss_cons (ps_set (i := 7) sc__law_bad_entries.nd rfl (.inl rfl) (pe_op op_cat (pv 7) (pe_lst (pa_cons (pe_tup (pa_cons (pv 3) (pa_cons (pv 4) (pa_cons (pv 5) (pa_cons pe_int pa_nil))))) (pa_cons (pe_tup (pa_cons (pv 3) (pa_cons (pv 4) pa_nil))) (pa_cons (pe_tup pa_nil) pa_nil))))))
        (pss_one (ps_ret (pe_op op_cat (pv 7) (pe_lst (pa_cons pe_non (pa_cons pe_int (pa_cons pe_bl (pa_cons pe_str (pa_cons pe_str (pa_cons pe_str (pa_cons (pe_disp (pps_cons (pv 3) pe_int (pps_cons (pv 4) pe_int (pps_cons (pe_op op_add pe_int (pv 5)) pe_int pps_nil))) (by rfl) (by rfl) (by simp) (by decide)) pa_nil))))))))))))))))))))))), ?_⟩
    refine ⟨_, rfl, by show 4 ≤ sizeLine; decide, fun b nb => ⟨c, b, [40, 39, 3, 1000], rfl, .inl (.inl upd_same), by show 4 ≤ 1000; decide, fun x hx => ?_, fun H3 p3 ds3 s3 np3 ep3 dg3 => ?_⟩⟩
    · simp only [List.mem_cons, List.not_mem_nil, or_false] at hx
      omega
    obtain ⟨d0, d1, d2, d3, rfl, h0, h1, h2, h3⟩ := digs4 dg3
    have s23 : Same H H3 := (same_upd nb).trans s3
    have qp : SqL K H3 p3 [.int d0, .int d1, .int d2, .int d3] := .inl (.inl ep3)
    have a0 : atI [V.int d0, .int d1, .int d2, .int d3] 0 = some (.int d0) := atI_nat (j := 0) rfl
    have a1 : atI [V.int d0, .int d1, .int d2, .int d3] 1 = some (.int d1) := atI_nat (j := 1) rfl
    have a2 : atI [V.int d0, .int d1, .int d2, .int d3] 2 = some (.int d2) := atI_nat (j := 2) rfl
    have a3 : atI [V.int d0, .int d1, .int d2, .int d3] 3 = some (.int d3) := atI_nat (j := 3) rfl
    have m1 := lo_hi n 1
    have m2 := lo_hi (n - 1) 1
    have om : ∀ x : Int, 0 ≤ x.fmod (hi n 1) ∧ x.fmod (hi n 1) < hi n 1 := fun x => fmod_in x (by omega)
    have om2 : ∀ x : Int, 0 ≤ x.fmod (hi (n - 1) 1) ∧ x.fmod (hi (n - 1) 1) < hi (n - 1) 1 := fun x => fmod_in x (by omega)
    refine ⟨_, rfl, p3, _, 0, _, rfl, rfl, qp, a0, .inl ⟨_, rfl, ?_⟩⟩
    refine ⟨_, rfl, n, 1, rfl, _, _, rfl, rfl, by omega, ?_⟩
    refine ⟨_, rfl, _, _, rfl, rfl, ?_⟩
    refine ⟨_, rfl, p3, _, 1, _, rfl, rfl, qp, a1, .inl ⟨_, rfl, ?_⟩⟩
    refine ⟨_, rfl, n, 1, rfl, rfl, n - 1, 1, rfl, _, _, rfl, rfl, by omega, ?_⟩
    refine ⟨_, _, rfl, rfl, .inl ⟨_, rfl, _, rfl, n, 1, rfl, _, _, rfl, rfl, by omega, ?_⟩⟩
    refine ⟨_, rfl, p3, _, 3, _, rfl, rfl, qp, a3, _, _, rfl, rfl, ?_⟩
    obtain ⟨far, ef, f0, f1⟩ : ∃ z : Int, atI [V.int 1, .int 2, .int 1000] d2 = some (.int z) ∧ 0 ≤ z ∧ z ≤ 1000 := by
      have hd : d2 = ((0 : Nat) : Int) ∨ d2 = ((1 : Nat) : Int) ∨ d2 = ((2 : Nat) : Int) := by omega
      rcases hd with e | e | e <;> rw [e] <;> exact ⟨_, atI_nat rfl, by decide⟩
    refine ⟨by show 3 ≤ sizeLine; decide, fun g ng => ⟨_, rfl, p3, _, 2, _, rfl, rfl, (same_upd ng).seq qp, a2, g, _, d2, _, rfl, rfl, .inl (.inl upd_same), ef, ?_⟩⟩
    dsimp only [tSeq, tAsg, gName]
    have e1_ : (if (1 : Int) > n then 1 else n) = hi n 1 := rfl
    have e2_ : (if (1 : Int) > n - 1 then 1 else n - 1) = hi (n - 1) 1 := rfl
    rw [e1_, e2_]
    have b1 := om d0
    generalize d0.fmod (hi n 1) = one at b1 ⊢
    have b2 := om (one + 1 + d1.fmod (hi (n - 1) 1))
    generalize (one + 1 + d1.fmod (hi (n - 1) 1)).fmod (hi n 1) = other at b2 ⊢
    obtain ⟨nn, en⟩ : ∃ nn, 1 + d3 = nn := ⟨_, rfl⟩
    rw [en]
    have sH4 := s23.trans (same_upd (o := .lst [.int 1, .int 2, .int 1000]) ng)
    generalize upd H3 g (.lst [.int 1, .int 2, .int 1000]) = H4 at sH4 ⊢
    clear om om2 ef a0 a1 a2 a3 qp
    refine lst_all (K := K) (n := n) (m := 6) (by decide) ?_ _ _ (fun q0 ys0 G0 t0 g0 n0 b0 => ?_)
    · refine all_cons (flat3 (x := .bl true) (y := .int 0) (z := .int nn) (fun H R r => r) (fun H R r => r) (fun H R r => ⟨_, rfl, r⟩) (fun H => kt3 (badT_x (nw_bl _)) (kp_bl _) (kp_int (by decide) (by decide)) (kp_int (by omega) (by omega)))) ?_
      refine all_cons (flat3 (x := .bl false) (y := .int 1) (z := .int nn) (fun H R r => r) (fun H R r => r) (fun H R r => ⟨_, rfl, r⟩) (fun H => kt3 (badT_x (nw_bl _)) (kp_bl _) (kp_int (by decide) (by decide)) (kp_int (by omega) (by omega)))) ?_
      refine all_cons (flat3 (x := .int 0) (y := .bl true) (z := .int nn) (fun H R r => r) (fun H R r => r) (fun H R r => ⟨_, rfl, r⟩) (fun H => kt3 (badT_y (nw_bl _)) (kp_int (by decide) (by decide)) (kp_bl _) (kp_int (by omega) (by omega)))) ?_
      refine all_cons (flat3 (x := .int 1) (y := .bl false) (z := .int nn) (fun H R r => r) (fun H R r => r) (fun H R r => ⟨_, rfl, r⟩) (fun H => kt3 (badT_y (nw_bl _)) (kp_int (by decide) (by decide)) (kp_bl _) (kp_int (by omega) (by omega)))) ?_
      refine all_cons (flat3 (x := .int one) (y := .int other) (z := .bl true) (fun H R r => ⟨_, rfl, r⟩) (fun H R r => ⟨_, rfl, r⟩) (fun H R r => r) (fun H => kt3 (badT_z (.inr (nw_bl _))) (kp_int (by omega) (by omega)) (kp_int (by omega) (by omega)) (kp_bl _))) ?_
      refine all_cons (flat3 (x := .int one) (y := .int other) (z := .bl false) (fun H R r => ⟨_, rfl, r⟩) (fun H R r => ⟨_, rfl, r⟩) (fun H R r => r) (fun H => kt3 (badT_z (.inr (nw_bl _))) (kp_int (by omega) (by omega)) (kp_int (by omega) (by omega)) (kp_bl _))) ?_
      exact all_nil
    have S0 : Same H G0 := sH4.trans t0
    refine ⟨_, rfl, ?_⟩
    refine lst_all (K := K) (n := n) (m := 5) (by decide) ?_ _ _ (fun q1 ys1 G1 t1 g1 n1 b1 => ?_)
    · refine all_cons (flat3 (x := .non) (y := .int other) (z := .int nn) (fun H R r => r) (fun H R r => ⟨_, rfl, r⟩) (fun H R r => ⟨_, rfl, r⟩) (fun H => kt3 (badT_x nw_non) (kp_non) (kp_int (by omega) (by omega)) (kp_int (by omega) (by omega)))) ?_
      refine all_cons (flat3 (x := .int one) (y := .non) (z := .int nn) (fun H R r => ⟨_, rfl, r⟩) (fun H R r => r) (fun H R r => ⟨_, rfl, r⟩) (fun H => kt3 (badT_y nw_non) (kp_int (by omega) (by omega)) (kp_non) (kp_int (by omega) (by omega)))) ?_
      refine all_cons (flat3 (x := .int one) (y := .int other) (z := .non) (fun H R r => ⟨_, rfl, r⟩) (fun H R r => ⟨_, rfl, r⟩) (fun H R r => r) (fun H => kt3 (badT_z (.inr nw_non)) (kp_int (by omega) (by omega)) (kp_int (by omega) (by omega)) (kp_non))) ?_
      refine all_cons (flat3 (x := .str (Str.ofString (toString one))) (y := .int other) (z := .int nn) (fun H R r => ⟨_, rfl, one, rfl, Nat.lt_of_lt_of_le (log_lt (k := 64) (by decide) (by omega)) (by decide), r⟩) (fun H R r => ⟨_, rfl, r⟩) (fun H R r => ⟨_, rfl, r⟩) (fun H => kt3 (badT_x (nw_str _)) (kp_str (rep_small (by omega) (by omega))) (kp_int (by omega) (by omega)) (kp_int (by omega) (by omega)))) ?_
      refine all_cons (flat3 (x := .int one) (y := .int other) (z := .str (Str.ofString (toString nn))) (fun H R r => ⟨_, rfl, r⟩) (fun H R r => ⟨_, rfl, r⟩) (fun H R r => ⟨_, rfl, nn, rfl, Nat.lt_of_lt_of_le (log_lt (k := 64) (by decide) (by omega)) (by decide), r⟩) (fun H => kt3 (badT_z (.inr (nw_str _))) (kp_int (by omega) (by omega)) (kp_int (by omega) (by omega)) (kp_str (rep_small (by omega) (by omega))))) ?_
      exact all_nil
    refine ⟨q0, q1, _, _, rfl, rfl, t1 _ _ g0, g1, by rw [b0.1, b1.1]; show 6 + 5 ≤ sizeLine; decide, fun p1 np1 => ?_⟩
    have A1 := ((b0.same t1).app b1).same (same_upd (o := .lst (ys0 ++ ys1)) np1)
    have S1 := (S0.trans t1).trans (same_upd (o := .lst (ys0 ++ ys1)) np1)
    have E1 := upd_same (H := G1) (a := p1) (o := .lst (ys0 ++ ys1))
    generalize upd G1 p1 (.lst (ys0 ++ ys1)) = F1 at A1 S1 E1 ⊢
    generalize ys0 ++ ys1 = zs1 at A1 E1
    refine ⟨_, rfl, ?_⟩
    refine lst_all (K := K) (n := n) (m := 3) (by decide) ?_ _ _ (fun q2 ys2 G2 t2 g2 n2 b2 => ?_)
    · refine all_cons (cmp_tup (cms_cons stb_one (cmp_one (v := .int one) (fun H R r => ⟨_, rfl, r⟩)) (cms_cons stb_eq (Flat.cmp (v := .int other) (fun H R r => ⟨_, rfl, r⟩)) (cms_cons stb_eq (Flat.cmp (v := .int nn) (fun H R r => ⟨_, rfl, r⟩)) cms_nil))) fun H xs h => by
        obtain ⟨_, _, rfl, ⟨p, rfl, hp⟩, _, _, rfl, rfl, _, _, rfl, rfl, rfl⟩ := h
        exact kt3 (badT_x (nw_tup hp)) (kp_seq (.inr hp) (by omega) (by omega)) (kp_int (by omega) (by omega)) (kp_int (by omega) (by omega))) ?_
      refine all_cons (cmp_tup (cms_cons stb_eq (Flat.cmp (v := .int one) (fun H R r => ⟨_, rfl, r⟩)) (cms_cons stb_one (cmp_one (v := .int other) (fun H R r => ⟨_, rfl, r⟩)) (cms_cons stb_eq (Flat.cmp (v := .int nn) (fun H R r => ⟨_, rfl, r⟩)) cms_nil))) fun H xs h => by
        obtain ⟨_, _, rfl, rfl, _, _, rfl, ⟨p, rfl, hp⟩, _, _, rfl, rfl, rfl⟩ := h
        exact kt3 (badT_y (nw_tup hp)) (kp_int (by omega) (by omega)) (kp_seq (.inr hp) (by omega) (by omega)) (kp_int (by omega) (by omega))) ?_
      refine all_cons (cmp_tup (cms_cons stb_eq (Flat.cmp (v := .int one) (fun H R r => ⟨_, rfl, r⟩)) (cms_cons stb_eq (Flat.cmp (v := .int other) (fun H R r => ⟨_, rfl, r⟩)) (cms_cons stb_one (cmp_one (v := .int nn) (fun H R r => ⟨_, rfl, r⟩)) cms_nil))) fun H xs h => by
        obtain ⟨_, _, rfl, rfl, _, _, rfl, rfl, _, _, rfl, ⟨p, rfl, hp⟩, rfl⟩ := h
        exact kt3 (badT_z (.inr (nw_tup hp))) (kp_int (by omega) (by omega)) (kp_int (by omega) (by omega)) (kp_seq (.inr hp) (by omega) (by omega))) ?_
      exact all_nil
    refine ⟨p1, q2, _, _, rfl, rfl, t2 _ _ E1, g2, by rw [A1.1, b2.1]; show 11 + 3 ≤ sizeLine; decide, fun p2 np2 => ?_⟩
    have A2 := ((A1.same t2).app b2).same (same_upd (o := .lst (zs1 ++ ys2)) np2)
    have S2 := (S1.trans t2).trans (same_upd (o := .lst (zs1 ++ ys2)) np2)
    have E2 := upd_same (H := G2) (a := p2) (o := .lst (zs1 ++ ys2))
    generalize upd G2 p2 (.lst (zs1 ++ ys2)) = F2 at A2 S2 E2 ⊢
    generalize zs1 ++ ys2 = zs2 at A2 E2
    refine ⟨_, rfl, ?_⟩
    refine lst_all (K := K) (n := n) (m := 5) (by decide) ?_ _ _ (fun q3 ys3 G3 t3 g3 n3 b3 => ?_)
    · refine all_cons (cmp_tup (cms_cons stb_oneL (cmp_oneL (v := .int one) (fun H R r => ⟨_, rfl, r⟩)) (cms_cons stb_eq (Flat.cmp (v := .int other) (fun H R r => ⟨_, rfl, r⟩)) (cms_cons stb_eq (Flat.cmp (v := .int nn) (fun H R r => ⟨_, rfl, r⟩)) cms_nil))) fun H xs h => by
        obtain ⟨_, _, rfl, ⟨p, rfl, hp⟩, _, _, rfl, rfl, _, _, rfl, rfl, rfl⟩ := h
        exact kt3 (badT_x (nw_lst hp)) (kp_seq (.inl hp) (by omega) (by omega)) (kp_int (by omega) (by omega)) (kp_int (by omega) (by omega))) ?_
      refine all_cons (cmp_tup (cms_cons stb_eq (Flat.cmp (v := .int one) (fun H R r => ⟨_, rfl, r⟩)) (cms_cons stb_oneL (cmp_oneL (v := .int other) (fun H R r => ⟨_, rfl, r⟩)) (cms_cons stb_eq (Flat.cmp (v := .int nn) (fun H R r => ⟨_, rfl, r⟩)) cms_nil))) fun H xs h => by
        obtain ⟨_, _, rfl, rfl, _, _, rfl, ⟨p, rfl, hp⟩, _, _, rfl, rfl, rfl⟩ := h
        exact kt3 (badT_y (nw_lst hp)) (kp_int (by omega) (by omega)) (kp_seq (.inl hp) (by omega) (by omega)) (kp_int (by omega) (by omega))) ?_
      refine all_cons (cmp_tup (cms_cons stb_eq (Flat.cmp (v := .int one) (fun H R r => ⟨_, rfl, r⟩)) (cms_cons stb_eq (Flat.cmp (v := .int other) (fun H R r => ⟨_, rfl, r⟩)) (cms_cons stb_oneL (cmp_oneL (v := .int nn) (fun H R r => ⟨_, rfl, r⟩)) cms_nil))) fun H xs h => by
        obtain ⟨_, _, rfl, rfl, _, _, rfl, rfl, _, _, rfl, ⟨p, rfl, hp⟩, rfl⟩ := h
        exact kt3 (badT_z (.inr (nw_lst hp))) (kp_int (by omega) (by omega)) (kp_int (by omega) (by omega)) (kp_seq (.inl hp) (by omega) (by omega))) ?_
      refine all_cons (flat3 (x := .int one) (y := .int one) (z := .int nn) (fun H R r => ⟨_, rfl, r⟩) (fun H R r => ⟨_, rfl, r⟩) (fun H R r => ⟨_, rfl, r⟩) (fun H => kt3 (badT_same) (kp_int (by omega) (by omega)) (kp_int (by omega) (by omega)) (kp_int (by omega) (by omega)))) ?_
      refine all_cons (flat3 (x := .int n) (y := .int other) (z := .int nn) (fun H R r => ⟨_, rfl, r⟩) (fun H R r => ⟨_, rfl, r⟩) (fun H R r => ⟨_, rfl, r⟩) (fun H => kt3 (badT_out (by omega)) (kp_int (by omega) (by omega)) (kp_int (by omega) (by omega)) (kp_int (by omega) (by omega)))) ?_
      exact all_nil
    refine ⟨p2, q3, _, _, rfl, rfl, t3 _ _ E2, g3, by rw [A2.1, b3.1]; show 14 + 5 ≤ sizeLine; decide, fun p3 np3 => ?_⟩
    have A3 := ((A2.same t3).app b3).same (same_upd (o := .lst (zs2 ++ ys3)) np3)
    have S3 := (S2.trans t3).trans (same_upd (o := .lst (zs2 ++ ys3)) np3)
    have E3 := upd_same (H := G3) (a := p3) (o := .lst (zs2 ++ ys3))
    generalize upd G3 p3 (.lst (zs2 ++ ys3)) = F3 at A3 S3 E3 ⊢
    generalize zs2 ++ ys3 = zs3 at A3 E3
    refine ⟨_, rfl, ?_⟩
    refine lst_all (K := K) (n := n) (m := 5) (by decide) ?_ _ _ (fun q4 ys4 G4 t4 g4 n4 b4 => ?_)
    · refine all_cons (flat3 (x := .int one) (y := .int n) (z := .int nn) (fun H R r => ⟨_, rfl, r⟩) (fun H R r => ⟨_, rfl, r⟩) (fun H R r => ⟨_, rfl, r⟩) (fun H => kt3 (badT_out2 (by omega)) (kp_int (by omega) (by omega)) (kp_int (by omega) (by omega)) (kp_int (by omega) (by omega)))) ?_
      refine all_cons (flat3 (x := .int (-1)) (y := .int other) (z := .int nn) (fun H R r => ⟨_, rfl, r⟩) (fun H R r => ⟨_, rfl, r⟩) (fun H R r => ⟨_, rfl, r⟩) (fun H => kt3 (badT_out (by omega)) (kp_int (by decide) (by decide)) (kp_int (by omega) (by omega)) (kp_int (by omega) (by omega)))) ?_
      refine all_cons (flat3 (x := .int one) (y := .int (-1)) (z := .int nn) (fun H R r => ⟨_, rfl, r⟩) (fun H R r => ⟨_, rfl, r⟩) (fun H R r => ⟨_, rfl, r⟩) (fun H => kt3 (badT_out2 (by omega)) (kp_int (by omega) (by omega)) (kp_int (by decide) (by decide)) (kp_int (by omega) (by omega)))) ?_
      refine all_cons (flat3 (x := .int (n + far)) (y := .int other) (z := .int nn) (fun H R r => ⟨_, rfl, _, rfl, _, _, rfl, rfl, r⟩) (fun H R r => ⟨_, rfl, r⟩) (fun H R r => ⟨_, rfl, r⟩) (fun H => kt3 (badT_out (by omega)) (kp_int (by omega) (by omega)) (kp_int (by omega) (by omega)) (kp_int (by omega) (by omega)))) ?_
      refine all_cons (flat3 (x := .int one) (y := .int (n + far)) (z := .int nn) (fun H R r => ⟨_, rfl, r⟩) (fun H R r => ⟨_, rfl, _, rfl, _, _, rfl, rfl, r⟩) (fun H R r => ⟨_, rfl, r⟩) (fun H => kt3 (badT_out2 (by omega)) (kp_int (by omega) (by omega)) (kp_int (by omega) (by omega)) (kp_int (by omega) (by omega)))) ?_
      exact all_nil
    refine ⟨p3, q4, _, _, rfl, rfl, t4 _ _ E3, g4, by rw [A3.1, b4.1]; show 19 + 5 ≤ sizeLine; decide, fun p4 np4 => ?_⟩
    have A4 := ((A3.same t4).app b4).same (same_upd (o := .lst (zs3 ++ ys4)) np4)
    have S4 := (S3.trans t4).trans (same_upd (o := .lst (zs3 ++ ys4)) np4)
    have E4 := upd_same (H := G4) (a := p4) (o := .lst (zs3 ++ ys4))
    generalize upd G4 p4 (.lst (zs3 ++ ys4)) = F4 at A4 S4 E4 ⊢
    generalize zs3 ++ ys4 = zs4 at A4 E4
    refine ⟨_, rfl, ?_⟩
    refine lst_all (K := K) (n := n) (m := 4) (by decide) ?_ _ _ (fun q5 ys5 G5 t5 g5 n5 b5 => ?_)
    · refine all_cons (flat3 (x := .int (-1 - far)) (y := .int other) (z := .int nn) (fun H R r => ⟨_, rfl, _, rfl, _, _, rfl, rfl, r⟩) (fun H R r => ⟨_, rfl, r⟩) (fun H R r => ⟨_, rfl, r⟩) (fun H => kt3 (badT_out (by omega)) (kp_int (by omega) (by omega)) (kp_int (by omega) (by omega)) (kp_int (by omega) (by omega)))) ?_
      refine all_cons (flat3 (x := .int one) (y := .int (-1 - far)) (z := .int nn) (fun H R r => ⟨_, rfl, r⟩) (fun H R r => ⟨_, rfl, _, rfl, _, _, rfl, rfl, r⟩) (fun H R r => ⟨_, rfl, r⟩) (fun H => kt3 (badT_out2 (by omega)) (kp_int (by omega) (by omega)) (kp_int (by omega) (by omega)) (kp_int (by omega) (by omega)))) ?_
      refine all_cons (flat3 (x := .int one) (y := .int other) (z := .int 0) (fun H R r => ⟨_, rfl, r⟩) (fun H R r => ⟨_, rfl, r⟩) (fun H R r => r) (fun H => kt3 (badT_z (.inl ⟨_, rfl, by omega⟩)) (kp_int (by omega) (by omega)) (kp_int (by omega) (by omega)) (kp_int (by decide) (by decide)))) ?_
      refine all_cons (flat3 (x := .int one) (y := .int other) (z := .int (-nn)) (fun H R r => ⟨_, rfl, r⟩) (fun H R r => ⟨_, rfl, r⟩) (fun H R r => ⟨_, rfl, _, rfl, r⟩) (fun H => kt3 (badT_z (.inl ⟨_, rfl, by omega⟩)) (kp_int (by omega) (by omega)) (kp_int (by omega) (by omega)) (kp_int (by omega) (by omega)))) ?_
      exact all_nil
    refine ⟨p4, q5, _, _, rfl, rfl, t5 _ _ E4, g5, by rw [A4.1, b5.1]; show 24 + 4 ≤ sizeLine; decide, fun p5 np5 => ?_⟩
    have A5 := ((A4.same t5).app b5).same (same_upd (o := .lst (zs4 ++ ys5)) np5)
    have S5 := (S4.trans t5).trans (same_upd (o := .lst (zs4 ++ ys5)) np5)
    have E5 := upd_same (H := G5) (a := p5) (o := .lst (zs4 ++ ys5))
    generalize upd G5 p5 (.lst (zs4 ++ ys5)) = F5 at A5 S5 E5 ⊢
    generalize zs4 ++ ys5 = zs5 at A5 E5
    refine ⟨_, rfl, ?_⟩
    refine lst_all (K := K) (n := n) (m := 3) (by decide) ?_ _ _ (fun q6 ys6 G6 t6 g6 n6 b6 => ?_)
    · refine all_cons (cmp_tup (cms_cons stb_eq (Flat.cmp (v := .int one) (fun H R r => ⟨_, rfl, r⟩)) (cms_cons stb_eq (Flat.cmp (v := .int other) (fun H R r => ⟨_, rfl, r⟩)) (cms_cons stb_eq (Flat.cmp (v := .int nn) (fun H R r => ⟨_, rfl, r⟩)) (cms_cons stb_eq (Flat.cmp (v := .int 1) (fun H R r => r)) cms_nil)))) fun H xs h => by
        obtain ⟨_, _, rfl, rfl, _, _, rfl, rfl, _, _, rfl, rfl, _, _, rfl, rfl, rfl⟩ := h
        refine ⟨.inl (by show ¬ 4 = 3; decide), by show 4 ≤ 8; decide, ?_⟩
        intro u hu
        simp only [List.mem_cons, List.not_mem_nil, or_false] at hu
        rcases hu with rfl | rfl | rfl | rfl
        · exact kp_int (by omega) (by omega)
        · exact kp_int (by omega) (by omega)
        · exact kp_int (by omega) (by omega)
        · exact kp_int (by decide) (by decide)) ?_
      refine all_cons (cmp_tup (cms_cons stb_eq (Flat.cmp (v := .int one) (fun H R r => ⟨_, rfl, r⟩)) (cms_cons stb_eq (Flat.cmp (v := .int other) (fun H R r => ⟨_, rfl, r⟩)) cms_nil)) fun H xs h => by
        obtain ⟨_, _, rfl, rfl, _, _, rfl, rfl, rfl⟩ := h
        refine ⟨.inl (by show ¬ 2 = 3; decide), by show 2 ≤ 8; decide, ?_⟩
        intro u hu
        simp only [List.mem_cons, List.not_mem_nil, or_false] at hu
        rcases hu with rfl | rfl
        · exact kp_int (by omega) (by omega)
        · exact kp_int (by omega) (by omega)) ?_
      refine all_cons (cmp_tup cms_nil fun H xs h => by
        subst h
        refine ⟨.inl (by show ¬ 0 = 3; decide), by show 0 ≤ 8; decide, ?_⟩
        intro u hu
        exact nomatch hu) ?_
      exact all_nil
    refine ⟨p5, q6, _, _, rfl, rfl, t6 _ _ E5, g6, by rw [A5.1, b6.1]; show 28 + 3 ≤ sizeLine; decide, fun p6 np6 => ?_⟩
    have A6 := ((A5.same t6).app b6).same (same_upd (o := .lst (zs5 ++ ys6)) np6)
    have S6 := (S5.trans t6).trans (same_upd (o := .lst (zs5 ++ ys6)) np6)
    have E6 := upd_same (H := G6) (a := p6) (o := .lst (zs5 ++ ys6))
    generalize upd G6 p6 (.lst (zs5 ++ ys6)) = F6 at A6 S6 E6 ⊢
    generalize zs5 ++ ys6 = zs6 at A6 E6
    refine ⟨_, rfl, ?_⟩
    refine lst_all (K := K) (n := n) (m := 7) (by decide) ?_ _ _ (fun q7 ys7 G7 t7 g7 n7 b7 => ?_)
    · refine all_cons (kd_flat (v := .non) (fun H R r => r) (fun _ => kd_non)) ?_
      refine all_cons (kd_flat (v := .int 7) (fun H R r => r) (fun _ => kd_int (by decide) (by decide))) ?_
      refine all_cons (kd_flat (v := .bl true) (fun H R r => r) (fun _ => kd_bl _)) ?_
      refine all_cons (kd_flat (v := .str "012") (fun H R r => r) (fun _ => kd_str (by decide +kernel))) ?_
      refine all_cons (kd_flat (v := .str "") (fun H R r => r) (fun _ => kd_str (by decide +kernel))) ?_
      refine all_cons (kd_flat (v := .str "0 1 1") (fun H R r => r) (fun _ => kd_str (by decide +kernel))) ?_
      refine all_cons (cmp_dict (i := one) (j := other) (k := 40 + nn) (fun H R r => ⟨_, rfl, r⟩) (fun H R r => ⟨_, rfl, r⟩) (fun H R r => ⟨_, rfl, _, _, rfl, rfl, r⟩) (by omega) (by omega) (by omega)) ?_
      exact all_nil
    refine ⟨p6, q7, _, _, rfl, rfl, t7 _ _ E6, g7, by rw [A6.1, b7.1]; show 31 + 7 ≤ sizeLine; decide, fun p7 np7 => ?_⟩
    have A7 := ((A6.same t7).app b7).same (same_upd (o := .lst (zs6 ++ ys7)) np7)
    have S7 := (S6.trans t7).trans (same_upd (o := .lst (zs6 ++ ys7)) np7)
    have E7 := upd_same (H := G7) (a := p7) (o := .lst (zs6 ++ ys7))
    exact q _ p7 _ S7 E7 A7
end
end Own

namespace Own
open PySem PySem.Spec PyProof.Rows L2
theorem digs1 {ds : List Int} {a : Int} (h : Digs ds [a]) : ∃ w, ds = [w] ∧ 0 ≤ w ∧ w < a := by
  have hl := h.1
  match ds, hl with
  | [w], _ => exact ⟨w, rfl, h.2 0 w a rfl rfl⟩
def par (form : Int) (k : Int) : Bool := decide ((form / 2 + k * (form / 4)) % 2 = 1)
/-- entries as they are passed: lists and tuples by turns, in a list or a tuple, all lists new -/
def Pas (H0 H' : Hp) (c : Addr) (l : List Tr) (form : Int) : Prop := H0 c = none ∧ ∃ us : List V, (if form % 2 = 1 then H' c = some (.tup us) else H' c = some (.lst us)) ∧ us.length = l.length ∧
  ∀ (i : Nat) (t : Tr), l[i]? = some t → ∃ b, us[i]? = some (.ref b) ∧ if par form i = true then H' b = some (.lst (tv t)) ∧ H0 b = none else H' b = some (.tup (tv t))
section
variable {P : Program} {w : World} {K : PySem.W.Frag} {mg : Str → Option Value} {base : Heap} {C : Addr}
def spBad1 (K : PySem.W.Frag) : Sp := fun vs H Q _ => ∃ (c n k : Int), vs = [.int c, .int n, .int k] ∧ 0 ≤ n ∧ n ≤ 1000 ∧ ∀ H' v, Same H H' → Bd K H' n v → Q v H'
theorem ok_bad1 {f : Addr} {fd : FuncData} (F : Fun K "_law_bad_entry" "_law_bad_entry" s__law_bad_entry f fd) (T : Bi mg) {f_d : Addr} {d_d : FuncData} (D_d : Df K mg "_law_digits" s__law_digits ["_law_cell_here", "_law_sizes"] f_d d_d) (G_d : FnOk P w K mg base CX0 1 f_d d_d ["_law_cell_here", "_law_sizes"] (spDigs K)) {f_bs : Addr} {d_bs : FuncData} (D_bs : Df K mg "_law_bad_entries" s__law_bad_entries ["_law_cell_here", "_law_rim"] f_bs d_bs) (G_bs : FnOk P w K mg base CX0 2 f_bs d_bs ["_law_cell_here", "_law_rim"] (spBads K)) : FnOk P w K mg base CX0 3 f fd ["_law_cell_here", "_law_rim", "_law_k"] (spBad1 K) := by
  refine F.ok sc__law_bad_entry (fun vs H Q E h => ?_) (fun cdv A outer s H vs Q E hr h => ?_)
  · obtain ⟨c, n, k, rfl, _⟩ := h
    rfl
  · obtain ⟨c, n, k, rfl, n0, n1, q⟩ := h
    refine ⟨_, (pss_cons (ps_set (i := 3) sc__law_bad_entry.nd rfl (.inl rfl) (pe_call G_bs (hr.mono (by decide)) (by rfl) D_bs.g D_bs.F.kp D_bs.b .nil pass0 (pa_cons (pv 0) (pa_cons (pv 1) pa_nil))))
        (pss_cons (ps_set (i := 4) sc__law_bad_entry.nd rfl (.inl rfl) (pe_ix (r := rIxL K) ix_list (pv 3) (pe_op op_modN (pe_callTy call_int1 (by rfl) T.b_int (by decide +kernel) (pa_cons (pv 2) pa_nil)) (pe_callB call_len_seq (by rfl) T.b_len PySem.boot_len (pa_cons (pv 3) pa_nil))) (fun _ _ => rfl)))
        (pss_cons (ps_if (PW.pt (pw_and (pt_val (pe_callB call_isi (by rfl) T.b_isinstance (by decide +kernel) (pa_cons (pv 4) (pa_cons (pe_bltn (v := .ty "tuple") (by rfl) T.b_tuple (by decide +kernel) rfl) pa_nil)))) (pw_and1 (pt_cmpR op_eq (pe_op op_mod (pe_callTy call_int1 (by rfl) T.b_int (by decide +kernel) (pa_cons (pe_op op_add (pe_ix (r := rIxL K) ix_list (pe_call G_d (hr.mono (by decide)) (by rfl) D_d.g D_d.F.kp D_d.b .nil pass0 (pa_cons (pv 0) (pa_cons (pe_lst (pa_cons pe_int pa_nil)) pa_nil))) pe_int (fun _ _ => rfl)) (pv 2)) pa_nil)) pe_int) pe_int (nomark _))))) (pss_one (ps_ret (pe_callTy call_list_of (by rfl) T.b_list (by decide +kernel) (pa_cons (pv 4) pa_nil)))) pss_nil)
        (pss_one (ps_ret (pv 4)))))), ?_⟩
    refine ⟨_, rfl, _, rfl, c, n, rfl, n0, n1, fun H1 p xs s1 e1 al => ?_⟩
    have qe : SqL K H1 p xs := .inl (.inl e1)
    obtain ⟨r0, r1⟩ := fmod_in k (show (0 : Int) < (xs.length : Int) by rw [al.1]; decide)
    obtain ⟨j, hj⟩ : ∃ j : Nat, k.fmod (xs.length : Int) = (j : Int) := ⟨(k.fmod (xs.length : Int)).toNat, by omega⟩
    have kl : j < xs.length := by omega
    have ai : atI xs (k.fmod (xs.length : Int)) = some xs[j] := by
      rw [hj]
      exact atI_nat (List.getElem?_eq_getElem kl)
    have kd := al.2 xs[j] (List.getElem_mem kl)
    generalize xs[j] = v at ai kd
    refine ⟨_, rfl, _, rfl, .inl ⟨_, rfl, _, rfl, p, xs, rfl, .inl qe, _, _, rfl, rfl, by omega, p, xs, _, _, rfl, rfl, qe, ai, ?_⟩⟩
    have no : ∀ T, T ∈ ["int", "bool", "NoneType", "str", "dict"] → PySem.W.kitOne K (.type T) (.type "tuple") = some false := fun T m => by
      simp only [List.mem_cons, List.not_mem_nil, or_false] at m
      rcases m with rfl | rfl | rfl | rfl | rfl <;> exact kit_ty (by decide +kernel)
    rcases id kd with ⟨h1, h2, T, ty, m⟩ | ⟨b, ys, rfl, hb, h⟩
    · refine ⟨_, rfl, _, _, _, _, false, rfl, .ty "tuple", ty, no T m, false, rfl, ?_⟩
      exact ⟨_, rfl, q _ _ s1 kd.bd⟩
    · refine ⟨_, rfl, _, _, _, _, true, rfl, .ty "tuple", .base (.tup hb), kit_ty (by decide +kernel), true, rfl, ?_⟩
      have hb1 : SqB K H1 b ys := .inr (.inl (.inl hb))
      refine ⟨_, rfl, by show 1 ≤ sizeLine; decide, fun b2 nb2 => ⟨c, b2, [2], rfl, .inl (.inl upd_same), by show 1 ≤ 1000; decide, fun x hx => ?_, fun H3 p3 ds3 s3 np3 ep3 dg3 => ?_⟩⟩
      · rw [List.mem_singleton.mp hx]
        decide
      obtain ⟨d0, rfl, g0, g1⟩ := digs1 dg3
      have s23 : Same H1 H3 := (same_upd nb2).trans s3
      refine ⟨p3, _, 0, _, rfl, rfl, .inl (.inl ep3), atI_nat (j := 0) rfl, _, rfl, _, _, rfl, rfl, .inl ⟨_, rfl, _, _, rfl, rfl, by show (0 : Int) < 2; decide, rfl, _, rfl, ite2 (fun e => ?_) (fun e => ?_)⟩⟩
      · refine ⟨_, rfl, b, ys, rfl, .inr (.inl (.inl (s23 _ _ hb))), fun m nm => ?_⟩
        exact q _ _ ((s1.trans s23).trans (same_upd nm)) (kt_lst upd_same ((h.same s23).same (same_upd nm)))
      · exact ⟨_, rfl, q _ _ (s1.trans s23) (kd.same s23).bd⟩
def spPassed : Sp := fun vs H Q _ => ∃ (e : Addr) (l : List Tr) (form : Int), vs = [.ref e, .int form] ∧ TripL H e l ∧ l.length ≤ 1000 ∧ ∀ H' c, Same H H' → Pas H H' c l form → Q (.ref c) H'
theorem ok_passed {f : Addr} {fd : FuncData} (F : Fun K "_law_passed" "_law_passed" s__law_passed f fd) (T : Bi mg) : FnOk P w K mg base CX0 1 f fd ["_law_entries", "_law_form"] spPassed := by
  refine F.ok sc__law_passed (fun vs H Q E h => ?_) (fun cdv A outer s H vs Q E hr h => ?_)
  · obtain ⟨e, l, form, rfl, _⟩ := h
    rfl
  · obtain ⟨e, l, form, rfl, hT, hl, q⟩ := h
    refine ⟨_, (pss_cons (ps_set (i := 2) sc__law_passed.nd rfl (.inl rfl) (pe_lst pa_nil))
        (pss_cons (ps_for PassesOwn.never rfl (pi_range1 (by rfl) T.b_range (pa_cons (pe_callB call_len_seq (by rfl) T.b_len PySem.boot_len (pa_cons (pv 0) pa_nil)) pa_nil)) (pg_name (i := 3) sc__law_passed.nd rfl (.inl rfl))
        (pss_one (ps_if (pt_cmpR op_eq (pe_op op_mod (pe_callTy call_int1 (by rfl) T.b_int (by decide +kernel) (pa_cons (pe_op op_add (pe_op op_fdiv (pv 1) pe_int) (pe_op op_mul (pv 3) (pe_op op_fdiv (pv 1) pe_int))) pa_nil)) pe_int) pe_int (nomark _)) (pss_one (ps_expr (pe_bm PySem.F.plainAttrs_list PySem.F.slot_list_append PySem.F.type_list_append mt_append (pv 2) (pa_cons (pe_callTy call_list_of (by rfl) T.b_list (by decide +kernel) (pa_cons (pe_ix (r := rIxL K) ix_list (pv 0) (pv 3) (fun _ _ => rfl)) pa_nil)) pa_nil)))) (pss_one (ps_expr (pe_bm PySem.F.plainAttrs_list PySem.F.slot_list_append PySem.F.type_list_append mt_append (pv 2) (pa_cons (pe_ix (r := rIxL K) ix_list (pv 0) (pv 3) (fun _ _ => rfl)) pa_nil)))))))
        (pss_cons (ps_if (pt_cmpR op_eq (pe_op op_mod (pe_callTy call_int1 (by rfl) T.b_int (by decide +kernel) (pa_cons (pv 1) pa_nil)) pe_int) pe_int (nomark _)) (pss_one (ps_ret (pe_callTy call_tuple_of (by rfl) T.b_tuple (by decide +kernel) (pa_cons (pv 2) pa_nil)))) pss_nil)
        (pss_one (ps_ret (pv 2)))))), ?_⟩
    refine ⟨by show 0 ≤ sizeLine; decide, fun R hR => ?_⟩
    obtain ⟨vl, eT, tV⟩ := id hT
    have sR : Same H (upd H R (.lst [])) := same_upd hR
    have lv : vl.length = l.length := tV.1
    refine ⟨_, rfl, e, vl, rfl, .inl (.inl (.inl (sR _ _ eT))), (vl.length : Int), rfl, by omega, by omega, for_range (lo := 0) (n := ((vl.length : Nat) : Int).toNat) (fun i σ H' => (∃ y3, σ = [some (.ref e), some (.int form), some (.ref R), y3]) ∧ Same H H' ∧ ∃ ys : List V, H' R = some (.lst ys) ∧ ys.length = i ∧ ∀ (j : Nat) (t : Tr), j < i → l[j]? = some t → ∃ b, ys[j]? = some (.ref b) ∧ if par form j = true then (b ≠ R ∧ H' b = some (.lst (tv t)) ∧ H b = none) else H b = some (.tup (tv t))) ⟨⟨_, rfl⟩, sR, [], upd_same, rfl, fun j t z => absurd z (Nat.not_lt_zero _)⟩ (fun i σ H' hi pv => ?_) (fun σ H' pv => ?_)⟩
    · obtain ⟨⟨y3, rfl⟩, sm, ys, eR, ly, hy⟩ := pv
      have hil : i < l.length := by omega
      have hiv : i < vl.length := by omega
      obtain ⟨b0, t0, ev, ht0, hb0⟩ := tV.at_ (List.getElem?_eq_getElem hiv)
      have ai : atI vl (0 + (i : Int)) = some (.ref b0) := by
        rw [Int.zero_add]
        exact atI_nat (by rw [List.getElem?_eq_getElem hiv, ev])
      have lys : ys.length < sizeLine := by rw [ly]; exact small1000 (by omega)
      have next : ∀ H1 b, Same H' H1 → H1 R = some (.lst ys) → (if par form (i : Int) = true then (b ≠ R ∧ H1 b = some (.lst (tv t0)) ∧ H b = none) else H b = some (.tup (tv t0))) →
          ((∃ y3, [some (V.ref e), some (.int form), some (.ref R), some (.int (0 + (i : Int)))] = [some (V.ref e), some (.int form), some (.ref R), y3]) ∧ Same H (upd H1 R (.lst (ys ++ [.ref b]))) ∧ ∃ zs : List V, (upd H1 R (.lst (ys ++ [.ref b]))) R = some (.lst zs) ∧ zs.length = i + 1 ∧ ∀ (j : Nat) (t : Tr), j < i + 1 → l[j]? = some t → ∃ b', zs[j]? = some (.ref b') ∧ if par form j = true then (b' ≠ R ∧ (upd H1 R (.lst (ys ++ [.ref b]))) b' = some (.lst (tv t)) ∧ H b' = none) else H b' = some (.tup (tv t))) := fun H1 b s1 e1 hb => by
        refine ⟨⟨_, rfl⟩, same_put (H1 := H) hR (sm.trans s1), _, upd_same, by rw [List.length_append, ly]; rfl, fun j t hj ht => ?_⟩
        by_cases hji : j < i
        · obtain ⟨b', e', h'⟩ := hy j t hji ht
          refine ⟨b', by rw [List.getElem?_append_left (by omega)]; exact e', ?_⟩
          split
          · rename_i hp
            rw [if_pos hp] at h'
            exact ⟨h'.1, by rw [upd_ne h'.1]; exact s1 _ _ h'.2.1, h'.2.2⟩
          · rename_i hp
            rw [if_neg hp] at h'
            exact h'
        · have : j = i := by omega
          subst this
          rw [ht0] at ht
          cases ht
          refine ⟨b, by rw [List.getElem?_append_right (by omega), ly, Nat.sub_self]; rfl, ?_⟩
          split
          · rename_i hp
            rw [if_pos hp] at hb
            exact ⟨hb.1, by rw [upd_ne hb.1]; exact hb.2.1, hb.2.2⟩
          · rename_i hp
            rw [if_neg hp] at hb
            exact hb
      have z0 : (0 : Int) + (i : Int) = (i : Int) := Int.zero_add _
      refine ⟨_, rfl, _, _, rfl, rfl, ⟨by show (0 : Int) < 2; decide, by show (2 : Int) < 1073741824; decide⟩, _, rfl, _, rfl, _, _, rfl, rfl, ⟨by show (0 : Int) < 4; decide, by show (4 : Int) < 1073741824; decide⟩, _, _, rfl, rfl, .inl ⟨by omega, by omega⟩, _, _, rfl, rfl, .inl ⟨_, rfl, _, _, rfl, rfl, by show (0 : Int) < 2; decide, rfl, _, rfl, ite2 (fun e2 => ?_) (fun e2 => ?_)⟩⟩
      · have pp : par form (i : Int) = true := by
          have := V.int.inj (of_decide_eq_true e2)
          rw [z0] at this
          exact decide_eq_true this
        refine ⟨_, rfl, .inl ⟨rfl, _, .inl (.inl eR)⟩, _, rfl, _, rfl, e, vl, _, _, rfl, rfl, .inl (.inl (sm _ _ eT)), ai, b0, tv t0, rfl, .inr (.inl (.inl (sm _ _ hb0))), fun m nm => ?_⟩
        have mR : m ≠ R := fun z => by rw [z, eR] at nm; cases nm
        have s1 : Same H' (upd H' m (.lst (tv t0))) := same_upd nm
        exact ⟨R, ys, _, rfl, rfl, s1 _ _ eR, lys, next _ m s1 (s1 _ _ eR) (by rw [if_pos pp]; exact ⟨mR, upd_same, sm.free nm⟩)⟩
      · have pp : ¬ par form (i : Int) = true := fun z => e2 (by
          have := of_decide_eq_true z
          rw [← z0] at this
          exact decide_eq_true (congrArg V.int this))
        exact ⟨_, rfl, .inl ⟨rfl, _, .inl (.inl eR)⟩, _, rfl, _, rfl, e, vl, _, _, rfl, rfl, .inl (.inl (sm _ _ eT)), ai, R, ys, _, rfl, rfl, eR, lys, next _ b0 (Same.refl H') eR (by rw [if_neg pp]; exact hb0)⟩
    · obtain ⟨⟨y3, rfl⟩, sm, ys, eR, ly, hy⟩ := pv
      have ll : ys.length = l.length := by omega
      have all : ∀ H1, Same H' H1 → ∀ (i : Nat) (t : Tr), l[i]? = some t → ∃ b, ys[i]? = some (.ref b) ∧ if par form i = true then H1 b = some (.lst (tv t)) ∧ H b = none else H1 b = some (.tup (tv t)) := fun H1 s1 i t ht => by
        obtain ⟨b, e', h'⟩ := hy i t (by have := (List.getElem?_eq_some_iff.mp ht).1; omega) ht
        refine ⟨b, e', ?_⟩
        split
        · rename_i hp
          rw [if_pos hp] at h'
          exact ⟨s1 _ _ h'.2.1, h'.2.2⟩
        · rename_i hp
          rw [if_neg hp] at h'
          exact s1 _ _ (sm _ _ h')
      refine ⟨_, rfl, .inl ⟨_, rfl, ?_⟩⟩
      refine ⟨_, _, rfl, rfl, by show (0 : Int) < 2; decide, rfl, _, rfl, ite2 (fun e2 => ?_) (fun e2 => ?_)⟩
      · have f1 : form % 2 = 1 := V.int.inj (of_decide_eq_true e2)
        refine ⟨_, rfl, R, ys, rfl, .inl ⟨.inl (.inl eR), fun c nc => ?_⟩⟩
        exact q _ c (sm.trans (same_upd nc)) ⟨sm.free nc, ys, by rw [if_pos f1]; exact upd_same, ll, all _ (same_upd nc)⟩
      · have f1 : ¬ form % 2 = 1 := fun z => e2 (decide_eq_true (congrArg V.int z))
        exact ⟨_, rfl, q _ R sm ⟨hR, ys, by rw [if_neg f1]; exact eR, ll, all _ (Same.refl H')⟩⟩
end
end Own

namespace Own
open PySem PySem.Spec PyProof.Rows L2
theorem cut_pre (xs : List V) (k : Nat) (h : k ≤ xs.length) : cutV xs none (some (k : Int)) = xs.take k := by
  unfold cutV
  have e1 : HT.sIx xs.length 0 none = 0 := rfl
  have e2 : HT.sIx xs.length xs.length (some (k : Int)) = k := by
    rw [HT.sIx_nat]
    exact Nat.min_eq_left h
  rw [e1, e2]
  rfl
theorem cut_one (xs : List V) : cutV xs none (some 1) = xs.take 1 := by
  cases xs with
  | nil => rfl
  | cons x r => exact cut_pre (x :: r) 1 (by rw [List.length_cons]; omega)
theorem cut_suf (xs : List V) (k : Nat) (h : k ≤ xs.length) : cutV xs (some (k : Int)) none = xs.drop k := by
  unfold cutV
  have e1 : HT.sIx xs.length xs.length none = xs.length := rfl
  have e2 : HT.sIx xs.length 0 (some (k : Int)) = k := by
    rw [HT.sIx_nat]
    exact Nat.min_eq_left h
  rw [e1, e2, ← List.length_drop, List.take_length]
theorem TrV.tk {H : Hp} {vs : List V} {l : List Tr} (h : TrV H vs l) (k : Nat) : TrV H (vs.take k) (l.take k) := by
  refine ⟨by rw [List.length_take, List.length_take, h.1], fun i t e => ?_⟩
  have hk : i < k := by
    have := (List.getElem?_eq_some_iff.mp e).1
    rw [List.length_take] at this
    omega
  rw [List.getElem?_take, if_pos hk] at e
  obtain ⟨b, e1, e2⟩ := h.2 i t e
  exact ⟨b, by rw [List.getElem?_take, if_pos hk]; exact e1, e2⟩
theorem Pas.same {H0 H H' : Hp} {c : Addr} {l : List Tr} {form : Int} (s : Same H H') (h : Pas H0 H c l form) : Pas H0 H' c l form := by
  obtain ⟨n, us, e, ll, a⟩ := h
  refine ⟨n, us, ?_, ll, fun i t ht => ?_⟩
  · split
    · rename_i hp
      rw [if_pos hp] at e
      exact s _ _ e
    · rename_i hp
      rw [if_neg hp] at e
      exact s _ _ e
  · obtain ⟨b, e1, e2⟩ := a i t ht
    refine ⟨b, e1, ?_⟩
    split
    · rename_i hp
      rw [if_pos hp] at e2
      exact ⟨s _ _ e2.1, e2.2⟩
    · rename_i hp
      rw [if_neg hp] at e2
      exact s _ _ e2
theorem Pas.en {H0 H : Hp} {c : Addr} {l : List Tr} {form : Int} (h : Pas H0 H c l form) : ∃ us, SqH H c us ∧ EnB H us l := by
  obtain ⟨n, us, e, ll, a⟩ := h
  refine ⟨us, ?_, ll, fun i t ht => ?_⟩
  · split at e
    · exact .inr e
    · exact .inl e
  · obtain ⟨b, e1, e2⟩ := a i t ht
    refine ⟨b, e1, ?_⟩
    split at e2
    · exact .inl e2.1
    · exact .inr e2
theorem Pas.eqv {H0 H1 H : Hp} {c d : Addr} {l : List Tr} {form : Int} (h : Pas H0 H c l form) (g : Pas H1 H d l form) (hl : l.length ≤ 1000) : EqV 2 H (.ref c) (.ref d) := by
  obtain ⟨_, us, e, ll, a⟩ := h
  obtain ⟨_, vs, f, lv, b⟩ := g
  refine .inr ⟨c, d, us, vs, rfl, rfl, ?_, by rw [ll, lv], by rw [lv]; exact hl, fun i x y hx hy => ?_⟩
  · split at e
    · rename_i hp
      rw [if_pos hp] at f
      exact .inl ⟨e, f⟩
    · rename_i hp
      rw [if_neg hp] at f
      exact .inr ⟨e, f⟩
  · have hi : i < l.length := by rw [← ll]; exact (List.getElem?_eq_some_iff.mp hx).1
    obtain ⟨p, e1, e2⟩ := a i _ (List.getElem?_eq_getElem hi)
    obtain ⟨q, f1, f2⟩ := b i _ (List.getElem?_eq_getElem hi)
    rw [e1] at hx
    rw [f1] at hy
    cases hx
    cases hy
    generalize l[i] = t at e2 f2
    refine .inr ⟨p, q, tv t, tv t, rfl, rfl, ?_, rfl, by show 3 ≤ 1000; decide, fun k x y hx hy => ?_⟩
    · split at e2
      · rename_i hp
        rw [if_pos hp] at f2
        exact .inr ⟨e2.1, f2.1⟩
      · rename_i hp
        rw [if_neg hp] at f2
        exact .inl ⟨e2, f2⟩
    · rw [hx] at hy
      cases hy
      match k, hx with
      | 0, hx => cases hx; exact EqV.int _
      | 1, hx => cases hx; exact EqV.int _
      | 2, hx => cases hx; exact EqV.int _
/-- what is no list stays -/
def SameN (H H' : Hp) : Prop := ∀ b o, H b = some o → (∀ xs, o ≠ .lst xs) → H' b = some o
theorem SameN.refl (H : Hp) : SameN H H := fun _ _ e _ => e
theorem SameN.put {H H' : Hp} {b : Addr} {xs : List V} {o : HO} (s : SameN H H') (e : H' b = some (.lst xs)) : SameN H (upd H' b o) := fun c o' h n => by
  have h' := s c o' h n
  have : c ≠ b := fun z => by
    rw [z, e] at h'
    cases h'
    exact n _ rfl
  rw [upd_ne this]
  exact h'
theorem SameN.new {H H' : Hp} {b : Addr} {o : HO} (s : SameN H H') (e : H' b = none) : SameN H (upd H' b o) := fun c o' h n => same_upd e _ _ (s c o' h n)
theorem Trip.sameN {H H' : Hp} {a : Addr} {l : List Tr} (s : SameN H H') (h : Trip H a l) : Trip H' a l := by
  obtain ⟨vs, e, t⟩ := h
  refine ⟨vs, s _ _ e (fun _ z => nomatch z), t.1, fun i u hu => ?_⟩
  obtain ⟨b, e1, e2⟩ := t.2 i u hu
  exact ⟨b, e1, s _ _ e2 (fun _ z => nomatch z)⟩
theorem LotAt.sameN {C : Addr} {H H' : Hp} {p : Addr} {n : Int} {cs : List Tr} (s : SameN H H') (h : LotAt C H p n cs) : LotAt C H' p n cs := by
  obtain ⟨dx, c, e, t⟩ := h
  exact ⟨dx, c, s _ _ e (fun _ z => nomatch z), t.sameN s⟩
/-- the entries as they stand when the lists among them are changed -/
structure Mut (H0 H1 H' : Hp) (c : Addr) (us : List V) (l : List Tr) (form : Int) : Prop where
  sm : Same H0 H'
  sn : SameN H1 H'
  at_ : if form % 2 = 1 then H' c = some (.tup us) else H' c = some (.lst us)
  it : ∀ (i : Nat) (t : Tr), l[i]? = some t → ∃ b, us[i]? = some (.ref b) ∧ if par form i = true then (∃ x y z : Int, H' b = some (.lst [.int x, .int y, .int z])) ∧ H0 b = none else H' b = some (.tup (tv t))
theorem Mut.start {H0 H : Hp} {c : Addr} {l : List Tr} {form : Int} (s : Same H0 H) (h : Pas H0 H c l form) : H0 c = none ∧ ∃ us, us.length = l.length ∧ Mut H0 H H c us l form := by
  obtain ⟨n, us, e, ll, a⟩ := h
  refine ⟨n, us, ll, s, SameN.refl H, e, fun i t ht => ?_⟩
  obtain ⟨b, e1, e2⟩ := a i t ht
  refine ⟨b, e1, ?_⟩
  split
  · rename_i hp
    rw [if_pos hp] at e2
    exact ⟨⟨t.1, t.2.1, t.2.2, e2.1⟩, e2.2⟩
  · rename_i hp
    rw [if_neg hp] at e2
    exact e2
/-- one of the lists gets other numbers -/
theorem Mut.put {H0 H1 H' : Hp} {c b : Addr} {us : List V} {l : List Tr} {form : Int} {x y z x' y' z' : Int} (h : Mut H0 H1 H' c us l form) (ll : us.length = l.length) (l0 : 0 < l.length) (e : H' b = some (.lst [.int x, .int y, .int z])) (n : H0 b = none) : Mut H0 H1 (upd H' b (.lst [.int x', .int y', .int z'])) c us l form := by
  have cb : ∀ {o}, H' c = some o → (o = .tup us ∨ o = .lst us) → c ≠ b := fun {o} hc ho z => by
    rw [z, e] at hc
    cases hc
    rcases ho with ho | ho
    · cases ho
    · cases ho
      obtain ⟨q, e1, _⟩ := h.it 0 _ (List.getElem?_eq_getElem l0)
      cases e1
  refine ⟨same_put (H1 := H0) n h.sm, h.sn.put e, ?_, fun i t ht => ?_⟩
  · have ha := h.at_
    split
    · rename_i hp
      rw [if_pos hp] at ha
      rw [upd_ne (cb ha (.inl rfl))]
      exact ha
    · rename_i hp
      rw [if_neg hp] at ha
      rw [upd_ne (cb ha (.inr rfl))]
      exact ha
  · obtain ⟨b2, e1, e2⟩ := h.it i t ht
    refine ⟨b2, e1, ?_⟩
    split
    · rename_i hp
      rw [if_pos hp] at e2
      obtain ⟨⟨p, q, r, e3⟩, n3⟩ := e2
      refine ⟨?_, n3⟩
      by_cases hb : b2 = b
      · rw [hb]
        exact ⟨_, _, _, upd_same⟩
      · rw [upd_ne hb]
        exact ⟨p, q, r, e3⟩
    · rename_i hp
      rw [if_neg hp] at e2
      have hb : b2 ≠ b := fun z => by
        rw [z, e] at e2
        cases e2
      rw [upd_ne hb]
      exact e2
end Own

namespace Own
open PySem PySem.Spec PyProof.Rows L2
theorem norm_nil {r : List Tr} (h : IsNorm [] r) : r = [] := List.eq_nil_of_length_eq_zero (Nat.le_zero.mp h.len)
section
variable {P : Program} {w : World} {K : PySem.W.Frag} {mg : Str → Option Value} {base : Heap} {C D1 D2 : Addr}
theorem rd_mk {n : Int} {a : Addr} {xs : List V} {l : List Tr} {H : Hp} {R : VK} {E : XK} {x dx : Addr} (hn : 0 ≤ n) (hB : SqB K H a xs) (hx : EnB H xs l) (hv : ∀ t ∈ l, Vld n t) (hl : l.length ≤ 1000) (nx : H x = none) (nd : H dx = none) (ne : dx ≠ x)
    (q : ∀ H' cs, Same H H' → LotAt C H' x n cs → IsNorm l cs → R .non H') : spInitY K C D1 D2 (.ref x :: ([.int n, .ref a] ++ [])) (upd (upd H dx (.own x)) x (.ins C dx [])) R E := by
  have s1 : Same H (upd H dx (.own x)) := same_upd nd
  have nx1 : (upd H dx (.own x)) x = none := by
    rw [upd_ne ne.symm]
    exact nx
  exact ⟨x, dx, .int n, a, H, rfl, upd_same, nx, s1.trans (same_upd nx1), ⟨xs, hB, by rw [hx.1]; exact hl, .inl ⟨n, l, rfl, hn, by rw [← hx.1, List.take_length]; exact hx, hv, .inl ⟨hx.1.symm, fun H' c r s' e t hN => q H' r s' ⟨dx, c, e, t⟩ hN⟩⟩⟩⟩
def spMade : Sp := fun vs H Q _ => ∃ (n : Int) (e : Addr) (form : Int) (l : List Tr), vs = [.int n, .ref e, .int form] ∧ 0 ≤ n ∧ n ≤ 1000 ∧ TripL H e l ∧ l.length ≤ 400 ∧ (∀ t ∈ l, Vld n t) ∧ ∀ H', Same H H' → Q (.bl true) H'
set_option maxHeartbeats 0 in
theorem ok_made {f : Addr} {fd : FuncData} (F : Fun K "_law_made" "_law_made" s__law_made f fd) (T : Bi mg) (L : LotC K mg C) 
    {f_pa : Addr} {d_pa : FuncData} (D_pa : Df K mg "_law_passed" s__law_passed ["_law_entries", "_law_form"] f_pa d_pa) (G_pa : FnOk P w K mg base CX0 1 f_pa d_pa ["_law_entries", "_law_form"] spPassed) 
    {f_n : Addr} {d_n : FuncData} (D_n : Df K mg "_law_norm" s__law_norm ["_law_triples"] f_n d_n) (G_n : FnOk P w K mg base CX0 1 f_n d_n ["_law_triples"] (spNorm K)) 
    {f_li : Addr} {d_li : FuncData} (D_li : Df K mg "_law_lot_is" s__law_lot_is ["_law_lot", "_law_rim", "_law_held"] f_li d_li) (G_li : FnOk P w K mg base CX0 5 f_li d_li ["_law_lot", "_law_rim", "_law_held"] (spLotIs K C)) 
    {f_to : Addr} {d_to : FuncData} (D_to : Df K mg "_law_told" s__law_told ["_law_lot", "_law_rim", "_law_due"] f_to d_to) (G_to : FnOk P w K mg base CX0 5 f_to d_to ["_law_lot", "_law_rim", "_law_due"] (spTold C)) 
    {f_s : Addr} {d_s : FuncData} (D_s : Df K mg "_law_same" s__law_same ["_law_value", "_law_due"] f_s d_s) (G_s : FnOk P w K mg base CX0 4 f_s d_s ["_law_value", "_law_due"] (spSame 2)) 
    {f_i : Addr} {d_i : FuncData} (M : Mk K C f_i) (b_i : Binds K d_i ["self", "pins", "cords"] []) (G_i : GIY P w K mg base C D1 D2 f_i d_i) {z : Addr} (b_1 : Binds K d_i ["self", "pins", "cords"] [.ref z]) (hz : ∀ H, SqT K H z []) : FnOk P w K mg base CX0 8 f fd ["_law_rim", "_law_entries", "_law_form"] spMade := by
  refine F.ok sc__law_made (fun vs H Q E h => ?_) (fun cdv A outer s H vs Q E hr h => ?_)
  · obtain ⟨n, e, form, l, rfl, _⟩ := h
    rfl
  · obtain ⟨n, e, form, l, rfl, n0, n1, hT, hl, hv, q⟩ := h
    refine ⟨_, (pss_cons (ps_set (i := 3) sc__law_made.nd rfl (.inl rfl) (pe_call G_pa (hr.mono (by decide)) (by rfl) D_pa.g D_pa.F.kp D_pa.b .nil pass0 (pa_cons (pv 1) (pa_cons (pv 2) pa_nil))))
        (pss_cons (ps_set (i := 4) sc__law_made.nd rfl (.inl rfl) (pe_call G_n (hr.mono (by decide)) (by rfl) D_n.g D_n.F.kp D_n.b .nil pass0 (pa_cons (pv 1) pa_nil)))
        (pss_cons (ps_set (i := 5) sc__law_made.nd rfl (.inl rfl) (pe_make M G_i (hr.mono (by decide)) (by rfl) L.g b_i .nil passN (pa_cons (pv 0) (pa_cons (pv 3) pa_nil))))
        (pss_cons (ps_if (PW.pt (pw_or (pt_not (pt_val (pe_call G_li (hr.mono (by decide)) (by rfl) D_li.g D_li.F.kp D_li.b .nil pass0 (pa_cons (pv 5) (pa_cons (pv 0) (pa_cons (pv 4) pa_nil)))))) (pw_or1 (pt_not (pt_val (pe_call G_s (hr.mono (by decide)) (by rfl) D_s.g D_s.F.kp D_s.b .nil pass0 (pa_cons (pv 3) (pa_cons (pe_call G_pa (hr.mono (by decide)) (by rfl) D_pa.g D_pa.F.kp D_pa.b .nil pass0 (pa_cons (pv 1) (pa_cons (pv 2) pa_nil))) pa_nil)))))))) (pss_one (ps_ret pe_bl)) pss_nil)
        (pss_cons (ps_if (pt_not (pt_val (pe_call G_to (hr.mono (by decide)) (by rfl) D_to.g D_to.F.kp D_to.b .nil pass0 (pa_cons (pv 5) (pa_cons (pv 0) (pa_cons (pv 4) pa_nil)))))) (pss_one (ps_ret pe_bl)) pss_nil)
        (pss_cons (ps_for PassesOwn.never rfl (pi_range1 (by rfl) T.b_range (pa_cons (pe_callB call_len_seq (by rfl) T.b_len PySem.boot_len (pa_cons (pv 3) pa_nil)) pa_nil)) (pg_name (i := 6) sc__law_made.nd rfl (.inl rfl))
        (pss_one (ps_if (pt_val (pe_callB call_isi (by rfl) T.b_isinstance (by decide +kernel) (pa_cons (pe_ix (r := rIxB K) ix_seqB (pv 3) (pv 6) (fun _ _ => rfl)) (pa_cons (pe_bltn (v := .ty "list") (by rfl) T.b_list (by decide +kernel) rfl) pa_nil)))) (pss_cons (ps_asg (pe_op op_add (pe_ix (r := rIxL K) ix_list (pe_ix (r := rIxB K) ix_seqB (pv 3) (pv 6) (fun _ _ => rfl)) pe_int (fun _ _ => rfl)) pe_int) (pg_sub (pe_ix (r := rIxB K) ix_seqB (pv 3) (pv 6) (fun _ _ => rfl)) pe_int set_list))
        (pss_one (ps_asg (pe_ix (r := rIxL K) ix_list (pe_ix (r := rIxB K) ix_seqB (pv 3) (pv 6) (fun _ _ => rfl)) pe_int (fun _ _ => rfl)) (pg_sub (pe_ix (r := rIxB K) ix_seqB (pv 3) (pv 6) (fun _ _ => rfl)) pe_int set_list)))) pss_nil)))
        (pss_cons (ps_if (pt_val (pe_callB call_isi (by rfl) T.b_isinstance (by decide +kernel) (pa_cons (pv 3) (pa_cons (pe_bltn (v := .ty "list") (by rfl) T.b_list (by decide +kernel) rfl) pa_nil)))) (pss_one (ps_expr (pe_bm PySem.F.plainAttrs_list PySem.F.slot_list_append PySem.F.type_list_append mt_append (pv 3) (pa_cons (pe_tup (pa_cons pe_int (pa_cons pe_int (pa_cons pe_int pa_nil)))) pa_nil)))) pss_nil)
        (pss_cons (ps_if (PW.pt (pw_or (pt_not (pt_val (pe_call G_li (hr.mono (by decide)) (by rfl) D_li.g D_li.F.kp D_li.b .nil pass0 (pa_cons (pv 5) (pa_cons (pv 0) (pa_cons (pv 4) pa_nil)))))) (pw_or1 (pt_not (pt_val (pe_call G_to (hr.mono (by decide)) (by rfl) D_to.g D_to.F.kp D_to.b .nil pass0 (pa_cons (pv 5) (pa_cons (pv 0) (pa_cons (pv 4) pa_nil))))))))) (pss_one (ps_ret pe_bl)) pss_nil)
        (pss_cons (ps_set (i := 7) sc__law_made.nd rfl (.inl rfl) (pe_make M G_i (hr.mono (by decide)) (by rfl) L.g b_i .nil passN (pa_cons (pv 0) (pa_cons (pe_slice sl_list (pv 1) po_none (po_some pe_int)) pa_nil))))
        (pss_cons (ps_set (i := 8) sc__law_made.nd rfl (.inl rfl) (pe_make M G_i (hr.mono (by decide)) (by rfl) L.g b_1 (show Vals [V.ref z] [Value.ref z] from .cons rfl .nil) passN (pa_cons (pv 0) pa_nil)))
        (pss_cons (ps_if (PW.pt (pw_or (pt_not (pt_val (pe_call G_li (hr.mono (by decide)) (by rfl) D_li.g D_li.F.kp D_li.b .nil pass0 (pa_cons (pv 7) (pa_cons (pv 0) (pa_cons (pe_call G_n (hr.mono (by decide)) (by rfl) D_n.g D_n.F.kp D_n.b .nil pass0 (pa_cons (pe_slice sl_list (pv 1) po_none (po_some pe_int)) pa_nil)) pa_nil)))))) (pw_or1 (pt_not (pt_val (pe_call G_li (hr.mono (by decide)) (by rfl) D_li.g D_li.F.kp D_li.b .nil pass0 (pa_cons (pv 8) (pa_cons (pv 0) (pa_cons (pe_tup pa_nil) pa_nil))))))))) (pss_one (ps_ret pe_bl)) pss_nil)
        (pss_cons (ps_if (PW.pt (pw_and (pt_cmpR op_le (pe_callB (cr_max rfl) (by rfl) T.b_max (by decide +kernel) (pa_cons (pe_op op_cat (pe_lc (own := [("_law_entry_here", 9)]) (g := gName 9) (tt := tYes) rfl sc__law_made.nd (pi_tup (pv 4)) (blkOk_by (own := [("_law_entry_here", 9)]) (N := ["_law_rim", "_law_entries", "_law_form", "_law_held", "_law_due", "_law_lot", "_law_k", "_law_other", "_law_empty", "_law_entry_here"]) (sc := defScope s__law_made) (by decide +kernel)) (fun _ _ _ _ _ => (pg_name (i := 9) sc__law_made.nd rfl (.inl rfl))) (fun _ _ _ _ _ => pts_nil) (fun _ _ _ _ _ => (pe_ix (r := rIxT K) ix_tup (pv 9) pe_int (fun _ _ => rfl)))) (pe_lst (pa_cons pe_int pa_nil))) pa_nil)) (pe_op op_pow pe_int pe_int) (nomark _)) (pw_and1 (pt_not (pt_val (pe_call G_li (hr.mono (by decide)) (by rfl) D_li.g D_li.F.kp D_li.b .nil pass0 (pa_cons (pe_make M G_i (hr.mono (by decide)) (by rfl) L.g b_i .nil passN (pa_cons (pv 0) (pa_cons (pv 4) pa_nil))) (pa_cons (pv 0) (pa_cons (pv 4) pa_nil))))))))) (pss_one (ps_ret pe_bl)) pss_nil)
        (pss_one (ps_ret (pe_call G_li (hr.mono (by decide)) (by rfl) D_li.g D_li.F.kp D_li.b .nil pass0 (pa_cons (pv 5) (pa_cons (pv 0) (pa_cons (pv 4) pa_nil)))))))))))))))))), ?_⟩
    refine ⟨_, rfl, _, rfl, e, l, form, rfl, hT, by omega, fun H1 h s1 hp => ?_⟩
    have hT1 := hT.same s1
    obtain ⟨vl, eT, tV⟩ := id hT1
    refine ⟨_, rfl, e, vl, l, rfl, .inl (.inl (.inl eT)), tV, fun t ht => (hv t ht).2.2.2.2.2, by omega, fun H2 d r s2 td hN => ?_⟩
    have hG := hN.good hv
    have lr := hN.len
    have hp2 := hp.same s2
    obtain ⟨us, hU, eU⟩ := hp2.en
    refine ⟨_, rfl, _, rfl, fun x dx nx nd ne => rd_mk n0 hU.b eU hv (by omega) nx nd ne fun H3 r3 s3 hL hN3 => ⟨rfl, ?_⟩⟩
    obtain rfl := norm_uniq hN3 hN
    have s13 := s2.trans s3
    refine ⟨_, rfl, _, rfl, _, rfl, x, n, d, _, rfl, hL, td.same s3, by omega, true, rfl, ?_⟩
    refine ⟨_, rfl, _, rfl, _, rfl, e, l, form, rfl, hT.same (s1.trans s13), by omega, fun H4 h4 s4 hp4 => ?_⟩
    have s14 := s13.trans s4
    refine ⟨_, _, rfl, ((hp.same s14).eqv hp4 (by omega)), true, rfl, ?_⟩
    refine ⟨_, rfl, _, rfl, _, rfl, x, n, d, _, rfl, hL.same s4, td.same (s3.trans s4), by omega, hG, n0, n1, fun H5 s5 => ⟨true, rfl, ?_⟩⟩
    have s15 := s14.trans s5
    have L5 := hL.same (s4.trans s5)
    have T5 := td.same ((s3.trans s4).trans s5)
    obtain ⟨nh, us2, lus, mu⟩ := Mut.start (s1.trans s15) (hp.same s15)
    have hU2 : ∀ H', Mut H H5 H' h us2 l form → SqH H' h us2 := fun H' m => by
      have := m.at_
      split at this
      · exact .inr this
      · exact .inl this
    have qU : ∀ H', Mut H H5 H' h us2 l form → SqL K H' h us2 ∨ SqT K H' h us2 := fun H' m => (hU2 H' m).elim (fun z => .inl (.inl (.inl z))) fun z => .inr (.inl (.inl z))
    refine ⟨_, rfl, h, us2, rfl, qU H5 mu, (us2.length : Int), rfl, by omega, by omega, for_range (lo := 0) (n := ((us2.length : Nat) : Int).toNat) (fun i σ H' => (∃ y6 y7 y8 y9, σ = [some (.int n), some (.ref e), some (.int form), some (.ref h), some (.ref d), some (.ref x), y6, y7, y8, y9]) ∧ Mut H H5 H' h us2 l form) ⟨⟨_, _, _, _, rfl⟩, mu⟩ (fun i σ H' hi pv => ?_) (fun σ H' pv => ?_)⟩
    · obtain ⟨⟨y6, y7, y8, y9, rfl⟩, mu⟩ := pv
      have hil : i < l.length := by omega
      obtain ⟨b, eb, hb⟩ := mu.it i _ (List.getElem?_eq_getElem hil)
      have ai : atI us2 (0 + (i : Int)) = some (.ref b) := by
        rw [Int.zero_add]
        exact atI_nat eb
      have qB : ∀ H', Mut H H5 H' h us2 l form → SqB K H' h us2 := fun H' m => (hU2 H' m).b
      split at hb
      · obtain ⟨⟨u, v, z, e3⟩, nb⟩ := hb
        refine ⟨_, rfl, _, rfl, h, us2, _, _, rfl, rfl, qB H' mu, ai, _, _, _, _, true, rfl, .ty "list", .base (.lst e3), kit_ty (by decide +kernel), true, rfl, ?_⟩
        have mu2 := mu.put (x' := u) (y' := v) (z' := z + 1) lus (by omega) e3 nb
        refine ⟨_, rfl, _, rfl, h, us2, _, _, rfl, rfl, qB H' mu, ai, b, _, 2, _, rfl, rfl, .inl (.inl e3), atI_nat (j := 2) rfl, _, _, rfl, rfl, _, rfl, _, rfl, h, us2, _, _, rfl, rfl, qB H' mu, ai, b, _, 2, 2, rfl, rfl, e3, rfl, ?_⟩
        have mu3 := mu2.put (x' := v) (y' := v) (z' := z + 1) lus (by omega) upd_same nb
        exact ⟨_, rfl, _, rfl, h, us2, _, _, rfl, rfl, qB _ mu2, ai, b, _, 1, _, rfl, rfl, .inl (.inl upd_same), atI_nat (j := 1) rfl, _, rfl, _, rfl, h, us2, _, _, rfl, rfl, qB _ mu2, ai, b, _, 0, 0, rfl, rfl, upd_same, rfl, ⟨_, _, _, _, rfl⟩, mu3⟩
      · refine ⟨_, rfl, _, rfl, h, us2, _, _, rfl, rfl, qB H' mu, ai, _, _, _, _, false, rfl, .ty "list", .base (.tup hb), kit_ty (by decide +kernel), false, rfl, ?_⟩
        exact ⟨⟨_, _, _, _, rfl⟩, mu⟩
    · obtain ⟨⟨y6, y7, y8, y9, rfl⟩, mu⟩ := pv
      have hat := mu.at_
      split at hat
      · refine ⟨_, rfl, _, _, _, _, false, rfl, .ty "list", .base (.tup hat), kit_ty (by decide +kernel), false, rfl, ?_⟩
        have S6 := mu.sm
        have sn6 := mu.sn
        have L6 := L5.sameN sn6
        have T6 := T5.sameN sn6
        clear hat mu
        generalize H' = H6 at S6 sn6 L6 T6 ⊢
        refine ⟨_, rfl, _, rfl, _, rfl, x, n, d, _, rfl, L6, T6, by omega, true, rfl, ?_⟩
        refine ⟨_, rfl, _, rfl, _, rfl, x, n, d, _, rfl, L6, T6, by omega, hG, n0, n1, fun H7 s7 => ⟨true, rfl, ?_⟩⟩
        have S7 := S6.trans s7
        obtain ⟨vl7, eT7, tV7⟩ := hT.same S7
        refine ⟨_, rfl, _, rfl, 1, rfl, e, vl7, rfl, .inl (.inl eT7), fun p7 np7 => fun x2 dx2 nx2 nd2 ne2 => rd_mk n0 (.inl (.inl (.inl upd_same))) (l := l.take 1) (by rw [show cutV vl7 none (some 1) = vl7.take 1 from cut_one vl7]; exact ((tV7.tk 1).same (same_upd np7)).en) (fun t ht => hv t (List.mem_of_mem_take ht)) (by rw [List.length_take]; omega) nx2 nd2 ne2 fun H8 r8 s8 hL8 hN8 => ⟨rfl, ?_⟩⟩
        have S8 := S7.trans ((same_upd np7).trans s8)
        refine ⟨_, rfl, fun x3 dx3 nx3 nd3 ne3 => rd_mk (xs := []) (l := []) n0 (.inr (hz _)) TrV.nil.en (fun t ht => nomatch ht) (by decide) nx3 nd3 ne3 fun H9 r9 s9 hL9 hN9 => ⟨rfl, ?_⟩⟩
        obtain rfl := norm_nil hN9
        have S9 := S8.trans s9
        obtain ⟨vl9, eT9, tV9⟩ := hT.same S9
        refine ⟨_, rfl, _, rfl, _, rfl, 1, rfl, e, vl9, rfl, .inl (.inl eT9), fun p9 np9 => ⟨p9, _, l.take 1, rfl, .inl (.inl (.inl upd_same)), by rw [show cutV vl9 none (some 1) = vl9.take 1 from cut_one vl9]; exact (tV9.tk 1).same (same_upd np9), fun t ht => (hv t (List.mem_of_mem_take ht)).2.2.2.2.2, by rw [List.length_take]; omega, fun H10 d10 r10 s10 td10 hN10 => ?_⟩⟩
        obtain rfl := norm_uniq hN10 hN8
        have s910 := (same_upd (o := .lst (cutV vl9 none (some 1))) np9).trans s10
        have S10 := S9.trans s910
        refine ⟨x2, n, d10, _, rfl, hL8.same (s9.trans s910), td10, Nat.le_trans hN10.len (by rw [List.length_take]; omega), true, rfl, ?_⟩
        refine ⟨_, rfl, _, rfl, by show 0 ≤ sizeLine; decide, fun pz npz => ⟨x3, n, pz, [], rfl, (hL9.same s910).same (same_upd npz), ⟨[], upd_same, TrV.nil⟩, by decide, true, rfl, ?_⟩⟩
        have s7z := (((same_upd (o := .lst (cutV vl7 none (some 1))) np7).trans s8).trans s9).trans (s910.trans (same_upd (o := .tup []) npz))
        have Lz := L6.same (s7.trans s7z)
        have Tz := T6.same (s7.trans s7z)
        have Sz := S7.trans s7z
        generalize upd H10 pz (.tup []) = H11 at Lz Tz Sz ⊢
        obtain ⟨ws, ed, tw⟩ := id Tz
        refine ⟨_, rfl, d, rfl, ⟨ws, .inl (.inl ed)⟩, fun D hD => ?_⟩
        refine lc_tup (K := K) (a := d) (xs := ws) (fun i H2 => H2 = upd H11 D (.lst (((r3.map fun t => t.2.2).take i).map V.int))) rfl (fun i H2 _ p => by subst p; exact .inl (.inl (same_upd hD _ _ ed))) (fun i x H2 hxi p => ?_) (fun H2 p => ?_)
        · subst p
          obtain ⟨u, t, rfl, hti, hu⟩ := tw.at_ hxi
          refine ⟨rfl, ?_⟩
          refine ⟨_, rfl, u, _, 2, _, rfl, rfl, .inl (.inl (same_upd hD _ _ hu)), atI_nat (j := 2) rfl, _, upd_same, ?_, ?_⟩
          · rw [List.length_map, List.length_take, List.length_map]
            exact Nat.lt_of_le_of_lt (Nat.min_le_right _ _) (small1000 (by omega))
          · rw [upd_upd, List.take_add_one, List.getElem?_map, hti, List.map_append]
            rfl
        subst p
        rw [show ws.length = (r3.map fun t => t.2.2).length by rw [List.length_map]; exact tw.1, List.take_length]
        refine ⟨by show 1 ≤ sizeLine; decide, fun b nb => ⟨D, b, _, _, rfl, rfl, same_upd nb _ _ upd_same, upd_same, ?_, fun p np => ⟨p, (r3.map fun t => t.2.2) ++ [0], rfl, ?_, ?_, fun m _ _ => ?_⟩⟩⟩
        · rw [List.length_map, List.length_map]
          exact Nat.le_of_lt (small1000 (show r3.length + 1 ≤ 1000 by omega))
        · rw [List.map_append]
          exact .inl (.inl upd_same)
        · rw [List.length_append]
          show 0 < _ + 1
          omega
        have sE := ((same_upd (o := .lst ((r3.map fun t => t.2.2).map V.int)) hD).trans (same_upd (o := .lst [.int 0]) nb)).trans (same_upd (o := .lst ((r3.map fun t => t.2.2).map V.int ++ [.int 0])) np)
        have Le := Lz.same sE
        have Te := Tz.same sE
        have Se := Sz.trans sE
        generalize upd (upd (upd H11 D (.lst ((r3.map fun t => t.2.2).map V.int))) b (.lst [.int 0])) p (.lst ((r3.map fun t => t.2.2).map V.int ++ [.int 0])) = H12 at Le Te Se ⊢
        refine ⟨_, _, rfl, rfl, ⟨by decide, by decide, by decide⟩, _, _, rfl, rfl, _, rfl, ite2 (fun e2 => ?_) (fun e2 => ?_)⟩
        · obtain ⟨we, ee, te⟩ := id Te
          refine ⟨_, rfl, _, rfl, fun x4 dx4 nx4 nd4 ne4 => rd_mk n0 (.inr (.inl (.inl ee))) te.en hG.vld (by omega) nx4 nd4 ne4 fun H13 r13 s13 hL13 hN13 => ⟨rfl, ?_⟩⟩
          obtain rfl := norm_uniq hN13 hG.self
          refine ⟨_, rfl, _, rfl, x4, n, d, _, rfl, hL13, Te.same s13, by omega, true, rfl, ?_⟩
          exact ⟨_, rfl, _, rfl, _, rfl, x, n, d, _, rfl, Le.same s13, Te.same s13, by omega, q _ (Se.trans s13)⟩
        · exact ⟨_, rfl, _, rfl, _, rfl, x, n, d, _, rfl, Le, Te, by omega, q _ Se⟩
      · refine ⟨_, rfl, _, _, _, _, true, rfl, .ty "list", .base (.lst hat), kit_ty (by decide +kernel), true, rfl, ?_⟩
        refine ⟨_, rfl, .inl ⟨rfl, _, .inl (.inl hat)⟩, by show 3 ≤ sizeLine; decide, fun p6 np6 => ⟨h, us2, _, rfl, rfl, same_upd np6 _ _ hat, by rw [lus]; exact small1000 (by omega), ?_⟩⟩
        have S6 : Same H (upd (upd H' p6 (.tup [.int 0, .int 1, .int 1])) h (.lst (us2 ++ [.ref p6]))) := same_put (H1 := H) nh (mu.sm.trans (same_upd np6))
        have sn6 : SameN H5 (upd (upd H' p6 (.tup [.int 0, .int 1, .int 1])) h (.lst (us2 ++ [.ref p6]))) := (mu.sn.new np6).put (same_upd np6 _ _ hat)
        have L6 := L5.sameN sn6
        have T6 := T5.sameN sn6
        clear hat mu
        generalize upd (upd H' p6 (.tup [.int 0, .int 1, .int 1])) h (.lst (us2 ++ [.ref p6])) = H6 at S6 sn6 L6 T6 ⊢
        refine ⟨_, rfl, _, rfl, _, rfl, x, n, d, _, rfl, L6, T6, by omega, true, rfl, ?_⟩
        refine ⟨_, rfl, _, rfl, _, rfl, x, n, d, _, rfl, L6, T6, by omega, hG, n0, n1, fun H7 s7 => ⟨true, rfl, ?_⟩⟩
        have S7 := S6.trans s7
        obtain ⟨vl7, eT7, tV7⟩ := hT.same S7
        refine ⟨_, rfl, _, rfl, 1, rfl, e, vl7, rfl, .inl (.inl eT7), fun p7 np7 => fun x2 dx2 nx2 nd2 ne2 => rd_mk n0 (.inl (.inl (.inl upd_same))) (l := l.take 1) (by rw [show cutV vl7 none (some 1) = vl7.take 1 from cut_one vl7]; exact ((tV7.tk 1).same (same_upd np7)).en) (fun t ht => hv t (List.mem_of_mem_take ht)) (by rw [List.length_take]; omega) nx2 nd2 ne2 fun H8 r8 s8 hL8 hN8 => ⟨rfl, ?_⟩⟩
        have S8 := S7.trans ((same_upd np7).trans s8)
        refine ⟨_, rfl, fun x3 dx3 nx3 nd3 ne3 => rd_mk (xs := []) (l := []) n0 (.inr (hz _)) TrV.nil.en (fun t ht => nomatch ht) (by decide) nx3 nd3 ne3 fun H9 r9 s9 hL9 hN9 => ⟨rfl, ?_⟩⟩
        obtain rfl := norm_nil hN9
        have S9 := S8.trans s9
        obtain ⟨vl9, eT9, tV9⟩ := hT.same S9
        refine ⟨_, rfl, _, rfl, _, rfl, 1, rfl, e, vl9, rfl, .inl (.inl eT9), fun p9 np9 => ⟨p9, _, l.take 1, rfl, .inl (.inl (.inl upd_same)), by rw [show cutV vl9 none (some 1) = vl9.take 1 from cut_one vl9]; exact (tV9.tk 1).same (same_upd np9), fun t ht => (hv t (List.mem_of_mem_take ht)).2.2.2.2.2, by rw [List.length_take]; omega, fun H10 d10 r10 s10 td10 hN10 => ?_⟩⟩
        obtain rfl := norm_uniq hN10 hN8
        have s910 := (same_upd (o := .lst (cutV vl9 none (some 1))) np9).trans s10
        have S10 := S9.trans s910
        refine ⟨x2, n, d10, _, rfl, hL8.same (s9.trans s910), td10, Nat.le_trans hN10.len (by rw [List.length_take]; omega), true, rfl, ?_⟩
        refine ⟨_, rfl, _, rfl, by show 0 ≤ sizeLine; decide, fun pz npz => ⟨x3, n, pz, [], rfl, (hL9.same s910).same (same_upd npz), ⟨[], upd_same, TrV.nil⟩, by decide, true, rfl, ?_⟩⟩
        have s7z := (((same_upd (o := .lst (cutV vl7 none (some 1))) np7).trans s8).trans s9).trans (s910.trans (same_upd (o := .tup []) npz))
        have Lz := L6.same (s7.trans s7z)
        have Tz := T6.same (s7.trans s7z)
        have Sz := S7.trans s7z
        generalize upd H10 pz (.tup []) = H11 at Lz Tz Sz ⊢
        obtain ⟨ws, ed, tw⟩ := id Tz
        refine ⟨_, rfl, d, rfl, ⟨ws, .inl (.inl ed)⟩, fun D hD => ?_⟩
        refine lc_tup (K := K) (a := d) (xs := ws) (fun i H2 => H2 = upd H11 D (.lst (((r3.map fun t => t.2.2).take i).map V.int))) rfl (fun i H2 _ p => by subst p; exact .inl (.inl (same_upd hD _ _ ed))) (fun i x H2 hxi p => ?_) (fun H2 p => ?_)
        · subst p
          obtain ⟨u, t, rfl, hti, hu⟩ := tw.at_ hxi
          refine ⟨rfl, ?_⟩
          refine ⟨_, rfl, u, _, 2, _, rfl, rfl, .inl (.inl (same_upd hD _ _ hu)), atI_nat (j := 2) rfl, _, upd_same, ?_, ?_⟩
          · rw [List.length_map, List.length_take, List.length_map]
            exact Nat.lt_of_le_of_lt (Nat.min_le_right _ _) (small1000 (by omega))
          · rw [upd_upd, List.take_add_one, List.getElem?_map, hti, List.map_append]
            rfl
        subst p
        rw [show ws.length = (r3.map fun t => t.2.2).length by rw [List.length_map]; exact tw.1, List.take_length]
        refine ⟨by show 1 ≤ sizeLine; decide, fun b nb => ⟨D, b, _, _, rfl, rfl, same_upd nb _ _ upd_same, upd_same, ?_, fun p np => ⟨p, (r3.map fun t => t.2.2) ++ [0], rfl, ?_, ?_, fun m _ _ => ?_⟩⟩⟩
        · rw [List.length_map, List.length_map]
          exact Nat.le_of_lt (small1000 (show r3.length + 1 ≤ 1000 by omega))
        · rw [List.map_append]
          exact .inl (.inl upd_same)
        · rw [List.length_append]
          show 0 < _ + 1
          omega
        have sE := ((same_upd (o := .lst ((r3.map fun t => t.2.2).map V.int)) hD).trans (same_upd (o := .lst [.int 0]) nb)).trans (same_upd (o := .lst ((r3.map fun t => t.2.2).map V.int ++ [.int 0])) np)
        have Le := Lz.same sE
        have Te := Tz.same sE
        have Se := Sz.trans sE
        generalize upd (upd (upd H11 D (.lst ((r3.map fun t => t.2.2).map V.int))) b (.lst [.int 0])) p (.lst ((r3.map fun t => t.2.2).map V.int ++ [.int 0])) = H12 at Le Te Se ⊢
        refine ⟨_, _, rfl, rfl, ⟨by decide, by decide, by decide⟩, _, _, rfl, rfl, _, rfl, ite2 (fun e2 => ?_) (fun e2 => ?_)⟩
        · obtain ⟨we, ee, te⟩ := id Te
          refine ⟨_, rfl, _, rfl, fun x4 dx4 nx4 nd4 ne4 => rd_mk n0 (.inr (.inl (.inl ee))) te.en hG.vld (by omega) nx4 nd4 ne4 fun H13 r13 s13 hL13 hN13 => ⟨rfl, ?_⟩⟩
          obtain rfl := norm_uniq hN13 hG.self
          refine ⟨_, rfl, _, rfl, x4, n, d, _, rfl, hL13, Te.same s13, by omega, true, rfl, ?_⟩
          exact ⟨_, rfl, _, rfl, _, rfl, x, n, d, _, rfl, Le.same s13, Te.same s13, by omega, q _ (Se.trans s13)⟩
        · exact ⟨_, rfl, _, rfl, _, rfl, x, n, d, _, rfl, Le, Te, by omega, q _ Se⟩
end
end Own

namespace Own
open PySem PySem.Spec PyProof.Rows L2
/-- entries whose first bad one is y -/
def Spl (K : PySem.W.Frag) (H : Hp) (n : Int) (xs : List V) (k : Nat) (y : V) : Prop := k < xs.length ∧ xs[k]? = some y ∧ (∃ l : List Tr, l.length = k ∧ EnB H (xs.take k) l ∧ ∀ t ∈ l, Vld n t) ∧ ∀ x ∈ xs, It K H x
theorem EnB.tk {H : Hp} {vs : List V} {l : List Tr} (h : EnB H vs l) (k : Nat) : EnB H (vs.take k) (l.take k) := by
  refine ⟨by rw [List.length_take, List.length_take, h.1], fun i t e => ?_⟩
  have hk : i < k := by
    have := (List.getElem?_eq_some_iff.mp e).1
    rw [List.length_take] at this
    omega
  rw [List.getElem?_take, if_pos hk] at e
  obtain ⟨b, e1, e2⟩ := h.2 i t e
  exact ⟨b, by rw [List.getElem?_take, if_pos hk]; exact e1, e2⟩
theorem it_tr {K : PySem.W.Frag} {H : Hp} {vl : List V} {l : List Tr} (h : TrV H vl l) : ∀ x ∈ vl, It K H x := fun x hx => by
  obtain ⟨i, hi⟩ := List.getElem?_of_mem hx
  obtain ⟨b, t, rfl, _, hb⟩ := h.at_ hi
  exact ⟨(EqV.tr hb hb).up, .inr ⟨"tuple", .base (.tup hb), by decide⟩⟩
theorem spl_one {K : PySem.W.Frag} {H : Hp} {n : Int} {vl : List V} {l : List Tr} {k : Nat} {y : V} (h : TrV H vl l) (hv : ∀ t ∈ l, Vld n t) (hk : k ≤ vl.length) (hy : It K H y) : Spl K H n (vl.take k ++ [y] ++ vl.drop k) k y := by
  have hl := h.1
  have lt : (vl.take k).length = k := by rw [List.length_take]; omega
  refine ⟨?_, ?_, ⟨l.take k, by rw [List.length_take]; omega, ?_, fun t ht => hv t (List.mem_of_mem_take ht)⟩, fun x hx => ?_⟩
  · rw [List.length_append, List.length_append, lt]
    show k < k + 1 + _
    omega
  · rw [List.append_assoc, List.getElem?_append_right (by omega), lt, Nat.sub_self]
    rfl
  · rw [List.append_assoc, List.take_append_of_le_length (by omega), List.take_take, Nat.min_self]
    exact h.en.tk k
  · rw [List.append_assoc] at hx
    rcases List.mem_append.mp hx with hx | hx
    · exact it_tr h x (List.mem_of_mem_take hx)
    · rcases List.mem_cons.mp hx with rfl | hx
      · exact hy
      · exact it_tr h x (List.mem_of_mem_drop hx)
theorem spl_two {K : PySem.W.Frag} {H : Hp} {n : Int} {xs : List V} {k s : Nat} {y z : V} (h : Spl K H n xs k y) (hs : k < s) (hz : It K H z) : Spl K H n (xs.take s ++ [z] ++ xs.drop s) k y := by
  obtain ⟨h1, h2, ⟨l, h3, h4, h5⟩, h6⟩ := h
  have lt : k < (xs.take s).length := by rw [List.length_take]; omega
  refine ⟨?_, ?_, ⟨l, h3, ?_, h5⟩, fun x hx => ?_⟩
  · rw [List.length_append, List.length_append]
    omega
  · rw [List.append_assoc, List.getElem?_append_left lt, List.getElem?_take, if_pos hs]
    exact h2
  · rw [List.append_assoc, List.take_append_of_le_length (by omega), List.take_take, Nat.min_eq_left (by omega)]
    exact h4
  · rw [List.append_assoc] at hx
    rcases List.mem_append.mp hx with hx | hx
    · exact h6 x (List.mem_of_mem_take hx)
    · rcases List.mem_cons.mp hx with rfl | hx
      · exact hz
      · exact h6 x (List.mem_of_mem_drop hx)
theorem Spl.same {K : PySem.W.Frag} {H H' : Hp} {n : Int} {xs : List V} {k : Nat} {y : V} (s : Same H H') (h : Spl K H n xs k y) : Spl K H' n xs k y := by
  obtain ⟨h1, h2, ⟨l, h3, h4, h5⟩, h6⟩ := h
  exact ⟨h1, h2, ⟨l, h3, h4.same s, h5⟩, fun x hx => (h6 x hx).same s⟩
theorem cut_preI (xs : List V) {x : Int} (h0 : 0 ≤ x) (h1 : x ≤ xs.length) : cutV xs none (some x) = xs.take x.toNat := by
  obtain ⟨k, rfl⟩ : ∃ k : Nat, x = (k : Int) := ⟨x.toNat, by omega⟩
  exact cut_pre xs k (by omega)
theorem cut_sufI (xs : List V) {x : Int} (h0 : 0 ≤ x) (h1 : x ≤ xs.length) : cutV xs (some x) none = xs.drop x.toNat := by
  obtain ⟨k, rfl⟩ : ∃ k : Nat, x = (k : Int) := ⟨x.toNat, by omega⟩
  exact cut_suf xs k (by omega)
theorem Spl.go {K : PySem.W.Frag} {H : Hp} {n : Int} {xs : List V} {k : Nat} {y : V} {h : Addr} {Q : VK} {E : XK} (S : Spl K H n xs k y) (bd : Bd K H n y) (n0 : 0 ≤ n) (hh : SqH H h xs) (hl : xs.length ≤ 1000) (q : ∀ H', Same H H' → Q (.bl true) H') : spRefE K [.int n, .ref h, y] H Q E := by
  obtain ⟨h1, h2, ⟨l, h3, h4, h5⟩, h6⟩ := S
  exact ⟨n, h, y, xs, l, rfl, n0, hh, hl, h6, by rw [h3]; exact h4, h5, by rw [h3]; exact h2, bd.1, bd.2.1, q⟩
/-- no number of pins -/
def Wr (K : PySem.W.Frag) (H : Hp) (v : V) : Prop := ((∃ i : Int, v = .int i ∧ i < 0) ∨ NotWh K H v) ∧ ShoD K H 3 v ∧ EqV 3 H v v
theorem wr_kp {K : PySem.W.Frag} {H : Hp} {v : V} (h : (∃ i : Int, v = .int i ∧ i < 0) ∨ NotWh K H v) (k : Kp K H v) : Wr K H v := ⟨h, k.1.up, k.2.le (by decide)⟩
theorem Wr.same {K : PySem.W.Frag} {H H' : Hp} {v : V} (s : Same H H') (h : Wr K H v) : Wr K H' v := ⟨h.1.elim .inl fun x => .inr (x.same s), h.2.1.keep s, h.2.2.same s⟩
section
variable {P : Program} {w : World} {K : PySem.W.Frag} {mg : Str → Option Value} {base : Heap} {C D1 D2 : Addr}
def spAllRef (K : PySem.W.Frag) : Sp := fun vs H Q _ => ∃ (s : Addr) (ns : List Int) (n : Int) (e : Addr) (l : List Tr), vs = [.ref s, .int n, .ref e] ∧ SqL K H s (ns.map V.int) ∧ ns.length ≤ 1000 ∧ 0 ≤ n ∧ n ≤ 1000 ∧ TripL H e l ∧ l.length ≤ 400 ∧ (∀ t ∈ l, Vld n t) ∧ ∀ H', Same H H' → Q (.bl true) H'
set_option maxHeartbeats 0 in
theorem ok_allref {f : Addr} {fd : FuncData} (F : Fun K "_law_all_refused" "_law_all_refused" s__law_all_refused f fd) (T : Bi mg) 
    {f_d : Addr} {d_d : FuncData} (D_d : Df K mg "_law_digits" s__law_digits ["_law_cell_here", "_law_sizes"] f_d d_d) (G_d : FnOk P w K mg base CX0 1 f_d d_d ["_law_cell_here", "_law_sizes"] (spDigs K)) 
    {f_c : Addr} {d_c : FuncData} (D_c : Df K mg "_law_cell" s__law_cell ["_law_script", "_law_k"] f_c d_c) (G_c : FnOk P w K mg base CX0 1 f_c d_c ["_law_script", "_law_k"] (spCell K)) 
    {f_b1 : Addr} {d_b1 : FuncData} (D_b1 : Df K mg "_law_bad_entry" s__law_bad_entry ["_law_cell_here", "_law_rim", "_law_k"] f_b1 d_b1) (G_b1 : FnOk P w K mg base CX0 3 f_b1 d_b1 ["_law_cell_here", "_law_rim", "_law_k"] (spBad1 K)) 
    {f_re : Addr} {d_re : FuncData} (D_re : Df K mg "_law_refused_entry" s__law_refused_entry ["_law_rim", "_law_held", "_law_entry_here"] f_re d_re) (G_re : FnOk P w K mg base CX0 8 f_re d_re ["_law_rim", "_law_held", "_law_entry_here"] (spRefE K)) 
    {f_rp : Addr} {d_rp : FuncData} (D_rp : Df K mg "_law_refused_pins" s__law_refused_pins ["_law_rim", "_law_held"] f_rp d_rp) (G_rp : FnOk P w K mg base CX0 8 f_rp d_rp ["_law_rim", "_law_held"] (spRefP K)) : FnOk P w K mg base CX0 10 f fd ["_law_script", "_law_rim", "_law_entries"] (spAllRef K) := by
  refine F.ok sc__law_all_refused (fun vs H Q E h => ?_) (fun cdv A outer s H vs Q E hr h => ?_)
  · obtain ⟨_, _, _, _, _, rfl, _⟩ := h
    rfl
  · obtain ⟨s, ns, n, e, l, rfl, hs, hn, n0, n1, hT, hl, hv, q⟩ := h
    refine ⟨_, (pss_cons (ps_set (i := 3) sc__law_all_refused.nd rfl (.inl rfl) (pe_call G_d (hr.mono (by decide)) (by rfl) D_d.g D_d.F.kp D_d.b .nil pass0 (pa_cons (pe_call G_c (hr.mono (by decide)) (by rfl) D_c.g D_c.F.kp D_c.b .nil pass0 (pa_cons (pv 0) (pa_cons pe_int pa_nil))) (pa_cons (pe_lst (pa_cons pe_int (pa_cons pe_int (pa_cons pe_int (pa_cons pe_int (pa_cons pe_int (pa_cons pe_int (pa_cons pe_int (pa_cons pe_int (pa_cons pe_int (pa_cons pe_int (pa_cons pe_int (pa_cons pe_int pa_nil))))))))))))) pa_nil))))
        (pss_cons (ps_for PassesOwn.never rfl (pi_range1 (by rfl) T.b_range (pa_cons pe_int pa_nil)) (pg_name (i := 4) sc__law_all_refused.nd rfl (.inl rfl))
        (pss_cons (ps_set (i := 5) sc__law_all_refused.nd rfl (.inl rfl) (pe_call G_b1 (hr.mono (by decide)) (by rfl) D_b1.g D_b1.F.kp D_b1.b .nil pass0 (pa_cons (pe_call G_c (hr.mono (by decide)) (by rfl) D_c.g D_c.F.kp D_c.b .nil pass0 (pa_cons (pv 0) (pa_cons pe_int pa_nil))) (pa_cons (pv 1) (pa_cons (pe_op op_add (pe_op op_add (pe_ix (r := rIxL K) ix_list (pv 3) pe_int (fun _ _ => rfl)) (pe_op op_mul pe_int (pv 4))) (pe_op op_fdiv (pv 4) pe_int)) pa_nil)))))
        (pss_cons (ps_set (i := 6) sc__law_all_refused.nd rfl (.inl rfl) (pe_op op_modN (pe_callTy call_int1 (by rfl) T.b_int (by decide +kernel) (pa_cons (pe_ix (r := rIxL K) ix_list (pv 3) (pe_op op_add pe_int (pv 4)) (fun _ _ => rfl)) pa_nil)) (pe_op op_add (pe_callB call_len_seq (by rfl) T.b_len PySem.boot_len (pa_cons (pv 2) pa_nil)) pe_int)))
        (pss_cons (ps_set (i := 7) sc__law_all_refused.nd rfl (.inl rfl) (pe_op op_cat (pe_op op_cat (pe_slice sl_list (pv 2) po_none (po_some (pv 6))) (pe_lst (pa_cons (pv 5) pa_nil))) (pe_slice sl_list (pv 2) (po_some (pv 6)) po_none)))
        (pss_cons (ps_if (pt_cmpR op_eq (pe_op op_mod (pe_callTy call_int1 (by rfl) T.b_int (by decide +kernel) (pa_cons (pe_op op_add (pe_ix (r := rIxL K) ix_list (pv 3) pe_int (fun _ _ => rfl)) (pv 4)) pa_nil)) pe_int) pe_int (nomark _)) (pss_one (ps_set (i := 7) sc__law_all_refused.nd rfl (.inl rfl) (pe_callTy call_tuple_of (by rfl) T.b_tuple (by decide +kernel) (pa_cons (pv 7) pa_nil)))) pss_nil)
        (pss_one (ps_if (pt_not (pt_val (pe_call G_re (hr.mono (by decide)) (by rfl) D_re.g D_re.F.kp D_re.b .nil pass0 (pa_cons (pv 1) (pa_cons (pv 7) (pa_cons (pv 5) pa_nil)))))) (pss_one (ps_ret pe_bl)) pss_nil)))))))
        (pss_cons (ps_set (i := 5) sc__law_all_refused.nd rfl (.inl rfl) (pe_call G_b1 (hr.mono (by decide)) (by rfl) D_b1.g D_b1.F.kp D_b1.b .nil pass0 (pa_cons (pe_call G_c (hr.mono (by decide)) (by rfl) D_c.g D_c.F.kp D_c.b .nil pass0 (pa_cons (pv 0) (pa_cons pe_int pa_nil))) (pa_cons (pv 1) (pa_cons (pe_op op_add (pe_ix (r := rIxL K) ix_list (pv 3) pe_int (fun _ _ => rfl)) (pe_ix (r := rIxL K) ix_list (pv 3) pe_int (fun _ _ => rfl))) pa_nil)))))
        (pss_cons (ps_set (i := 6) sc__law_all_refused.nd rfl (.inl rfl) (pe_op op_modN (pe_callTy call_int1 (by rfl) T.b_int (by decide +kernel) (pa_cons (pe_ix (r := rIxL K) ix_list (pv 3) pe_int (fun _ _ => rfl)) pa_nil)) (pe_op op_add (pe_callB call_len_seq (by rfl) T.b_len PySem.boot_len (pa_cons (pv 2) pa_nil)) pe_int)))
        (pss_cons (ps_set (i := 7) sc__law_all_refused.nd rfl (.inl rfl) (pe_op op_cat (pe_op op_cat (pe_slice sl_list (pv 2) po_none (po_some (pv 6))) (pe_lst (pa_cons (pv 5) pa_nil))) (pe_slice sl_list (pv 2) (po_some (pv 6)) po_none)))
        (pss_cons (ps_set (i := 8) sc__law_all_refused.nd rfl (.inl rfl) (pe_op op_add (pe_op op_add (pv 6) pe_int) (pe_op op_modN (pe_callTy call_int1 (by rfl) T.b_int (by decide +kernel) (pa_cons (pe_call G_c (hr.mono (by decide)) (by rfl) D_c.g D_c.F.kp D_c.b .nil pass0 (pa_cons (pv 0) (pa_cons pe_int pa_nil))) pa_nil)) (pe_op op_add (pe_op op_sub (pe_callB call_len_seq (by rfl) T.b_len PySem.boot_len (pa_cons (pv 2) pa_nil)) (pv 6)) pe_int))))
        (pss_cons (ps_set (i := 9) sc__law_all_refused.nd rfl (.inl rfl) (pe_op op_cat (pe_op op_cat (pe_slice sl_list (pv 7) po_none (po_some (pv 8))) (pe_lst (pa_cons (pe_call G_b1 (hr.mono (by decide)) (by rfl) D_b1.g D_b1.F.kp D_b1.b .nil pass0 (pa_cons (pe_call G_c (hr.mono (by decide)) (by rfl) D_c.g D_c.F.kp D_c.b .nil pass0 (pa_cons (pv 0) (pa_cons pe_int pa_nil))) (pa_cons (pv 1) (pa_cons (pe_call G_c (hr.mono (by decide)) (by rfl) D_c.g D_c.F.kp D_c.b .nil pass0 (pa_cons (pv 0) (pa_cons pe_int pa_nil))) pa_nil)))) pa_nil))) (pe_slice sl_list (pv 7) (po_some (pv 8)) po_none)))
        (pss_cons (ps_if (pt_not (pt_val (pe_call G_re (hr.mono (by decide)) (by rfl) D_re.g D_re.F.kp D_re.b .nil pass0 (pa_cons (pv 1) (pa_cons (pv 9) (pa_cons (pv 5) pa_nil)))))) (pss_one (ps_ret pe_bl)) pss_nil)
        (pss_cons (ps_set (i := 10) sc__law_all_refused.nd rfl (.inl rfl) (pe_op op_sub (pe_un un_neg pe_int) (pe_op op_mod (pe_op op_fdiv (pe_callTy call_int1 (by rfl) T.b_int (by decide +kernel) (pa_cons (pe_call G_c (hr.mono (by decide)) (by rfl) D_c.g D_c.F.kp D_c.b .nil pass0 (pa_cons (pv 0) (pa_cons pe_int pa_nil))) pa_nil)) pe_int) pe_int)))
        (pss_cons (ps_set (i := 11) sc__law_all_refused.nd rfl (.inl rfl) (pe_ix (r := rIxL K) ix_list (pe_lst (pa_cons (pv 10) (pa_cons pe_bl (pa_cons pe_bl (pa_cons pe_non (pa_cons (pe_callTy call_str_int (by rfl) T.b_str (by decide +kernel) (pa_cons (pv 1) pa_nil)) (pa_cons (pe_tup (pa_cons (pv 1) pa_nil)) (pa_cons (pe_lst (pa_cons (pv 1) pa_nil)) pa_nil)))))))) (pe_op op_mod (pe_callTy call_int1 (by rfl) T.b_int (by decide +kernel) (pa_cons (pe_call G_c (hr.mono (by decide)) (by rfl) D_c.g D_c.F.kp D_c.b .nil pass0 (pa_cons (pv 0) (pa_cons pe_int pa_nil))) pa_nil)) pe_int) (fun _ _ => rfl)))
        (pss_one (ps_ret (pe_and (pe_call G_rp (hr.mono (by decide)) (by rfl) D_rp.g D_rp.F.kp D_rp.b .nil pass0 (pa_cons (pv 11) (pa_cons (pe_lst pa_nil) pa_nil))) (pe_and (pe_call G_rp (hr.mono (by decide)) (by rfl) D_rp.g D_rp.F.kp D_rp.b .nil pass0 (pa_cons (pv 11) (pa_cons (pv 7) pa_nil))) (pe_one (pe_call G_rp (hr.mono (by decide)) (by rfl) D_rp.g D_rp.F.kp D_rp.b .nil pass0 (pa_cons (pv 10) (pa_cons (pe_tup pa_nil) pa_nil)))))))))))))))))), ?_⟩
    refine ⟨_, rfl, s, ns, 3, rfl, hs, by omega, hn, fun c3 => ⟨by show 12 ≤ sizeLine; decide, fun b0 nb0 => ⟨c3, b0, [38, 13, 40, 40, 40, 40, 40, 40, 40, 40, 40, 40], rfl, .inl (.inl upd_same), by show 12 ≤ 1000; decide, fun x hx => ?_, fun H1 p1 ds s1 np1 e1 dg => ?_⟩⟩⟩
    · simp only [List.mem_cons, List.not_mem_nil, or_false] at hx
      omega
    have ld : ds.length = 12 := dg.1
    have S1 : Same H H1 := (same_upd nb0).trans s1
    have at_ : ∀ (k : Nat), k < 12 → ∃ d, atI (ds.map V.int) (k : Int) = some (.int d) := fun k hk => ⟨ds[k], atI_nat (by rw [List.getElem?_map, List.getElem?_eq_getElem (by omega)]; rfl)⟩
    have qp : ∀ H', Same H1 H' → SqL K H' p1 (ds.map V.int) := fun H' s' => .inl (.inl (s' _ _ e1))
    have hsS : ∀ H', Same H H' → SqL K H' s (ns.map V.int) := fun H' s' => s'.seq hs
    obtain ⟨vl, eT, tV⟩ := id hT
    have lv : vl.length = l.length := tV.1
    have it_ := at_
    obtain ⟨d0, a0⟩ := at_ 0 (by decide)
    obtain ⟨d1, a1⟩ := at_ 1 (by decide)
    refine ⟨9, rfl, by decide, by decide, for_range (lo := 0) (n := (9 : Int).toNat) (fun i σ H' => (∃ y4 y5 y6 y7 y8 y9 y10 y11, σ = [some (.ref s), some (.int n), some (.ref e), some (.ref p1), y4, y5, y6, y7, y8, y9, y10, y11]) ∧ Same H1 H') ⟨⟨_, _, _, _, _, _, _, _, rfl⟩, Same.refl H1⟩ (fun i σ H2 hi pv => ?_) (fun σ H2 pv => ?_)⟩
    · obtain ⟨⟨y4, y5, y6, y7, y8, y9, y10, y11, rfl⟩, s2⟩ := pv
      have i9 : i < 9 := hi
      refine ⟨_, rfl, s, ns, 4, rfl, hsS _ (S1.trans s2), by omega, hn, fun c4 => ?_⟩
      refine ⟨_, rfl, _, rfl, p1, _, 0, _, rfl, rfl, qp _ s2, a0, _, rfl, _, _, rfl, rfl, .inl ⟨by decide, by decide⟩, _, _, rfl, rfl, _, rfl, _, _, rfl, rfl, ⟨by show (0 : Int) < 3; decide, by show (3 : Int) < 1073741824; decide⟩, _, _, rfl, rfl, ?_⟩
      refine ⟨c4, n, _, rfl, n0, n1, fun H3 v s3 bd => ?_⟩
      obtain ⟨dk, ak⟩ := it_ (2 + i) (by omega)
      have ei : (2 : Int) + (0 + (i : Int)) = ((2 + i : Nat) : Int) := by omega
      have ak2 : atI (ds.map V.int) (2 + (0 + (i : Int))) = some (.int dk) := by rw [ei]; exact ak
      have S3 : Same H H3 := (S1.trans s2).trans s3
      have qe : ∀ H', Same H3 H' → SqL K H' e vl := fun H' s' => .inl (.inl (s' _ _ (S3 _ _ eT)))
      obtain ⟨r0, r1⟩ := fmod_in dk (show (0 : Int) < (vl.length : Int) + 1 by omega)
      refine ⟨_, rfl, _, rfl, _, _, rfl, rfl, p1, _, _, _, rfl, rfl, qp _ (s2.trans s3), ak2, .inl ⟨_, rfl, _, rfl, e, vl, rfl, .inl (qe _ (Same.refl H3)), _, _, rfl, rfl, _, _, rfl, rfl, by omega, ?_⟩⟩
      refine ⟨_, rfl, _, rfl, _, rfl, e, vl, rfl, qe _ (Same.refl H3), fun pa na => ?_⟩
      have ga : Same H3 _ := same_upd (o := .lst (cutV vl none (some (dk.fmod ((vl.length : Int) + 1))))) na
      refine ⟨_, rfl, by show 1 ≤ sizeLine; decide, fun pb nb => ⟨pa, pb, _, _, rfl, rfl, same_upd nb _ _ upd_same, upd_same, ?_, fun pc nc => ?_⟩⟩
      · have := cutV_length vl none (some (dk.fmod ((vl.length : Int) + 1)))
        exact Nat.le_of_lt (small1000 (show (cutV vl none (some (dk.fmod ((vl.length : Int) + 1)))).length + 1 ≤ 1000 by omega))
      have gb := ga.trans (same_upd (o := .lst [v]) nb)
      have gc := gb.trans (same_upd (o := .lst (cutV vl none (some (dk.fmod ((vl.length : Int) + 1))) ++ [v])) nc)
      refine ⟨_, rfl, _, rfl, _, rfl, e, vl, rfl, qe _ gc, fun pd nd => ⟨pc, pd, _, _, rfl, rfl, same_upd nd _ _ upd_same, upd_same, ?_, fun pf nf => ?_⟩⟩
      · have := cutV_length vl none (some (dk.fmod ((vl.length : Int) + 1)))
        have := cutV_length vl (some (dk.fmod ((vl.length : Int) + 1))) none
        rw [List.length_append]
        exact Nat.le_of_lt (small1000 (show ((cutV vl none (some (dk.fmod ((vl.length : Int) + 1)))).length + 1) + (cutV vl (some (dk.fmod ((vl.length : Int) + 1))) none).length ≤ 1000 by omega))
      have gd := gc.trans (same_upd (o := .lst (cutV vl (some (dk.fmod ((vl.length : Int) + 1))) none)) nd)
      have gf := gd.trans (same_upd (o := .lst (cutV vl none (some (dk.fmod ((vl.length : Int) + 1))) ++ [v] ++ cutV vl (some (dk.fmod ((vl.length : Int) + 1))) none)) nf)
      have ef := upd_same (H := (upd (upd (upd (upd H3 pa (.lst (cutV vl none (some (dk.fmod ((vl.length : Int) + 1)))))) pb (.lst [v])) pc (.lst (cutV vl none (some (dk.fmod ((vl.length : Int) + 1))) ++ [v]))) pd (.lst (cutV vl (some (dk.fmod ((vl.length : Int) + 1))) none)))) (a := pf) (o := .lst (cutV vl none (some (dk.fmod ((vl.length : Int) + 1))) ++ [v] ++ cutV vl (some (dk.fmod ((vl.length : Int) + 1))) none))
      generalize upd (upd (upd (upd (upd H3 pa (.lst (cutV vl none (some (dk.fmod ((vl.length : Int) + 1)))))) pb (.lst [v])) pc (.lst (cutV vl none (some (dk.fmod ((vl.length : Int) + 1))) ++ [v]))) pd (.lst (cutV vl (some (dk.fmod ((vl.length : Int) + 1))) none))) pf (.lst (cutV vl none (some (dk.fmod ((vl.length : Int) + 1))) ++ [v] ++ cutV vl (some (dk.fmod ((vl.length : Int) + 1))) none)) = Hf at gf ef ⊢
      clear ga gb gc gd
      rw [cut_preI vl r0 (by omega), cut_sufI vl r0 (by omega)] at ef
      have sp := spl_one (tV.same (S3.trans gf)) hv (k := (dk.fmod ((vl.length : Int) + 1)).toNat) (by omega) (bd.same gf).2.2
      have ll : (vl.take (dk.fmod ((vl.length : Int) + 1)).toNat ++ [v] ++ vl.drop (dk.fmod ((vl.length : Int) + 1)).toNat).length ≤ 1000 := by rw [List.length_append, List.length_append, List.length_take, List.length_drop]; show _ + 1 + _ ≤ 1000; omega
      have s1f := (s2.trans s3).trans gf
      refine ⟨_, rfl, p1, _, 1, _, rfl, rfl, qp _ s1f, a1, _, rfl, _, _, rfl, rfl, .inl ⟨_, rfl, _, _, rfl, rfl, by show (0 : Int) < 2; decide, rfl, _, rfl, ite2 (fun e2 => ?_) (fun e2 => ?_)⟩⟩
      · refine ⟨_, rfl, pf, _, rfl, .inl ⟨.inl (.inl ef), fun pt nt => ?_⟩⟩
        have gt := same_upd (o := .tup (vl.take (dk.fmod ((vl.length : Int) + 1)).toNat ++ [v] ++ vl.drop (dk.fmod ((vl.length : Int) + 1)).toNat)) nt
        obtain ⟨g1, g2, ⟨l0, g3, g4, g5⟩, g6⟩ := sp.same gt
        have bdw := bd.same (gf.trans gt)
        refine ⟨_, rfl, _, rfl, _, rfl, n, pt, v, _, l0, rfl, n0, .inr upd_same, ll, g6, by rw [g3]; exact g4, g5, by rw [g3]; exact g2, bdw.1, bdw.2.1, fun H' s' => ?_⟩
        exact ⟨true, rfl, ⟨_, _, _, _, _, _, _, _, rfl⟩, (s1f.trans gt).trans s'⟩
      · obtain ⟨g1, g2, ⟨l0, g3, g4, g5⟩, g6⟩ := sp
        have bdw := bd.same gf
        refine ⟨_, rfl, _, rfl, _, rfl, n, pf, v, _, l0, rfl, n0, .inl ef, ll, g6, by rw [g3]; exact g4, g5, by rw [g3]; exact g2, bdw.1, bdw.2.1, fun H' s' => ?_⟩
        exact ⟨true, rfl, ⟨_, _, _, _, _, _, _, _, rfl⟩, s1f.trans s'⟩
    · obtain ⟨⟨y4, y5, y6, y7, y8, y9, y10, y11, rfl⟩, s2⟩ := pv
      refine ⟨_, rfl, s, ns, 5, rfl, hsS _ (S1.trans s2), by omega, hn, fun c5 => ?_⟩
      refine ⟨_, rfl, _, rfl, p1, _, 0, _, rfl, rfl, qp _ s2, a0, _, rfl, p1, _, 1, _, rfl, rfl, qp _ s2, a1, _, _, rfl, rfl, c5, n, _, rfl, n0, n1, fun H3 v s3 bd => ?_⟩
      obtain ⟨dk, ak⟩ := it_ 11 (by decide)
      have S3 : Same H H3 := (S1.trans s2).trans s3
      have qe : ∀ H', Same H3 H' → SqL K H' e vl := fun H' s' => .inl (.inl (s' _ _ (S3 _ _ eT)))
      obtain ⟨r0, r1⟩ := fmod_in dk (show (0 : Int) < (vl.length : Int) + 1 by omega)
      refine ⟨_, rfl, p1, _, 11, _, rfl, rfl, qp _ (s2.trans s3), ak, .inl ⟨_, rfl, _, rfl, e, vl, rfl, .inl (qe _ (Same.refl H3)), _, _, rfl, rfl, _, _, rfl, rfl, by omega, ?_⟩⟩
      refine ⟨_, rfl, _, rfl, _, rfl, e, vl, rfl, qe _ (Same.refl H3), fun pa na => ?_⟩
      have ga : Same H3 _ := same_upd (o := .lst (cutV vl none (some (dk.fmod ((vl.length : Int) + 1))))) na
      refine ⟨_, rfl, by show 1 ≤ sizeLine; decide, fun pb nb => ⟨pa, pb, _, _, rfl, rfl, same_upd nb _ _ upd_same, upd_same, ?_, fun pc nc => ?_⟩⟩
      · have := cutV_length vl none (some (dk.fmod ((vl.length : Int) + 1)))
        exact Nat.le_of_lt (small1000 (show (cutV vl none (some (dk.fmod ((vl.length : Int) + 1)))).length + 1 ≤ 1000 by omega))
      have gb := ga.trans (same_upd (o := .lst [v]) nb)
      have gc := gb.trans (same_upd (o := .lst (cutV vl none (some (dk.fmod ((vl.length : Int) + 1))) ++ [v])) nc)
      refine ⟨_, rfl, _, rfl, _, rfl, e, vl, rfl, qe _ gc, fun pd nd => ⟨pc, pd, _, _, rfl, rfl, same_upd nd _ _ upd_same, upd_same, ?_, fun pf nf => ?_⟩⟩
      · have := cutV_length vl none (some (dk.fmod ((vl.length : Int) + 1)))
        have := cutV_length vl (some (dk.fmod ((vl.length : Int) + 1))) none
        rw [List.length_append]
        exact Nat.le_of_lt (small1000 (show ((cutV vl none (some (dk.fmod ((vl.length : Int) + 1)))).length + 1) + (cutV vl (some (dk.fmod ((vl.length : Int) + 1))) none).length ≤ 1000 by omega))
      have gd := gc.trans (same_upd (o := .lst (cutV vl (some (dk.fmod ((vl.length : Int) + 1))) none)) nd)
      have gf := gd.trans (same_upd (o := .lst (cutV vl none (some (dk.fmod ((vl.length : Int) + 1))) ++ [v] ++ cutV vl (some (dk.fmod ((vl.length : Int) + 1))) none)) nf)
      have ef := upd_same (H := (upd (upd (upd (upd H3 pa (.lst (cutV vl none (some (dk.fmod ((vl.length : Int) + 1)))))) pb (.lst [v])) pc (.lst (cutV vl none (some (dk.fmod ((vl.length : Int) + 1))) ++ [v]))) pd (.lst (cutV vl (some (dk.fmod ((vl.length : Int) + 1))) none)))) (a := pf) (o := .lst (cutV vl none (some (dk.fmod ((vl.length : Int) + 1))) ++ [v] ++ cutV vl (some (dk.fmod ((vl.length : Int) + 1))) none))
      generalize upd (upd (upd (upd (upd H3 pa (.lst (cutV vl none (some (dk.fmod ((vl.length : Int) + 1)))))) pb (.lst [v])) pc (.lst (cutV vl none (some (dk.fmod ((vl.length : Int) + 1))) ++ [v]))) pd (.lst (cutV vl (some (dk.fmod ((vl.length : Int) + 1))) none))) pf (.lst (cutV vl none (some (dk.fmod ((vl.length : Int) + 1))) ++ [v] ++ cutV vl (some (dk.fmod ((vl.length : Int) + 1))) none)) = Hf at gf ef ⊢
      clear ga gb gc gd
      rw [cut_preI vl r0 (by omega), cut_sufI vl r0 (by omega)] at ef
      have sp := spl_one (tV.same (S3.trans gf)) hv (k := (dk.fmod ((vl.length : Int) + 1)).toNat) (by omega) (bd.same gf).2.2
      have ll : (vl.take (dk.fmod ((vl.length : Int) + 1)).toNat ++ [v] ++ vl.drop (dk.fmod ((vl.length : Int) + 1)).toNat).length ≤ 1000 := by rw [List.length_append, List.length_append, List.length_take, List.length_drop]; show _ + 1 + _ ≤ 1000; omega
      have Sf := S3.trans gf
      refine ⟨_, rfl, _, _, rfl, rfl, _, rfl, s, ns, 6, rfl, hsS _ Sf, by omega, hn, fun c6 => .inl ⟨_, rfl, _, rfl, e, vl, rfl, .inl (qe _ gf), _, rfl, _, _, rfl, rfl, _, _, rfl, rfl, _, _, rfl, rfl, by omega, _, _, rfl, rfl, ?_⟩⟩
      obtain ⟨u0, u1⟩ := fmod_in c6 (show (0 : Int) < (vl.length : Int) - dk.fmod ((vl.length : Int) + 1) + 1 by omega)
      have lz : (vl.take (dk.fmod ((vl.length : Int) + 1)).toNat ++ [v] ++ vl.drop (dk.fmod ((vl.length : Int) + 1)).toNat).length = vl.length + 1 := by
        rw [List.length_append, List.length_append, List.length_take, List.length_drop]
        show _ + 1 + _ = _
        omega
      refine ⟨_, rfl, _, rfl, _, rfl, pf, (vl.take (dk.fmod ((vl.length : Int) + 1)).toNat ++ [v] ++ vl.drop (dk.fmod ((vl.length : Int) + 1)).toNat), rfl, .inl (.inl ef), fun pa na => ?_⟩
      have ga : Same Hf (upd Hf pa (.lst (cutV (vl.take (dk.fmod ((vl.length : Int) + 1)).toNat ++ [v] ++ vl.drop (dk.fmod ((vl.length : Int) + 1)).toNat) none (some (dk.fmod ((vl.length : Int) + 1) + 1 + c6.fmod ((vl.length : Int) - dk.fmod ((vl.length : Int) + 1) + 1)))))) := same_upd na
      refine ⟨_, rfl, s, ns, 7, rfl, hsS _ (Sf.trans ga), by omega, hn, fun c7 => ?_⟩
      refine ⟨_, rfl, _, rfl, s, ns, 7, rfl, hsS _ (Sf.trans ga), by omega, hn, fun c8 => ?_⟩
      refine ⟨c7, n, c8, rfl, n0, n1, fun H5 w5 s5 bw => ?_⟩
      refine ⟨by show 1 ≤ sizeLine; decide, fun pb nb => ⟨pa, pb, _, _, rfl, rfl, same_upd nb _ _ (s5 _ _ upd_same), upd_same, ?_, fun pc nc => ?_⟩⟩
      · have := cutV_length (vl.take (dk.fmod ((vl.length : Int) + 1)).toNat ++ [v] ++ vl.drop (dk.fmod ((vl.length : Int) + 1)).toNat) none (some (dk.fmod ((vl.length : Int) + 1) + 1 + c6.fmod ((vl.length : Int) - dk.fmod ((vl.length : Int) + 1) + 1)))
        exact Nat.le_of_lt (small1000 (show (cutV (vl.take (dk.fmod ((vl.length : Int) + 1)).toNat ++ [v] ++ vl.drop (dk.fmod ((vl.length : Int) + 1)).toNat) none (some (dk.fmod ((vl.length : Int) + 1) + 1 + c6.fmod ((vl.length : Int) - dk.fmod ((vl.length : Int) + 1) + 1)))).length + 1 ≤ 1000 by omega))
      have gb := (ga.trans s5).trans (same_upd (o := .lst [w5]) nb)
      have gc := gb.trans (same_upd (o := .lst (cutV (vl.take (dk.fmod ((vl.length : Int) + 1)).toNat ++ [v] ++ vl.drop (dk.fmod ((vl.length : Int) + 1)).toNat) none (some (dk.fmod ((vl.length : Int) + 1) + 1 + c6.fmod ((vl.length : Int) - dk.fmod ((vl.length : Int) + 1) + 1))) ++ [w5])) nc)
      refine ⟨_, rfl, _, rfl, _, rfl, pf, (vl.take (dk.fmod ((vl.length : Int) + 1)).toNat ++ [v] ++ vl.drop (dk.fmod ((vl.length : Int) + 1)).toNat), rfl, .inl (.inl (gc _ _ ef)), fun pd nd => ⟨pc, pd, _, _, rfl, rfl, same_upd nd _ _ upd_same, upd_same, ?_, fun pw nw => ?_⟩⟩
      · have := cutV_length (vl.take (dk.fmod ((vl.length : Int) + 1)).toNat ++ [v] ++ vl.drop (dk.fmod ((vl.length : Int) + 1)).toNat) none (some (dk.fmod ((vl.length : Int) + 1) + 1 + c6.fmod ((vl.length : Int) - dk.fmod ((vl.length : Int) + 1) + 1)))
        have := cutV_length (vl.take (dk.fmod ((vl.length : Int) + 1)).toNat ++ [v] ++ vl.drop (dk.fmod ((vl.length : Int) + 1)).toNat) (some (dk.fmod ((vl.length : Int) + 1) + 1 + c6.fmod ((vl.length : Int) - dk.fmod ((vl.length : Int) + 1) + 1))) none
        rw [List.length_append]
        exact Nat.le_of_lt (small1000 (show ((cutV (vl.take (dk.fmod ((vl.length : Int) + 1)).toNat ++ [v] ++ vl.drop (dk.fmod ((vl.length : Int) + 1)).toNat) none (some (dk.fmod ((vl.length : Int) + 1) + 1 + c6.fmod ((vl.length : Int) - dk.fmod ((vl.length : Int) + 1) + 1)))).length + 1) + (cutV (vl.take (dk.fmod ((vl.length : Int) + 1)).toNat ++ [v] ++ vl.drop (dk.fmod ((vl.length : Int) + 1)).toNat) (some (dk.fmod ((vl.length : Int) + 1) + 1 + c6.fmod ((vl.length : Int) - dk.fmod ((vl.length : Int) + 1) + 1))) none).length ≤ 1000 by omega))
      have gw := (gc.trans (same_upd (o := .lst (cutV (vl.take (dk.fmod ((vl.length : Int) + 1)).toNat ++ [v] ++ vl.drop (dk.fmod ((vl.length : Int) + 1)).toNat) (some (dk.fmod ((vl.length : Int) + 1) + 1 + c6.fmod ((vl.length : Int) - dk.fmod ((vl.length : Int) + 1) + 1))) none)) nd)).trans (same_upd (o := .lst (cutV (vl.take (dk.fmod ((vl.length : Int) + 1)).toNat ++ [v] ++ vl.drop (dk.fmod ((vl.length : Int) + 1)).toNat) none (some (dk.fmod ((vl.length : Int) + 1) + 1 + c6.fmod ((vl.length : Int) - dk.fmod ((vl.length : Int) + 1) + 1))) ++ [w5] ++ cutV (vl.take (dk.fmod ((vl.length : Int) + 1)).toNat ++ [v] ++ vl.drop (dk.fmod ((vl.length : Int) + 1)).toNat) (some (dk.fmod ((vl.length : Int) + 1) + 1 + c6.fmod ((vl.length : Int) - dk.fmod ((vl.length : Int) + 1) + 1))) none)) nw)
      have ew := upd_same (H := (upd (upd (upd H5 pb (.lst [w5])) pc (.lst (cutV (vl.take (dk.fmod ((vl.length : Int) + 1)).toNat ++ [v] ++ vl.drop (dk.fmod ((vl.length : Int) + 1)).toNat) none (some (dk.fmod ((vl.length : Int) + 1) + 1 + c6.fmod ((vl.length : Int) - dk.fmod ((vl.length : Int) + 1) + 1))) ++ [w5]))) pd (.lst (cutV (vl.take (dk.fmod ((vl.length : Int) + 1)).toNat ++ [v] ++ vl.drop (dk.fmod ((vl.length : Int) + 1)).toNat) (some (dk.fmod ((vl.length : Int) + 1) + 1 + c6.fmod ((vl.length : Int) - dk.fmod ((vl.length : Int) + 1) + 1))) none)))) (a := pw) (o := .lst (cutV (vl.take (dk.fmod ((vl.length : Int) + 1)).toNat ++ [v] ++ vl.drop (dk.fmod ((vl.length : Int) + 1)).toNat) none (some (dk.fmod ((vl.length : Int) + 1) + 1 + c6.fmod ((vl.length : Int) - dk.fmod ((vl.length : Int) + 1) + 1))) ++ [w5] ++ cutV (vl.take (dk.fmod ((vl.length : Int) + 1)).toNat ++ [v] ++ vl.drop (dk.fmod ((vl.length : Int) + 1)).toNat) (some (dk.fmod ((vl.length : Int) + 1) + 1 + c6.fmod ((vl.length : Int) - dk.fmod ((vl.length : Int) + 1) + 1))) none))
      have bw2 := bw.same (((same_upd (o := .lst [w5]) nb).trans (same_upd (o := .lst (cutV (vl.take (dk.fmod ((vl.length : Int) + 1)).toNat ++ [v] ++ vl.drop (dk.fmod ((vl.length : Int) + 1)).toNat) none (some (dk.fmod ((vl.length : Int) + 1) + 1 + c6.fmod ((vl.length : Int) - dk.fmod ((vl.length : Int) + 1) + 1))) ++ [w5])) nc)).trans ((same_upd (o := .lst (cutV (vl.take (dk.fmod ((vl.length : Int) + 1)).toNat ++ [v] ++ vl.drop (dk.fmod ((vl.length : Int) + 1)).toNat) (some (dk.fmod ((vl.length : Int) + 1) + 1 + c6.fmod ((vl.length : Int) - dk.fmod ((vl.length : Int) + 1) + 1))) none)) nd).trans (same_upd (o := .lst (cutV (vl.take (dk.fmod ((vl.length : Int) + 1)).toNat ++ [v] ++ vl.drop (dk.fmod ((vl.length : Int) + 1)).toNat) none (some (dk.fmod ((vl.length : Int) + 1) + 1 + c6.fmod ((vl.length : Int) - dk.fmod ((vl.length : Int) + 1) + 1))) ++ [w5] ++ cutV (vl.take (dk.fmod ((vl.length : Int) + 1)).toNat ++ [v] ++ vl.drop (dk.fmod ((vl.length : Int) + 1)).toNat) (some (dk.fmod ((vl.length : Int) + 1) + 1 + c6.fmod ((vl.length : Int) - dk.fmod ((vl.length : Int) + 1) + 1))) none)) nw)))
      generalize upd (upd (upd (upd H5 pb (.lst [w5])) pc (.lst (cutV (vl.take (dk.fmod ((vl.length : Int) + 1)).toNat ++ [v] ++ vl.drop (dk.fmod ((vl.length : Int) + 1)).toNat) none (some (dk.fmod ((vl.length : Int) + 1) + 1 + c6.fmod ((vl.length : Int) - dk.fmod ((vl.length : Int) + 1) + 1))) ++ [w5]))) pd (.lst (cutV (vl.take (dk.fmod ((vl.length : Int) + 1)).toNat ++ [v] ++ vl.drop (dk.fmod ((vl.length : Int) + 1)).toNat) (some (dk.fmod ((vl.length : Int) + 1) + 1 + c6.fmod ((vl.length : Int) - dk.fmod ((vl.length : Int) + 1) + 1))) none))) pw (.lst (cutV (vl.take (dk.fmod ((vl.length : Int) + 1)).toNat ++ [v] ++ vl.drop (dk.fmod ((vl.length : Int) + 1)).toNat) none (some (dk.fmod ((vl.length : Int) + 1) + 1 + c6.fmod ((vl.length : Int) - dk.fmod ((vl.length : Int) + 1) + 1))) ++ [w5] ++ cutV (vl.take (dk.fmod ((vl.length : Int) + 1)).toNat ++ [v] ++ vl.drop (dk.fmod ((vl.length : Int) + 1)).toNat) (some (dk.fmod ((vl.length : Int) + 1) + 1 + c6.fmod ((vl.length : Int) - dk.fmod ((vl.length : Int) + 1) + 1))) none)) = Hw at gw ew bw2 ⊢
      clear ga gb gc
      rw [cut_preI (vl.take (dk.fmod ((vl.length : Int) + 1)).toNat ++ [v] ++ vl.drop (dk.fmod ((vl.length : Int) + 1)).toNat) (by omega) (by omega), cut_sufI (vl.take (dk.fmod ((vl.length : Int) + 1)).toNat ++ [v] ++ vl.drop (dk.fmod ((vl.length : Int) + 1)).toNat) (by omega) (by omega)] at ew
      have sq := spl_two (sp.same gw) (s := (dk.fmod ((vl.length : Int) + 1) + 1 + c6.fmod ((vl.length : Int) - dk.fmod ((vl.length : Int) + 1) + 1)).toNat) (by omega) bw2.2.2
      obtain ⟨g1, g2, ⟨l0, g3, g4, g5⟩, g6⟩ := sq
      have bdw := bd.same (gf.trans gw)
      refine ⟨_, rfl, _, rfl, _, rfl, n, pw, v, _, l0, rfl, n0, .inl ew, ?_, g6, by rw [g3]; exact g4, g5, by rw [g3]; exact g2, bdw.1, bdw.2.1, fun H7 s7 => ?_⟩
      · rw [List.length_append, List.length_append, List.length_take, List.length_drop, lz]
        show _ + 1 + _ ≤ 1000
        omega
      refine ⟨true, rfl, ?_⟩
      have S7 := (Sf.trans gw).trans s7
      have it7 : ∀ x ∈ (vl.take (dk.fmod ((vl.length : Int) + 1)).toNat ++ [v] ++ vl.drop (dk.fmod ((vl.length : Int) + 1)).toNat), It K H7 x := fun x hx => (sp.2.2.2 x hx).same (gw.trans s7)
      have ef7 := s7 _ _ (gw _ _ ef)
      refine ⟨_, rfl, _, rfl, s, ns, 8, rfl, hsS _ S7, by omega, hn, fun c9 => .inl ⟨_, rfl, _, _, rfl, rfl, ⟨by show (0 : Int) < 7; decide, by show (7 : Int) < 1073741824; decide⟩, _, _, rfl, rfl, by show (0 : Int) < 1000; decide, _, _, rfl, rfl, ?_⟩⟩
      refine ⟨_, rfl, _, rfl, n, rfl, Nat.lt_of_lt_of_le (log_lt (k := 64) (by decide) (by omega)) (by decide), _, rfl, by show 1 ≤ sizeLine; decide, fun pt nt => ⟨_, rfl, by show 1 ≤ sizeLine; decide, fun pl nl => ⟨by show 7 ≤ sizeLine; decide, fun pv np => ?_⟩⟩⟩
      have t1 := same_upd (o := .tup [.int n]) nt
      have t2 := same_upd (o := .lst [.int n]) nl
      have t3 := same_upd (o := .lst [.int (-1 - (c9 / 7) % 1000), .bl true, .bl false, .non, .str (Str.ofString (toString n)), .ref pt, .ref pl]) np
      have S8 := S7.trans ((t1.trans t2).trans t3)
      have S78 := (t1.trans t2).trans t3
      have ept := (t2.trans t3) _ _ (upd_same (H := H7) (a := pt) (o := .tup [.int n]))
      have epl := t3 _ _ (upd_same (H := upd H7 pt (.tup [.int n])) (a := pl) (o := .lst [.int n]))
      have epv := upd_same (H := upd (upd H7 pt (.tup [.int n])) pl (.lst [.int n])) (a := pv) (o := .lst [.int (-1 - (c9 / 7) % 1000), .bl true, .bl false, .non, .str (Str.ofString (toString n)), .ref pt, .ref pl])
      generalize upd (upd (upd H7 pt (.tup [.int n])) pl (.lst [.int n])) pv (.lst [.int (-1 - (c9 / 7) % 1000), .bl true, .bl false, .non, .str (Str.ofString (toString n)), .ref pt, .ref pl]) = H8 at S8 S78 ept epl epv ⊢
      clear t1 t2 t3
      have wlo : Wr K H8 (.int (-1 - (c9 / 7) % 1000)) := wr_kp (.inl ⟨_, rfl, by omega⟩) (kp_int (by omega) (by omega))
      have pick : ∀ c : Int, ∃ v', atI [V.int (-1 - (c9 / 7) % 1000), .bl true, .bl false, .non, .str (Str.ofString (toString n)), .ref pt, .ref pl] (c % 7) = some v' ∧ Wr K H8 v' := fun c => by
        have hd : c % 7 = ((0 : Nat) : Int) ∨ c % 7 = ((1 : Nat) : Int) ∨ c % 7 = ((2 : Nat) : Int) ∨ c % 7 = ((3 : Nat) : Int) ∨ c % 7 = ((4 : Nat) : Int) ∨ c % 7 = ((5 : Nat) : Int) ∨ c % 7 = ((6 : Nat) : Int) := by omega
        rcases hd with z | z | z | z | z | z | z <;> rw [z]
        · exact ⟨_, atI_nat rfl, wlo⟩
        · exact ⟨_, atI_nat rfl, wr_kp (.inr (nw_bl _)) (kp_bl _)⟩
        · exact ⟨_, atI_nat rfl, wr_kp (.inr (nw_bl _)) (kp_bl _)⟩
        · exact ⟨_, atI_nat rfl, wr_kp (.inr nw_non) kp_non⟩
        · exact ⟨_, atI_nat rfl, wr_kp (.inr (nw_str _)) (kp_str (rep_small (by omega) (by omega)))⟩
        · exact ⟨_, atI_nat rfl, wr_kp (.inr (nw_tup ept)) (kp_seq (.inr ept) (by omega) (by omega))⟩
        · exact ⟨_, atI_nat rfl, wr_kp (.inr (nw_lst epl)) (kp_seq (.inl epl) (by omega) (by omega))⟩
      refine ⟨_, rfl, s, ns, 8, rfl, hsS _ S8, by omega, hn, fun c10 => .inl ⟨_, rfl, _, _, rfl, rfl, by show (0 : Int) < 7; decide, ?_⟩⟩
      obtain ⟨v', ev, wr⟩ := pick c10
      refine ⟨pv, _, _, _, rfl, rfl, .inl (.inl epv), ev, ?_⟩
      refine ⟨_, rfl, by show 0 ≤ sizeLine; decide, fun pe npe => ⟨v', pe, [], rfl, .inl upd_same, by decide, (fun x h => nomatch h), (wr.same (same_upd npe)).1, (wr.same (same_upd npe)).2.1, (wr.same (same_upd npe)).2.2, fun H9 s9 => ⟨true, rfl, ?_⟩⟩⟩
      have t9 := (same_upd (o := .lst []) npe).trans s9
      have wr9 := wr.same t9
      refine ⟨_, rfl, _, rfl, v', pf, _, rfl, .inl (t9 _ _ (S78 _ _ ef7)), ll, fun x hx => ((it7 x hx).same S78).same t9, wr9.1, wr9.2.1, wr9.2.2, fun H10 s10 => ⟨true, rfl, ?_⟩⟩
      have wl10 := (wlo.same (t9.trans s10))
      refine ⟨_, rfl, by show 0 ≤ sizeLine; decide, fun pz npz => ⟨_, pz, [], rfl, .inr upd_same, by decide, (fun x h => nomatch h), (wl10.same (same_upd npz)).1, (wl10.same (same_upd npz)).2.1, (wl10.same (same_upd npz)).2.2, fun H11 s11 => q _ ?_⟩⟩
      exact (S8.trans (t9.trans s10)).trans ((same_upd npz).trans s11)
end
end Own

namespace Own
open PySem PySem.Spec PyProof.Rows L2
theorem rep3 {α : Type} (a b c : α) : ∀ (m k : Nat), k < m → ((List.replicate m [a, b, c]).flatten)[3 * k]? = some a ∧ ((List.replicate m [a, b, c]).flatten)[3 * k + 1]? = some b ∧ ((List.replicate m [a, b, c]).flatten)[3 * k + 2]? = some c
  | 0, k, h => absurd h (Nat.not_lt_zero _)
  | m + 1, 0, _ => ⟨rfl, rfl, rfl⟩
  | m + 1, k + 1, h => by
    have := rep3 a b c m k (by omega)
    rw [List.replicate_succ, List.flatten_cons, show 3 * (k + 1) = 3 * k + 3 by omega]
    exact this
theorem rep_map (a b c : Int) : ∀ m : Nat, (List.replicate m [V.int a, .int b, .int c]).flatten = ((List.replicate m [a, b, c]).flatten).map V.int
  | 0 => rfl
  | m + 1 => by
    rw [List.replicate_succ, List.flatten_cons, List.replicate_succ, List.flatten_cons, List.map_append, rep_map a b c m]
    rfl
theorem rep_len {α : Type} (a b c : α) : ∀ m : Nat, ((List.replicate m [a, b, c]).flatten).length = 3 * m
  | 0 => rfl
  | m + 1 => by
    rw [List.replicate_succ, List.flatten_cons, List.length_append, rep_len a b c m]
    show 3 + 3 * m = 3 * (m + 1)
    omega
theorem TripL.add {H1 : Hp} {e p : Addr} {l : List Tr} {t : Tr} {vs : List V} (eH : H1 e = some (.lst vs)) (tV : TrV H1 vs l) (hp : H1 p = some (.tup (tv t))) : TripL (upd H1 e (.lst (vs ++ [.ref p]))) e (l ++ [t]) := by
  have pe : p ≠ e := fun z => by
    rw [z, eH] at hp
    cases hp
  exact ⟨_, upd_same, (tV.sameT (sameT_put eH (Same.refl _))).snoc (by rw [upd_ne pe]; exact hp)⟩
/-- the law's state while the entries are drawn; Hs: the heap before -/
structure WE (K : PySem.W.Frag) (s : Addr) (ns : List Int) (m : Addr) (md : List Int) (e : Addr) (l : List Tr) (n : Int) (Hs H0 : Hp) : Prop where
  hs : SqL K Hs s (ns.map V.int)
  hm : Hs m = some (.lst (md.map V.int))
  ne : Hs e = none
  sm : Same Hs H0
  ht : TripL H0 e l
  v : ∀ t ∈ l, Vld n t
  n0 : 0 ≤ n
  n1 : n ≤ 1000
theorem WE.add {K : PySem.W.Frag} {s : Addr} {ns : List Int} {m : Addr} {md : List Int} {e p : Addr} {l : List Tr} {n : Int} {Hs H0 H1 : Hp} {t : Tr} {vs : List V} (W : WE K s ns m md e l n Hs H0) (s1 : Same H0 H1) (eH : H1 e = some (.lst vs)) (tV : TrV H1 vs l) (hp : H1 p = some (.tup (tv t))) (vt : Vld n t) : WE K s ns m md e (l ++ [t]) n Hs (upd H1 e (.lst (vs ++ [.ref p]))) :=
  ⟨W.hs, W.hm, W.ne, same_put (H1 := Hs) W.ne (W.sm.trans s1), TripL.add eH tV hp, fun u hu => by
    rcases List.mem_append.mp hu with hu | hu
    · exact W.v u hu
    · rw [List.mem_singleton.mp hu]
      exact vt, W.n0, W.n1⟩
theorem oth_in {n a b : Int} (n2 : 2 ≤ n) (a0 : 0 ≤ a) (a1 : a < n) (b0 : 0 ≤ b) (b1 : b < n - 1) : 0 ≤ (a + 1 + b).fmod n ∧ (a + 1 + b).fmod n < n ∧ a ≠ (a + 1 + b).fmod n := by
  have hm := fmod_in (a + 1 + b) (show 0 < n by omega)
  refine ⟨hm.1, hm.2, ?_⟩
  by_cases hx : a + 1 + b < n
  · rw [fmod_lo (by omega) hx]
    omega
  · rw [fmod_hi (by omega) (by omega)]
    omega
section
variable {P : Program} {w : World} {K : PySem.W.Frag} {mg : Str → Option Value} {base : Heap} {C D1 D2 : Addr}
def spLaw (K : PySem.W.Frag) : Sp := fun vs H Q _ => ∃ (s : Addr) (ns : List Int), vs = [.ref s] ∧ SqL K H s (ns.map V.int) ∧ ns.length ≤ 1000 ∧ ∀ H', Q (.bl true) H'
set_option maxHeartbeats 0 in
theorem ok_law {f : Addr} {fd : FuncData} (F : Fun K "law" "law" s_law f fd) (T : Bi mg) (L : LotC K mg C) 
    {f_c : Addr} {d_c : FuncData} (D_c : Df K mg "_law_cell" s__law_cell ["_law_script", "_law_k"] f_c d_c) (G_c : FnOk P w K mg base CX0 1 f_c d_c ["_law_script", "_law_k"] (spCell K)) 
    {f_p : Addr} {d_p : FuncData} (D_p : Df K mg "_law_pins" s__law_pins ["_law_cell_here"] f_p d_p) (G_p : FnOk P w K mg base CX0 2 f_p d_p ["_law_cell_here"] (spPins K)) 
    {f_d : Addr} {d_d : FuncData} (D_d : Df K mg "_law_digits" s__law_digits ["_law_cell_here", "_law_sizes"] f_d d_d) (G_d : FnOk P w K mg base CX0 1 f_d d_d ["_law_cell_here", "_law_sizes"] (spDigs K)) 
    {f_en : Addr} {d_en : FuncData} (D_en : Df K mg "_law_entry" s__law_entry ["_law_cell_here", "_law_rim", "_law_earlier"] f_en d_en) (G_en : FnOk P w K mg base CX0 2 f_en d_en ["_law_cell_here", "_law_rim", "_law_earlier"] (spEnt K)) 
    {f_md : Addr} {d_md : FuncData} (D_md : Df K mg "_law_made" s__law_made ["_law_rim", "_law_entries", "_law_form"] f_md d_md) (G_md : FnOk P w K mg base CX0 8 f_md d_md ["_law_rim", "_law_entries", "_law_form"] spMade) 
    {f_ar : Addr} {d_ar : FuncData} (D_ar : Df K mg "_law_all_refused" s__law_all_refused ["_law_script", "_law_rim", "_law_entries"] f_ar d_ar) (G_ar : FnOk P w K mg base CX0 10 f_ar d_ar ["_law_script", "_law_rim", "_law_entries"] (spAllRef K)) 
    {f_n : Addr} {d_n : FuncData} (D_n : Df K mg "_law_norm" s__law_norm ["_law_triples"] f_n d_n) (G_n : FnOk P w K mg base CX0 1 f_n d_n ["_law_triples"] (spNorm K)) 
    {f_li : Addr} {d_li : FuncData} (D_li : Df K mg "_law_lot_is" s__law_lot_is ["_law_lot", "_law_rim", "_law_held"] f_li d_li) (G_li : FnOk P w K mg base CX0 5 f_li d_li ["_law_lot", "_law_rim", "_law_held"] (spLotIs K C)) 
    {f_i : Addr} {d_i : FuncData} (M : Mk K C f_i) (b_k : KBn K d_i ["self", "pins", "cords"] 1 ["cords", "pins"] (fun us ws => us ++ ws.reverse) (fun vs zs => vs ++ zs.reverse)) (G_i : GIY P w K mg base C D1 D2 f_i d_i) : FnOk P w K mg base CX0 11 f fd ["_law_script"] (spLaw K) := by
  refine F.ok sc_law (fun vs H Q E h => ?_) (fun cdv A outer s H vs Q E hr h => ?_)
  · obtain ⟨s, ns, rfl, _⟩ := h
    rfl
  · obtain ⟨z, ns, rfl, hs, hn, q⟩ := h
    obtain ⟨tE, hE, qE⟩ : ∃ tR, PSs (cxOf CX0 P w K mg base ["_law_script", "_law_rim", "_law_many", "_law_form", "_law_entries", "_law_k", "_law_row", "_law_one"] "law" (defScope s_law) f cdv A outer s H E).nox ((defBody s_law).drop 8) tR ∧ ∀ (n form : Int) (m : Addr) (md : List Int) (e : Addr) (l : List Tr) (Hs H0 : Hp) (y5 y6 y7 : Option V), WE K z ns m md e l n Hs H0 → l.length ≤ 400 → tR { nx := fun _ H' => Q .non H', rt := Q } [some (.ref z), some (.int n), some (.ref m), some (.int form), some (.ref e), y5, y6, y7] H0 := by
      refine ⟨_, (pss_cons (ps_if (PW.pt (pw_or (pt_not (pt_val (pe_call G_md (hr.mono (by decide)) (by rfl) D_md.g D_md.F.kp D_md.b .nil pass0 (pa_cons (pv 1) (pa_cons (pv 4) (pa_cons (pv 3) pa_nil)))))) (pw_or1 (pt_not (pt_val (pe_call G_ar (hr.mono (by decide)) (by rfl) D_ar.g D_ar.F.kp D_ar.b .nil pass0 (pa_cons (pv 0) (pa_cons (pv 1) (pa_cons (pv 4) pa_nil))))))))) (pss_one (ps_ret pe_bl)) pss_nil)
        (pss_one (ps_ret (pe_call G_li (hr.mono (by decide)) (by rfl) D_li.g D_li.F.kp D_li.b .nil pass0 (pa_cons (pe_makeK0 M G_i (hr.mono (by decide)) (by rfl) L.g b_k passN (pk_cons (pv 4) (pk_cons (pv 1) pk_nil))) (pa_cons (pv 1) (pa_cons (pe_call G_n (hr.mono (by decide)) (by rfl) D_n.g D_n.F.kp D_n.b .nil pass0 (pa_cons (pv 4) pa_nil)) pa_nil))))))), ?_⟩
      intro n form m md e l Hs H0 y5 y6 y7 W hl
      have n0 := W.n0
      have n1 := W.n1
      refine ⟨_, rfl, _, rfl, _, rfl, n, e, form, l, rfl, n0, n1, W.ht, hl, W.v, fun H1 s1 => ⟨true, rfl, ?_⟩⟩
      refine ⟨_, rfl, _, rfl, _, rfl, z, ns, n, e, l, rfl, (W.sm.trans s1).seq W.hs, hn, n0, n1, W.ht.same s1, hl, W.v, fun H2 s2 => ⟨true, rfl, ?_⟩⟩
      obtain ⟨vs, eT, tV⟩ := W.ht.same (s1.trans s2)
      refine ⟨_, rfl, _, rfl, rfl, rfl, fun x dx nx nd ne => rd_mk n0 (.inl (.inl (.inl eT))) tV.en W.v (by omega) nx nd ne fun H3 r s3 hL hN => ⟨rfl, ?_⟩⟩
      refine ⟨_, rfl, _, rfl, e, vs, l, rfl, .inl (.inl (.inl (s3 _ _ eT))), tV.same s3, fun t ht => (W.v t ht).2.2.2.2.2, by omega, fun H4 d r2 s4 td hN2 => ?_⟩
      obtain rfl := norm_uniq hN2 hN
      exact ⟨x, n, d, _, rfl, hL.same s4, td, by have := hN2.len; omega, q _⟩
    obtain ⟨tD, hD, qD⟩ : ∃ tR, PSs (cxOf CX0 P w K mg base ["_law_script", "_law_rim", "_law_many", "_law_form", "_law_entries", "_law_k", "_law_row", "_law_one"] "law" (defScope s_law) f cdv A outer s H E).nox ((defBody s_law).drop 7) tR ∧ ∀ (n form : Int) (m : Addr) (md : List Int) (e : Addr) (l : List Tr) (Hs H0 : Hp) (y5 y6 y7 : Option V), WE K z ns m md e l n Hs H0 → l.length ≤ 390 → md.length = 6 → tR { nx := fun _ H' => Q .non H', rt := Q } [some (.ref z), some (.int n), some (.ref m), some (.int form), some (.ref e), y5, y6, y7] H0 := by
      refine ⟨_, (pss_cons (ps_if (PW.pt (pw_and (pt_cmpR op_ge (pv 1) pe_int (nomark _)) (pw_and1 (pt_cmpR op_eq (pe_ix (r := rIxL K) ix_list (pv 2) pe_int (fun _ _ => rfl)) pe_int (nomark _))))) (pss_cons (ps_set (i := 7) sc_law.nd rfl (.inl rfl) (pe_op op_modN (pe_callTy call_int1 (by rfl) T.b_int (by decide +kernel) (pa_cons (pe_ix (r := rIxL K) ix_list (pv 2) pe_int (fun _ _ => rfl)) pa_nil)) (pv 1)))
        (pss_one (ps_expr (pe_bm PySem.F.plainAttrs_list PySem.F.slot_list_append PySem.F.type_list_append mt_append (pv 4) (pa_cons (pe_tup (pa_cons (pv 7) (pa_cons (pe_op op_modN (pe_callTy call_int1 (by rfl) T.b_int (by decide +kernel) (pa_cons (pe_op op_add (pe_op op_add (pv 7) pe_int) (pe_op op_modN (pe_callTy call_int1 (by rfl) T.b_int (by decide +kernel) (pa_cons (pe_ix (r := rIxL K) ix_list (pv 2) pe_int (fun _ _ => rfl)) pa_nil)) (pe_op op_sub (pv 1) pe_int))) pa_nil)) (pv 1)) (pa_cons (pe_op op_pow pe_int pe_int) pa_nil)))) pa_nil))))) pss_nil)
        hE), ?_⟩
      intro n form m md e l Hs H0 y5 y6 y7 W hl lm
      have qm : SqL K H0 m (md.map V.int) := .inl (.inl (W.sm _ _ W.hm))
      have am : ∀ k : Nat, k < 6 → ∃ d, md[k]? = some d ∧ atI (md.map V.int) (k : Int) = some (.int d) := fun k hk => ⟨md[k], List.getElem?_eq_getElem (by omega), atI_nat (by rw [List.getElem?_map, List.getElem?_eq_getElem (by omega)]; rfl)⟩
      obtain ⟨d2, _, a2⟩ := am 2 (by decide)
      obtain ⟨d3, _, a3⟩ := am 3 (by decide)
      obtain ⟨d4, _, a4⟩ := am 4 (by decide)
      refine ⟨_, rfl, n, 2, rfl, rfl, _, rfl, ite2 (fun e1 => ?_) (fun e1 => qE n form m md e l Hs H0 y5 y6 y7 W (by omega))⟩
      have n2 : 2 ≤ n := of_decide_eq_true e1
      refine ⟨_, rfl, m, _, 2, _, rfl, rfl, qm, a2, rfl, _, rfl, ite2 (fun e2 => ?_) (fun e2 => qE n form m md e l Hs H0 y5 y6 y7 W (by omega))⟩
      have hm := fmod_in d3 (show 0 < n by omega)
      have hk := fmod_in d4 (show 0 < n - 1 by omega)
      refine ⟨_, rfl, m, _, 3, _, rfl, rfl, qm, a3, .inl ⟨_, rfl, _, rfl, _, _, rfl, rfl, by omega, ?_⟩⟩
      have ho := oth_in n2 hm.1 hm.2 hk.1 hk.2
      obtain ⟨vs, eT, tV⟩ := id W.ht
      refine ⟨_, rfl, .inl ⟨rfl, _, .inl (.inl eT)⟩, _, rfl, _, rfl, _, _, rfl, rfl, _, rfl, m, _, 4, _, rfl, rfl, qm, a4, .inl ⟨_, rfl, _, rfl, n, 1, rfl, rfl, _, _, rfl, rfl, by omega, _, _, rfl, rfl, .inl ⟨_, rfl, _, rfl, _, _, rfl, rfl, by omega, ?_⟩⟩⟩
      refine ⟨_, _, rfl, rfl, ⟨by decide, by decide, by decide⟩, by show 3 ≤ sizeLine; decide, fun p np => ⟨e, vs, _, rfl, rfl, same_upd np _ _ eT, by rw [tV.1]; exact small1000 (by omega), ?_⟩⟩
      refine qE n form m md e (l ++ [(d3.fmod n, (d3.fmod n + 1 + d4.fmod (n - 1)).fmod n, 10 ^ Int.toNat 9)]) Hs _ y5 y6 _ ?_ ?_
      · exact W.add (same_upd np) (same_upd np _ _ eT) (tV.same (same_upd np)) upd_same ⟨hm.1, hm.2, ho.1, ho.2.1, ho.2.2, by show (1 : Int) ≤ 10 ^ Int.toNat 9; decide⟩
      · rw [List.length_append]
        show _ + 1 ≤ 400
        omega
    obtain ⟨tC, hC, qC⟩ : ∃ tR, PSs (cxOf CX0 P w K mg base ["_law_script", "_law_rim", "_law_many", "_law_form", "_law_entries", "_law_k", "_law_row", "_law_one"] "law" (defScope s_law) f cdv A outer s H E).nox ((defBody s_law).drop 6) tR ∧ ∀ (n form : Int) (m : Addr) (md : List Int) (e : Addr) (l : List Tr) (Hs H0 : Hp) (y5 y6 y7 : Option V), WE K z ns m md e l n Hs H0 → l.length ≤ 100 → md.length = 6 → tR { nx := fun _ H' => Q .non H', rt := Q } [some (.ref z), some (.int n), some (.ref m), some (.int form), some (.ref e), y5, y6, y7] H0 := by
      refine ⟨_, (pss_cons (ps_if (PW.pt (pw_and (pt_cmpR op_ge (pv 1) pe_int (nomark _)) (pw_and1 (pt_cmpR op_eq (pe_ix (r := rIxL K) ix_list (pv 2) pe_int (fun _ _ => rfl)) pe_int (nomark _))))) (pss_cons (ps_set (i := 6) sc_law.nd rfl (.inl rfl) (pe_call G_d (hr.mono (by decide)) (by rfl) D_d.g D_d.F.kp D_d.b .nil pass0 (pa_cons (pe_call G_c (hr.mono (by decide)) (by rfl) D_c.g D_c.F.kp D_c.b .nil pass0 (pa_cons (pv 0) (pa_cons pe_int pa_nil))) (pa_cons (pe_op op_rep (pe_lst (pa_cons (pv 1) (pa_cons (pe_op op_sub (pv 1) pe_int) (pa_cons pe_int pa_nil)))) pe_int) pa_nil))))
        (pss_one (ps_for PassesOwn.never rfl (pi_range1 (by rfl) T.b_range (pa_cons pe_int pa_nil)) (pg_name (i := 5) sc_law.nd rfl (.inl rfl))
        (pss_one (ps_expr (pe_bm PySem.F.plainAttrs_list PySem.F.slot_list_append PySem.F.type_list_append mt_append (pv 4) (pa_cons (pe_tup (pa_cons (pe_ix (r := rIxL K) ix_list (pv 6) (pe_op op_mul pe_int (pv 5)) (fun _ _ => rfl)) (pa_cons (pe_op op_modN (pe_callTy call_int1 (by rfl) T.b_int (by decide +kernel) (pa_cons (pe_op op_add (pe_op op_add (pe_ix (r := rIxL K) ix_list (pv 6) (pe_op op_mul pe_int (pv 5)) (fun _ _ => rfl)) pe_int) (pe_ix (r := rIxL K) ix_list (pv 6) (pe_op op_add (pe_op op_mul pe_int (pv 5)) pe_int) (fun _ _ => rfl))) pa_nil)) (pv 1)) (pa_cons (pe_op op_add pe_int (pe_ix (r := rIxL K) ix_list (pv 6) (pe_op op_add (pe_op op_mul pe_int (pv 5)) pe_int) (fun _ _ => rfl))) pa_nil)))) pa_nil))))))) pss_nil)
        hD), ?_⟩
      intro n form m md e l Hs H0 y5 y6 y7 W hl lm
      have qm : SqL K H0 m (md.map V.int) := .inl (.inl (W.sm _ _ W.hm))
      have am : ∀ k : Nat, k < 6 → ∃ d, md[k]? = some d ∧ atI (md.map V.int) (k : Int) = some (.int d) := fun k hk => ⟨md[k], List.getElem?_eq_getElem (by omega), atI_nat (by rw [List.getElem?_map, List.getElem?_eq_getElem (by omega)]; rfl)⟩
      obtain ⟨d1, _, a1⟩ := am 1 (by decide)
      refine ⟨_, rfl, n, 2, rfl, rfl, _, rfl, ite2 (fun e1 => ?_) (fun e1 => qD n form m md e l Hs H0 y5 y6 y7 W (by omega) lm)⟩
      have n2 : 2 ≤ n := of_decide_eq_true e1
      have n1 := W.n1
      refine ⟨_, rfl, m, _, 1, _, rfl, rfl, qm, a1, rfl, _, rfl, ite2 (fun e2 => ?_) (fun e2 => qD n form m md e l Hs H0 y5 y6 y7 W (by omega) lm)⟩
      refine ⟨_, rfl, z, ns, 21, rfl, W.sm.seq W.hs, by omega, hn, fun c => ?_⟩
      refine ⟨_, rfl, _, rfl, n, 1, rfl, rfl, by show 3 ≤ sizeLine; decide, fun b nb => ⟨b, 40, _, rfl, rfl, upd_same, by decide, by decide, by show 3 * 40 ≤ sizeLine; decide, fun b2 nb2 => ?_⟩⟩
      have eb2 : (upd (upd H0 b (.lst [.int n, .int (n - 1), .int 1000])) b2 (.lst (List.replicate (Int.toNat 40) [V.int n, .int (n - 1), .int 1000]).flatten)) b2 = some (.lst (((List.replicate 40 [n, n - 1, 1000]).flatten).map V.int)) := by
        rw [upd_same, show Int.toNat 40 = 40 from rfl, rep_map]
      refine ⟨c, b2, (List.replicate 40 [n, n - 1, 1000]).flatten, rfl, .inl (.inl eb2), by rw [rep_len]; decide, fun x hx => ?_, fun H1 p1 ds s1 np1 ep1 dg => ?_⟩
      · obtain ⟨y, hy, hx⟩ := List.mem_flatten.mp hx
        rw [List.eq_of_mem_replicate hy] at hx
        simp only [List.mem_cons, List.not_mem_nil, or_false] at hx
        omega
      have s01 := ((same_upd (o := .lst [.int n, .int (n - 1), .int 1000]) nb).trans (same_upd (o := .lst (List.replicate (Int.toNat 40) [V.int n, .int (n - 1), .int 1000]).flatten) nb2)).trans s1
      have lds : ds.length = 120 := by rw [dg.1, rep_len]
      have W1 : WE K z ns m md e l n Hs H1 := ⟨W.hs, W.hm, W.ne, W.sm.trans s01, W.ht.same s01, W.v, W.n0, W.n1⟩
      clear s01 eb2 nb nb2 s1
      obtain ⟨vs0, eT0, _⟩ := id W1.ht
      have p1e : p1 ≠ e := fun h => by
        rw [h, eT0] at ep1
        have := Option.some.inj ep1
        cases this
        have h1 := W1.ht
        obtain ⟨vs, eT, tV⟩ := h1
        rw [eT0] at eT
        cases eT
        have hl0 : 0 < l.length := by
          rw [← tV.1, List.length_map, lds]
          decide
        obtain ⟨b, eb, _⟩ := tV.2 0 _ (List.getElem?_eq_getElem hl0)
        rw [List.getElem?_map] at eb
        cases hd : ds[0]? with
        | none => rw [hd] at eb; cases eb
        | some d => rw [hd] at eb; cases eb
      refine ⟨40, rfl, by decide, by decide, for_range (lo := 0) (n := (40 : Int).toNat) (fun i σ H' => (∃ y5, σ = [some (.ref z), some (.int n), some (.ref m), some (.int form), some (.ref e), y5, some (.ref p1), y7]) ∧ H' p1 = some (.lst (ds.map V.int)) ∧ ∃ l', l'.length ≤ l.length + i ∧ WE K z ns m md e l' n Hs H') ⟨⟨_, rfl⟩, ep1, l, Nat.le_refl _, W1⟩ (fun i σ H' hi pv => ?_) (fun σ H' pv => ?_)⟩
      · obtain ⟨⟨y5, rfl⟩, ep, l', hl', W'⟩ := pv
        have i40 : i < 40 := hi
        obtain ⟨r1, r2, r3⟩ := rep3 n (n - 1) 1000 40 i i40
        have da : ∀ k : Nat, k < 120 → ∃ d, ds[k]? = some d ∧ atI (ds.map V.int) (k : Int) = some (.int d) := fun k hk => ⟨ds[k], List.getElem?_eq_getElem (by omega), atI_nat (by rw [List.getElem?_map, List.getElem?_eq_getElem (by omega)]; rfl)⟩
        obtain ⟨u, hu, au⟩ := da (3 * i) (by omega)
        obtain ⟨v, hv, av⟩ := da (3 * i + 1) (by omega)
        obtain ⟨x, hx, ax⟩ := da (3 * i + 2) (by omega)
        have bu := dg.2 _ _ _ hu r1
        have bv := dg.2 _ _ _ hv r2
        have bx := dg.2 _ _ _ hx r3
        have ho := oth_in n2 bu.1 bu.2 bv.1 bv.2
        have au' : atI (ds.map V.int) (3 * (0 + (i : Int))) = some (.int u) := by rw [show 3 * (0 + (i : Int)) = ((3 * i : Nat) : Int) by omega]; exact au
        have av' : atI (ds.map V.int) (3 * (0 + (i : Int)) + 1) = some (.int v) := by rw [show 3 * (0 + (i : Int)) + 1 = ((3 * i + 1 : Nat) : Int) by omega]; exact av
        have ax' : atI (ds.map V.int) (3 * (0 + (i : Int)) + 2) = some (.int x) := by rw [show 3 * (0 + (i : Int)) + 2 = ((3 * i + 2 : Nat) : Int) by omega]; exact ax
        have qd : SqL K H' p1 (ds.map V.int) := .inl (.inl ep)
        obtain ⟨vs, eT, tV⟩ := id W'.ht
        refine ⟨_, rfl, .inl ⟨rfl, _, .inl (.inl eT)⟩, _, rfl, _, rfl, _, _, rfl, rfl, .inl ⟨by decide, by decide⟩, p1, _, _, _, rfl, rfl, qd, au', ?_⟩
        refine ⟨_, rfl, _, rfl, _, _, rfl, rfl, .inl ⟨by decide, by decide⟩, p1, _, _, _, rfl, rfl, qd, au', _, _, rfl, rfl, _, rfl, _, rfl, _, _, rfl, rfl, .inl ⟨by decide, by decide⟩, _, _, rfl, rfl, p1, _, _, _, rfl, rfl, qd, av', _, _, rfl, rfl, .inl ⟨_, rfl, _, rfl, _, _, rfl, rfl, by omega, ?_⟩⟩
        refine ⟨_, rfl, _, rfl, _, _, rfl, rfl, .inl ⟨by decide, by decide⟩, _, _, rfl, rfl, p1, _, _, _, rfl, rfl, qd, ax', _, _, rfl, rfl, by show 3 ≤ sizeLine; decide, fun p np => ⟨e, vs, _, rfl, rfl, same_upd np _ _ eT, by rw [tV.1]; exact small1000 (by omega), ?_⟩⟩
        refine ⟨⟨_, rfl⟩, ?_, l' ++ [(u, (u + 1 + v).fmod n, 1 + x)], ?_, ?_⟩
        · rw [upd_ne p1e]
          exact same_upd np _ _ ep
        · rw [List.length_append]
          show _ + 1 ≤ _
          omega
        · exact W'.add (same_upd np) (same_upd np _ _ eT) (tV.same (same_upd np)) upd_same ⟨bu.1, bu.2, ho.1, ho.2.1, ho.2.2, by show (1 : Int) ≤ 1 + x; omega⟩
      · obtain ⟨⟨y5, rfl⟩, ep, l', hl', W'⟩ := pv
        exact qD n form m md e l' Hs H' y5 _ y7 W' (by have : (40 : Int).toNat = 40 := rfl; omega) lm
    obtain ⟨tB, hB, qB⟩ : ∃ tR, PSs (cxOf CX0 P w K mg base ["_law_script", "_law_rim", "_law_many", "_law_form", "_law_entries", "_law_k", "_law_row", "_law_one"] "law" (defScope s_law) f cdv A outer s H E).nox ((defBody s_law).drop 4) tR ∧ ∀ (n form : Int) (m : Addr) (md : List Int) (Hs : Hp), SqL K Hs z (ns.map V.int) → Hs m = some (.lst (md.map V.int)) → (md.length = 6 ∧ ∃ d, md[0]? = some d ∧ 0 ≤ d ∧ d < 13) → 0 ≤ n → n ≤ 1000 → tR { nx := fun _ H' => Q .non H', rt := Q } [some (.ref z), some (.int n), some (.ref m), some (.int form), none, none, none, none] Hs := by
      refine ⟨_, (pss_cons (ps_set (i := 4) sc_law.nd rfl (.inl rfl) (pe_lst pa_nil))
        (pss_cons (ps_for PassesOwn.never rfl (pi_range1 (by rfl) T.b_range (pa_cons (pe_ix (r := rIxL K) ix_list (pv 2) pe_int (fun _ _ => rfl)) pa_nil)) (pg_name (i := 5) sc_law.nd rfl (.inl rfl))
        (pss_one (ps_if (pt_cmpR op_ge (pv 1) pe_int (nomark _)) (pss_one (ps_expr (pe_bm PySem.F.plainAttrs_list PySem.F.slot_list_append PySem.F.type_list_append mt_append (pv 4) (pa_cons (pe_call G_en (hr.mono (by decide)) (by rfl) D_en.g D_en.F.kp D_en.b .nil pass0 (pa_cons (pe_call G_c (hr.mono (by decide)) (by rfl) D_c.g D_c.F.kp D_c.b .nil pass0 (pa_cons (pv 0) (pa_cons (pe_op op_add pe_int (pv 5)) pa_nil))) (pa_cons (pv 1) (pa_cons (pv 4) pa_nil)))) pa_nil)))) pss_nil)))
        hC)), ?_⟩
      intro n form m md Hs W hm md0 n0 n1
      refine ⟨by show 0 ≤ sizeLine; decide, fun e he => ?_⟩
      have W0 : WE K z ns m md e [] n Hs (upd Hs e (.lst [])) := ⟨W, hm, he, same_upd he, ⟨[], upd_same, TrV.nil⟩, (fun t ht => nomatch ht), n0, n1⟩
      obtain ⟨d0, hd0, b0, b1⟩ : ∃ d0, atI (md.map V.int) 0 = some (.int d0) ∧ 0 ≤ d0 ∧ d0 < 13 := by
        obtain ⟨d, hd, h⟩ := md0.2
        exact ⟨d, atI_nat (j := 0) (by rw [List.getElem?_map, hd]; rfl), h⟩
      refine ⟨_, rfl, m, _, 0, _, rfl, rfl, .inl (.inl (same_upd he _ _ hm)), hd0, ?_⟩
      refine ⟨d0, rfl, by omega, by omega, for_range (lo := 0) (n := d0.toNat) (fun i σ H' => (∃ y5, σ = [some (.ref z), some (.int n), some (.ref m), some (.int form), some (.ref e), y5, none, none]) ∧ ∃ l', l'.length ≤ i ∧ WE K z ns m md e l' n Hs H') ⟨⟨_, rfl⟩, [], Nat.le_refl _, W0⟩ (fun i σ H' hi pv => ?_) (fun σ H' pv => ?_)⟩
      · obtain ⟨⟨y5, rfl⟩, l', hl', W'⟩ := pv
        obtain ⟨vs, eT, tV⟩ := id W'.ht
        refine ⟨_, rfl, n, 2, rfl, rfl, _, rfl, ite2 (fun e1 => ?_) (fun e1 => ⟨⟨_, rfl⟩, l', by omega, W'⟩)⟩
        have n2 : 2 ≤ n := of_decide_eq_true e1
        refine ⟨_, rfl, .inl ⟨rfl, _, .inl (.inl eT)⟩, _, rfl, _, rfl, _, _, rfl, rfl, z, ns, 9 + i, ?_, W'.sm.seq W'.hs, by omega, hn, fun c => ?_⟩
        · show [V.ref z, V.int (9 + (0 + (i : Int)))] = _
          rw [show (9 : Int) + (0 + (i : Int)) = ((9 + i : Nat) : Int) by omega]
        refine ⟨_, rfl, _, rfl, c, n, e, l', rfl, n2, n1, W'.ht, by omega, W'.v, fun H1 p t s1 np hp vt => ?_⟩
        refine ⟨e, vs, _, rfl, rfl, s1 _ _ eT, by rw [tV.1]; exact small1000 (by omega), ⟨_, rfl⟩, l' ++ [t], ?_, W'.add s1 (s1 _ _ eT) (tV.same s1) hp vt⟩
        rw [List.length_append]
        show _ + 1 ≤ _
        omega
      · obtain ⟨⟨y5, rfl⟩, l', hl', W'⟩ := pv
        exact qC n form m md e l' Hs H' y5 none none W' (by omega) md0.1
    refine ⟨_, (pss_cons (ps_set (i := 1) sc_law.nd rfl (.inl rfl) (pe_call G_p (hr.mono (by decide)) (by rfl) D_p.g D_p.F.kp D_p.b .nil pass0 (pa_cons (pe_call G_c (hr.mono (by decide)) (by rfl) D_c.g D_c.F.kp D_c.b .nil pass0 (pa_cons (pv 0) (pa_cons pe_int pa_nil))) pa_nil)))
        (pss_cons (ps_set (i := 2) sc_law.nd rfl (.inl rfl) (pe_call G_d (hr.mono (by decide)) (by rfl) D_d.g D_d.F.kp D_d.b .nil pass0 (pa_cons (pe_call G_c (hr.mono (by decide)) (by rfl) D_c.g D_c.F.kp D_c.b .nil pass0 (pa_cons (pv 0) (pa_cons pe_int pa_nil))) (pa_cons (pe_lst (pa_cons pe_int (pa_cons pe_int (pa_cons pe_int (pa_cons pe_int (pa_cons pe_int (pa_cons pe_int pa_nil))))))) pa_nil))))
        (pss_cons (ps_set (i := 3) sc_law.nd rfl (.inl rfl) (pe_op op_mod (pe_callTy call_int1 (by rfl) T.b_int (by decide +kernel) (pa_cons (pe_call G_c (hr.mono (by decide)) (by rfl) D_c.g D_c.F.kp D_c.b .nil pass0 (pa_cons (pv 0) (pa_cons pe_int pa_nil))) pa_nil)) pe_int))
        (pss_cons (ps_if (PW.pt (pw_and (pt_cmpR op_ge (pv 1) pe_int (nomark _)) (pw_and1 (pt_cmpR op_eq (pe_ix (r := rIxL K) ix_list (pv 2) pe_int (fun _ _ => rfl)) pe_int (nomark _))))) (pss_one (ps_set (i := 1) sc_law.nd rfl (.inl rfl) (pe_callB (call_max2 rfl) (by rfl) T.b_max (by decide +kernel) (pa_cons (pv 1) (pa_cons (pe_op op_add pe_int (pe_ix (r := rIxL K) ix_list (pv 2) pe_int (fun _ _ => rfl))) pa_nil))))) pss_nil)
        hB)))), ?_⟩
    refine ⟨_, rfl, z, ns, 0, rfl, hs, by decide, hn, fun c0 => ⟨c0, rfl, fun H1 n s1 n0 n40 => ?_⟩⟩
    have hs1 := s1.seq hs
    refine ⟨_, rfl, z, ns, 1, rfl, hs1, by decide, hn, fun c1 => ⟨by show 6 ≤ sizeLine; decide, fun b nb => ⟨c1, b, [13, 6, 4, 40, 39, 32], rfl, .inl (.inl upd_same), by show 6 ≤ 1000; decide, fun x hx => ?_, fun H2 m md s2 np ep dg => ?_⟩⟩⟩
    · simp only [List.mem_cons, List.not_mem_nil, or_false] at hx
      omega
    have hs2 := ((same_upd (o := .lst [.int 13, .int 6, .int 4, .int 40, .int 39, .int 32]) nb).trans s2).seq hs1
    obtain ⟨d0, d1, d2, d3, d4, d5, rfl, h0, h1, h2, h3, h4, h5⟩ := digs6 dg
    have qm : SqL K H2 m [.int d0, .int d1, .int d2, .int d3, .int d4, .int d5] := .inl (.inl ep)
    have b0 : ([d0, d1, d2, d3, d4, d5] : List Int).length = 6 ∧ ∃ d, [d0, d1, d2, d3, d4, d5][0]? = some d ∧ 0 ≤ d ∧ d < 13 := ⟨rfl, d0, rfl, h0.1, h0.2⟩
    refine ⟨_, rfl, z, ns, 2, rfl, hs2, by decide, hn, fun c2 => .inl ⟨_, rfl, _, _, rfl, rfl, by show (0 : Int) < 8; decide, ?_⟩⟩
    refine ⟨_, rfl, n, 2, rfl, rfl, _, rfl, ite2 (fun e1 => ?_) (fun e1 => qB n _ m _ H2 hs2 ep b0 n0 (by omega))⟩
    refine ⟨_, rfl, m, _, 1, _, rfl, rfl, qm, atI_nat (j := 1) rfl, rfl, _, rfl, ite2 (fun e2 => ?_) (fun e2 => qB n _ m _ H2 hs2 ep b0 n0 (by omega))⟩
    refine ⟨_, rfl, _, rfl, m, _, 5, _, rfl, rfl, qm, atI_nat (j := 5) rfl, _, _, rfl, rfl, n, _, rfl, ?_⟩
    have hh := lo_hi n (9 + d5)
    exact qB (hi n (9 + d5)) _ m _ H2 hs2 ep b0 (by omega) (by omega)
end
end Own

namespace Own
open PySem PySem.Spec PyProof.Rows L2
/-! ### an own error's class and its base -/
theorem sup_of {K : PySem.W.Frag} {D R N M : Addr} {n1 n2 n3 n4 : Str} {b1 b2 s1 s2 bm : List Value} {h1 h2 a1 a2 : Bool} {l1 l2 : List Str} {c1 c2 : Option Bool} {d1 d2 : Option Addr} {k0 k1 k2 k3 k5 j0 j1 j2 j3 j5 : Option Value} {i1 i2 : String} {v : Option Value}
    (lD : K.lookup D = some (excClassObj n1 n2 D N b1 (.ref R :: bm) h1 l1 s1 a1 c1 d1 k0 k1 k2 k3 k5 i1)) (lR : K.lookup R = some (excClassObj n3 n4 R M b2 bm h2 l2 s2 a2 c2 d2 j0 j1 j2 j3 j5 i2)) (iR : PySem.W.findIn K (.ref R) "__init__" = some v) : PySem.W.ks_superIn K D D "__init__" = some v := by
  have iR : (match K.lookup R with
      | some ⟨_, _, .cls cd, _⟩ => PySem.W.alongIn K "__init__" cd.mro
      | _ => none) = some v := iR
  rw [lR] at iR
  unfold PySem.W.ks_superIn PySem.W.clsIn
  rw [lD]
  have e : ((Value.ref D :: .ref R :: bm).dropWhile (· != .ref D)).drop 1 = .ref R :: bm := by simp [List.dropWhile]
  show PySem.W.alongIn K "__init__" (((Value.ref D :: .ref R :: bm).dropWhile (· != .ref D)).drop 1) = some v
  rw [e]
  exact iR
theorem kit_ref {K : PySem.W.Frag} {D c : Addr} {b : Bool} (hd : PySem.W.subIn K (.ref D) (.ref D) = some true) (h1 : PySem.W.isClsIn K c = true) (h2 : PySem.W.typeIn K (.ref c) = some (.type "type")) (h3 : PySem.W.subIn K (.ref D) (.ref c) = some b) : PySem.W.kitOne K (.ref D) (.ref c) = some b := by
  unfold PySem.W.kitOne
  by_cases h : (Value.ref D == Value.ref c) = true
  · rw [if_pos h]
    have e : D = c := Value.ref.inj (beq_iff_eq.mp h)
    subst e
    exact hd.symm.trans h3
  · rw [if_neg h]
    show (if ((PySem.W.clsIn K c).isSome && PySem.W.typeIn K (.ref c) == some (.type "type")) = true then PySem.W.subIn K (.ref D) (.ref c) else none) = some b
    have e : ((PySem.W.clsIn K c).isSome && PySem.W.typeIn K (.ref c) == some (.type "type")) = true := by
      have h1 : (PySem.W.clsIn K c).isSome = true := h1
      rw [h1, h2]
      rfl
    rw [if_pos e]
    exact h3
theorem kit_ve {K : PySem.W.Frag} {D : Addr} {b : Bool} (h : PySem.W.subIn K (.ref D) (.type "ValueError") = some b) : PySem.W.kitOne K (.ref D) (.type "ValueError") = some b := by
  unfold PySem.W.kitOne
  rw [if_neg fun z : (Value.ref D == Value.type "ValueError") = true => by cases beq_iff_eq.mp z]
  show (if PySem.W.kitMeta "ValueError" = true then PySem.W.subIn K (.ref D) (.type "ValueError") else none) = some b
  rw [if_pos (by decide +kernel)]
  exact h
def cOf (a b c d e f g h i j : Addr) : String → Addr := fun n => if n = "BadPins" then a else if n = "BadPin" then b else if n = "BadNumber" then c else if n = "BadGap" then d else if n = "NotPart" then e else if n = "UnlikePins" then f else if n = "BadTable" then g else if n = "NoLot" then h else if n = "BadCord" then i else j
theorem cOf0 {a b c d e f g h i j : Addr} : cOf a b c d e f g h i j "BadPins" = a := by simp [cOf]
theorem cOf1 {a b c d e f g h i j : Addr} : cOf a b c d e f g h i j "BadPin" = b := by simp [cOf]
theorem cOf2 {a b c d e f g h i j : Addr} : cOf a b c d e f g h i j "BadNumber" = c := by simp [cOf]
theorem cOf3 {a b c d e f g h i j : Addr} : cOf a b c d e f g h i j "BadGap" = d := by simp [cOf]
theorem cOf4 {a b c d e f g h i j : Addr} : cOf a b c d e f g h i j "NotPart" = e := by simp [cOf]
theorem cOf5 {a b c d e f g h i j : Addr} : cOf a b c d e f g h i j "UnlikePins" = f := by simp [cOf]
theorem cOf6 {a b c d e f g h i j : Addr} : cOf a b c d e f g h i j "BadTable" = g := by simp [cOf]
theorem cOf7 {a b c d e f g h i j : Addr} : cOf a b c d e f g h i j "NoLot" = h := by simp [cOf]
theorem cOf8 {a b c d e f g h i j : Addr} : cOf a b c d e f g h i j "BadCord" = i := by simp [cOf]
theorem cOf9 {a b c d e f g h i j : Addr} : cOf a b c d e f g h i j "RimError" = j := by simp [cOf]
theorem vals_rev : ∀ {vs : List V} {us : List Value}, Vals vs us → Vals vs.reverse us.reverse
  | [], _, h => by
    cases h
    exact .nil
  | v :: vs, _, h => by
    cases h with
    | cons r t =>
      rw [List.reverse_cons, List.reverse_cons]
      exact (vals_rev t).append (.cons r .nil)
/-! ### what the top has left -/
theorem df_mk {K : PySem.W.Frag} {mg : Str → Option Value} {x : Str} {st : Stmt} {ps : List Str} {h : Heap} {f : Addr} {oc : Value} {od an : Option Addr} {osl : Array (Option Value)} {kV doc pm cdv ct : Value} (X : K.In h) (G : h.Ns mainGlobals mg)
    (a : PySem.W.nsIn K mainGlobals x = some (some (.ref f))) (l : K.lookup f = some ⟨oc, od, .func (PySem.W.fnOf x x (defArgs st) (defBody st) (defScope st) .none kV doc pm an cdv ct), osl⟩) (c : PySem.W.codeIn K cdv x = true) (k : PySem.W.keepIn K (.ref f) = true)
    (b : ∀ (kV doc pm : Value) (an : Option Addr) (cdv ct : Value) (us : List Value), us.length = ps.length → bindArgs (PySem.W.fnOf x x (defArgs st) (defBody st) (defScope st) .none kV doc pm an cdv ct) ⟨us, []⟩ = pure (ps.zip us)) :
    Df K mg x st ps f (PySem.W.fnOf x x (defArgs st) (defBody st) (defScope st) .none kV doc pm an cdv ct) :=
  ⟨fun_mk l c k, PySem.W.mg_of X G a, (fun_mk l c k).binds b⟩
set_option maxHeartbeats 0 in
theorem all_mk {lw : PySem.W.OpenLaw} {w : World} {K : PySem.W.Frag} {h : Heap} {mg : Str → Option Value} {fa C p_table z T_d f1 f2 f3 f4 f5 f6 f7 f8 f9 f10 f11 f12 f13 f14 f15 f16 f17 f18 f19 f20 f21 f22 f23 f24 f25 f26 f27 f28 f29 f30 f31 f32 f33 f34 f35 DU ccU cdaU fuU NU DN ccN cdaN fuN NN c_bp c_bn c_bg c_np c_ul c_bt c_nl c_re NR : Addr} {nmR qR : Str} {niR : String} {bsR subR : List Value} {snR : List Str} {abR hdR : Bool} {colR : Option Bool} {ddR : Option Addr} {m0r m1r m2r m3r m5r : Option Value} {nmU qU fileU : Str} {bsU subU : List Value} {snU : List Str} {abU : Bool} {colU : Option Bool} {ddU odU anU cldU cddU : Option Addr} {m0U m1U m2U m3U m5U : Option Value} {ocU kVU dcU pmU ctU clU cclU : Value} {slU cslU ccsU : Array (Option Value)} {vsU : Array Value} {tfU : Tok} {nmN qN fileN : Str} {bsN subN : List Value} {snN : List Str} {abN : Bool} {colN : Option Bool} {ddN odN anN cldN cddN : Option Addr} {m0N m1N m2N m3N m5N : Option Value} {ocN kVN dcN pmN ctN clN cclN : Value} {slN cslN ccsN : Array (Option Value)} {vsN : Array Value} {tfN : Tok} (X : K.In h) (G : h.Ns mainGlobals mg) (hfa : mg "law" = some (.ref fa))
    {odT odz od1 an1 od2 an2 od3 an3 od4 an4 od5 an5 od6 an6 od7 an7 od8 an8 od9 an9 od10 an10 od11 an11 od12 an12 od13 an13 od14 an14 od15 an15 od16 an16 od17 an17 od18 an18 od19 an19 od20 an20 od21 an21 od22 an22 od23 an23 od24 an24 od25 an25 od26 an26 od27 an27 od28 an28 od29 an29 od30 an30 od31 an31 od32 an32 od33 an33 od34 an34 od35 an35 : Option Addr} {slT slz sl1 sl2 sl3 sl4 sl5 sl6 sl7 sl8 sl9 sl10 sl11 sl12 sl13 sl14 sl15 sl16 sl17 sl18 sl19 sl20 sl21 sl22 sl23 sl24 sl25 sl26 sl27 sl28 sl29 sl30 sl31 sl32 sl33 sl34 sl35 : Array (Option Value)} {ocT oc1 kV1 dc1 pm1 cd1 ct1 oc2 kV2 dc2 pm2 cd2 ct2 oc3 kV3 dc3 pm3 cd3 ct3 oc4 kV4 dc4 pm4 cd4 ct4 oc5 kV5 dc5 pm5 cd5 ct5 oc6 kV6 dc6 pm6 cd6 ct6 oc7 kV7 dc7 pm7 cd7 ct7 oc8 kV8 dc8 pm8 cd8 ct8 oc9 kV9 dc9 pm9 cd9 ct9 oc10 kV10 dc10 pm10 cd10 ct10 oc11 kV11 dc11 pm11 cd11 ct11 oc12 kV12 dc12 pm12 cd12 ct12 oc13 kV13 dc13 pm13 cd13 ct13 oc14 kV14 dc14 pm14 cd14 ct14 oc15 kV15 dc15 pm15 cd15 ct15 oc16 kV16 dc16 pm16 cd16 ct16 oc17 kV17 dc17 pm17 cd17 ct17 oc18 kV18 dc18 pm18 cd18 ct18 oc19 kV19 dc19 pm19 cd19 ct19 oc20 kV20 dc20 pm20 cd20 ct20 oc21 kV21 dc21 pm21 cd21 ct21 oc22 kV22 dc22 pm22 cd22 ct22 oc23 kV23 dc23 pm23 cd23 ct23 oc24 kV24 dc24 pm24 cd24 ct24 oc25 kV25 dc25 pm25 cd25 ct25 oc26 kV26 dc26 pm26 cd26 ct26 oc27 kV27 dc27 pm27 cd27 ct27 oc28 kV28 dc28 pm28 cd28 ct28 oc29 kV29 dc29 pm29 cd29 ct29 oc30 kV30 dc30 pm30 cd30 ct30 oc31 kV31 dc31 pm31 cd31 ct31 oc32 kV32 dc32 pm32 cd32 ct32 oc33 kV33 dc33 pm33 cd33 ct33 oc34 kV34 dc34 pm34 cd34 ct34 oc35 kV35 dc35 pm35 cd35 ct35 : Value} {nT nz : Nat} {rest_table : List Value}
    (a1 : PySem.W.nsIn K mainGlobals "gaps" = some (some (.ref f1)))
    (l1 : K.lookup f1 = some ⟨oc1, od1, .func (PySem.W.fnOf "gaps" "gaps" (defArgs s_gaps) (defBody s_gaps) (defScope s_gaps) .none kV1 dc1 pm1 an1 cd1 ct1), sl1⟩)
    (c1 : PySem.W.codeIn K cd1 "gaps" = true)
    (k1 : PySem.W.keepIn K (.ref f1) = true)
    (a2 : PySem.W.nsIn K mainGlobals "is_whole" = some (some (.ref f2)))
    (l2 : K.lookup f2 = some ⟨oc2, od2, .func (PySem.W.fnOf "is_whole" "is_whole" (defArgs s_is_whole) (defBody s_is_whole) (defScope s_is_whole) .none kV2 dc2 pm2 an2 cd2 ct2), sl2⟩)
    (c2 : PySem.W.codeIn K cd2 "is_whole" = true)
    (k2 : PySem.W.keepIn K (.ref f2) = true)
    (a3 : PySem.W.nsIn K mainGlobals "is_sequence" = some (some (.ref f3)))
    (l3 : K.lookup f3 = some ⟨oc3, od3, .func (PySem.W.fnOf "is_sequence" "is_sequence" (defArgs s_is_sequence) (defBody s_is_sequence) (defScope s_is_sequence) .none kV3 dc3 pm3 an3 cd3 ct3), sl3⟩)
    (c3 : PySem.W.codeIn K cd3 "is_sequence" = true)
    (k3 : PySem.W.keepIn K (.ref f3) = true)
    (a4 : PySem.W.nsIn K mainGlobals "is_below" = some (some (.ref f4)))
    (l4 : K.lookup f4 = some ⟨oc4, od4, .func (PySem.W.fnOf "is_below" "is_below" (defArgs s_is_below) (defBody s_is_below) (defScope s_is_below) .none kV4 dc4 pm4 an4 cd4 ct4), sl4⟩)
    (c4 : PySem.W.codeIn K cd4 "is_below" = true)
    (k4 : PySem.W.keepIn K (.ref f4) = true)
    (a5 : PySem.W.nsIn K mainGlobals "check_pins" = some (some (.ref f5)))
    (l5 : K.lookup f5 = some ⟨oc5, od5, .func (PySem.W.fnOf "check_pins" "check_pins" (defArgs s_check_pins) (defBody s_check_pins) (defScope s_check_pins) .none kV5 dc5 pm5 an5 cd5 ct5), sl5⟩)
    (c5 : PySem.W.codeIn K cd5 "check_pins" = true)
    (k5 : PySem.W.keepIn K (.ref f5) = true)
    (a6 : PySem.W.nsIn K mainGlobals "check_pin" = some (some (.ref f6)))
    (l6 : K.lookup f6 = some ⟨oc6, od6, .func (PySem.W.fnOf "check_pin" "check_pin" (defArgs s_check_pin) (defBody s_check_pin) (defScope s_check_pin) .none kV6 dc6 pm6 an6 cd6 ct6), sl6⟩)
    (c6 : PySem.W.codeIn K cd6 "check_pin" = true)
    (k6 : PySem.W.keepIn K (.ref f6) = true)
    (a7 : PySem.W.nsIn K mainGlobals "is_entry" = some (some (.ref f7)))
    (l7 : K.lookup f7 = some ⟨oc7, od7, .func (PySem.W.fnOf "is_entry" "is_entry" (defArgs s_is_entry) (defBody s_is_entry) (defScope s_is_entry) .none kV7 dc7 pm7 an7 cd7 ct7), sl7⟩)
    (c7 : PySem.W.codeIn K cd7 "is_entry" = true)
    (k7 : PySem.W.keepIn K (.ref f7) = true)
    (a8 : PySem.W.nsIn K mainGlobals "gathered" = some (some (.ref f8)))
    (l8 : K.lookup f8 = some ⟨oc8, od8, .func (PySem.W.fnOf "gathered" "gathered" (defArgs s_gathered) (defBody s_gathered) (defScope s_gathered) .none kV8 dc8 pm8 an8 cd8 ct8), sl8⟩)
    (c8 : PySem.W.codeIn K cd8 "gathered" = true)
    (k8 : PySem.W.keepIn K (.ref f8) = true)
    (a9 : PySem.W.nsIn K mainGlobals "ends_at_pins" = some (some (.ref f9)))
    (l9 : K.lookup f9 = some ⟨oc9, od9, .func (PySem.W.fnOf "ends_at_pins" "ends_at_pins" (defArgs s_ends_at_pins) (defBody s_ends_at_pins) (defScope s_ends_at_pins) .none kV9 dc9 pm9 an9 cd9 ct9), sl9⟩)
    (c9 : PySem.W.codeIn K cd9 "ends_at_pins" = true)
    (k9 : PySem.W.keepIn K (.ref f9) = true)
    (a10 : PySem.W.nsIn K mainGlobals "cord_grid" = some (some (.ref f10)))
    (l10 : K.lookup f10 = some ⟨oc10, od10, .func (PySem.W.fnOf "cord_grid" "cord_grid" (defArgs s_cord_grid) (defBody s_cord_grid) (defScope s_cord_grid) .none kV10 dc10 pm10 an10 cd10 ct10), sl10⟩)
    (c10 : PySem.W.codeIn K cd10 "cord_grid" = true)
    (k10 : PySem.W.keepIn K (.ref f10) = true)
    (a11 : PySem.W.nsIn K mainGlobals "sums_before" = some (some (.ref f11)))
    (l11 : K.lookup f11 = some ⟨oc11, od11, .func (PySem.W.fnOf "sums_before" "sums_before" (defArgs s_sums_before) (defBody s_sums_before) (defScope s_sums_before) .none kV11 dc11 pm11 an11 cd11 ct11), sl11⟩)
    (c11 : PySem.W.codeIn K cd11 "sums_before" = true)
    (k11 : PySem.W.keepIn K (.ref f11) = true)
    (a12 : PySem.W.nsIn K mainGlobals "table_rows" = some (some (.ref f12)))
    (l12 : K.lookup f12 = some ⟨oc12, od12, .func (PySem.W.fnOf "table_rows" "table_rows" (defArgs s_table_rows) (defBody s_table_rows) (defScope s_table_rows) .none kV12 dc12 pm12 an12 cd12 ct12), sl12⟩)
    (c12 : PySem.W.codeIn K cd12 "table_rows" = true)
    (k12 : PySem.W.keepIn K (.ref f12) = true)
    (a13 : PySem.W.nsIn K mainGlobals "_law_whole" = some (some (.ref f13)))
    (l13 : K.lookup f13 = some ⟨oc13, od13, .func (PySem.W.fnOf "_law_whole" "_law_whole" (defArgs s__law_whole) (defBody s__law_whole) (defScope s__law_whole) .none kV13 dc13 pm13 an13 cd13 ct13), sl13⟩)
    (c13 : PySem.W.codeIn K cd13 "_law_whole" = true)
    (k13 : PySem.W.keepIn K (.ref f13) = true)
    (a14 : PySem.W.nsIn K mainGlobals "_law_cell" = some (some (.ref f14)))
    (l14 : K.lookup f14 = some ⟨oc14, od14, .func (PySem.W.fnOf "_law_cell" "_law_cell" (defArgs s__law_cell) (defBody s__law_cell) (defScope s__law_cell) .none kV14 dc14 pm14 an14 cd14 ct14), sl14⟩)
    (c14 : PySem.W.codeIn K cd14 "_law_cell" = true)
    (k14 : PySem.W.keepIn K (.ref f14) = true)
    (a15 : PySem.W.nsIn K mainGlobals "_law_digits" = some (some (.ref f15)))
    (l15 : K.lookup f15 = some ⟨oc15, od15, .func (PySem.W.fnOf "_law_digits" "_law_digits" (defArgs s__law_digits) (defBody s__law_digits) (defScope s__law_digits) .none kV15 dc15 pm15 an15 cd15 ct15), sl15⟩)
    (c15 : PySem.W.codeIn K cd15 "_law_digits" = true)
    (k15 : PySem.W.keepIn K (.ref f15) = true)
    (a16 : PySem.W.nsIn K mainGlobals "_law_same" = some (some (.ref f16)))
    (l16 : K.lookup f16 = some ⟨oc16, od16, .func (PySem.W.fnOf "_law_same" "_law_same" (defArgs s__law_same) (defBody s__law_same) (defScope s__law_same) .none kV16 dc16 pm16 an16 cd16 ct16), sl16⟩)
    (c16 : PySem.W.codeIn K cd16 "_law_same" = true)
    (k16 : PySem.W.keepIn K (.ref f16) = true)
    (a17 : PySem.W.nsIn K mainGlobals "_law_norm" = some (some (.ref f17)))
    (l17 : K.lookup f17 = some ⟨oc17, od17, .func (PySem.W.fnOf "_law_norm" "_law_norm" (defArgs s__law_norm) (defBody s__law_norm) (defScope s__law_norm) .none kV17 dc17 pm17 an17 cd17 ct17), sl17⟩)
    (c17 : PySem.W.codeIn K cd17 "_law_norm" = true)
    (k17 : PySem.W.keepIn K (.ref f17) = true)
    (a18 : PySem.W.nsIn K mainGlobals "_law_pins" = some (some (.ref f18)))
    (l18 : K.lookup f18 = some ⟨oc18, od18, .func (PySem.W.fnOf "_law_pins" "_law_pins" (defArgs s__law_pins) (defBody s__law_pins) (defScope s__law_pins) .none kV18 dc18 pm18 an18 cd18 ct18), sl18⟩)
    (c18 : PySem.W.codeIn K cd18 "_law_pins" = true)
    (k18 : PySem.W.keepIn K (.ref f18) = true)
    (a19 : PySem.W.nsIn K mainGlobals "_law_entry" = some (some (.ref f19)))
    (l19 : K.lookup f19 = some ⟨oc19, od19, .func (PySem.W.fnOf "_law_entry" "_law_entry" (defArgs s__law_entry) (defBody s__law_entry) (defScope s__law_entry) .none kV19 dc19 pm19 an19 cd19 ct19), sl19⟩)
    (c19 : PySem.W.codeIn K cd19 "_law_entry" = true)
    (k19 : PySem.W.keepIn K (.ref f19) = true)
    (a20 : PySem.W.nsIn K mainGlobals "_law_bad_entries" = some (some (.ref f20)))
    (l20 : K.lookup f20 = some ⟨oc20, od20, .func (PySem.W.fnOf "_law_bad_entries" "_law_bad_entries" (defArgs s__law_bad_entries) (defBody s__law_bad_entries) (defScope s__law_bad_entries) .none kV20 dc20 pm20 an20 cd20 ct20), sl20⟩)
    (c20 : PySem.W.codeIn K cd20 "_law_bad_entries" = true)
    (k20 : PySem.W.keepIn K (.ref f20) = true)
    (a21 : PySem.W.nsIn K mainGlobals "_law_bad_entry" = some (some (.ref f21)))
    (l21 : K.lookup f21 = some ⟨oc21, od21, .func (PySem.W.fnOf "_law_bad_entry" "_law_bad_entry" (defArgs s__law_bad_entry) (defBody s__law_bad_entry) (defScope s__law_bad_entry) .none kV21 dc21 pm21 an21 cd21 ct21), sl21⟩)
    (c21 : PySem.W.codeIn K cd21 "_law_bad_entry" = true)
    (k21 : PySem.W.keepIn K (.ref f21) = true)
    (a22 : PySem.W.nsIn K mainGlobals "_law_table" = some (some (.ref f22)))
    (l22 : K.lookup f22 = some ⟨oc22, od22, .func (PySem.W.fnOf "_law_table" "_law_table" (defArgs s__law_table) (defBody s__law_table) (defScope s__law_table) .none kV22 dc22 pm22 an22 cd22 ct22), sl22⟩)
    (c22 : PySem.W.codeIn K cd22 "_law_table" = true)
    (k22 : PySem.W.keepIn K (.ref f22) = true)
    (a23 : PySem.W.nsIn K mainGlobals "_law_told" = some (some (.ref f23)))
    (l23 : K.lookup f23 = some ⟨oc23, od23, .func (PySem.W.fnOf "_law_told" "_law_told" (defArgs s__law_told) (defBody s__law_told) (defScope s__law_told) .none kV23 dc23 pm23 an23 cd23 ct23), sl23⟩)
    (c23 : PySem.W.codeIn K cd23 "_law_told" = true)
    (k23 : PySem.W.keepIn K (.ref f23) = true)
    (a24 : PySem.W.nsIn K mainGlobals "_law_lot_is" = some (some (.ref f24)))
    (l24 : K.lookup f24 = some ⟨oc24, od24, .func (PySem.W.fnOf "_law_lot_is" "_law_lot_is" (defArgs s__law_lot_is) (defBody s__law_lot_is) (defScope s__law_lot_is) .none kV24 dc24 pm24 an24 cd24 ct24), sl24⟩)
    (c24 : PySem.W.codeIn K cd24 "_law_lot_is" = true)
    (k24 : PySem.W.keepIn K (.ref f24) = true)
    (a25 : PySem.W.nsIn K mainGlobals "_law_copied" = some (some (.ref f25)))
    (l25 : K.lookup f25 = some ⟨oc25, od25, .func (PySem.W.fnOf "_law_copied" "_law_copied" (defArgs s__law_copied) (defBody s__law_copied) (defScope s__law_copied) .none kV25 dc25 pm25 an25 cd25 ct25), sl25⟩)
    (c25 : PySem.W.codeIn K cd25 "_law_copied" = true)
    (k25 : PySem.W.keepIn K (.ref f25) = true)
    (a26 : PySem.W.nsIn K mainGlobals "_law_refused_entry" = some (some (.ref f26)))
    (l26 : K.lookup f26 = some ⟨oc26, od26, .func (PySem.W.fnOf "_law_refused_entry" "_law_refused_entry" (defArgs s__law_refused_entry) (defBody s__law_refused_entry) (defScope s__law_refused_entry) .none kV26 dc26 pm26 an26 cd26 ct26), sl26⟩)
    (c26 : PySem.W.codeIn K cd26 "_law_refused_entry" = true)
    (k26 : PySem.W.keepIn K (.ref f26) = true)
    (a27 : PySem.W.nsIn K mainGlobals "_law_refused_pins" = some (some (.ref f27)))
    (l27 : K.lookup f27 = some ⟨oc27, od27, .func (PySem.W.fnOf "_law_refused_pins" "_law_refused_pins" (defArgs s__law_refused_pins) (defBody s__law_refused_pins) (defScope s__law_refused_pins) .none kV27 dc27 pm27 an27 cd27 ct27), sl27⟩)
    (c27 : PySem.W.codeIn K cd27 "_law_refused_pins" = true)
    (k27 : PySem.W.keepIn K (.ref f27) = true)
    (a28 : PySem.W.nsIn K mainGlobals "_law_passed" = some (some (.ref f28)))
    (l28 : K.lookup f28 = some ⟨oc28, od28, .func (PySem.W.fnOf "_law_passed" "_law_passed" (defArgs s__law_passed) (defBody s__law_passed) (defScope s__law_passed) .none kV28 dc28 pm28 an28 cd28 ct28), sl28⟩)
    (c28 : PySem.W.codeIn K cd28 "_law_passed" = true)
    (k28 : PySem.W.keepIn K (.ref f28) = true)
    (a29 : PySem.W.nsIn K mainGlobals "_law_made" = some (some (.ref f29)))
    (l29 : K.lookup f29 = some ⟨oc29, od29, .func (PySem.W.fnOf "_law_made" "_law_made" (defArgs s__law_made) (defBody s__law_made) (defScope s__law_made) .none kV29 dc29 pm29 an29 cd29 ct29), sl29⟩)
    (c29 : PySem.W.codeIn K cd29 "_law_made" = true)
    (k29 : PySem.W.keepIn K (.ref f29) = true)
    (a30 : PySem.W.nsIn K mainGlobals "_law_all_refused" = some (some (.ref f30)))
    (l30 : K.lookup f30 = some ⟨oc30, od30, .func (PySem.W.fnOf "_law_all_refused" "_law_all_refused" (defArgs s__law_all_refused) (defBody s__law_all_refused) (defScope s__law_all_refused) .none kV30 dc30 pm30 an30 cd30 ct30), sl30⟩)
    (c30 : PySem.W.codeIn K cd30 "_law_all_refused" = true)
    (k30 : PySem.W.keepIn K (.ref f30) = true)
    (a31 : PySem.W.nsIn K mainGlobals "law" = some (some (.ref f31)))
    (l31 : K.lookup f31 = some ⟨oc31, od31, .func (PySem.W.fnOf "law" "law" (defArgs s_law) (defBody s_law) (defScope s_law) .none kV31 dc31 pm31 an31 cd31 ct31), sl31⟩)
    (c31 : PySem.W.codeIn K cd31 "law" = true)
    (k31 : PySem.W.keepIn K (.ref f31) = true)
    (aC : PySem.W.nsIn K mainGlobals "Lot" = some (some (.ref C)))
    (iP_table : PySem.W.findIn K (.ref C) "table" = some (some (.ref p_table)))
    (rP_table : PySem.W.recIn K p_table "property" = some (.ref f34 :: rest_table))
    (gP_table : PySem.W.specialIn K (.ref p_table) "__get__" = some (some (.builtin "property.__get__")))
    (tP_table : PySem.W.takesIn K (.ref p_table) = some true)
    (i32 : PySem.W.findIn K (.ref C) "ends" = some (some (.ref f32)))
    (n32 : PySem.W.isFn K (.ref f32) = true)
    (l32 : K.lookup f32 = some ⟨oc32, od32, .func (PySem.W.fnOf "ends" "Lot.ends" (defArgs s_Lot_ends) (defBody s_Lot_ends) (defScope s_Lot_ends) .none kV32 dc32 pm32 an32 cd32 ct32), sl32⟩)
    (c32 : PySem.W.codeIn K cd32 "Lot.ends" = true)
    (k32 : PySem.W.keepIn K (.ref f32) = true)
    (i33 : PySem.W.findIn K (.ref C) "total" = some (some (.ref f33)))
    (n33 : PySem.W.isFn K (.ref f33) = true)
    (l33 : K.lookup f33 = some ⟨oc33, od33, .func (PySem.W.fnOf "total" "Lot.total" (defArgs s_Lot_total) (defBody s_Lot_total) (defScope s_Lot_total) .none kV33 dc33 pm33 an33 cd33 ct33), sl33⟩)
    (c33 : PySem.W.codeIn K cd33 "Lot.total" = true)
    (k33 : PySem.W.keepIn K (.ref f33) = true)
    (l34 : K.lookup f34 = some ⟨oc34, od34, .func (PySem.W.fnOf "table" "Lot.table" (defArgs s_Lot_table) (defBody s_Lot_table) (defScope s_Lot_table) .none kV34 dc34 pm34 an34 cd34 ct34), sl34⟩)
    (c34 : PySem.W.codeIn K cd34 "Lot.table" = true)
    (k34 : PySem.W.keepIn K (.ref f34) = true)
    (i35 : PySem.W.findIn K (.ref C) "__init__" = some (some (.ref f35)))
    (n35 : PySem.W.isFn K (.ref f35) = true)
    (l35 : K.lookup f35 = some ⟨oc35, od35, .func (PySem.W.fnOf "__init__" "Lot.__init__" (defArgs s_Lot_init) (defBody s_Lot_init) (defScope s_Lot_init) (.ref T_d) kV35 dc35 pm35 an35 cd35 ct35), sl35⟩)
    (c35 : PySem.W.codeIn K cd35 "Lot.__init__" = true)
    (k35 : PySem.W.keepIn K (.ref f35) = true)
    (lT : K.lookup T_d = some ⟨ocT, odT, .seq #[.ref z] nT, slT⟩)
    (lz : K.lookup z = some ⟨.type "tuple", odz, .seq #[] nz, slz⟩)
    (pg : PySem.W.plainGet K C Str.empty = true)
    (hd : PySem.W.hasDictIn K C = true)
    (po : PySem.W.plainOver K C = true)
    (sa : PySem.W.findIn K (.ref C) "__setattr__" = some (some (.builtin "object.__setattr__")))
    (mk : PySem.W.makesIn K C = true)
    (kc : PySem.W.keepIn K (.ref C) = true)
    (nP : PySem.W.findIn K (.ref C) "pins" = some none)
    (nC : PySem.W.findIn K (.ref C) "cords" = some none)
    (iA : PySem.W.findIn K (.ref C) "__class__" = some (some (.builtin "object.__class__")))
    (iN : PySem.W.specialIn K (.builtin "object.__class__") "__get__" = some (some (.builtin "getset_descriptor.__get__")))
    (iT : PySem.W.takesIn K (.builtin "object.__class__") = some true)
    (iM : PySem.W.mroIn K C (.type "object") = some true)
    (aU : PySem.W.nsIn K mainGlobals "BadCord" = some (some (.ref DU)))
    (aN : PySem.W.nsIn K mainGlobals "BadPins" = some (some (.ref DN)))
    (a_c_bp : PySem.W.nsIn K mainGlobals "BadPin" = some (some (.ref c_bp)))
    (a_c_bn : PySem.W.nsIn K mainGlobals "BadNumber" = some (some (.ref c_bn)))
    (a_c_bg : PySem.W.nsIn K mainGlobals "BadGap" = some (some (.ref c_bg)))
    (a_c_np : PySem.W.nsIn K mainGlobals "NotPart" = some (some (.ref c_np)))
    (a_c_ul : PySem.W.nsIn K mainGlobals "UnlikePins" = some (some (.ref c_ul)))
    (a_c_bt : PySem.W.nsIn K mainGlobals "BadTable" = some (some (.ref c_bt)))
    (a_c_nl : PySem.W.nsIn K mainGlobals "NoLot" = some (some (.ref c_nl)))
    (a_c_re : PySem.W.nsIn K mainGlobals "RimError" = some (some (.ref c_re)))
    (lU : K.lookup DU = some (excClassObj nmU qU DU NU bsU [.ref c_re, .type "ValueError", .type "Exception", .type "BaseException", .type "object"] true snU subU abU colU ddU m0U m1U m2U m3U m5U "ValueError.__new__"))
    (saU : PySem.W.findIn K (.ref DU) "__setattr__" = some (some (.builtin "object.__setattr__")))
    (eU : PySem.W.subIn K (.ref DU) (.type "BaseException") = some true)
    (tU : PySem.W.typeIn K (.ref DU) = some (.type "type"))
    (kU : PySem.W.keepIn K (.ref DU) = true)
    (iuU : PySem.W.findIn K (.ref DU) "__init__" = some (some (.ref fuU)))
    (tuU : PySem.W.typeIn K (.ref fuU) = some (.type "function"))
    (luU : K.lookup fuU = some ⟨ocU, odU, .func (PySem.W.fnX "__init__" "BadCord.__init__" (defArgs s_BadCord_init) (defBody s_BadCord_init) (defScope s_BadCord_init) [("__class__", ccU)] .none kVU dcU pmU anU (.ref cdaU) ctU), slU⟩)
    (cuU : PySem.W.codeIn K (.ref cdaU) "BadCord.__init__" = true)
    (lcU : K.lookup ccU = some ⟨clU, cldU, .cell (some (.ref DU)), cslU⟩)
    (ldU : K.lookup cdaU = some ⟨cclU, cddU, .fields vsU, ccsU⟩)
    (cvU : vsU[2]? = some (.str fileU tfU))
    (cfU : ((lw.prog.main.file : Str) == fileU) = true)
    (veU : PySem.W.subIn K (.ref DU) (.type "ValueError") = some true)
    (meU : PySem.W.mroIn K DU (.ref DU) = some true)
    (gaU : PySem.W.findIn K (.ref DU) "__getattribute__" = some (some (.builtin "BaseException.__getattribute__")))
    (ggU : PySem.W.findIn K (.ref DU) "__getattr__" = some none)
    (hU : PySem.W.hasDictIn K DU = true)
    (caU : PySem.W.findIn K (.ref DU) "__class__" = some (some (.builtin "object.__class__")))
    (moU : PySem.W.mroIn K DU (.type "object") = some true)
    (sdU : PySem.W.subIn K (.ref DU) (.ref DU) = some true)
    (n0U : PySem.W.findIn K (.ref DU) "entry" = some none)
    (qUDN : PySem.W.subIn K (.ref DU) (.ref DN) = some false)
    (qUc_bp : PySem.W.subIn K (.ref DU) (.ref c_bp) = some false)
    (qUc_bn : PySem.W.subIn K (.ref DU) (.ref c_bn) = some false)
    (qUc_bg : PySem.W.subIn K (.ref DU) (.ref c_bg) = some false)
    (qUc_np : PySem.W.subIn K (.ref DU) (.ref c_np) = some false)
    (qUc_ul : PySem.W.subIn K (.ref DU) (.ref c_ul) = some false)
    (qUc_bt : PySem.W.subIn K (.ref DU) (.ref c_bt) = some false)
    (qUc_nl : PySem.W.subIn K (.ref DU) (.ref c_nl) = some false)
    (qUc_re : PySem.W.subIn K (.ref DU) (.ref c_re) = some true)
    (lN : K.lookup DN = some (excClassObj nmN qN DN NN bsN [.ref c_re, .type "ValueError", .type "Exception", .type "BaseException", .type "object"] true snN subN abN colN ddN m0N m1N m2N m3N m5N "ValueError.__new__"))
    (saN : PySem.W.findIn K (.ref DN) "__setattr__" = some (some (.builtin "object.__setattr__")))
    (eN : PySem.W.subIn K (.ref DN) (.type "BaseException") = some true)
    (tN : PySem.W.typeIn K (.ref DN) = some (.type "type"))
    (kN : PySem.W.keepIn K (.ref DN) = true)
    (iuN : PySem.W.findIn K (.ref DN) "__init__" = some (some (.ref fuN)))
    (tuN : PySem.W.typeIn K (.ref fuN) = some (.type "function"))
    (luN : K.lookup fuN = some ⟨ocN, odN, .func (PySem.W.fnX "__init__" "BadPins.__init__" (defArgs s_BadPins_init) (defBody s_BadPins_init) (defScope s_BadPins_init) [("__class__", ccN)] .none kVN dcN pmN anN (.ref cdaN) ctN), slN⟩)
    (cuN : PySem.W.codeIn K (.ref cdaN) "BadPins.__init__" = true)
    (lcN : K.lookup ccN = some ⟨clN, cldN, .cell (some (.ref DN)), cslN⟩)
    (ldN : K.lookup cdaN = some ⟨cclN, cddN, .fields vsN, ccsN⟩)
    (cvN : vsN[2]? = some (.str fileN tfN))
    (cfN : ((lw.prog.main.file : Str) == fileN) = true)
    (veN : PySem.W.subIn K (.ref DN) (.type "ValueError") = some true)
    (meN : PySem.W.mroIn K DN (.ref DN) = some true)
    (gaN : PySem.W.findIn K (.ref DN) "__getattribute__" = some (some (.builtin "BaseException.__getattribute__")))
    (ggN : PySem.W.findIn K (.ref DN) "__getattr__" = some none)
    (hN : PySem.W.hasDictIn K DN = true)
    (caN : PySem.W.findIn K (.ref DN) "__class__" = some (some (.builtin "object.__class__")))
    (moN : PySem.W.mroIn K DN (.type "object") = some true)
    (sdN : PySem.W.subIn K (.ref DN) (.ref DN) = some true)
    (n0N : PySem.W.findIn K (.ref DN) "pins" = some none)
    (qNc_bp : PySem.W.subIn K (.ref DN) (.ref c_bp) = some false)
    (qNc_bn : PySem.W.subIn K (.ref DN) (.ref c_bn) = some false)
    (qNc_bg : PySem.W.subIn K (.ref DN) (.ref c_bg) = some false)
    (qNc_np : PySem.W.subIn K (.ref DN) (.ref c_np) = some false)
    (qNc_ul : PySem.W.subIn K (.ref DN) (.ref c_ul) = some false)
    (qNc_bt : PySem.W.subIn K (.ref DN) (.ref c_bt) = some false)
    (qNc_nl : PySem.W.subIn K (.ref DN) (.ref c_nl) = some false)
    (qNDU : PySem.W.subIn K (.ref DN) (.ref DU) = some false)
    (qNc_re : PySem.W.subIn K (.ref DN) (.ref c_re) = some true)
    (ic_DN : PySem.W.isClsIn K DN = true)
    (ic_c_bp : PySem.W.isClsIn K c_bp = true)
    (tc_c_bp : PySem.W.typeIn K (.ref c_bp) = some (.type "type"))
    (ic_c_bn : PySem.W.isClsIn K c_bn = true)
    (tc_c_bn : PySem.W.typeIn K (.ref c_bn) = some (.type "type"))
    (ic_c_bg : PySem.W.isClsIn K c_bg = true)
    (tc_c_bg : PySem.W.typeIn K (.ref c_bg) = some (.type "type"))
    (ic_c_np : PySem.W.isClsIn K c_np = true)
    (tc_c_np : PySem.W.typeIn K (.ref c_np) = some (.type "type"))
    (ic_c_ul : PySem.W.isClsIn K c_ul = true)
    (tc_c_ul : PySem.W.typeIn K (.ref c_ul) = some (.type "type"))
    (ic_c_bt : PySem.W.isClsIn K c_bt = true)
    (tc_c_bt : PySem.W.typeIn K (.ref c_bt) = some (.type "type"))
    (ic_c_nl : PySem.W.isClsIn K c_nl = true)
    (tc_c_nl : PySem.W.typeIn K (.ref c_nl) = some (.type "type"))
    (ic_DU : PySem.W.isClsIn K DU = true)
    (ic_c_re : PySem.W.isClsIn K c_re = true)
    (tc_c_re : PySem.W.typeIn K (.ref c_re) = some (.type "type"))
    (lRe : K.lookup c_re = some (excClassObj nmR qR c_re NR bsR [.type "ValueError", .type "Exception", .type "BaseException", .type "object"] hdR snR subR abR colR ddR m0r m1r m2r m3r m5r niR))
    (iRe : PySem.W.findIn K (.ref c_re) "__init__" = some (some (.builtin "ValueError.__init__")))
    (opD : PySem.W.nsIn K cStatics "thirdparty.any" = some none)
    (tpD : (lw.prog.main.scope.names.lookup ("super" : Str)).isSome = false)
    (zS : PySem.W.nsIn K mainGlobals "super" = some none)
    (zV : PySem.W.nsIn K mainGlobals "ValueError" = some none)
    (zDi : PySem.W.nsIn K mainGlobals "dict" = some none)
    (z0 : PySem.W.nsIn K mainGlobals "max" = some none)
    (z1 : PySem.W.nsIn K mainGlobals "min" = some none)
    (z2 : PySem.W.nsIn K mainGlobals "tuple" = some none)
    (z3 : PySem.W.nsIn K mainGlobals "range" = some none)
    (z4 : PySem.W.nsIn K mainGlobals "isinstance" = some none)
    (z5 : PySem.W.nsIn K mainGlobals "int" = some none)
    (z6 : PySem.W.nsIn K mainGlobals "bool" = some none)
    (z7 : PySem.W.nsIn K mainGlobals "len" = some none)
    (z8 : PySem.W.nsIn K mainGlobals "list" = some none)
    (z9 : PySem.W.nsIn K mainGlobals "str" = some none)
    (z10 : PySem.W.nsIn K mainGlobals "sorted" = some none)
    (z11 : PySem.W.nsIn K mainGlobals "sum" = some none) :
    ∃ fd : FuncData, (∀ (s : Shared) (v : Value), BindsTo s fd ⟨[v], []⟩ [("_law_script", v)]) ∧ ∀ base : Heap, K.In base → base.Ns mainGlobals mg → FnOk lw.prog w K mg base CX0 11 fa fd ["_law_script"] (spLaw K) := by
  have e := hfa.symm.trans (PySem.W.mg_of X G a31)
  cases e
  have D_gaps := df_mk (ps := ["pins"]) (st := s_gaps) X G a1 l1 c1 k1 fun _ _ _ _ _ _ us hl => match us, hl with | [_], _ => rfl
  have D_is_whole := df_mk (ps := ["value"]) (st := s_is_whole) X G a2 l2 c2 k2 fun _ _ _ _ _ _ us hl => match us, hl with | [_], _ => rfl
  have D_is_sequence := df_mk (ps := ["value"]) (st := s_is_sequence) X G a3 l3 c3 k3 fun _ _ _ _ _ _ us hl => match us, hl with | [_], _ => rfl
  have D_is_below := df_mk (ps := ["value", "bound"]) (st := s_is_below) X G a4 l4 c4 k4 fun _ _ _ _ _ _ us hl => match us, hl with | [_, _], _ => rfl
  have D_check_pins := df_mk (ps := ["pins"]) (st := s_check_pins) X G a5 l5 c5 k5 fun _ _ _ _ _ _ us hl => match us, hl with | [_], _ => rfl
  have D_check_pin := df_mk (ps := ["pins", "pin"]) (st := s_check_pin) X G a6 l6 c6 k6 fun _ _ _ _ _ _ us hl => match us, hl with | [_, _], _ => rfl
  have D_is_entry := df_mk (ps := ["pins", "entry"]) (st := s_is_entry) X G a7 l7 c7 k7 fun _ _ _ _ _ _ us hl => match us, hl with | [_, _], _ => rfl
  have D_gathered := df_mk (ps := ["pins", "entries"]) (st := s_gathered) X G a8 l8 c8 k8 fun _ _ _ _ _ _ us hl => match us, hl with | [_, _], _ => rfl
  have D_ends_at_pins := df_mk (ps := ["pins", "cords"]) (st := s_ends_at_pins) X G a9 l9 c9 k9 fun _ _ _ _ _ _ us hl => match us, hl with | [_, _], _ => rfl
  have D_cord_grid := df_mk (ps := ["pins", "cords"]) (st := s_cord_grid) X G a10 l10 c10 k10 fun _ _ _ _ _ _ us hl => match us, hl with | [_, _], _ => rfl
  have D_sums_before := df_mk (ps := ["row"]) (st := s_sums_before) X G a11 l11 c11 k11 fun _ _ _ _ _ _ us hl => match us, hl with | [_], _ => rfl
  have D_table_rows := df_mk (ps := ["pins", "cords"]) (st := s_table_rows) X G a12 l12 c12 k12 fun _ _ _ _ _ _ us hl => match us, hl with | [_, _], _ => rfl
  have D__law_whole := df_mk (ps := ["_law_value"]) (st := s__law_whole) X G a13 l13 c13 k13 fun _ _ _ _ _ _ us hl => match us, hl with | [_], _ => rfl
  have D__law_cell := df_mk (ps := ["_law_script", "_law_k"]) (st := s__law_cell) X G a14 l14 c14 k14 fun _ _ _ _ _ _ us hl => match us, hl with | [_, _], _ => rfl
  have D__law_digits := df_mk (ps := ["_law_cell_here", "_law_sizes"]) (st := s__law_digits) X G a15 l15 c15 k15 fun _ _ _ _ _ _ us hl => match us, hl with | [_, _], _ => rfl
  have D__law_same := df_mk (ps := ["_law_value", "_law_due"]) (st := s__law_same) X G a16 l16 c16 k16 fun _ _ _ _ _ _ us hl => match us, hl with | [_, _], _ => rfl
  have D__law_norm := df_mk (ps := ["_law_triples"]) (st := s__law_norm) X G a17 l17 c17 k17 fun _ _ _ _ _ _ us hl => match us, hl with | [_], _ => rfl
  have D__law_pins := df_mk (ps := ["_law_cell_here"]) (st := s__law_pins) X G a18 l18 c18 k18 fun _ _ _ _ _ _ us hl => match us, hl with | [_], _ => rfl
  have D__law_entry := df_mk (ps := ["_law_cell_here", "_law_rim", "_law_earlier"]) (st := s__law_entry) X G a19 l19 c19 k19 fun _ _ _ _ _ _ us hl => match us, hl with | [_, _, _], _ => rfl
  have D__law_bad_entries := df_mk (ps := ["_law_cell_here", "_law_rim"]) (st := s__law_bad_entries) X G a20 l20 c20 k20 fun _ _ _ _ _ _ us hl => match us, hl with | [_, _], _ => rfl
  have D__law_bad_entry := df_mk (ps := ["_law_cell_here", "_law_rim", "_law_k"]) (st := s__law_bad_entry) X G a21 l21 c21 k21 fun _ _ _ _ _ _ us hl => match us, hl with | [_, _, _], _ => rfl
  have D__law_table := df_mk (ps := ["_law_rim", "_law_held"]) (st := s__law_table) X G a22 l22 c22 k22 fun _ _ _ _ _ _ us hl => match us, hl with | [_, _], _ => rfl
  have D__law_told := df_mk (ps := ["_law_lot", "_law_rim", "_law_due"]) (st := s__law_told) X G a23 l23 c23 k23 fun _ _ _ _ _ _ us hl => match us, hl with | [_, _, _], _ => rfl
  have D__law_lot_is := df_mk (ps := ["_law_lot", "_law_rim", "_law_held"]) (st := s__law_lot_is) X G a24 l24 c24 k24 fun _ _ _ _ _ _ us hl => match us, hl with | [_, _, _], _ => rfl
  have D__law_copied := df_mk (ps := ["_law_held"]) (st := s__law_copied) X G a25 l25 c25 k25 fun _ _ _ _ _ _ us hl => match us, hl with | [_], _ => rfl
  have D__law_refused_entry := df_mk (ps := ["_law_rim", "_law_held", "_law_entry_here"]) (st := s__law_refused_entry) X G a26 l26 c26 k26 fun _ _ _ _ _ _ us hl => match us, hl with | [_, _, _], _ => rfl
  have D__law_refused_pins := df_mk (ps := ["_law_rim", "_law_held"]) (st := s__law_refused_pins) X G a27 l27 c27 k27 fun _ _ _ _ _ _ us hl => match us, hl with | [_, _], _ => rfl
  have D__law_passed := df_mk (ps := ["_law_entries", "_law_form"]) (st := s__law_passed) X G a28 l28 c28 k28 fun _ _ _ _ _ _ us hl => match us, hl with | [_, _], _ => rfl
  have D__law_made := df_mk (ps := ["_law_rim", "_law_entries", "_law_form"]) (st := s__law_made) X G a29 l29 c29 k29 fun _ _ _ _ _ _ us hl => match us, hl with | [_, _, _], _ => rfl
  have D__law_all_refused := df_mk (ps := ["_law_script", "_law_rim", "_law_entries"]) (st := s__law_all_refused) X G a30 l30 c30 k30 fun _ _ _ _ _ _ us hl => match us, hl with | [_, _, _], _ => rfl
  have T : Bi mg := ⟨PySem.W.mg_none_of X G z0, PySem.W.mg_none_of X G z1, PySem.W.mg_none_of X G z2, PySem.W.mg_none_of X G z3, PySem.W.mg_none_of X G z4, PySem.W.mg_none_of X G z5, PySem.W.mg_none_of X G z6, PySem.W.mg_none_of X G z7, PySem.W.mg_none_of X G z8, PySem.W.mg_none_of X G z9, PySem.W.mg_none_of X G z10, PySem.W.mg_none_of X G z11⟩
  have cl : Cls K C := ⟨pg, hd, po, sa⟩
  have L : LotC K mg C := ⟨cl, nP, nC, PySem.W.mg_of X G aC⟩
  have I : C8.InsC K C := ⟨cl, iA, iN, iT, iM, kitTrue⟩
  have hz : ∀ H, SqT K H z [] := fun H => .inr ⟨_, #[], nz, lz, rfl, rfl, by decide, .nil⟩
  have F_Lot_ends : Fun K "ends" "Lot.ends" s_Lot_ends f32 _ := fun_mk l32 c32 k32
  have B_Lot_ends := F_Lot_ends.binds (ps := ["self", "pin"]) fun _ _ _ _ _ _ us hl => match us, hl with | [_, _], _ => rfl
  have M_Lot_ends : Mt K C "ends" "Lot.ends" s_Lot_ends ["self", "pin"] f32 _ := ⟨F_Lot_ends, ⟨i32, n32, k32⟩, B_Lot_ends⟩
  have F_Lot_total : Fun K "total" "Lot.total" s_Lot_total f33 _ := fun_mk l33 c33 k33
  have B_Lot_total := F_Lot_total.binds (ps := ["self"]) fun _ _ _ _ _ _ us hl => match us, hl with | [_], _ => rfl
  have M_Lot_total : Mt K C "total" "Lot.total" s_Lot_total ["self"] f33 _ := ⟨F_Lot_total, ⟨i33, n33, k33⟩, B_Lot_total⟩
  have F_Lot_table : Fun K "table" "Lot.table" s_Lot_table f34 _ := fun_mk l34 c34 k34
  have B_Lot_table := F_Lot_table.binds (ps := ["self"]) fun _ _ _ _ _ _ us hl => match us, hl with | [_], _ => rfl
  have PT_table : PropOf K C "table" p_table f34 := ⟨iP_table, gP_table, tP_table, ⟨_, rP_table⟩⟩
  have FI_ : FI K z f35 _ := ⟨⟨_, _, _, _, _, _, _, _, _, _, rfl, l35, c35, .inr ⟨by simp, T_d, _, [.ref z], nT, rfl, lT, rfl, .cons rfl .nil⟩, .inl rfl⟩, k35⟩
  have MI : Mk K C f35 := ⟨mk, i35, n35, kc⟩
  obtain ⟨ds, vds, BI⟩ := FI_.binds1 (ps := ["self", "pins", "cords"]) 3 1 (by simp) rfl fun T kV doc pm an cdv ct us its h1 h2 => match us, h1, its, h2 with | [_, _, _], _, [_], _ => ⟨_, rfl, rfl⟩
  have eds : ds = [] := by cases vds; rfl
  subst eds
  obtain ⟨ds1, vds1, BD⟩ := FI_.binds1 (ps := ["self", "pins", "cords"]) 2 0 (by simp) rfl fun T kV doc pm an cdv ct us its h1 h2 => match us, h1, its, h2 with | [_, _], _, [_], _ => ⟨_, rfl, rfl⟩
  have eds1 : ds1 = [.ref z] := by
    cases vds1 with
    | cons r t =>
      cases t
      cases r
      rfl
  subst eds1
  have OXU : OexC K DU := ⟨⟨_, _, _, _, _, _, _, _, _, _, _, _, _, _, _, lU, rfl⟩, saU, eU, tU, kU⟩
  have EKU : ErrK lw.prog K mg DU ccU cdaU := ⟨OXU, ⟨_, _, _, lcU⟩, ⟨_, _, _, _, _, _, ldU, cvU, cfU⟩, sup_of lU lRe iRe, veU, meU, opD, PySem.W.mg_none_of X G zS, tpD⟩
  have BUU : Binds K (PySem.W.fnX "__init__" "BadCord.__init__" (defArgs s_BadCord_init) (defBody s_BadCord_init) (defScope s_BadCord_init) [("__class__", ccU)] .none kVU dcU pmU anU (.ref cdaU) ctU) ["self", "entry"] [] := Binds.all fun us hl => match us, hl with | [_, _], _ => rfl
  have UCU : ErrU K mg "BadCord" DU fuU _ ["self", "entry"] := ⟨OXU, ⟨PySem.W.mg_of X G aU, iuU, tuU⟩, BUU⟩
  have OXN : OexC K DN := ⟨⟨_, _, _, _, _, _, _, _, _, _, _, _, _, _, _, lN, rfl⟩, saN, eN, tN, kN⟩
  have EKN : ErrK lw.prog K mg DN ccN cdaN := ⟨OXN, ⟨_, _, _, lcN⟩, ⟨_, _, _, _, _, _, ldN, cvN, cfN⟩, sup_of lN lRe iRe, veN, meN, opD, PySem.W.mg_none_of X G zS, tpD⟩
  have BUN : Binds K (PySem.W.fnX "__init__" "BadPins.__init__" (defArgs s_BadPins_init) (defBody s_BadPins_init) (defScope s_BadPins_init) [("__class__", ccN)] .none kVN dcN pmN anN (.ref cdaN) ctN) ["self", "pins"] [] := Binds.all fun us hl => match us, hl with | [_, _], _ => rfl
  have UCN : ErrU K mg "BadPins" DN fuN _ ["self", "pins"] := ⟨OXN, ⟨PySem.W.mg_of X G aN, iuN, tuN⟩, BUN⟩
  have N_ : ∀ n ∈ errs, mg n = some (.ref ((cOf DN c_bp c_bn c_bg c_np c_ul c_bt c_nl DU c_re) n)) := List.forall_mem_cons.mpr ⟨by rw [cOf0]; exact PySem.W.mg_of X G aN, List.forall_mem_cons.mpr ⟨by rw [cOf1]; exact PySem.W.mg_of X G a_c_bp, List.forall_mem_cons.mpr ⟨by rw [cOf2]; exact PySem.W.mg_of X G a_c_bn, List.forall_mem_cons.mpr ⟨by rw [cOf3]; exact PySem.W.mg_of X G a_c_bg, List.forall_mem_cons.mpr ⟨by rw [cOf4]; exact PySem.W.mg_of X G a_c_np, List.forall_mem_cons.mpr ⟨by rw [cOf5]; exact PySem.W.mg_of X G a_c_ul, List.forall_mem_cons.mpr ⟨by rw [cOf6]; exact PySem.W.mg_of X G a_c_bt, List.forall_mem_cons.mpr ⟨by rw [cOf7]; exact PySem.W.mg_of X G a_c_nl, List.forall_mem_cons.mpr ⟨by rw [cOf8]; exact PySem.W.mg_of X G aU, List.forall_mem_cons.mpr ⟨by rw [cOf9]; exact PySem.W.mg_of X G a_c_re, fun _ h => nomatch h⟩⟩⟩⟩⟩⟩⟩⟩⟩⟩
  have XCU : XcE K DU (cOf DN c_bp c_bn c_bg c_np c_ul c_bt c_nl DU c_re) ["entry"] ["BadPins", "BadPin", "BadNumber", "BadGap", "NotPart", "UnlikePins", "BadTable", "NoLot"] := ⟨⟨gaU, ggU, eU, hU, caU, iN, iT, moU⟩, ⟨gaU, ggU, eU, hU⟩, List.forall_mem_cons.mpr ⟨n0U, fun _ h => nomatch h⟩, List.forall_mem_cons.mpr ⟨by rw [cOf0]; exact kit_ref sdU ic_DN tN qUDN, List.forall_mem_cons.mpr ⟨by rw [cOf1]; exact kit_ref sdU ic_c_bp tc_c_bp qUc_bp, List.forall_mem_cons.mpr ⟨by rw [cOf2]; exact kit_ref sdU ic_c_bn tc_c_bn qUc_bn, List.forall_mem_cons.mpr ⟨by rw [cOf3]; exact kit_ref sdU ic_c_bg tc_c_bg qUc_bg, List.forall_mem_cons.mpr ⟨by rw [cOf4]; exact kit_ref sdU ic_c_np tc_c_np qUc_np, List.forall_mem_cons.mpr ⟨by rw [cOf5]; exact kit_ref sdU ic_c_ul tc_c_ul qUc_ul, List.forall_mem_cons.mpr ⟨by rw [cOf6]; exact kit_ref sdU ic_c_bt tc_c_bt qUc_bt, List.forall_mem_cons.mpr ⟨by rw [cOf7]; exact kit_ref sdU ic_c_nl tc_c_nl qUc_nl, fun _ h => nomatch h⟩⟩⟩⟩⟩⟩⟩⟩, by rw [cOf9]; exact kit_ref sdU ic_c_re tc_c_re qUc_re, kit_ve veU, PySem.W.exm_ref eU hU tU sdU⟩
  have XCN : XcE K DN (cOf DN c_bp c_bn c_bg c_np c_ul c_bt c_nl DU c_re) ["pins"] ["BadCord", "BadPin", "BadNumber", "BadGap", "NotPart", "UnlikePins", "BadTable", "NoLot"] := ⟨⟨gaN, ggN, eN, hN, caN, iN, iT, moN⟩, ⟨gaN, ggN, eN, hN⟩, List.forall_mem_cons.mpr ⟨n0N, fun _ h => nomatch h⟩, List.forall_mem_cons.mpr ⟨by rw [cOf8]; exact kit_ref sdN ic_DU tU qNDU, List.forall_mem_cons.mpr ⟨by rw [cOf1]; exact kit_ref sdN ic_c_bp tc_c_bp qNc_bp, List.forall_mem_cons.mpr ⟨by rw [cOf2]; exact kit_ref sdN ic_c_bn tc_c_bn qNc_bn, List.forall_mem_cons.mpr ⟨by rw [cOf3]; exact kit_ref sdN ic_c_bg tc_c_bg qNc_bg, List.forall_mem_cons.mpr ⟨by rw [cOf4]; exact kit_ref sdN ic_c_np tc_c_np qNc_np, List.forall_mem_cons.mpr ⟨by rw [cOf5]; exact kit_ref sdN ic_c_ul tc_c_ul qNc_ul, List.forall_mem_cons.mpr ⟨by rw [cOf6]; exact kit_ref sdN ic_c_bt tc_c_bt qNc_bt, List.forall_mem_cons.mpr ⟨by rw [cOf7]; exact kit_ref sdN ic_c_nl tc_c_nl qNc_nl, fun _ h => nomatch h⟩⟩⟩⟩⟩⟩⟩⟩, by rw [cOf9]; exact kit_ref sdN ic_c_re tc_c_re qNc_re, kit_ve veN, PySem.W.exm_ref eN hN tN sdN⟩
  obtain ⟨its_, BK⟩ := FI_.kbindsD (ps := ["self", "pins", "cords"]) 1 ["cords", "pins"] (fun {_} us _ ws => us ++ ws.reverse) (by simp) (fun r1 _ r3 => r1.append (vals_rev r3)) (fun T kV doc pm an cdv ct us its ws h1 h2 h3 => match us, h1, its, h2, ws, h3 with | [_], _, [_], _, [_, _], _ => ⟨_, rfl, rfl⟩)
  refine ⟨PySem.W.fnOf "law" "law" (defArgs s_law) (defBody s_law) (defScope s_law) .none kV31 dc31 pm31 an31 cd31 ct31, fun s v => .of_eq rfl, fun base _ _ => ?_⟩
  have GeN := ok_BadPins (P := lw.prog) (w := w) (mg := mg) (base := base) EKN luN cuN n0N
  have GeU := ok_BadCord (P := lw.prog) (w := w) (mg := mg) (base := base) EKU luU cuU n0U
  have Gwy := ok_wholeY (P := lw.prog) (w := w) (mg := mg) (base := base) D_is_whole.F T
  have Gsy := ok_seqY (P := lw.prog) (w := w) (mg := mg) (base := base) D_is_sequence.F T
  have Gby := ok_belowY (P := lw.prog) (w := w) (mg := mg) (base := base) D_is_below.F D_is_whole Gwy
  have Gck := ok_ckpinsY (P := lw.prog) (w := w) (mg := mg) (base := base) D_check_pins.F D_is_whole Gwy UCN GeN
  have Gent := ok_entryY (P := lw.prog) (w := w) (mg := mg) (base := base) D_is_entry.F T D_is_whole Gwy D_is_below Gby D_is_sequence Gsy
  have Ggath := ok_gathY (P := lw.prog) (w := w) (mg := mg) (base := base) D_gathered.F T D_is_entry Gent UCU GeU
  have Ginit := ok_initY (P := lw.prog) (w := w) (mg := mg) (base := base) FI_ L D_check_pins Gck D_gathered Ggath
  have Gckpin := ok_ckpin (P := lw.prog) (w := w) (mg := mg) (base := base) D_check_pin.F T D_is_whole D_is_below
  have Geap := ok_eap (P := lw.prog) (w := w) (mg := mg) (base := base) D_ends_at_pins.F T
  have Ggrid := ok_grid (P := lw.prog) (w := w) (mg := mg) (base := base) D_cord_grid.F T
  have Ggaps := ok_gaps (P := lw.prog) (w := w) (mg := mg) (base := base) D_gaps.F T
  have Gsums := ok_sums (P := lw.prog) (w := w) (mg := mg) (base := base) D_sums_before.F T
  have Grows := ok_table (P := lw.prog) (w := w) (mg := mg) (base := base) D_table_rows.F T D_cord_grid Ggrid D_gaps Ggaps D_sums_before Gsums
  have Gtab := ok_tab (P := lw.prog) (w := w) (mg := mg) (base := base) F_Lot_table T L D_table_rows Grows
  have Gends := ok_ends (P := lw.prog) (w := w) (mg := mg) (base := base) F_Lot_ends T L D_check_pin Gckpin D_ends_at_pins Geap
  have Gtotal := ok_total (P := lw.prog) (w := w) (mg := mg) (base := base) F_Lot_total T L
  have Gwh := ok_lwhole (P := lw.prog) (w := w) (mg := mg) (base := base) D__law_whole.F T
  have HWh := okH_lwhole (P := lw.prog) (w := w) (mg := mg) (base := base) D__law_whole.F T
  have Gcell := ok_cell (P := lw.prog) (w := w) (mg := mg) (base := base) D__law_cell.F T
  have Gdig := ok_digits (P := lw.prog) (w := w) (mg := mg) (base := base) D__law_digits.F T
  have Gsame := ok_same (P := lw.prog) (w := w) (mg := mg) (base := base) D__law_same T (PySem.W.mg_none_of X G zDi) D__law_whole Gwh
  have HSame := okH_same (P := lw.prog) (w := w) (mg := mg) (base := base) D__law_same T (PySem.W.mg_none_of X G zDi) D__law_whole HWh
  have Gpins := ok_pins (P := lw.prog) (w := w) (mg := mg) (base := base) D__law_pins.F T D__law_digits Gdig
  have Gnorm := ok_norm (P := lw.prog) (w := w) (mg := mg) (base := base) D__law_norm.F T
  have Gltab := ok_ltab (P := lw.prog) (w := w) (mg := mg) (base := base) D__law_table.F T
  have Glotis := ok_lotis (P := lw.prog) (w := w) (mg := mg) (base := base) D__law_lot_is.F T L I D__law_same (Gsame 2)
  have Gtold := ok_told (P := lw.prog) (w := w) (mg := mg) (base := base) D__law_told.F T L D__law_same (Gsame 2) D__law_table Gltab M_Lot_ends Gends M_Lot_total Gtotal PT_table B_Lot_table Gtab
  have Gcopied := ok_copied (P := lw.prog) (w := w) (mg := mg) (base := base) D__law_copied.F T
  have Grefe := ok_refe (P := lw.prog) (w := w) (mg := mg) (base := base) D__law_refused_entry.F T L (PySem.W.mg_of X G aU) (PySem.W.mg_none_of X G zV) N_ XCU D__law_copied Gcopied MI BI Ginit D__law_same (HSame 3)
  have Grefp := ok_refp (P := lw.prog) (w := w) (mg := mg) (base := base) D__law_refused_pins.F T L (PySem.W.mg_of X G aN) (PySem.W.mg_none_of X G zV) N_ XCN D__law_copied Gcopied MI BI Ginit D__law_same (HSame 3)
  have Gent1 := ok_ent (P := lw.prog) (w := w) (mg := mg) (base := base) D__law_entry.F T D__law_digits Gdig
  have Gbads := ok_bads (P := lw.prog) (w := w) (mg := mg) (base := base) D__law_bad_entries.F T D__law_digits Gdig
  have Gbad1 := ok_bad1 (P := lw.prog) (w := w) (mg := mg) (base := base) D__law_bad_entry.F T D__law_digits Gdig D__law_bad_entries Gbads
  have Gpassed := ok_passed (P := lw.prog) (w := w) (mg := mg) (base := base) D__law_passed.F T
  have Gmade := ok_made (P := lw.prog) (w := w) (mg := mg) (base := base) D__law_made.F T L D__law_passed Gpassed D__law_norm Gnorm D__law_lot_is Glotis D__law_told Gtold D__law_same (Gsame 2) MI BI Ginit BD hz
  have Gall := ok_allref (P := lw.prog) (w := w) (mg := mg) (base := base) D__law_all_refused.F T D__law_digits Gdig D__law_cell Gcell D__law_bad_entry Gbad1 D__law_refused_entry Grefe D__law_refused_pins Grefp
  exact ok_law (fun_mk l31 c31 k31) T L D__law_cell Gcell D__law_pins Gpins D__law_digits Gdig D__law_entry Gent1 D__law_made Gmade D__law_all_refused Gall D__law_norm Gnorm D__law_lot_is Glotis MI BK Ginit
end Own

open PySem PySem.W PyProof.Rows
set_option maxRecDepth 100000 in
set_option maxHeartbeats 0 in
theorem PySem.Challenge.cw_rimcords_k01_lots_made_holds : PySem.Challenge.rw_rimcords_k01_lots_made.Holds := by
  w_on; o_law; k_head; (case hw => w_witness2)
  k_fill
  refine L2.walk_of (l := PySem.Challenge.rw_rimcords_k01_lots_made) (n := 63) (k := 11) (x := "_law_script") (CX := fun _ => L2.CX0) (sp := fun w => Own.spLaw _) rfl (by decide) rfl ⟨rfl, by decide, by decide⟩ (fun w h Y => PySem.W.kIn_of Y) ?F (fun _ _ a ns hl _ hS => ⟨a, ns, rfl, hS, Nat.le_trans hl (by decide), fun _ => rfl⟩) (fun _ _ _ _ _ h => h)
  case F =>
    intro w mg fa h KX G hmg
    refine' Own.all_mk KX G hmg ?a1 ?l1 ?c1 ?k1 ?a2 ?l2 ?c2 ?k2 ?a3 ?l3 ?c3 ?k3 ?a4 ?l4 ?c4 ?k4 ?a5 ?l5 ?c5 ?k5 ?a6 ?l6 ?c6 ?k6 ?a7 ?l7 ?c7 ?k7 ?a8 ?l8 ?c8 ?k8 ?a9 ?l9 ?c9 ?k9 ?a10 ?l10 ?c10 ?k10 ?a11 ?l11 ?c11 ?k11 ?a12 ?l12 ?c12 ?k12 ?a13 ?l13 ?c13 ?k13 ?a14 ?l14 ?c14 ?k14 ?a15 ?l15 ?c15 ?k15 ?a16 ?l16 ?c16 ?k16 ?a17 ?l17 ?c17 ?k17 ?a18 ?l18 ?c18 ?k18 ?a19 ?l19 ?c19 ?k19 ?a20 ?l20 ?c20 ?k20 ?a21 ?l21 ?c21 ?k21 ?a22 ?l22 ?c22 ?k22 ?a23 ?l23 ?c23 ?k23 ?a24 ?l24 ?c24 ?k24 ?a25 ?l25 ?c25 ?k25 ?a26 ?l26 ?c26 ?k26 ?a27 ?l27 ?c27 ?k27 ?a28 ?l28 ?c28 ?k28 ?a29 ?l29 ?c29 ?k29 ?a30 ?l30 ?c30 ?k30 ?a31 ?l31 ?c31 ?k31 ?aC ?iP_table ?rP_table ?gP_table ?tP_table ?i32 ?n32 ?l32 ?c32 ?k32 ?i33 ?n33 ?l33 ?c33 ?k33 ?l34 ?c34 ?k34 ?i35 ?n35 ?l35 ?c35 ?k35 ?lT ?lz ?pg ?hd ?po ?sa ?mk ?kc ?nP ?nC ?iA ?iN ?iT ?iM ?aU ?aN ?a_c_bp ?a_c_bn ?a_c_bg ?a_c_np ?a_c_ul ?a_c_bt ?a_c_nl ?a_c_re ?lU ?saU ?eU ?tU ?kU ?iuU ?tuU ?luU ?cuU ?lcU ?ldU ?cvU ?cfU ?veU ?meU ?gaU ?ggU ?hU ?caU ?moU ?sdU ?n0U ?qUDN ?qUc_bp ?qUc_bn ?qUc_bg ?qUc_np ?qUc_ul ?qUc_bt ?qUc_nl ?qUc_re ?lN ?saN ?eN ?tN ?kN ?iuN ?tuN ?luN ?cuN ?lcN ?ldN ?cvN ?cfN ?veN ?meN ?gaN ?ggN ?hN ?caN ?moN ?sdN ?n0N ?qNc_bp ?qNc_bn ?qNc_bg ?qNc_np ?qNc_ul ?qNc_bt ?qNc_nl ?qNDU ?qNc_re ?ic_DN ?ic_c_bp ?tc_c_bp ?ic_c_bn ?tc_c_bn ?ic_c_bg ?tc_c_bg ?ic_c_np ?tc_c_np ?ic_c_ul ?tc_c_ul ?ic_c_bt ?tc_c_bt ?ic_c_nl ?tc_c_nl ?ic_DU ?ic_c_re ?tc_c_re ?lRe ?iRe ?opD ?tpD ?zS ?zV ?zDi ?z0 ?z1 ?z2 ?z3 ?z4 ?z5 ?z6 ?z7 ?z8 ?z9 ?z10 ?z11
    (case a1 => k_is)
    (case l1 => k_is)
    (case c1 => k_is)
    (case k1 => k_is)
    (case a2 => k_is)
    (case l2 => k_is)
    (case c2 => k_is)
    (case k2 => k_is)
    (case a3 => k_is)
    (case l3 => k_is)
    (case c3 => k_is)
    (case k3 => k_is)
    (case a4 => k_is)
    (case l4 => k_is)
    (case c4 => k_is)
    (case k4 => k_is)
    (case a5 => k_is)
    (case l5 => k_is)
    (case c5 => k_is)
    (case k5 => k_is)
    (case a6 => k_is)
    (case l6 => k_is)
    (case c6 => k_is)
    (case k6 => k_is)
    (case a7 => k_is)
    (case l7 => k_is)
    (case c7 => k_is)
    (case k7 => k_is)
    (case a8 => k_is)
    (case l8 => k_is)
    (case c8 => k_is)
    (case k8 => k_is)
    (case a9 => k_is)
    (case l9 => k_is)
    (case c9 => k_is)
    (case k9 => k_is)
    (case a10 => k_is)
    (case l10 => k_is)
    (case c10 => k_is)
    (case k10 => k_is)
    (case a11 => k_is)
    (case l11 => k_is)
    (case c11 => k_is)
    (case k11 => k_is)
    (case a12 => k_is)
    (case l12 => k_is)
    (case c12 => k_is)
    (case k12 => k_is)
    (case a13 => k_is)
    (case l13 => k_is)
    (case c13 => k_is)
    (case k13 => k_is)
    (case a14 => k_is)
    (case l14 => k_is)
    (case c14 => k_is)
    (case k14 => k_is)
    (case a15 => k_is)
    (case l15 => k_is)
    (case c15 => k_is)
    (case k15 => k_is)
    (case a16 => k_is)
    (case l16 => k_is)
    (case c16 => k_is)
    (case k16 => k_is)
    (case a17 => k_is)
    (case l17 => k_is)
    (case c17 => k_is)
    (case k17 => k_is)
    (case a18 => k_is)
    (case l18 => k_is)
    (case c18 => k_is)
    (case k18 => k_is)
    (case a19 => k_is)
    (case l19 => k_is)
    (case c19 => k_is)
    (case k19 => k_is)
    (case a20 => k_is)
    (case l20 => k_is)
    (case c20 => k_is)
    (case k20 => k_is)
    (case a21 => k_is)
    (case l21 => k_is)
    (case c21 => k_is)
    (case k21 => k_is)
    (case a22 => k_is)
    (case l22 => k_is)
    (case c22 => k_is)
    (case k22 => k_is)
    (case a23 => k_is)
    (case l23 => k_is)
    (case c23 => k_is)
    (case k23 => k_is)
    (case a24 => k_is)
    (case l24 => k_is)
    (case c24 => k_is)
    (case k24 => k_is)
    (case a25 => k_is)
    (case l25 => k_is)
    (case c25 => k_is)
    (case k25 => k_is)
    (case a26 => k_is)
    (case l26 => k_is)
    (case c26 => k_is)
    (case k26 => k_is)
    (case a27 => k_is)
    (case l27 => k_is)
    (case c27 => k_is)
    (case k27 => k_is)
    (case a28 => k_is)
    (case l28 => k_is)
    (case c28 => k_is)
    (case k28 => k_is)
    (case a29 => k_is)
    (case l29 => k_is)
    (case c29 => k_is)
    (case k29 => k_is)
    (case a30 => k_is)
    (case l30 => k_is)
    (case c30 => k_is)
    (case k30 => k_is)
    (case a31 => k_is)
    (case l31 => k_is)
    (case c31 => k_is)
    (case k31 => k_is)
    (case aC => k_is)
    (case iP_table => k_is)
    (case rP_table => k_is)
    (case gP_table => k_is)
    (case tP_table => k_is)
    (case i32 => k_is)
    (case n32 => k_is)
    (case l32 => k_is)
    (case c32 => k_is)
    (case k32 => k_is)
    (case i33 => k_is)
    (case n33 => k_is)
    (case l33 => k_is)
    (case c33 => k_is)
    (case k33 => k_is)
    (case l34 => k_is)
    (case c34 => k_is)
    (case k34 => k_is)
    (case i35 => k_is)
    (case n35 => k_is)
    (case l35 => k_is)
    (case c35 => k_is)
    (case k35 => k_is)
    (case lT => k_is)
    (case lz => k_is)
    (case pg => k_is)
    (case hd => k_is)
    (case po => k_is)
    (case sa => k_is)
    (case mk => k_is)
    (case kc => k_is)
    (case nP => k_is)
    (case nC => k_is)
    (case iA => k_is)
    (case iN => k_is)
    (case iT => k_is)
    (case iM => k_is)
    (case aU => k_is)
    (case aN => k_is)
    (case a_c_bp => k_is)
    (case a_c_bn => k_is)
    (case a_c_bg => k_is)
    (case a_c_np => k_is)
    (case a_c_ul => k_is)
    (case a_c_bt => k_is)
    (case a_c_nl => k_is)
    (case a_c_re => k_is)
    (case lU => k_is)
    (case saU => k_is)
    (case eU => k_is)
    (case tU => k_is)
    (case kU => k_is)
    (case iuU => k_is)
    (case tuU => k_is)
    (case luU => k_is)
    (case cuU => k_is)
    (case lcU => k_is)
    (case ldU => k_is)
    (case cvU => first | rfl | decide +kernel)
    (case cfU => first | rfl | decide +kernel)
    (case veU => k_is)
    (case meU => k_is)
    (case gaU => k_is)
    (case ggU => k_is)
    (case hU => k_is)
    (case caU => k_is)
    (case moU => k_is)
    (case sdU => k_is)
    (case n0U => k_is)
    (case qUDN => k_is)
    (case qUc_bp => k_is)
    (case qUc_bn => k_is)
    (case qUc_bg => k_is)
    (case qUc_np => k_is)
    (case qUc_ul => k_is)
    (case qUc_bt => k_is)
    (case qUc_nl => k_is)
    (case qUc_re => k_is)
    (case lN => k_is)
    (case saN => k_is)
    (case eN => k_is)
    (case tN => k_is)
    (case kN => k_is)
    (case iuN => k_is)
    (case tuN => k_is)
    (case luN => k_is)
    (case cuN => k_is)
    (case lcN => k_is)
    (case ldN => k_is)
    (case cvN => first | rfl | decide +kernel)
    (case cfN => first | rfl | decide +kernel)
    (case veN => k_is)
    (case meN => k_is)
    (case gaN => k_is)
    (case ggN => k_is)
    (case hN => k_is)
    (case caN => k_is)
    (case moN => k_is)
    (case sdN => k_is)
    (case n0N => k_is)
    (case qNc_bp => k_is)
    (case qNc_bn => k_is)
    (case qNc_bg => k_is)
    (case qNc_np => k_is)
    (case qNc_ul => k_is)
    (case qNc_bt => k_is)
    (case qNc_nl => k_is)
    (case qNDU => k_is)
    (case qNc_re => k_is)
    (case ic_DN => k_is)
    (case ic_c_bp => k_is)
    (case tc_c_bp => k_is)
    (case ic_c_bn => k_is)
    (case tc_c_bn => k_is)
    (case ic_c_bg => k_is)
    (case tc_c_bg => k_is)
    (case ic_c_np => k_is)
    (case tc_c_np => k_is)
    (case ic_c_ul => k_is)
    (case tc_c_ul => k_is)
    (case ic_c_bt => k_is)
    (case tc_c_bt => k_is)
    (case ic_c_nl => k_is)
    (case tc_c_nl => k_is)
    (case ic_DU => k_is)
    (case ic_c_re => k_is)
    (case tc_c_re => k_is)
    (case lRe => k_is)
    (case iRe => k_is)
    (case opD => k_is)
    (case tpD => first | rfl | decide +kernel)
    (case zS => k_is)
    (case zV => k_is)
    (case zDi => k_is)
    (case z0 => k_is)
    (case z1 => k_is)
    (case z2 => k_is)
    (case z3 => k_is)
    (case z4 => k_is)
    (case z5 => k_is)
    (case z6 => k_is)
    (case z7 => k_is)
    (case z8 => k_is)
    (case z9 => k_is)
    (case z10 => k_is)
    (case z11 => k_is)
