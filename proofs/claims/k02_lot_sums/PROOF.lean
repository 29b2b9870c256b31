import PyProof.Rows.All
import Wide.All
import OpenK.AllK
import Wide.FinOn
import HandS.ForMost
import HandS.IsInst
import HandS.Style
import HandS.Defaults
import HandS.MakeKwOnly
import HandS.Conv
import HandS.Sort
import HandS.SortRule
import HandS.Deep
import HandS.Property
import HandS.TupSets
import HandS.Codes
import HandS.Exc
import HandS.ExcInit
import HandS.ExcField
import HandS.ExcIs
import HandS.TryOnly
import HandS.Nested
import HandS.FStr
import KE.KExcSuper
import HandS.SetFor
import HandS.ExcOwn
import KE.KExcIs
import KE.DataFind
import HandS.ExcCtx
import HandS.HotCalls
import HandS.WordsExc
import HandS.FStrTup
import PyProof.ReprHeads
import PyProof.ReprHeadsEmpty
import HandS.SlotsOwn
import HandS.TupAny
import KE.KOpsOwn
import HandS.DictComp
import HandS.Walk
import HandS.IterVal
import HandS.OwnIter
import OpenK.KMore
import HandS.Rev
import PySem.Challenge.RW_rimcords_k02_lot_sums
set_option Elab.async false
set_option linter.all false
set_option maxRecDepth 100000
/-! Rules of my own for the hand layer. -/
namespace Own
open PySem PySem.Spec PyProof.Rows L2
/-- the two ints of a pair that stands in the heap -/
def kOf (H : Hp) (v : V) : Int × Int := match v with
  | .ref a => match H a with
    | some (.tup [.int i, .int j]) => (i, j)
    | _ => (0, 0)
  | _ => (0, 0)
theorem kOf_at {H : Hp} {a : Addr} {i j : Int} (h : H a = some (.tup [.int i, .int j])) : kOf H (.ref a) = (i, j) := by
  show (match H a with | some (.tup [.int i, .int j]) => (i, j) | _ => (0, 0)) = (i, j)
  rw [h]
def rSortedDT : List V → Hp → VK → Prop := fun vs H Q => ∃ (d : Addr) (kvs : List (List Key × V)), vs = [V.ref d] ∧ Rd H d (.dT kvs) ∧ (∀ kv ∈ kvs, ∃ i j : Int, kv.1 = [Sum.inl i, Sum.inl j]) ∧
  ∀ (bs : List Addr) (ys : List V) (p : Addr), IsKeys H kvs bs → SrtO.Srtd (ltP (kOf H)) ys → SrtO.Stb (ltP (kOf H)) ys (bs.map V.ref) → H p = none → Q (.ref p) (upd H p (.lst ys))
section
variable {X : Cx}
theorem paired_right {α β : Type} {R : α → β → Prop} {xs : List α} {ys : List β} (h : Paired R xs ys) : ∀ y ∈ ys, ∃ x ∈ xs, R x y := by
  induction h with
  | nil => intro y hy; cases hy
  | cons h t ih =>
    intro y hy
    rcases List.mem_cons.mp hy with e | e
    · subst e
      exact ⟨_, List.mem_cons_self, h⟩
    · obtain ⟨x, hx, hr⟩ := ih y e
      exact ⟨x, List.mem_cons_of_mem _ hx, hr⟩
theorem cr_sortedDT (hc : X.calm = true) : CallR X (.builtin "sorted") rSortedDT := by
  intro pins s σ H xs us Q I r h
  obtain ⟨d, kvs, rfl, hd, hkv, q⟩ := h
  obtain ⟨u, rfl, rx⟩ := r.one
  cases rx
  obtain ⟨z, hs, ks, pr, o, es, ep, ho, hx, hdt, he, hn⟩ := (show ObjOk X.prog X.w H s.heap d (.dT kvs) from hd.ok I.hok)
  have l1 : es.size = ks.length := size_of_entries he
  have l2 : kvs.length = ks.length := Paired.length pr
  refine Calls.call_function_entry PyProof.Rows.kind_sorted PyProof.Rows.plain_sorted PyProof.Rows.entry_sorted (PyProof.Rows.args_sorted1 _) ?_
  unfold Builtin.«sorted»
  refine wpAny_bind (m := checkCount "sorted" 1 1 _) (wpAny_pure ?_)
  refine wpAny_bind (PySem.W.kdu_collect (A := X.A.in1) (kdl_raw hs hx hdt) (I.ok.hd hc) ho (by omega) fun h' tk acc' kp it => ?_)
  have ea : acc'.toList = ks.map fun x => Value.ref x.2.1 := by
    have hl : acc'.toList.length = ks.length := by rw [Array.length_toList, it.1]; exact l1
    apply List.ext_getElem?
    intro j
    rw [List.getElem?_map]
    cases hj : acc'.toList[j]? with
    | none =>
      have h1 := List.getElem?_eq_none_iff.mp hj
      rw [List.getElem?_eq_none (by omega)]
      all_goals rfl
    | some v =>
      obtain ⟨en, hen, hv⟩ := it.2 j v (by rw [← Array.getElem?_toList]; exact hj)
      have qe := entry_at he j
      rw [hen] at qe
      cases hb : ks[j]? with
      | none =>
        rw [hb] at qe
        exact nomatch (show some en = none from qe)
      | some b =>
        rw [hb] at qe
        have e2 : en = entryOfKey (tupleKind (mixKind X.prog X.w)) b := Option.some.inj qe
        rw [hv, e2]
        all_goals rfl
  have hal : acc'.toList.length ≤ sizeLine := by rw [ea, List.length_map]; omega
  have I1 : Inv X pins σ H { s with heap := h', toks := tk } := I.kept kp
  have keys := isKeys_of pr
  have hpair : ∀ v ∈ acc'.toList, ∃ t i j, v = Value.ref t ∧ H t = some (.tup [.int i, .int j]) := fun v hv => by
    rw [ea] at hv
    obtain ⟨x, hx, rfl⟩ := List.mem_map.mp hv
    obtain ⟨kv, hkm, hb⟩ := paired_right keys x.2.1 (List.mem_map.mpr ⟨x, hx, rfl⟩)
    obtain ⟨i, j, e⟩ := hkv kv hkm
    rw [e] at hb
    exact ⟨_, i, j, rfl, hb⟩
  refine wpAny_bind (wpAny_newList ?_ hal)
  have hoL : (h'.push (seqObj "list" acc'.toList.toArray 0)).get? h'.objs.size = some (seqObj "list" acc'.toList.toArray 0) := Heap.get?_push_size _ rfl
  have hp : ∀ v ∈ acc'.toList, Srt.IsPair (h'.push (seqObj "list" acc'.toList.toArray 0)) v (kOf H (backV v)).1 (kOf H (backV v)).2 := fun v hv => by
    obtain ⟨t, i, j, rfl, ht⟩ := hpair v hv
    obtain ⟨_, its2, r2, o, ho2, hc2, n2, hd2⟩ := I1.hok _ _ ht
    obtain ⟨u1, u2, rfl, ri, rj⟩ := vals2 r2
    obtain ⟨t1, rfl⟩ := ri
    obtain ⟨t2, rfl⟩ := rj
    rw [show backV (Value.ref t) = V.ref t from rfl, kOf_at ht]
    exact ⟨t, o, t1, t2, n2, rfl, Heap.get?_push_of_some _ ho2, hc2, hd2⟩
  show wpAny _ _ _ _ _ { s with heap := h'.push (seqObj "list" acc'.toList.toArray 0), toks := tk }
  refine wpAny_bind (wpAny_holding (wpAny_call_entry PyProof.Rows.slot_list_sort ⟨_, hoL, rfl⟩ PyProof.Rows.entry_list_sort
    (SrtO.list_sort_ord (s := { s with heap := h'.push (seqObj "list" acc'.toList.toArray 0), toks := tk }) (SrtO.swo_lex fun v => kOf H (backV v)) hoL hal (fun h2 => ?_) fun out hs hb => ⟨_, rfl, ?_⟩) (PyProof.Rows.args_list_sort _)))
  · refine SrtO.pairs_sortableO (s := { s with heap := h'.push (seqObj "list" acc'.toList.toArray 0), toks := tk }) (by omega) hp fun o e => ?_
    have e' : some o = some (seqObj "list" acc'.toList.toArray 0) := e.symm.trans hoL
    cases e'
    intro c
    exact absurd (Value.type.inj c) (by decide)
  · obtain ⟨e', he'⟩ := PyProof.Rows.sortedHeap_at (vs := acc'.toList) (out := out.toArray) hoL
    have hrefs : ∀ u ∈ out, ∃ a, u = Value.ref a := fun u hu => by
      obtain ⟨t, i, j, e, _⟩ := hpair u (hb.perm.mem_iff.mp hu)
      exact ⟨t, e⟩
    have hb2 : SrtO.Stb (ltP (kOf H)) (out.map backV) ((ks.map fun x => x.2.1).map V.ref) := by
      have e1 : ((ks.map fun x => x.2.1).map V.ref) = acc'.toList.map backV := by
        rw [ea, List.map_map, List.map_map]
        rfl
      rw [e1]
      exact SrtO.Stb.map (ltP_swo (kOf H)) backV hb
    have hlen : (out.map backV).length ≤ sizeLine := by
      rw [List.length_map, hb.perm.length_eq]
      exact hal
    refine wpAny_pure ⟨_, rfl, .ref h'.objs.size, upd H h'.objs.size (.lst (out.map backV)), I1.laid (t' := tk) (fun b u e => ?_) (Nat.le_refl _)
      (show ObjOk X.prog X.w _ _ _ (.lst (out.map backV)) from ⟨hlen, out, e', vals_back hrefs, by exact he'⟩), rfl, q _ _ _ keys (SrtO.srtd_map hs) hb2 (I1.hok.fresh (Nat.le_refl _))⟩
    have hbn : b < h'.objs.size := Heap.lt_size e
    rw [PyProof.Rows.sortedHeap_old (Nat.ne_of_lt hbn) (by rw [size_push']; exact Nat.lt_succ_of_lt hbn)]
    exact Heap.get?_push_of_some _ e
/-- len(o), o an instance of an own class with a __len__ -/
def rLenOwn (C : Addr) (sp : Sp) (E : XK) : List V → Hp → VK → Prop := fun vs H Q => ∃ (a dx : Addr) (fs : List (Str × V)), vs = [V.ref a] ∧ H a = some (.ins C dx fs) ∧ sp [V.ref a] H (fun v H' => ∃ n : Nat, v = .int (n : Int) ∧ n ≤ sizeLine ∧ Q (.int (n : Int)) H') E
theorem cr_lenOwn {CX : CXT} {k : Nat} {C f : Addr} {fd : FuncData} {ps : List Str} {sp : Sp} {E : XK} (hm : Meth X.K C "__len__" f) (F : FnOk X.prog X.w X.K X.mg X.base CX k f fd ps sp) (hr : Room (k + 1) X.A) (hb : Binds X.K fd ps []) (hx : Passes CX X.nox E) :
    CallR X (.builtin "len") (rLenOwn C sp E) := by
  intro pins s σ H xs us Q I r h
  obtain ⟨a, dx, fs, rfl, ea, q⟩ := h
  obtain ⟨u, rfl, rx⟩ := vals1 r
  cases rx
  obtain ⟨mA, O, _, _, _, _⟩ := ins_get I.hok ea
  obtain ⟨od, J, _⟩ := O.look
  have hl : [Value.ref a].length = ps.length := (F.len _ _ _ _ q : _)
  apply Calls.call_function_entry kind_len plain_len entry_len (args_len1 _)
  show wpAny _ _ (Builtin.«len» _) _ _ _
  unfold Builtin.«len»
  apply wpAny_bind (m := oneArg "len" _)
  apply wpAny_pure
  apply wpAny_bind (m := callSpecial? (.ref a) (Str.ofString "__len__"))
  apply PySem.W.special_fn I.kIn J hm.at_ (beq_iff_eq.mp hm.fn)
  apply wpAny_call
  refine codeAny_mono (F.run X.A.in1 X.stack s H ⟨[.ref a], []⟩ [.ref a] [V.ref a] _ E hr.in1 I.env0.in1 (hb s [.ref a] I.kIn hl) (.cons rfl .nil) q) fun r s' hq => ?_
  rcases r with e | fl
  · exact False.elim (hx pins σ H s e s' (I.wish _) hq)
  · cases fl <;> first | exact False.elim hq | skip
    rename_i u
    obtain ⟨v, H', I3, rv, n, ev, hn, q3⟩ := I.after hq
    subst ev
    obtain ⟨t, et⟩ := rv
    subst et
    have h63 : sizeLine < 2 ^ 63 := by decide
    apply wpAny_bind
    apply wpAny_holding
    apply wpAny_pure
    apply wpAny_bind
    apply wpAny_letGo
    show wpAny _ _ (if (n : Int) < 0 then _ else _) _ _ _
    rw [if_neg (by omega)]
    show wpAny _ _ (if (n : Int) ≥ 2 ^ 63 then _ else _) _ _ _
    rw [if_neg (by omega)]
    apply wpAny_bind
    apply wpAny_mkInt
    exact wpAny_pure ⟨_, rfl, .int (n : Int), H', I3.tok _, ⟨_, rfl⟩, q3⟩
/-- for x in xs, xs a list or a tuple -/
def iSeq (K : PySem.W.Frag) (ta : TE) : TI := fun σ H R => ta σ H fun x H1 => ∃ a, x = .ref a ∧ (((∃ xs, SqL K H1 a xs) ∧ R (Itl K a) H1) ∨ ((∃ xs, SqT K H1 a xs) ∧ R (Itt K a) H1))
theorem pi_seq {tg l : Expr} {tl : TE} (hl : PE X l tl) : PI X tg l (iSeq X.K tl) := by
  refine ⟨fun pins s σ H R I h => thn (hl.run pins s σ H _ I h) ?_⟩
  rintro v s1 ⟨x, H1, I1, r1, a, rfl, q | q⟩
  all_goals
    obtain ⟨⟨xs, hq⟩, q⟩ := q
    obtain rfl : v = Value.ref a := r1
    have fresh := I1.fpOk (Nat.le_refl s1.heap.objs.size) (I1.hok.fresh (Nat.le_refl _))
    have older : ∀ {u : Obj}, Inv X pins σ H1 { s1 with heap := s1.heap.push u, toks := s1.toks } := fun {u} => I1.kept (t' := s1.toks) fun b o e => Heap.get?_push_of_some _ e
  · obtain ⟨its, rv, p, hz⟩ := I1.list hq
    exact wpAny_pyIter_list p.isList ⟨_, [s1.heap.objs.size], _, _, H1, rfl, older, turn_list a _, ⟨_, Heap.get?_push_size _ rfl, rfl, rfl⟩, fun b hb => by rw [List.mem_singleton.mp hb]; exact fresh, q⟩
  · obtain ⟨its, rv, p, hz⟩ := I1.tuple hq
    exact wpAny_pyIter_tuple (show s1.heap.IsTuple a its.toArray from p) ⟨_, [s1.heap.objs.size], _, _, H1, rfl, older, turn_tuple a _, ⟨_, Heap.get?_push_size _ rfl, rfl, rfl⟩, fun b hb => by rw [List.mem_singleton.mp hb]; exact fresh, q⟩
/-- the loop's rule for both -/
def SqB (K : PySem.W.Frag) (H : Hp) (a : Addr) (xs : List V) : Prop := SqL K H a xs ∨ SqT K H a xs
end
end Own

/-! Lots of cords as plain lists. -/
namespace Own
/-- one entry: two pins and a number of cords -/
abbrev Tr := Int × Int × Int
def lo (a b : Int) : Int := if b < a then b else a
def hi (a b : Int) : Int := if b > a then b else a
theorem lo_hi (a b : Int) : (a ≤ b ∧ lo a b = a ∧ hi a b = b) ∨ (b < a ∧ lo a b = b ∧ hi a b = a) := by
  unfold lo hi
  by_cases h : b < a
  · right
    rw [if_pos h, if_neg (by omega)]
    omega
  · left
    rw [if_neg h]
    by_cases e : b > a
    · rw [if_pos e]
      omega
    · rw [if_neg e]
      omega
/-- its pins as they stand, and in order -/
def pr (t : Tr) : Int × Int := (t.1, t.2.1)
def ky (t : Tr) : Int × Int := (lo t.1 t.2.1, hi t.1 t.2.1)
def Lex (p q : Int × Int) : Prop := p.1 < q.1 ∨ (p.1 = q.1 ∧ p.2 < q.2)
/-- the cords of all entries that the test takes: by the pins as they stand, by the pins in order -/
def bs (f : Int × Int → Bool) : List Tr → Int
  | [] => 0
  | t :: r => (if f (pr t) = true then t.2.2 else 0) + bs f r
def bk (f : Int × Int → Bool) : List Tr → Int
  | [] => 0
  | t :: r => (if f (ky t) = true then t.2.2 else 0) + bk f r
def tot (p : Int × Int) (l : List Tr) : Int := bk (fun q => decide (q = p)) l
theorem bs_append (f : Int × Int → Bool) (l m : List Tr) : bs f (l ++ m) = bs f l + bs f m := by
  induction l with
  | nil => simp [bs]
  | cons t r ih =>
    rw [List.cons_append, bs, bs, ih]
    omega
theorem bk_append (f : Int × Int → Bool) (l m : List Tr) : bk f (l ++ m) = bk f l + bk f m := by
  induction l with
  | nil => simp [bk]
  | cons t r ih =>
    rw [List.cons_append, bk, bk, ih]
    omega
theorem bs_congr {f g : Int × Int → Bool} {l : List Tr} (h : ∀ t ∈ l, f (pr t) = g (pr t)) : bs f l = bs g l := by
  induction l with
  | nil => rfl
  | cons t r ih =>
    rw [bs, bs, h t List.mem_cons_self, ih fun u hu => h u (List.mem_cons_of_mem _ hu)]
/-- r is l in order: one entry for each two pins, the smaller pin first -/
structure IsNorm (l r : List Tr) : Prop where
  srt : (r.map pr).Pairwise Lex
  mem : ∀ p, p ∈ r.map pr ↔ p ∈ l.map ky
  cnt : ∀ e ∈ r, e.2.2 = tot (pr e) l
theorem lex_irr {p : Int × Int} : ¬ Lex p p := by
  unfold Lex
  omega
theorem lex_asym {p q : Int × Int} (h : Lex p q) : ¬ Lex q p := by
  unfold Lex at h ⊢
  omega
theorem sorted_uniq : ∀ {xs ys : List (Int × Int)}, xs.Pairwise Lex → ys.Pairwise Lex → (∀ p, p ∈ xs ↔ p ∈ ys) → xs = ys
  | [], [], _, _, _ => rfl
  | [], y :: ys, _, _, h => absurd ((h y).mpr List.mem_cons_self) (by simp)
  | x :: xs, [], _, _, h => absurd ((h x).mp List.mem_cons_self) (by simp)
  | x :: xs, y :: ys, hx, hy, h => by
    have hx1 := List.pairwise_cons.mp hx
    have hy1 := List.pairwise_cons.mp hy
    have e : x = y := by
      rcases List.mem_cons.mp ((h x).mp List.mem_cons_self) with e | m
      · exact e
      · rcases List.mem_cons.mp ((h y).mpr List.mem_cons_self) with e | m2
        · exact e.symm
        · exact absurd (hy1.1 x m) (lex_asym (hx1.1 y m2))
    subst e
    congr 1
    refine sorted_uniq hx1.2 hy1.2 fun p => ⟨fun m => ?_, fun m => ?_⟩
    · rcases List.mem_cons.mp ((h p).mp (List.mem_cons_of_mem _ m)) with e | m2
      · subst e
        exact absurd (hx1.1 p m) lex_irr
      · exact m2
    · rcases List.mem_cons.mp ((h p).mpr (List.mem_cons_of_mem _ m)) with e | m2
      · subst e
        exact absurd (hy1.1 p m) lex_irr
      · exact m2
theorem of_pairs {r : List Tr} {g : Int × Int → Int} (h : ∀ e ∈ r, e.2.2 = g (pr e)) : r = (r.map pr).map fun p => (p.1, p.2, g p) := by
  induction r with
  | nil => rfl
  | cons e r ih =>
    rw [List.map_cons, List.map_cons, ← ih fun u hu => h u (List.mem_cons_of_mem _ hu), ← h e List.mem_cons_self]
    rfl
theorem norm_uniq {l r s : List Tr} (h : IsNorm l r) (k : IsNorm l s) : r = s := by
  have e : r.map pr = s.map pr := sorted_uniq h.srt k.srt fun p => by rw [h.mem, k.mem]
  exact (of_pairs (g := fun p => tot p l) h.cnt).trans ((congrArg (List.map _) e).trans (of_pairs (g := fun p => tot p l) k.cnt).symm)
/-- the sum over a list of pairs, by their numbers in l -/
def ps (f : Int × Int → Bool) (l : List Tr) : List (Int × Int) → Int
  | [] => 0
  | p :: r => (if f p = true then tot p l else 0) + ps f l r
theorem ps_nil (f : Int × Int → Bool) (P : List (Int × Int)) : ps f [] P = 0 := by
  induction P with
  | nil => rfl
  | cons p r ih =>
    rw [ps, ih]
    show (if f p = true then (0 : Int) else 0) + 0 = 0
    split <;> rfl
theorem tot_cons (p : Int × Int) (t : Tr) (l : List Tr) : tot p (t :: l) = (if ky t = p then t.2.2 else 0) + tot p l := by
  unfold tot
  rw [bk]
  by_cases h : ky t = p <;> simp [h]
theorem ps_out (f : Int × Int → Bool) (t : Tr) (l : List Tr) {P : List (Int × Int)} (h : ky t ∉ P) : ps f (t :: l) P = ps f l P := by
  induction P with
  | nil => rfl
  | cons p r ih =>
    have hne : ¬ ky t = p := fun z => h (by rw [z]; exact List.mem_cons_self)
    have ht : tot p (t :: l) = tot p l := by
      rw [tot_cons, if_neg hne]
      omega
    rw [ps, ps, ih fun z => h (List.mem_cons_of_mem _ z), ht]
theorem ps_in (f : Int × Int → Bool) (t : Tr) (l : List Tr) {P : List (Int × Int)} (hn : P.Nodup) (h : ky t ∈ P) : ps f (t :: l) P = (if f (ky t) = true then t.2.2 else 0) + ps f l P := by
  induction P with
  | nil => cases h
  | cons p r ih =>
    have hc := List.nodup_cons.mp hn
    by_cases e : ky t = p
    · subst e
      rw [ps, ps, tot_cons, if_pos rfl, ps_out f t l hc.1]
      split <;> omega
    · have hr : ky t ∈ r := (List.mem_cons.mp h).resolve_left e
      rw [ps, ps, tot_cons, if_neg e, ih hc.2 hr]
      split <;> split <;> omega
theorem ps_all (f : Int × Int → Bool) {P : List (Int × Int)} (hn : P.Nodup) : ∀ {l : List Tr}, (∀ t ∈ l, ky t ∈ P) → ps f l P = bk f l
  | [], _ => ps_nil f P
  | t :: l, h => by
    rw [ps_in f t l hn (h t List.mem_cons_self), ps_all f hn fun u hu => h u (List.mem_cons_of_mem _ hu)]
    rfl
theorem srt_nodup {xs : List (Int × Int)} (h : xs.Pairwise Lex) : xs.Nodup := by
  refine List.Pairwise.imp ?_ h
  intro a b hab e
  subst e
  exact lex_irr hab
theorem bs_ps (f : Int × Int → Bool) {l r : List Tr} (h : ∀ e ∈ r, e.2.2 = tot (pr e) l) : bs f r = ps f l (r.map pr) := by
  induction r with
  | nil => rfl
  | cons e r ih =>
    rw [bs, List.map_cons, ps, ih fun u hu => h u (List.mem_cons_of_mem _ hu), h e List.mem_cons_self]
theorem bs_norm (f : Int × Int → Bool) {l r : List Tr} (h : IsNorm l r) : bs f r = bk f l := by
  rw [bs_ps f h.cnt, ps_all f (srt_nodup h.srt) fun t ht => (h.mem _).mpr (List.mem_map.mpr ⟨t, ht, rfl⟩)]
/-- an entry that may stand in a lot -/
def Vld (n : Int) (t : Tr) : Prop := 0 ≤ t.1 ∧ t.1 < n ∧ 0 ≤ t.2.1 ∧ t.2.1 < n ∧ t.1 ≠ t.2.1 ∧ 1 ≤ t.2.2
/-- a lot in order on n pins -/
structure Good (n : Int) (r : List Tr) : Prop where
  srt : (r.map pr).Pairwise Lex
  ord : ∀ e ∈ r, 0 ≤ e.1 ∧ e.1 < e.2.1 ∧ e.2.1 < n ∧ 1 ≤ e.2.2
theorem ky_ord {e : Tr} (h : e.1 < e.2.1) : ky e = pr e := by
  have := lo_hi e.1 e.2.1
  unfold ky pr
  rw [Prod.mk.injEq]
  omega
theorem Good.vld {n : Int} {r : List Tr} (g : Good n r) : ∀ e ∈ r, Vld n e := fun e h => by
  have := g.ord e h
  unfold Vld
  omega
theorem bk_bs (f : Int × Int → Bool) {r : List Tr} (h : ∀ e ∈ r, e.1 < e.2.1) : bk f r = bs f r := by
  induction r with
  | nil => rfl
  | cons e r ih => rw [bk, bs, ky_ord (h e List.mem_cons_self), ih fun u hu => h u (List.mem_cons_of_mem _ hu)]
theorem bs_none {f : Int × Int → Bool} {r : List Tr} (h : ∀ e ∈ r, f (pr e) = false) : bs f r = 0 := by
  induction r with
  | nil => rfl
  | cons e r ih =>
    rw [bs, h e List.mem_cons_self, ih fun u hu => h u (List.mem_cons_of_mem _ hu)]
    rfl
theorem self_cnt {r : List Tr} (h : (r.map pr).Nodup) : ∀ e ∈ r, e.2.2 = bs (fun q => decide (q = pr e)) r := by
  induction r with
  | nil => intro e he; cases he
  | cons t r ih =>
    have hc := List.nodup_cons.mp h
    intro e he
    rw [bs]
    rcases List.mem_cons.mp he with rfl | hr
    · rw [bs_none fun u hu => decide_eq_false fun z => hc.1 (by rw [← z]; exact List.mem_map.mpr ⟨u, hu, rfl⟩)]
      simp
    · have hne : ¬ pr t = pr e := fun z => hc.1 (by rw [z]; exact List.mem_map.mpr ⟨e, hr, rfl⟩)
      rw [← ih hc.2 e hr]
      simp [hne]
theorem Good.self {n : Int} {r : List Tr} (g : Good n r) : IsNorm r r := by
  have ho : ∀ e ∈ r, e.1 < e.2.1 := fun e h => (g.ord e h).2.1
  have hm : r.map ky = r.map pr := List.map_congr_left fun e h => ky_ord (ho e h)
  refine ⟨g.srt, fun p => by rw [hm], fun e h => ?_⟩
  unfold tot
  rw [bk_bs _ ho]
  exact self_cnt (srt_nodup g.srt) e h
theorem bk_pos {l : List Tr} (h : ∀ t ∈ l, 1 ≤ t.2.2) {p : Int × Int} (m : p ∈ l.map ky) : 1 ≤ tot p l := by
  have nn : ∀ {m : List Tr}, (∀ t ∈ m, 1 ≤ t.2.2) → 0 ≤ tot p m := by
    intro m hm
    induction m with
    | nil => exact Int.le_refl 0
    | cons t r ih =>
      have h1 := hm t List.mem_cons_self
      have h2 := ih fun u hu => hm u (List.mem_cons_of_mem _ hu)
      rw [tot_cons]
      split <;> omega
  induction l with
  | nil => cases m
  | cons t r ih =>
    have h1 := h t List.mem_cons_self
    have h2 := nn fun u hu => h u (List.mem_cons_of_mem _ hu)
    rw [tot_cons]
    rcases List.mem_cons.mp m with e | hr
    · rw [if_pos e.symm]
      omega
    · have h3 := ih (fun u hu => h u (List.mem_cons_of_mem _ hu)) hr
      split <;> omega
theorem IsNorm.good {n : Int} {l r : List Tr} (h : IsNorm l r) (v : ∀ t ∈ l, Vld n t) : Good n r := by
  refine ⟨h.srt, fun e he => ?_⟩
  have hm : pr e ∈ l.map ky := (h.mem _).mp (List.mem_map.mpr ⟨e, he, rfl⟩)
  have hp := bk_pos (fun t ht => (v t ht).2.2.2.2.2) hm
  rw [← h.cnt e he] at hp
  obtain ⟨t, ht, e1⟩ := List.mem_map.mp hm
  have hv := v t ht
  unfold Vld at hv
  have h1 := lo_hi t.1 t.2.1
  unfold ky pr at e1
  rw [Prod.mk.injEq] at e1
  omega
/-! ### renamed pins -/
def mp (g : Int → Int) (l : List Tr) : List Tr := l.map fun t => (g t.1, g t.2.1, t.2.2)
theorem bk_mp (g : Int → Int) (f : Int × Int → Bool) (l : List Tr) : bk f (mp g l) = bk (fun q => f (lo (g q.1) (g q.2), hi (g q.1) (g q.2))) l := by
  induction l with
  | nil => rfl
  | cons t r ih =>
    show (if f (ky (g t.1, g t.2.1, t.2.2)) = true then t.2.2 else 0) + bk f (mp g r) = _
    rw [ih, bk]
    have e : ky (g t.1, g t.2.1, t.2.2) = (lo (g (ky t).1) (g (ky t).2), hi (g (ky t).1) (g (ky t).2)) := by
      unfold ky
      dsimp only
      rcases lo_hi t.1 t.2.1 with h | h
      · rw [h.2.1, h.2.2]
      · rw [h.2.1, h.2.2]
        have a := lo_hi (g t.1) (g t.2.1)
        have b := lo_hi (g t.2.1) (g t.1)
        rw [Prod.mk.injEq]
        omega
    rw [e]
theorem mem_mp (g : Int → Int) {l r : List Tr} (h : ∀ p, p ∈ l.map ky ↔ p ∈ r.map ky) (p : Int × Int) : p ∈ (mp g l).map ky → p ∈ (mp g r).map ky := by
  have e : ∀ t : Tr, ky (g t.1, g t.2.1, t.2.2) = (lo (g (ky t).1) (g (ky t).2), hi (g (ky t).1) (g (ky t).2)) := fun t => by
    unfold ky
    dsimp only
    rcases lo_hi t.1 t.2.1 with h | h
    · rw [h.2.1, h.2.2]
    · rw [h.2.1, h.2.2]
      have a := lo_hi (g t.1) (g t.2.1)
      have b := lo_hi (g t.2.1) (g t.1)
      rw [Prod.mk.injEq]
      omega
  intro m
  obtain ⟨u, hu, e1⟩ := List.mem_map.mp m
  obtain ⟨t, ht, rfl⟩ := List.mem_map.mp hu
  obtain ⟨s, hs, e2⟩ := List.mem_map.mp ((h _).mp (List.mem_map.mpr ⟨t, ht, rfl⟩))
  refine List.mem_map.mpr ⟨_, List.mem_map.mpr ⟨s, hs, rfl⟩, ?_⟩
  rw [← e1, e, e, e2]
theorem norm_keys {n : Int} {l r : List Tr} (h : IsNorm l r) (g : Good n r) (p : Int × Int) : p ∈ l.map ky ↔ p ∈ r.map ky := by
  rw [← h.mem, List.map_congr_left fun e he => ky_ord (g.ord e he).2.1]
theorem norm_tot {n : Int} {l r : List Tr} (h : IsNorm l r) (g : Good n r) (f : Int × Int → Bool) : bk f r = bk f l := by
  rw [bk_bs f fun e he => (g.ord e he).2.1, bs_norm f h]
/-- renaming behind the ordering is renaming ahead of it -/
theorem norm_mp {n : Int} {l r x : List Tr} (h : IsNorm l r) (g : Good n r) (σ : Int → Int) (k : IsNorm (mp σ r) x) : IsNorm (mp σ l) x := by
  refine ⟨k.srt, fun p => (k.mem p).trans ⟨mem_mp σ (fun q => (norm_keys h g q).symm) p, mem_mp σ (norm_keys h g) p⟩, fun e he => ?_⟩
  rw [k.cnt e he]
  unfold tot
  rw [bk_mp, bk_mp, norm_tot h g]
theorem mp_mp (σ τ : Int → Int) (l : List Tr) : mp τ (mp σ l) = mp (fun x => τ (σ x)) l := by
  unfold mp
  rw [List.map_map]
  rfl
theorem mp_congr {σ τ : Int → Int} {n : Int} {l : List Tr} (v : ∀ t ∈ l, Vld n t) (h : ∀ x, 0 ≤ x → x < n → σ x = τ x) : mp σ l = mp τ l := by
  refine List.map_congr_left fun t ht => ?_
  have := v t ht
  unfold Vld at this
  rw [h t.1 (by omega) (by omega), h t.2.1 (by omega) (by omega)]
theorem mp_id {σ : Int → Int} {n : Int} {l : List Tr} (v : ∀ t ∈ l, Vld n t) (h : ∀ x, 0 ≤ x → x < n → σ x = x) : mp σ l = l := by
  rw [mp_congr (τ := fun x => x) v h]
  unfold mp
  exact List.map_id' l
theorem mp_vld {σ : Int → Int} {n : Int} {l : List Tr} (v : ∀ t ∈ l, Vld n t) (h : ∀ x, 0 ≤ x → x < n → 0 ≤ σ x ∧ σ x < n) (inj : ∀ x y, 0 ≤ x → x < n → 0 ≤ y → y < n → σ x = σ y → x = y) : ∀ t ∈ mp σ l, Vld n t := fun u hu => by
  obtain ⟨t, ht, rfl⟩ := List.mem_map.mp hu
  have hv := v t ht
  unfold Vld at hv ⊢
  have h1 := h t.1 (by omega) (by omega)
  have h2 := h t.2.1 (by omega) (by omega)
  have h3 := inj t.1 t.2.1 (by omega) (by omega) (by omega) (by omega)
  dsimp only
  refine ⟨h1.1, h1.2, h2.1, h2.2, fun z => hv.2.2.2.2.1 (h3 z), hv.2.2.2.2.2⟩
end Own

namespace Own
open PySem PySem.Spec PyProof.Rows L2
/-! ### the text by places -/
def top (i : Nat) : Stmt := PySem.Challenge.pw_rimcords_k02_lot_sums.main.body.getD i (.Pass ⟨0, 0, 0, 0⟩)
abbrev s__wall : Stmt := top 0
theorem sc__wall : FnScope ["k"] ["k"] (defScope s__wall) := ⟨rfl, rfl, rfl, by decide +kernel, rfl, by decide +kernel, by decide +kernel⟩
abbrev s_gaps : Stmt := top 10
theorem sc_gaps : FnScope ["pins"] ["pins"] (defScope s_gaps) := ⟨rfl, rfl, rfl, by decide +kernel, rfl, by decide +kernel, by decide +kernel⟩
abbrev s_is_whole : Stmt := top 12
theorem sc_is_whole : FnScope ["value"] ["value"] (defScope s_is_whole) := ⟨rfl, rfl, rfl, by decide +kernel, rfl, by decide +kernel, by decide +kernel⟩
abbrev s_is_sequence : Stmt := top 13
theorem sc_is_sequence : FnScope ["value"] ["value"] (defScope s_is_sequence) := ⟨rfl, rfl, rfl, by decide +kernel, rfl, by decide +kernel, by decide +kernel⟩
abbrev s_is_below : Stmt := top 14
theorem sc_is_below : FnScope ["value", "bound"] ["value", "bound"] (defScope s_is_below) := ⟨rfl, rfl, rfl, by decide +kernel, rfl, by decide +kernel, by decide +kernel⟩
abbrev s_check_pins : Stmt := top 15
theorem sc_check_pins : FnScope ["pins"] ["pins"] (defScope s_check_pins) := ⟨rfl, rfl, rfl, by decide +kernel, rfl, by decide +kernel, by decide +kernel⟩
abbrev s_check_pin : Stmt := top 16
theorem sc_check_pin : FnScope ["pins", "pin"] ["pins", "pin"] (defScope s_check_pin) := ⟨rfl, rfl, rfl, by decide +kernel, rfl, by decide +kernel, by decide +kernel⟩
abbrev s_check_like : Stmt := top 17
theorem sc_check_like : FnScope ["one", "other"] ["one", "other"] (defScope s_check_like) := ⟨rfl, rfl, rfl, by decide +kernel, rfl, by decide +kernel, by decide +kernel⟩
abbrev s_check_number : Stmt := top 18
theorem sc_check_number : FnScope ["number", "least"] ["number", "least"] (defScope s_check_number) := ⟨rfl, rfl, rfl, by decide +kernel, rfl, by decide +kernel, by decide +kernel⟩
abbrev s_is_entry : Stmt := top 20
theorem sc_is_entry : FnScope ["pins", "entry", "a", "b", "many"] ["pins", "entry"] (defScope s_is_entry) := ⟨rfl, rfl, rfl, by decide +kernel, rfl, by decide +kernel, by decide +kernel⟩
abbrev s_gathered : Stmt := top 21
theorem sc_gathered : FnScope ["pins", "entries", "held", "entry", "pair", "a", "b", "many"] ["pins", "entries"] (defScope s_gathered) := ⟨rfl, rfl, rfl, by decide +kernel, rfl, by decide +kernel, by decide +kernel⟩
abbrev s_by_pair : Stmt := top 22
theorem sc_by_pair : FnScope ["cords", "a", "b", "many"] ["cords"] (defScope s_by_pair) := ⟨rfl, rfl, rfl, by decide +kernel, rfl, by decide +kernel, by decide +kernel⟩
abbrev s_entries_of : Stmt := top 23
theorem sc_entries_of : FnScope ["held", "a", "b"] ["held"] (defScope s_entries_of) := ⟨rfl, rfl, rfl, by decide +kernel, rfl, by decide +kernel, by decide +kernel⟩
abbrev s_ends_at_pins : Stmt := top 24
theorem sc_ends_at_pins : FnScope ["pins", "cords", "ends", "a", "b", "many"] ["pins", "cords"] (defScope s_ends_at_pins) := ⟨rfl, rfl, rfl, by decide +kernel, rfl, by decide +kernel, by decide +kernel⟩
abbrev s_cord_grid : Stmt := top 25
theorem sc_cord_grid : FnScope ["pins", "cords", "rows", "a", "b", "many", "_"] ["pins", "cords"] (defScope s_cord_grid) := ⟨rfl, rfl, rfl, by decide +kernel, rfl, by decide +kernel, by decide +kernel⟩
abbrev s_sums_before : Stmt := top 26
theorem sc_sums_before : FnScope ["row", "sums", "total", "number"] ["row"] (defScope s_sums_before) := ⟨rfl, rfl, rfl, by decide +kernel, rfl, by decide +kernel, by decide +kernel⟩
abbrev s_table_rows : Stmt := top 27
theorem sc_table_rows : FnScope ["pins", "cords", "sums", "size", "rows", "i", "across", "j", "row", "_"] ["pins", "cords"] (defScope s_table_rows) := ⟨rfl, rfl, rfl, by decide +kernel, rfl, by decide +kernel, by decide +kernel⟩
abbrev s_first_bar : Stmt := top 28
theorem sc_first_bar : FnScope ["pins", "held", "wished", "i", "j"] ["pins", "held", "wished"] (defScope s_first_bar) := ⟨rfl, rfl, rfl, by decide +kernel, rfl, by decide +kernel, by decide +kernel⟩
abbrev s_odd_pins : Stmt := top 29
theorem sc_odd_pins : FnScope ["ends", "wished", "pin", "many"] ["ends", "wished"] (defScope s_odd_pins) := ⟨rfl, rfl, rfl, by decide +kernel, rfl, by decide +kernel, by decide +kernel⟩
abbrev s_Lot_init : Stmt := inClass (top 31) 0
theorem sc_Lot_init : FnScope ["self", "pins", "cords"] ["self", "pins", "cords"] (defScope s_Lot_init) := ⟨rfl, rfl, rfl, by decide +kernel, rfl, by decide +kernel, by decide +kernel⟩
abbrev s_Lot_table : Stmt := inClass (top 31) 1
theorem sc_Lot_table : FnScope ["self"] ["self"] (defScope s_Lot_table) := ⟨rfl, rfl, rfl, by decide +kernel, rfl, by decide +kernel, by decide +kernel⟩
abbrev s_Lot_between : Stmt := inClass (top 31) 2
theorem sc_Lot_between : FnScope ["self", "one", "other"] ["self", "one", "other"] (defScope s_Lot_between) := ⟨rfl, rfl, rfl, by decide +kernel, rfl, by decide +kernel, by decide +kernel⟩
abbrev s_Lot_ends : Stmt := inClass (top 31) 3
theorem sc_Lot_ends : FnScope ["self", "pin"] ["self", "pin"] (defScope s_Lot_ends) := ⟨rfl, rfl, rfl, by decide +kernel, rfl, by decide +kernel, by decide +kernel⟩
abbrev s_Lot_total : Stmt := inClass (top 31) 4
theorem sc_Lot_total : FnScope ["self", "entry"] ["self"] (defScope s_Lot_total) := ⟨rfl, rfl, rfl, by decide +kernel, rfl, by decide +kernel, by decide +kernel⟩
abbrev s_Lot_len : Stmt := inClass (top 31) 5
theorem sc_Lot_len : FnScope ["self"] ["self"] (defScope s_Lot_len) := ⟨rfl, rfl, rfl, by decide +kernel, rfl, by decide +kernel, by decide +kernel⟩
abbrev s_Lot_iter : Stmt := inClass (top 31) 6
theorem sc_Lot_iter : FnScope ["self"] ["self"] (defScope s_Lot_iter) := ⟨rfl, rfl, rfl, by decide +kernel, rfl, by decide +kernel, by decide +kernel⟩
abbrev s_Lot_eq : Stmt := inClass (top 31) 7
theorem sc_Lot_eq : FnScope ["self", "other"] ["self", "other"] (defScope s_Lot_eq) := ⟨rfl, rfl, rfl, by decide +kernel, rfl, by decide +kernel, by decide +kernel⟩
abbrev s_Lot_add : Stmt := inClass (top 31) 8
theorem sc_Lot_add : FnScope ["self", "other"] ["self", "other"] (defScope s_Lot_add) := ⟨rfl, rfl, rfl, by decide +kernel, rfl, by decide +kernel, by decide +kernel⟩
abbrev s_Lot_sub : Stmt := inClass (top 31) 9
theorem sc_Lot_sub : FnScope ["self", "other", "left", "a", "b", "many"] ["self", "other"] (defScope s_Lot_sub) := ⟨rfl, rfl, rfl, by decide +kernel, rfl, by decide +kernel, by decide +kernel⟩
abbrev s_Lot_mul : Stmt := inClass (top 31) 10
theorem sc_Lot_mul : FnScope ["self", "number", "a", "b", "many"] ["self", "number"] (defScope s_Lot_mul) := ⟨rfl, rfl, rfl, by decide +kernel, rfl, by decide +kernel, by decide +kernel⟩
abbrev s_Lot_contains : Stmt := inClass (top 31) 11
theorem sc_Lot_contains : FnScope ["self", "wishes"] ["self", "wishes"] (defScope s_Lot_contains) := ⟨rfl, rfl, rfl, by decide +kernel, rfl, by decide +kernel, by decide +kernel⟩
abbrev s__law_whole : Stmt := top 33
theorem sc__law_whole : FnScope ["_law_value"] ["_law_value"] (defScope s__law_whole) := ⟨rfl, rfl, rfl, by decide +kernel, rfl, by decide +kernel, by decide +kernel⟩
abbrev s__law_cell : Stmt := top 34
theorem sc__law_cell : FnScope ["_law_script", "_law_k", "_law_seed", "_law_cell_here"] ["_law_script", "_law_k"] (defScope s__law_cell) := ⟨rfl, rfl, rfl, by decide +kernel, rfl, by decide +kernel, by decide +kernel⟩
abbrev s__law_digits : Stmt := top 35
theorem sc__law_digits : FnScope ["_law_cell_here", "_law_sizes", "_law_row", "_law_rest", "_law_seed", "_law_k", "_law_size", "_law_twice"] ["_law_cell_here", "_law_sizes"] (defScope s__law_digits) := ⟨rfl, rfl, rfl, by decide +kernel, rfl, by decide +kernel, by decide +kernel⟩
abbrev s__law_same : Stmt := top 36
theorem sc__law_same : FnScope ["_law_value", "_law_due", "_law_k"] ["_law_value", "_law_due"] (defScope s__law_same) := ⟨rfl, rfl, rfl, by decide +kernel, rfl, by decide +kernel, by decide +kernel⟩
abbrev s__law_norm : Stmt := top 37
theorem sc__law_norm : FnScope ["_law_triples", "_law_pairs", "_law_entry", "_law_row", "_law_pair", "_law_low", "_law_high", "_law_many"] ["_law_triples"] (defScope s__law_norm) := ⟨rfl, rfl, rfl, by decide +kernel, rfl, by decide +kernel, by decide +kernel⟩
abbrev s__law_pins : Stmt := top 38
theorem sc__law_pins : FnScope ["_law_cell_here", "_law_row"] ["_law_cell_here"] (defScope s__law_pins) := ⟨rfl, rfl, rfl, by decide +kernel, rfl, by decide +kernel, by decide +kernel⟩
abbrev s__law_entries : Stmt := top 39
theorem sc__law_entries : FnScope ["_law_script", "_law_start", "_law_many", "_law_pins_here", "_law_row", "_law_k", "_law_draw", "_law_right", "_law_c"] ["_law_script", "_law_start", "_law_many", "_law_pins_here"] (defScope s__law_entries) := ⟨rfl, rfl, rfl, by decide +kernel, rfl, by decide +kernel, by decide +kernel⟩
abbrev s__law_count : Stmt := top 40
theorem sc__law_count : FnScope ["_law_bunch", "_law_left", "_law_right", "_law_many", "_law_entry"] ["_law_bunch", "_law_left", "_law_right"] (defScope s__law_count) := ⟨rfl, rfl, rfl, by decide +kernel, rfl, by decide +kernel, by decide +kernel⟩
abbrev s__law_ends : Stmt := top 41
theorem sc__law_ends : FnScope ["_law_bunch", "_law_spot", "_law_many", "_law_entry"] ["_law_bunch", "_law_spot"] (defScope s__law_ends) := ⟨rfl, rfl, rfl, by decide +kernel, rfl, by decide +kernel, by decide +kernel⟩
abbrev s__law_lot_is : Stmt := top 42
theorem sc__law_lot_is : FnScope ["_law_lot", "_law_pins_here", "_law_bunch"] ["_law_lot", "_law_pins_here", "_law_bunch"] (defScope s__law_lot_is) := ⟨rfl, rfl, rfl, by decide +kernel, rfl, by decide +kernel, by decide +kernel⟩
abbrev s__law_counts : Stmt := top 43
theorem sc__law_counts : FnScope ["_law_lot", "_law_pins_here", "_law_bunch", "_law_spot", "_law_entry"] ["_law_lot", "_law_pins_here", "_law_bunch"] (defScope s__law_counts) := ⟨rfl, rfl, rfl, by decide +kernel, rfl, by decide +kernel, by decide +kernel⟩
abbrev s__law_taken : Stmt := top 44
theorem sc__law_taken : FnScope ["_law_left", "_law_right", "_law_pins_here", "_law_held", "_law_gone", "_law_entry", "_law_rest", "_law_told_here"] ["_law_left", "_law_right", "_law_pins_here", "_law_held", "_law_gone"] (defScope s__law_taken) := ⟨rfl, rfl, rfl, by decide +kernel, rfl, by decide +kernel, by decide +kernel⟩
abbrev s__law_unlike : Stmt := top 45
theorem sc__law_unlike : FnScope ["_law_left", "_law_right", "_law_pins_here", "_law_far", "_law_minus", "_law_told_here"] ["_law_left", "_law_right", "_law_pins_here", "_law_far", "_law_minus"] (defScope s__law_unlike) := ⟨rfl, rfl, rfl, by decide +kernel, rfl, by decide +kernel, by decide +kernel⟩
abbrev s__law_bad_factor : Stmt := top 46
theorem sc__law_bad_factor : FnScope ["_law_left", "_law_bad", "_law_told_here"] ["_law_left", "_law_bad"] (defScope s__law_bad_factor) := ⟨rfl, rfl, rfl, by decide +kernel, rfl, by decide +kernel, by decide +kernel⟩
abbrev s__law_bad_pin : Stmt := top 47
theorem sc__law_bad_pin : FnScope ["_law_lot", "_law_pair", "_law_bad"] ["_law_lot", "_law_pair", "_law_bad"] (defScope s__law_bad_pin) := ⟨rfl, rfl, rfl, by decide +kernel, rfl, by decide +kernel, by decide +kernel⟩
abbrev s__law_told : Stmt := top 48
theorem sc__law_told : FnScope ["_law_lot", "_law_pins_here", "_law_bunch", "_law_left", "_law_due", "_law_right", "_law_entry"] ["_law_lot", "_law_pins_here", "_law_bunch"] (defScope s__law_told) := ⟨rfl, rfl, rfl, by decide +kernel, rfl, by decide +kernel, by decide +kernel⟩
abbrev s__law_equal : Stmt := top 49
theorem sc__law_equal : FnScope ["_law_lot", "_law_right", "_law_pins_here", "_law_held", "_law_wished", "_law_far", "_law_same_here", "_law_thing", "_law_entry"] ["_law_lot", "_law_right", "_law_pins_here", "_law_held", "_law_wished", "_law_far"] (defScope s__law_equal) := ⟨rfl, rfl, rfl, by decide +kernel, rfl, by decide +kernel, by decide +kernel⟩
abbrev s__law_near : Stmt := top 50
theorem sc__law_near : FnScope ["_law_held", "_law_pins_here", "_law_cell_here", "_law_pairs", "_law_first", "_law_last", "_law_draw", "_law_left", "_law_four", "_law_k", "_law_side", "_law_turned", "_law_p"] ["_law_held", "_law_pins_here", "_law_cell_here"] (defScope s__law_near) := ⟨rfl, rfl, rfl, by decide +kernel, rfl, by decide +kernel, by decide +kernel⟩
abbrev s__law_near_equal : Stmt := top 51
theorem sc__law_near_equal : FnScope ["_law_held", "_law_pins_here", "_law_cell_here", "_law_pair", "_law_due", "_law_this", "_law_that"] ["_law_held", "_law_pins_here", "_law_cell_here"] (defScope s__law_near_equal) := ⟨rfl, rfl, rfl, by decide +kernel, rfl, by decide +kernel, by decide +kernel⟩
abbrev s__law_bad_ones : Stmt := top 52
theorem sc__law_bad_ones : FnScope ["_law_lot", "_law_right", "_law_pins_here", "_law_script", "_law_near_here", "_law_bads", "_law_bad", "_law_second", "_law_wrong", "_law_good"] ["_law_lot", "_law_right", "_law_pins_here", "_law_script"] (defScope s__law_bad_ones) := ⟨rfl, rfl, rfl, by decide +kernel, rfl, by decide +kernel, by decide +kernel⟩
abbrev s__law_differences : Stmt := top 53
theorem sc__law_differences : FnScope ["_law_left", "_law_right", "_law_pins_here", "_law_held", "_law_wished", "_law_script", "_law_both", "_law_part", "_law_k", "_law_draw", "_law_a", "_law_b", "_law_more"] ["_law_left", "_law_right", "_law_pins_here", "_law_held", "_law_wished", "_law_script"] (defScope s__law_differences) := ⟨rfl, rfl, rfl, by decide +kernel, rfl, by decide +kernel, by decide +kernel⟩
abbrev s_law : Stmt := top 54
theorem sc_law : FnScope ["_law_script", "_law_pins_here", "_law_held", "_law_wished", "_law_left", "_law_right", "_law_both", "_law_draw", "_law_factor", "_law_due", "_law_far", "_law_strange", "_law_entry"] ["_law_script"] (defScope s_law) := ⟨rfl, rfl, rfl, by decide +kernel, rfl, by decide +kernel, by decide +kernel⟩
end Own

namespace Own
open PySem PySem.Spec PyProof.Rows L2
/-! ### heaps -/
theorem same_upd {H : Hp} {p : Addr} {o : HO} (h : H p = none) : Same H (upd H p o) := fun b x e => by
  rw [upd_ne (ne_of_none e h)]
  exact e
/-- a tuple of three ints -/
abbrev tv (t : Tr) : List V := [.int t.1, .int t.2.1, .int t.2.2]
def TrV (H : Hp) (vs : List V) (l : List Tr) : Prop := vs.length = l.length ∧ ∀ (i : Nat) (t : Tr), l[i]? = some t → ∃ b, vs[i]? = some (.ref b) ∧ H b = some (.tup (tv t))
def Trip (H : Hp) (a : Addr) (l : List Tr) : Prop := ∃ vs, H a = some (.tup vs) ∧ TrV H vs l
def TripL (H : Hp) (a : Addr) (l : List Tr) : Prop := ∃ vs, H a = some (.lst vs) ∧ TrV H vs l
theorem TrV.same {H H' : Hp} {vs : List V} {l : List Tr} (s : Same H H') (h : TrV H vs l) : TrV H' vs l := ⟨h.1, fun i t e => by
  obtain ⟨b, e1, e2⟩ := h.2 i t e
  exact ⟨b, e1, s _ _ e2⟩⟩
theorem Trip.same {H H' : Hp} {a : Addr} {l : List Tr} (s : Same H H') (h : Trip H a l) : Trip H' a l := by
  obtain ⟨vs, e, t⟩ := h
  exact ⟨vs, s _ _ e, t.same s⟩
theorem TripL.same {H H' : Hp} {a : Addr} {l : List Tr} (s : Same H H') (h : TripL H a l) : TripL H' a l := by
  obtain ⟨vs, e, t⟩ := h
  exact ⟨vs, s _ _ e, t.same s⟩
theorem TrV.nil {H : Hp} : TrV H [] [] := ⟨rfl, fun i t e => by simp at e⟩
theorem TrV.snoc {H : Hp} {vs : List V} {l : List Tr} {b : Addr} {t : Tr} (h : TrV H vs l) (e : H b = some (.tup (tv t))) : TrV H (vs ++ [.ref b]) (l ++ [t]) := by
  refine ⟨by rw [List.length_append, List.length_append, h.1]; rfl, fun i u hu => ?_⟩
  by_cases hi : i < l.length
  · rw [List.getElem?_append_left hi] at hu
    obtain ⟨c, e1, e2⟩ := h.2 i u hu
    exact ⟨c, by rw [List.getElem?_append_left (by rw [h.1]; exact hi)]; exact e1, e2⟩
  · rw [List.getElem?_append_right (by omega)] at hu
    have hi2 : i - l.length = 0 := by
      cases hk : i - l.length with
      | zero => rfl
      | succ k => rw [hk] at hu; simp at hu
    rw [hi2] at hu
    obtain rfl : t = u := Option.some.inj hu
    exact ⟨b, by rw [List.getElem?_append_right (by rw [h.1]; omega), h.1, hi2]; rfl, e⟩
theorem TrV.at_ {H : Hp} {vs : List V} {l : List Tr} (h : TrV H vs l) {i : Nat} {x : V} (e : vs[i]? = some x) : ∃ b t, x = .ref b ∧ l[i]? = some t ∧ H b = some (.tup (tv t)) := by
  have hi : i < l.length := by
    rw [← h.1]
    exact (List.getElem?_eq_some_iff.mp e).1
  obtain ⟨b, e1, e2⟩ := h.2 i l[i] (List.getElem?_eq_getElem hi)
  rw [e] at e1
  exact ⟨b, l[i], Option.some.inj e1, List.getElem?_eq_getElem hi, e2⟩
theorem SqB.same {K : PySem.W.Frag} {H H' : Hp} {a : Addr} {xs : List V} (s : Same H H') (h : SqB K H a xs) : SqB K H' a xs := by
  rcases h with h | ((h | ⟨o, h⟩) | h)
  · exact .inl (s.seq h)
  · exact .inr (.inl (.inl (s _ _ h)))
  · exact .inr (.inl (.inr ⟨o, s _ _ h⟩))
  · exact .inr (.inr h)
theorem Trip.sq {K : PySem.W.Frag} {H : Hp} {a : Addr} {l : List Tr} (h : Trip H a l) : ∃ vs, SqB K H a vs ∧ TrV H vs l := by
  obtain ⟨vs, e, t⟩ := h
  exact ⟨vs, .inr (.inl (.inl e)), t⟩
theorem TripL.sq {K : PySem.W.Frag} {H : Hp} {a : Addr} {l : List Tr} (h : TripL H a l) : ∃ vs, SqB K H a vs ∧ TrV H vs l := by
  obtain ⟨vs, e, t⟩ := h
  exact ⟨vs, .inl (.inl (.inl e)), t⟩
/-- a loop over a list or a tuple: what stood in Hb stands in each turn -/
theorem for_same {K : PySem.W.Frag} {a : Addr} {xs : List V} {g : TG} {tb : TS} {D : Ends} {σ : L2.St} {H Hb : Hp} (hB : SqB K Hb a xs) (Pv : Nat → L2.St → Hp → Prop) (h0 : Pv 0 σ H) (hk : ∀ i σ' H', Pv i σ' H' → Same Hb H')
    (hs : ∀ i x σ H, xs[i]? = some x → Pv i σ H → g x σ H fun σ2 H2 => tb { D with nx := Pv (i + 1), ct := Pv (i + 1), bk := D.nx } σ2 H2) (hd : ∀ σ H, Pv xs.length σ H → D.nx σ H) :
    ((∃ xs, SqL K H a xs) ∧ ∃ W : Nat → Nat → L2.St → Hp → Prop, (∃ m, W 0 m σ H) ∧ ∀ i m σ H, W i m σ H →
      ((Itl K a).stop i H ∧ D.nx σ H) ∨ ((Itl K a).go i H ∧ ∃ N : L2.St → Hp → Prop, (∀ σ' H', N σ' H' → ∃ m', m' < m ∧ W (i + 1) m' σ' H') ∧ ∀ x H', (Itl K a).yld i H x H' → g x σ H' fun σ2 H2 => tb { D with nx := N, ct := N, bk := D.nx } σ2 H2)) ∨
    ((∃ xs, SqT K H a xs) ∧ ∃ W : Nat → Nat → L2.St → Hp → Prop, (∃ m, W 0 m σ H) ∧ ∀ i m σ H, W i m σ H →
      ((Itt K a).stop i H ∧ D.nx σ H) ∨ ((Itt K a).go i H ∧ ∃ N : L2.St → Hp → Prop, (∀ σ' H', N σ' H' → ∃ m', m' < m ∧ W (i + 1) m' σ' H') ∧ ∀ x H', (Itt K a).yld i H x H' → g x σ H' fun σ2 H2 => tb { D with nx := N, ct := N, bk := D.nx } σ2 H2)) := by
  have tup : ∀ {H'}, SqT K Hb a xs → Same Hb H' → SqT K H' a xs := fun h s => by
    rcases h with (h | ⟨o, h⟩) | h
    · exact .inl (.inl (s _ _ h))
    · exact .inl (.inr ⟨o, s _ _ h⟩)
    · exact .inr h
  rcases hB with h | h
  · exact .inl ⟨⟨xs, (hk 0 σ H h0).seq h⟩, for_list Pv h0 (fun i σ' H' _ p => (hk i σ' H' p).seq h) hs hd⟩
  · exact .inr ⟨⟨xs, tup h (hk 0 σ H h0)⟩, for_tup Pv h0 (fun i σ' H' _ p => tup h (hk i σ' H' p)) hs hd⟩
theorem kitTrue {K : PySem.W.Frag} {t : Value} : PySem.W.kitOne K t t = some true := by
  unfold PySem.W.kitOne
  rw [if_pos (beq_self_eq_true t)]
section
variable {P : Program} {w : World} {K : PySem.W.Frag} {mg : Str → Option Value} {base : Heap}
structure Df (K : PySem.W.Frag) (mg : Str → Option Value) (x : Str) (st : Stmt) (ps : List Str) (f : Addr) (fd : FuncData) : Prop where
  F : Fun K x x st f fd
  g : mg x = some (.ref f)
  b : Binds K fd ps []
/-- the built-ins that the text calls -/
structure Bi (mg : Str → Option Value) : Prop where
  b_max : mg "max" = none
  b_min : mg "min" = none
  b_tuple : mg "tuple" = none
  b_range : mg "range" = none
  b_isinstance : mg "isinstance" = none
  b_int : mg "int" = none
  b_bool : mg "bool" = none
  b_len : mg "len" = none
  b_list : mg "list" = none
  b_str : mg "str" = none
  b_sorted : mg "sorted" = none
  b_sum : mg "sum" = none
/-! ### kinds -/
def spWhole : Sp := fun vs H Q _ => ∃ i : Int, vs = [.int i] ∧ Q (.bl true) H
theorem ok_whole {f : Addr} {fd : FuncData} (F : Fun K "is_whole" "is_whole" s_is_whole f fd) (T : Bi mg) : FnOk P w K mg base CX0 1 f fd ["value"] spWhole := by
  refine F.ok sc_is_whole (fun vs H Q E h => ?_) (fun cdv A outer s H vs Q E hr h => ?_)
  · obtain ⟨i, rfl, _⟩ := h
    rfl
  · obtain ⟨i, rfl, q⟩ := h
    refine ⟨_, (pss_one (ps_ret (pe_and (pe_callB call_isi (by rfl) T.b_isinstance (by decide +kernel) (pa_cons (pv 0) (pa_cons (pe_bltn (v := .ty "int") (by rfl) T.b_int (by decide +kernel) rfl) pa_nil))) (pe_one (pe_not (pe_callB call_isi (by rfl) T.b_isinstance (by decide +kernel) (pa_cons (pv 0) (pa_cons (pe_bltn (v := .ty "bool") (by rfl) T.b_bool (by decide +kernel) rfl) pa_nil)))))))), ?_⟩
    refine ⟨_, rfl, _, _, _, _, true, rfl, .ty "int", .base (.int i), kit_ty (by decide +kernel), true, rfl, ?_⟩
    exact ⟨_, rfl, _, _, _, _, false, rfl, .ty "bool", .base (.int i), kit_ty (by decide +kernel), false, rfl, q⟩
def spSeq : Sp := fun vs H Q _ => ∃ (a : Addr) (xs : List V), vs = [.ref a] ∧ H a = some (.tup xs) ∧ ∀ H', Same H H' → Q (.bl true) H'
theorem ok_seq {f : Addr} {fd : FuncData} (F : Fun K "is_sequence" "is_sequence" s_is_sequence f fd) (T : Bi mg) : FnOk P w K mg base CX0 1 f fd ["value"] spSeq := by
  refine F.ok sc_is_sequence (fun vs H Q E h => ?_) (fun cdv A outer s H vs Q E hr h => ?_)
  · obtain ⟨a, xs, rfl, _⟩ := h
    rfl
  · obtain ⟨a, xs, rfl, ha, q⟩ := h
    refine ⟨_, (pss_one (ps_ret (pe_callB call_isiT (by rfl) T.b_isinstance (by decide +kernel) (pa_cons (pv 0) (pa_cons (pe_tup (pa_cons (pe_bltn (v := .ty "list") (by rfl) T.b_list (by decide +kernel) rfl) (pa_cons (pe_bltn (v := .ty "tuple") (by rfl) T.b_tuple (by decide +kernel) rfl) pa_nil))) pa_nil))))), ?_⟩
    refine ⟨_, rfl, by show 2 ≤ sizeLine; decide, fun p np => ?_⟩
    have s1 : Same H (upd H p (.tup [.ty "list", .ty "tuple"])) := same_upd np
    exact ⟨_, p, _, _, _, true, rfl, upd_same, .cons (.ty "list") (.cons (.ty "tuple") .nil), .base (.tup (s1 _ _ ha)), kitAny_cons (b := false) (kit_ty (by decide +kernel)) (fun _ => kitAny_cons (b := true) (kit_ty (by decide +kernel)) (fun z => by cases z) (fun _ => rfl)) (fun z => by cases z), q _ s1⟩
def spBelow : Sp := fun vs H Q _ => ∃ x n : Int, vs = [.int x, .int n] ∧ 0 ≤ x ∧ x < n ∧ Q (.bl true) H
theorem ok_below {f : Addr} {fd : FuncData} (F : Fun K "is_below" "is_below" s_is_below f fd) (T : Bi mg) {f_w : Addr} {d_w : FuncData} (D_w : Df K mg "is_whole" s_is_whole ["value"] f_w d_w) : FnOk P w K mg base CX0 2 f fd ["value", "bound"] spBelow := by
  have G_w : FnOk P w K mg base CX0 1 f_w d_w ["value"] spWhole := ok_whole D_w.F T
  refine F.ok sc_is_below (fun vs H Q E h => ?_) (fun cdv A outer s H vs Q E hr h => ?_)
  · obtain ⟨x, n, rfl, _⟩ := h
    rfl
  · obtain ⟨x, n, rfl, h0, h1, q⟩ := h
    refine ⟨_, (pss_one (ps_ret (pe_and (pe_call G_w hr (by rfl) D_w.g D_w.F.kp D_w.b .nil pass0 (pa_cons (pv 0) pa_nil)) (pe_one (pe_chain op_le op_lt pe_int (pv 0) (pv 1)))))), ?_⟩
    refine ⟨_, rfl, x, rfl, true, rfl, ?_⟩
    refine ⟨_, rfl, 0, x, rfl, rfl, _, rfl, ?_⟩
    rw [decide_eq_true h0, if_pos rfl]
    refine ⟨_, rfl, x, n, rfl, rfl, ?_⟩
    show Q (.bl (decide (x < n))) H
    rw [decide_eq_true h1]
    exact q
def spCkPins : Sp := fun vs H Q _ => ∃ n : Int, vs = [.int n] ∧ 0 ≤ n ∧ Q .non H
theorem ok_ckpins {f : Addr} {fd : FuncData} (F : Fun K "check_pins" "check_pins" s_check_pins f fd) (T : Bi mg) {f_w : Addr} {d_w : FuncData} (D_w : Df K mg "is_whole" s_is_whole ["value"] f_w d_w) : FnOk P w K mg base CX0 2 f fd ["pins"] spCkPins := by
  have G_w : FnOk P w K mg base CX0 1 f_w d_w ["value"] spWhole := ok_whole D_w.F T
  refine F.ok sc_check_pins (fun vs H Q E h => ?_) (fun cdv A outer s H vs Q E hr h => ?_)
  · obtain ⟨n, rfl, _⟩ := h
    rfl
  · obtain ⟨n, rfl, h0, q⟩ := h
    refine ⟨_, (pss_one (ps_if (PW.pt (pw_or (pt_not (pt_val (pe_call G_w hr (by rfl) D_w.g D_w.F.kp D_w.b .nil pass0 (pa_cons (pv 0) pa_nil)))) (pw_or1 (pt_cmpR op_lt (pv 0) pe_int (nomark _))))) (pss_one ps_never) pss_nil)), ?_⟩
    refine ⟨_, rfl, n, rfl, true, rfl, ?_⟩
    refine ⟨_, rfl, n, 0, rfl, rfl, _, rfl, ?_⟩
    rw [decide_eq_false (by omega)]
    exact q
def spCkPin : Sp := fun vs H Q _ => ∃ n x : Int, vs = [.int n, .int x] ∧ 0 ≤ x ∧ x < n ∧ Q .non H
theorem ok_ckpin {f : Addr} {fd : FuncData} (F : Fun K "check_pin" "check_pin" s_check_pin f fd) (T : Bi mg) {f_w : Addr} {d_w : FuncData} (D_w : Df K mg "is_whole" s_is_whole ["value"] f_w d_w) {f_b : Addr} {d_b : FuncData} (D_b : Df K mg "is_below" s_is_below ["value", "bound"] f_b d_b) : FnOk P w K mg base CX0 3 f fd ["pins", "pin"] spCkPin := by
  have G_b : FnOk P w K mg base CX0 2 f_b d_b ["value", "bound"] spBelow := ok_below D_b.F T D_w
  refine F.ok sc_check_pin (fun vs H Q E h => ?_) (fun cdv A outer s H vs Q E hr h => ?_)
  · obtain ⟨n, x, rfl, _⟩ := h
    rfl
  · obtain ⟨n, x, rfl, h0, h1, q⟩ := h
    refine ⟨_, (pss_one (ps_if (pt_not (pt_val (pe_call G_b hr (by rfl) D_b.g D_b.F.kp D_b.b .nil pass0 (pa_cons (pv 1) (pa_cons (pv 0) pa_nil))))) (pss_one ps_never) pss_nil)), ?_⟩
    exact ⟨_, rfl, _, rfl, x, n, rfl, h0, h1, true, rfl, q⟩
def spEntry : Sp := fun vs H Q _ => ∃ (n : Int) (b : Addr) (t : Tr), vs = [.int n, .ref b] ∧ H b = some (.tup (tv t)) ∧ Vld n t ∧ ∀ H', Same H H' → Q (.bl true) H'
theorem ok_entry {f : Addr} {fd : FuncData} (F : Fun K "is_entry" "is_entry" s_is_entry f fd) (T : Bi mg) {f_w : Addr} {d_w : FuncData} (D_w : Df K mg "is_whole" s_is_whole ["value"] f_w d_w) {f_b : Addr} {d_b : FuncData} (D_b : Df K mg "is_below" s_is_below ["value", "bound"] f_b d_b) {f_q : Addr} {d_q : FuncData} (D_q : Df K mg "is_sequence" s_is_sequence ["value"] f_q d_q) : FnOk P w K mg base CX0 3 f fd ["pins", "entry"] spEntry := by
  have G_w : FnOk P w K mg base CX0 1 f_w d_w ["value"] spWhole := ok_whole D_w.F T
  have G_b : FnOk P w K mg base CX0 2 f_b d_b ["value", "bound"] spBelow := ok_below D_b.F T D_w
  have G_q : FnOk P w K mg base CX0 1 f_q d_q ["value"] spSeq := ok_seq D_q.F T
  refine F.ok sc_is_entry (fun vs H Q E h => ?_) (fun cdv A outer s H vs Q E hr h => ?_)
  · obtain ⟨n, b, t, rfl, _⟩ := h
    rfl
  · obtain ⟨n, b, t, rfl, hb, hv, q⟩ := h
    refine ⟨_, (pss_cons (ps_if (PW.pt (pw_or (pt_not (pt_val (pe_call G_q (hr.mono (by decide)) (by rfl) D_q.g D_q.F.kp D_q.b .nil pass0 (pa_cons (pv 1) pa_nil)))) (pw_or1 (pt_cmpR op_ne (pe_callB call_len_seq (by rfl) T.b_len PySem.boot_len (pa_cons (pv 1) pa_nil)) pe_int (nomark _))))) (pss_one (ps_ret pe_bl)) pss_nil)
        (pss_cons (ps_asg (pv 1) (pg_tup (by rfl) (pgs_cons (pg_name (i := 2) sc_is_entry.nd rfl (.inl rfl)) (pgs_cons (pg_name (i := 3) sc_is_entry.nd rfl (.inl rfl)) (pgs_cons (pg_name (i := 4) sc_is_entry.nd rfl (.inl rfl)) pgs_nil)))))
        (pss_one (ps_ret (pe_and (pe_call G_b hr (by rfl) D_b.g D_b.F.kp D_b.b .nil pass0 (pa_cons (pv 2) (pa_cons (pv 0) pa_nil))) (pe_and (pe_call G_b hr (by rfl) D_b.g D_b.F.kp D_b.b .nil pass0 (pa_cons (pv 3) (pa_cons (pv 0) pa_nil))) (pe_and (pe_cmpR op_ne (pv 2) (pv 3) (nomark _)) (pe_and (pe_call G_w (hr.mono (by decide)) (by rfl) D_w.g D_w.F.kp D_w.b .nil pass0 (pa_cons (pv 4) pa_nil)) (pe_one (pe_cmpR op_ge (pv 4) pe_int (nomark _))))))))))), ?_⟩
    obtain ⟨v0, v1, v2, v3, v4, v5⟩ := hv
    refine ⟨_, rfl, b, _, rfl, hb, fun H1 sm => ⟨true, rfl, ?_⟩⟩
    have hT : SqT K H1 b (tv t) := .inl (.inl (sm _ _ hb))
    refine ⟨_, rfl, b, _, rfl, .inr hT, rfl, _, rfl, iteNS rfl ?_⟩
    refine ⟨_, rfl, b, _, rfl, hT, rfl, _, _, rfl, _, _, rfl, _, _, rfl, rfl, ?_⟩
    refine ⟨_, rfl, _, rfl, t.1, n, rfl, v0, v1, true, rfl, ?_⟩
    refine ⟨_, rfl, _, rfl, t.2.1, n, rfl, v2, v3, true, rfl, ?_⟩
    refine ⟨_, rfl, _, rfl, rfl, _, rfl, ?_⟩
    rw [decide_eq_false (fun z => v4 (V.int.inj z))]
    refine ⟨_, rfl, t.2.2, rfl, true, rfl, ?_⟩
    refine ⟨_, rfl, t.2.2, 1, rfl, rfl, ?_⟩
    show Q (.bl (decide (1 ≤ t.2.2))) H1
    rw [decide_eq_true v5]
    exact q H1 sm
end
end Own

/-! The dict of a lot that is made. -/
namespace Own
open PySem PySem.Spec PyProof.Rows L2
def kk (p : Int × Int) : List Key := [.inl p.1, .inl p.2]
theorem kk_inj {p q : Int × Int} (h : kk p = kk q) : p = q := by
  unfold kk at h
  injection h with h1 h2
  injection h2 with h3 _
  injection h1 with h1
  injection h3 with h3
  exact Prod.ext h1 h3
structure DInv (kvs : List (List Key × V)) (m : List Tr) : Prop where
  val : ∀ p, valV kvs (kk p) = if p ∈ m.map ky then some (.int (tot p m)) else none
  frm : ∀ kv ∈ kvs, ∃ p, kv.1 = kk p
  nd : (kvs.map (·.1)).Nodup
theorem DInv.nil : DInv [] [] := ⟨fun p => rfl, fun kv (h : kv ∈ []) => absurd h List.not_mem_nil, List.nodup_nil⟩
theorem putK_keys {kvs : List (List Key × V)} {k : List Key} {v : V} : (∃ x, valV kvs k = some x) → (putK kvs k v).map (·.1) = kvs.map (·.1) := fun ⟨x, h⟩ => by
  unfold putK
  rw [valV_any, h]
  show (kvs.map _).map _ = _
  rw [List.map_map]
  refine List.map_congr_left fun kv _ => ?_
  show (if kv.1 = k then (kv.1, v) else kv).1 = kv.1
  split <;> rfl
theorem not_key {kvs : List (List Key × V)} {k : List Key} (h : valV kvs k = none) : k ∉ kvs.map (·.1) := fun m => by
  have a := valV_any k kvs
  rw [h] at a
  obtain ⟨kv, hm, e⟩ := List.mem_map.mp m
  have : (kvs.any fun kv => decide (kv.1 = k)) = true := List.any_eq_true.mpr ⟨kv, hm, decide_eq_true e⟩
  rw [this] at a
  cases a
theorem tot_snoc (p : Int × Int) (m : List Tr) (t : Tr) : tot p (m ++ [t]) = tot p m + (if ky t = p then t.2.2 else 0) := by
  unfold tot
  rw [bk_append]
  show _ + ((if decide (ky t = p) = true then t.2.2 else 0) + 0) = _
  by_cases h : ky t = p
  · rw [if_pos (decide_eq_true h), if_pos h]
    omega
  · rw [if_neg (by rw [decide_eq_false h]; decide), if_neg h]
    omega
theorem tot_out {p : Int × Int} {m : List Tr} (h : p ∉ m.map ky) : tot p m = 0 := by
  induction m with
  | nil => rfl
  | cons t r ih =>
    rw [tot_cons, ih fun z => h (by rw [List.map_cons]; exact List.mem_cons_of_mem _ z), if_neg fun z => h (by rw [List.map_cons, z]; exact List.mem_cons_self)]
    rfl
/-- what stands there, or 0 -/
theorem DInv.get {kvs : List (List Key × V)} {m : List Tr} (d : DInv kvs m) (p : Int × Int) : (valV kvs (kk p)).getD (.int 0) = .int (tot p m) := by
  rw [d.val]
  split
  · rfl
  · rename_i h
    rw [tot_out h]
    rfl
theorem DInv.put {kvs : List (List Key × V)} {m : List Tr} (d : DInv kvs m) (t : Tr) : DInv (putK kvs (kk (ky t)) (.int (tot (ky t) m + t.2.2))) (m ++ [t]) := by
  refine ⟨fun p => ?_, fun kv h => ?_, ?_⟩
  · rw [valV_put, d.val, tot_snoc, List.map_append]
    by_cases h : p = ky t
    · subst h
      rw [if_pos rfl, if_pos (List.mem_append_right _ (by rw [List.map_cons]; exact List.mem_cons_self)), if_pos rfl]
    · have hne : ¬ ky t = p := fun z => h z.symm
      rw [if_neg fun z : kk p = kk (ky t) => h (kk_inj z)]
      by_cases hm : p ∈ m.map ky
      · rw [if_pos hm, if_pos (List.mem_append_left _ hm), if_neg hne, Int.add_zero]
      · rw [if_neg hm, if_neg fun z => by
          rcases List.mem_append.mp z with z | z
          · exact hm z
          · exact h (List.mem_singleton.mp z)]
  · cases e : valV kvs (kk (ky t)) with
    | none =>
      rw [putK_new _ e] at h
      rcases List.mem_append.mp h with h | h
      · exact d.frm kv h
      · exact ⟨ky t, by rw [List.mem_singleton.mp h]⟩
    | some x =>
      have hk : kv.1 ∈ (putK kvs (kk (ky t)) (.int (tot (ky t) m + t.2.2))).map (·.1) := List.mem_map.mpr ⟨kv, h, rfl⟩
      rw [putK_keys ⟨x, e⟩] at hk
      obtain ⟨kv2, h2, e2⟩ := List.mem_map.mp hk
      obtain ⟨p, hp⟩ := d.frm kv2 h2
      exact ⟨p, by rw [← e2]; exact hp⟩
  · cases e : valV kvs (kk (ky t)) with
    | none =>
      rw [putK_new _ e, List.map_append]
      exact List.nodup_append.mpr ⟨d.nd, by simp, fun a ha b hb z => not_key e (by
        have hb2 : b = kk (ky t) := List.mem_singleton.mp hb
        rw [hb2] at z
        rw [← z]
        exact ha)⟩
    | some x =>
      rw [putK_keys ⟨x, e⟩]
      exact d.nd
theorem putK_len {kvs : List (List Key × V)} {k : List Key} {v : V} : (putK kvs k v).length ≤ kvs.length + 1 := by
  cases e : valV kvs k with
  | none =>
    rw [putK_new _ e, List.length_append]
    exact Nat.le_refl _
  | some x =>
    have := congrArg List.length (putK_keys (v := v) ⟨x, e⟩)
    rw [List.length_map, List.length_map] at this
    omega
theorem DInv.mem {kvs : List (List Key × V)} {m : List Tr} (d : DInv kvs m) (p : Int × Int) : kk p ∈ kvs.map (·.1) ↔ p ∈ m.map ky := by
  constructor
  · intro h
    by_cases hm : p ∈ m.map ky
    · exact hm
    · exact absurd h (not_key (by rw [d.val, if_neg hm]))
  · intro h
    have e := d.val p
    rw [if_pos h] at e
    have a := valV_any (kk p) kvs
    rw [e] at a
    obtain ⟨kv, hm, hk⟩ := List.any_eq_true.mp a
    exact List.mem_map.mpr ⟨kv, hm, of_decide_eq_true hk⟩
/-- the sorted keys, strictly in order -/
theorem sorted_lex {xs : List (Int × Int)} (hn : xs.Nodup) (hs : xs.Pairwise fun x y => SrtO.lexB y x = false) : xs.Pairwise Lex := by
  refine List.Pairwise.imp₂ (R := fun x y => SrtO.lexB y x = false) (S := fun x y => x ≠ y) ?_ hs hn
  intro a b h1 h2
  have h3 := SrtO.lexB_no.mp h1
  unfold Lex
  have h4 : ¬ (a.1 = b.1 ∧ a.2 = b.2) := fun z => h2 (Prod.ext z.1 z.2)
  omega
end Own

namespace Own
open PySem PySem.Spec PyProof.Rows L2
def SameT (H H' : Hp) : Prop := ∀ b o, H b = some (.tup o) → H' b = some (.tup o)
theorem TrV.sameT {H H' : Hp} {vs : List V} {l : List Tr} (s : SameT H H') (h : TrV H vs l) : TrV H' vs l := ⟨h.1, fun i t e => by
  obtain ⟨b, e1, e2⟩ := h.2 i t e
  exact ⟨b, e1, s _ _ e2⟩⟩
theorem sameT_put {H H' : Hp} {D : Addr} {vs ws : List V} (e : H D = some (.lst vs)) (s : Same H H') : SameT H (upd H' D (.lst ws)) := fun b o h => by
  have hb : b ≠ D := fun z => by
    rw [z, e] at h
    cases h
  rw [upd_ne hb]
  exact s _ _ h
theorem same_put {H H1 H' : Hp} {D : Addr} {o : HO} (n : H D = none) (s : Same H H') : Same H (upd H' D o) := fun b u h => by
  rw [upd_ne (ne_of_none h n)]
  exact s _ _ h
theorem keys_of {H : Hp} {kvs : List (List Key × V)} {bs : List Addr} (h : IsKeys H kvs bs) (f : ∀ kv ∈ kvs, ∃ p, kv.1 = kk p) : ((bs.map V.ref).map (kOf H)).map kk = kvs.map (·.1) ∧ ∀ b ∈ bs, ∃ p : Int × Int, H b = some (.tup [.int p.1, .int p.2]) := by
  unfold IsKeys at h
  induction h with
  | nil => exact ⟨rfl, fun b h => by cases h⟩
  | @cons kv b ks bs hb t ih =>
    obtain ⟨p, hp⟩ := f kv List.mem_cons_self
    rw [hp] at hb
    have hb2 : H b = some (.tup [.int p.1, .int p.2]) := hb
    obtain ⟨i1, i2⟩ := ih fun kv h => f kv (List.mem_cons_of_mem _ h)
    refine ⟨?_, fun c hc => ?_⟩
    · rw [List.map_cons, List.map_cons, List.map_cons, List.map_cons, i1, kOf_at hb2, hp]
    · rcases List.mem_cons.mp hc with e | e
      · exact ⟨p, by rw [e]; exact hb2⟩
      · exact i2 c e
section
variable {P : Program} {w : World} {K : PySem.W.Frag} {mg : Str → Option Value} {base : Heap}
/-! ### the entries of a lot, gathered -/
def spGathered (K : PySem.W.Frag) : Sp := fun vs H Q _ => ∃ (n : Int) (a : Addr) (xs : List V) (l : List Tr), vs = [.int n, .ref a] ∧ SqB K H a xs ∧ TrV H xs l ∧ (∀ t ∈ l, Vld n t) ∧ l.length ≤ 1000 ∧
  ∀ H' c r, Same H H' → H c = none → Trip H' c r → IsNorm l r → Q (.ref c) H'
theorem ok_gathered {f : Addr} {fd : FuncData} (F : Fun K "gathered" "gathered" s_gathered f fd) (T : Bi mg) {f_e : Addr} {d_e : FuncData} (D_e : Df K mg "is_entry" s_is_entry ["pins", "entry"] f_e d_e) (G_e : FnOk P w K mg base CX0 3 f_e d_e ["pins", "entry"] spEntry) :
    FnOk P w K mg base CX0 4 f fd ["pins", "entries"] (spGathered K) := by
  refine F.ok sc_gathered (fun vs H Q E h => ?_) (fun cdv A outer s H vs Q E hr h => ?_)
  · obtain ⟨n, a, xs, l, rfl, _⟩ := h
    rfl
  · obtain ⟨n, a, xs, l, rfl, hB, hx, hv, hl, q⟩ := h
    have hu := hu_of hr
    refine ⟨_, (pss_cons (ps_set (i := 2) sc_gathered.nd rfl (.inr rfl) pe_dnewT)
        (pss_cons (ps_for PassesOwn.never rfl (pi_seq (pv 1)) (pg_name (i := 3) sc_gathered.nd rfl (.inl rfl))
        (pss_cons (ps_if (pt_not (pt_val (pe_call G_e hr (by rfl) D_e.g D_e.F.kp D_e.b .nil pass0 (pa_cons (pv 0) (pa_cons (pv 3) pa_nil))))) (pss_one ps_never) pss_nil)
        (pss_cons (ps_asg (pv 3) (pg_tup (by rfl) (pgs_cons (pg_name (i := 5) sc_gathered.nd rfl (.inl rfl)) (pgs_cons (pg_name (i := 6) sc_gathered.nd rfl (.inl rfl)) (pgs_cons (pg_name (i := 7) sc_gathered.nd rfl (.inl rfl)) pgs_nil)))))
        (pss_cons (ps_set (i := 4) sc_gathered.nd rfl (.inl rfl) (pe_tup (pa_cons (pe_callB (call_min2 rfl) (by rfl) T.b_min (by decide +kernel) (pa_cons (pv 5) (pa_cons (pv 6) pa_nil))) (pa_cons (pe_callB (call_max2 rfl) (by rfl) T.b_max (by decide +kernel) (pa_cons (pv 5) (pa_cons (pv 6) pa_nil))) pa_nil))))
        (pss_one (ps_dput hu (pv 2) (pv 4) (pe_op op_add (pe_dget2 hu (pv 2) (pv 4) pe_int ⟨rfl, rfl, rfl, rfl⟩) (pv 7)) rfl))))))
        (pss_one (ps_ret (pe_callTy call_tuple_of (by rfl) T.b_tuple (by decide +kernel) (pa_cons (pe_lc (own := [("a", 5), ("b", 6)]) (g := gTup K 2 (gCons (gName 5) (gCons (gName 6) gNil))) (tt := tYes) rfl sc_gathered.nd (pi_list (pe_callB (cr_sortedDT rfl) (by rfl) T.b_sorted (by decide +kernel) (pa_cons (pv 2) pa_nil))) (blkOk_by (own := [("a", 5), ("b", 6)]) (N := ["pins", "entries", "held", "entry", "pair", "a", "b", "many"]) (sc := defScope s_gathered) (by decide +kernel)) (fun _ _ _ _ _ => (pg_tup (by rfl) (pgs_cons (pg_name (i := 5) sc_gathered.nd rfl (.inl rfl)) (pgs_cons (pg_name (i := 6) sc_gathered.nd rfl (.inl rfl)) pgs_nil)))) (fun _ _ _ _ _ => pts_nil) (fun _ _ _ _ _ => (pe_tup (pa_cons (pv 5) (pa_cons (pv 6) (pa_cons (pe_dget hu (pv 2) (pe_tup (pa_cons (pv 5) (pa_cons (pv 6) pa_nil))) (fun _ _ => rfl)) pa_nil)))))) pa_nil)))))), ?_⟩
    intro d hd
    refine ⟨_, rfl, a, rfl, for_same (Hb := H) hB (fun i σ H' => ∃ kvs y3 y4 y5 y6 y7, σ = [some (.int n), some (.ref a), some (.ref d), y3, y4, y5, y6, y7] ∧ H' d = some (.dT kvs) ∧ DInv kvs (l.take i) ∧ kvs.length ≤ i ∧ Same H H') ⟨[], none, none, none, none, none, rfl, upd_same, DInv.nil, Nat.le_refl _, same_upd hd⟩ (fun i σ' H' p => by obtain ⟨_, _, _, _, _, _, _, _, _, _, s⟩ := p; exact s) (fun i x σ H' hxi p => ?_) (fun σ H' p => ?_)⟩
    · obtain ⟨kvs, y3, y4, y5, y6, y7, rfl, ed, dI, klen, sm⟩ := p
      obtain ⟨b, t, rfl, hti, hb⟩ := (hx.same sm).at_ hxi
      have hil : i < l.length := (List.getElem?_eq_some_iff.mp hti).1
      have hvt : Vld n t := hv t (List.mem_of_getElem? hti)
      refine ⟨_, rfl, _, rfl, n, b, t, rfl, hb, hvt, fun H1 s1 => ⟨true, rfl, ?_⟩⟩
      refine ⟨_, rfl, b, _, rfl, .inl (.inl (s1 _ _ hb)), rfl, _, _, rfl, _, _, rfl, _, _, rfl, rfl, ?_⟩
      refine ⟨_, rfl, _, rfl, _, _, rfl, _, rfl, _, rfl, _, _, rfl, by show 2 ≤ sizeLine; decide, fun p np => ?_⟩
      have ed1 : (upd H1 p (.tup [.int (lo t.1 t.2.1), .int (hi t.1 t.2.1)])) d = some (.dT kvs) := by
        rw [upd_ne (ne_of_none (s1 _ _ ed) np)]
        exact s1 _ _ ed
      have ep : (upd H1 p (.tup [.int (lo t.1 t.2.1), .int (hi t.1 t.2.1)])) p = some (.tup ((kk (ky t)).map kV)) := upd_same
      refine ⟨_, rfl, d, rfl, .inr ⟨kvs, .inl ed1⟩, _, rfl, _, DGet.t ed1 ep, ?_⟩
      rw [dI.get]
      refine ⟨_, rfl, _, _, rfl, rfl, _, rfl, _, rfl, d, _, rfl, DPut.t ed1 ep (small1000 (by omega)), ?_⟩
      have hd1 : H1 d ≠ none := fun z => by rw [s1 _ _ ed] at z; cases z
      refine ⟨_, _, _, _, _, _, rfl, upd_same, ?_, Nat.le_trans putK_len (by omega), fun c o e => ?_⟩
      · rw [List.take_add_one, hti]
        exact dI.put t
      · rw [upd_ne (ne_of_none e hd)]
        exact same_upd np _ _ (s1 _ _ (sm _ _ e))
    · obtain ⟨kvs, y3, y4, y5, y6, y7, rfl, ed, dI, klen, sm⟩ := p
      rw [hx.1, List.take_length] at dI
      refine ⟨_, rfl, d, kvs, rfl, .inl ed, fun kv hkv => by obtain ⟨p, hp⟩ := dI.frm kv hkv; exact ⟨p.1, p.2, hp⟩, fun bs ys p0 hk hsrt hstb np0 => ?_⟩
      obtain ⟨kEq, kAt⟩ := keys_of hk dI.frm
      have hall : ∀ y ∈ ys, ∃ b, y = .ref b ∧ H' b = some (.tup [.int (kOf H' y).1, .int (kOf H' y).2]) := fun y hy => by
        obtain ⟨b, hb, rfl⟩ := List.mem_map.mp (hstb.perm.mem_iff.mp hy)
        obtain ⟨p, hp⟩ := kAt b hb
        exact ⟨b, rfl, by rw [kOf_at hp]; exact hp⟩
      have hperm : (ys.map (kOf H')).Perm ((bs.map V.ref).map (kOf H')) := hstb.perm.map _
      have hnd : (ys.map (kOf H')).Nodup := by
        refine hperm.nodup_iff.mpr ?_
        have := dI.nd
        rw [← kEq] at this
        unfold List.Nodup at this ⊢
        exact (List.pairwise_map.mp this).imp fun h e => h (congrArg kk e)
      have hmem : ∀ p, p ∈ ys.map (kOf H') ↔ p ∈ l.map ky := fun p => by
        rw [hperm.mem_iff, ← dI.mem p, ← kEq]
        exact ⟨fun m => List.mem_map.mpr ⟨p, m, rfl⟩, fun m => by
          obtain ⟨p2, m2, e2⟩ := List.mem_map.mp m
          rw [← kk_inj e2]
          exact m2⟩
      have hlex : (ys.map (kOf H')).Pairwise Lex := sorted_lex hnd (SrtO.srtd_map (lt := SrtO.lexB) (f := kOf H') hsrt)
      have hN : IsNorm l ((ys.map (kOf H')).map fun p => (p.1, p.2, tot p l)) := by
        have e1 : (((ys.map (kOf H')).map fun p => ((p.1, p.2, tot p l) : Tr))).map pr = ys.map (kOf H') := by
          rw [List.map_map]
          exact List.map_id' _
        refine ⟨by rw [e1]; exact hlex, fun p => by rw [e1]; exact hmem p, fun e he => ?_⟩
        obtain ⟨p, _, rfl⟩ := List.mem_map.mp he
        rfl
      have hylen : ys.length ≤ 1000 := by
        have h1 := hstb.perm.length_eq
        have h2 := congrArg List.length kEq
        rw [List.length_map] at h1
        rw [List.length_map, List.length_map, List.length_map, List.length_map] at h2
        rw [hx.1] at klen
        omega
      generalize hr0 : ((ys.map (kOf H')).map fun p => ((p.1, p.2, tot p l) : Tr)) = r at hN
      have hrl : r.length = ys.length := by rw [← hr0, List.length_map, List.length_map]
      have s0 : Same H' (upd H' p0 (.lst ys)) := same_upd np0
      refine ⟨p0, rfl, ⟨_, .inl (.inl upd_same)⟩, fun D hD => ?_⟩
      refine lc_list (K := K) (a := p0) (xs := ys) (fun i H2 => Same (upd H' p0 (.lst ys)) H2 ∧ ∃ vs, H2 D = some (.lst vs) ∧ TrV H2 vs (r.take i)) ⟨same_upd hD, [], upd_same, TrV.nil⟩ (fun i H2 _ p => .inl (.inl (p.1 _ _ upd_same))) (fun i x H2 hxi p => ?_) (fun H2 p => ?_)
      · obtain ⟨s2, vs, eD, tV⟩ := p
        obtain ⟨b, rfl, hb⟩ := hall x (List.mem_of_getElem? hxi)
        have hil : i < ys.length := (List.getElem?_eq_some_iff.mp hxi).1
        generalize hp : kOf H' (.ref b) = p at hb
        have hri : r[i]? = some (p.1, p.2, tot p l) := by
          rw [← hr0, List.getElem?_map, List.getElem?_map, hxi, ← hp]
          rfl
        have hpm : p ∈ l.map ky := (hmem p).mp (by rw [← hp]; exact List.mem_map.mpr ⟨_, List.mem_of_getElem? hxi, rfl⟩)
        have hval : valV kvs (kk p) = some (.int (tot p l)) := by
          rw [dI.val, if_pos hpm]
        have hb2 := s2 _ _ (s0 _ _ hb)
        have ed2 := s2 _ _ (s0 _ _ ed)
        refine ⟨b, _, rfl, .inl (.inl hb2), rfl, _, _, rfl, _, _, rfl, rfl, rfl, ?_⟩
        refine ⟨_, rfl, _, rfl, _, rfl, _, rfl, _, rfl, by show 2 ≤ sizeLine; decide, fun p1 np1 => ⟨d, .int (tot p l), rfl, ?_, ?_⟩⟩
        · have g := DGet.t (k := kk p) (b := p1) (H := upd H2 p1 (.tup [.int p.1, .int p.2])) (a := d) (kvs := kvs) (by rw [upd_ne (ne_of_none ed2 np1)]; exact ed2) upd_same
          rw [hval] at g
          exact g
        · refine ⟨by show 3 ≤ sizeLine; decide, fun p2 np2 => ?_⟩
          have s3 : Same H2 (upd (upd H2 p1 (.tup [.int p.1, .int p.2])) p2 (.tup [.int p.1, .int p.2, .int (tot p l)])) := (same_upd np1).trans (same_upd np2)
          refine ⟨vs, s3 _ _ eD, ?_, same_put (H1 := H2) hD (s2.trans s3), _, upd_same, ?_⟩
          · rw [tV.1, List.length_take]
            exact Nat.lt_of_le_of_lt (Nat.min_le_right _ _) (small1000 (by omega))
          · rw [List.take_add_one, hri]
            have nD : p2 ≠ D := fun z => by
              rw [z] at np2
              have := (same_upd (o := .tup [.int p.1, .int p.2]) np1) _ _ eD
              rw [this] at np2
              cases np2
            refine (tV.sameT (sameT_put eD s3)).snoc ?_
            rw [upd_ne nD, upd_same]
      · obtain ⟨s2, vs, eD, tV⟩ := p
        rw [← hrl, List.take_length] at tV
        refine ⟨D, vs, rfl, .inl ⟨.inl (.inl eD), fun c nc => ?_⟩⟩
        have sA : Same H (upd H2 c (.tup vs)) := ((sm.trans s0).trans s2).trans (same_upd nc)
        exact q _ c r sA (((sm.trans s0).trans s2).free nc) ⟨vs, upd_same, tV.same (same_upd nc)⟩ hN
end
end Own

namespace Own
open PySem PySem.Spec PyProof.Rows L2
/-! ### a lot as an object -/
theorem kpc : ¬ (("cords" : Str) = "pins") := by decide +kernel
theorem kpc2 : ¬ (("pins" : Str) = "cords") := by decide +kernel
def flds (n : Int) (c : Addr) : List (Str × V) := putF "cords" (.ref c) (putF "pins" (.int n) [])
theorem flds_pins (n : Int) (c : Addr) : (flds n c).lookup ("pins" : Str) = some (.int n) := by
  unfold flds
  rw [lookup_putF, if_neg kpc2, lookup_putF, if_pos rfl]
theorem flds_cords (n : Int) (c : Addr) : (flds n c).lookup ("cords" : Str) = some (.ref c) := by
  unfold flds
  rw [lookup_putF, if_pos rfl]
theorem flds_no (n : Int) (c : Addr) {m : Str} (h1 : ¬ m = "pins") (h2 : ¬ m = "cords") : (flds n c).lookup m = none := by
  unfold flds
  rw [lookup_putF, if_neg h2, lookup_putF, if_neg h1]
  all_goals rfl
/-- a lot stands at p -/
def LotAt (C : Addr) (H : Hp) (p : Addr) (n : Int) (cs : List Tr) : Prop := ∃ dx c, H p = some (.ins C dx (flds n c)) ∧ Trip H c cs
theorem LotAt.same {C : Addr} {H H' : Hp} {p : Addr} {n : Int} {cs : List Tr} (s : Same H H') (h : LotAt C H p n cs) : LotAt C H' p n cs := by
  obtain ⟨dx, c, e, t⟩ := h
  exact ⟨dx, c, s _ _ e, t.same s⟩
structure LotC (K : PySem.W.Frag) (mg : Str → Option Value) (C : Addr) : Prop where
  cl : Cls K C
  nP : NoAttr K C "pins"
  nC : NoAttr K C "cords"
  g : mg "Lot" = some (.ref C)
/-- a method of the text -/
structure Mt (K : PySem.W.Frag) (C : Addr) (m qual : Str) (st : Stmt) (ps : List Str) (f : Addr) (fd : FuncData) : Prop where
  F : Fun K m qual st f fd
  m : Meth K C m f
  b : Binds K fd ps []
abbrev FI (K : PySem.W.Frag) (z : Addr) (f : Addr) (fd : FuncData) : Prop := FunD K "__init__" "Lot.__init__" (defArgs s_Lot_init) (defBody s_Lot_init) (defScope s_Lot_init) [.ref z] [] f fd
section
variable {P : Program} {w : World} {K : PySem.W.Frag} {mg : Str → Option Value} {base : Heap} {C : Addr}
def spInit (K : PySem.W.Frag) (C : Addr) : Sp := fun vs H Q _ => ∃ (p dx : Addr) (n : Int) (a : Addr) (xs : List V) (l : List Tr), vs = [.ref p, .int n, .ref a] ∧ H p = some (.ins C dx []) ∧ 0 ≤ n ∧ SqB K H a xs ∧ TrV H xs l ∧ (∀ t ∈ l, Vld n t) ∧ l.length ≤ 1000 ∧
  ∀ H' c r, (∀ b o, H b = some o → b ≠ p → H' b = some o) → H' p = some (.ins C dx (flds n c)) → Trip H' c r → IsNorm l r → Q .non H'
theorem SqB.keep {K : PySem.W.Frag} {H H' : Hp} {a p : Addr} {xs : List V} {dx : Addr} {fs : List (Str × V)} (e : H p = some (.ins C dx fs)) (s : ∀ b o, H b = some o → b ≠ p → H' b = some o) (h : SqB K H a xs) : SqB K H' a xs := by
  have go : ∀ {o : HO}, H a = some o → (∀ D d f, o ≠ .ins D d f) → H' a = some o := fun {o} h n => s _ _ h fun z => by
    rw [z, e] at h
    exact n _ _ _ (Option.some.inj h).symm
  rcases h with ((h | ⟨o, h⟩) | h) | ((h | ⟨o, h⟩) | h)
  · exact .inl (.inl (.inl (go h fun _ _ _ z => by cases z)))
  · exact .inl (.inl (.inr ⟨o, go h fun _ _ _ z => by cases z⟩))
  · exact .inl (.inr h)
  · exact .inr (.inl (.inl (go h fun _ _ _ z => by cases z)))
  · exact .inr (.inl (.inr ⟨o, go h fun _ _ _ z => by cases z⟩))
  · exact .inr (.inr h)
theorem ok_init {z f : Addr} {fd : FuncData} (F : FI K z f fd) (T : Bi mg) (L : LotC K mg C) {f_k : Addr} {d_k : FuncData} (D_k : Df K mg "check_pins" s_check_pins ["pins"] f_k d_k) (G_k : FnOk P w K mg base CX0 2 f_k d_k ["pins"] spCkPins)
    {f_g : Addr} {d_g : FuncData} (D_g : Df K mg "gathered" s_gathered ["pins", "entries"] f_g d_g) (G_g : FnOk P w K mg base CX0 4 f_g d_g ["pins", "entries"] (spGathered K)) :
    FnOk P w K mg base CX0 5 f fd ["self", "pins", "cords"] (spInit K C) := by
  refine F.ok sc_Lot_init (fun vs H Q E h => ?_) (fun cdv A outer s H vs Q E hr h => ?_)
  · obtain ⟨p, dx, n, a, xs, l, rfl, _⟩ := h
    rfl
  · obtain ⟨p, dx, n, a, xs, l, rfl, ep, hn, hB, hx, hv, hl, q⟩ := h
    refine ⟨_, pss_cons (ps_expr (pe_call G_k (hr.mono (by decide)) (by rfl) D_k.g D_k.F.kp D_k.b .nil pass0 (pa_cons (pv 1) pa_nil)))
      (pss_cons (ps_fld (pv 0) (pv 1) rfl) (pss_one (ps_fld (pv 0) (pe_call G_g hr (by rfl) D_g.g D_g.F.kp D_g.b .nil pass0 (pa_cons (pv 1) (pa_cons (pv 2) pa_nil))) rfl))), ?_⟩
    refine ⟨_, rfl, n, rfl, hn, ?_⟩
    refine ⟨_, rfl, _, rfl, p, C, dx, [], rfl, ep, L.cl, L.nP, by show 0 < 1000; decide, ?_⟩
    have k1 : ∀ b o, H b = some o → b ≠ p → (upd H p (.ins C dx (putF "pins" (.int n) []))) b = some o := fun b o e nb => by
      rw [upd_ne nb]
      exact e
    have hx1 : TrV (upd H p (.ins C dx (putF "pins" (.int n) []))) xs l := hx.sameT fun b o e => k1 b _ e fun z => by
      rw [z, ep] at e
      cases e
    refine ⟨_, rfl, _, rfl, n, a, xs, l, rfl, hB.keep ep k1, hx1, hv, hl, fun H1 c r s1 nc tc hN => ?_⟩
    refine ⟨_, rfl, p, C, dx, _, rfl, s1 _ _ upd_same, L.cl, L.nC, by show 1 < 1000; decide, ?_⟩
    have s2 : ∀ b o, H1 b = some o → b ≠ p → (upd H1 p (.ins C dx (putF "cords" (.ref c) (putF "pins" (.int n) [])))) b = some o := fun b o e nb => by
      rw [upd_ne nb]
      exact e
    refine q _ c r (fun b o e nb => s2 b o (s1 b o (k1 b o e nb)) nb) upd_same ?_ hN
    obtain ⟨vs, e, t⟩ := tc
    have eH : H1 p = some (.ins C dx (putF "pins" (.int n) [])) := s1 _ _ upd_same
    refine ⟨vs, s2 _ _ e fun z => ?_, t.sameT fun b o h => s2 _ _ h fun z => ?_⟩
    · rw [z, eH] at e
      cases e
    · rw [z, eH] at h
      cases h
/-- Lot(n, entries) -/
theorem rd_make {n : Int} {a : Addr} {xs : List V} {l : List Tr} {H : Hp} {Q : VK} (hn : 0 ≤ n) (hB : SqB K H a xs) (hx : TrV H xs l) (hv : ∀ t ∈ l, Vld n t) (hl : l.length ≤ 1000) (q : ∀ H' x cs, Same H H' → LotAt C H' x n cs → IsNorm l cs → Q (.ref x) H') :
    ∀ x dx, H x = none → H dx = none → dx ≠ x → spInit K C (.ref x :: ([.int n, .ref a] ++ [])) (upd (upd H dx (.own x)) x (.ins C dx [])) (fun v H2 => v = .non ∧ Q (.ref x) H2) E0 := fun x dx nx nd ne => by
  have s1 : Same H (upd H dx (.own x)) := same_upd nd
  have nx1 : (upd H dx (.own x)) x = none := by
    rw [upd_ne ne.symm]
    exact nx
  have s2 : Same H (upd (upd H dx (.own x)) x (.ins C dx [])) := s1.trans (same_upd nx1)
  refine ⟨x, dx, n, a, xs, l, rfl, upd_same, hn, hB.same s2, hx.same s2, hv, hl, fun H' c r k e t hN => ⟨rfl, q H' x r (fun b o h => ?_) ⟨dx, c, e, t⟩ hN⟩⟩
  exact k b o (s2 b o h) (ne_of_none h nx)
/-! ### renamed pins -/
def gl (n : Int) (g : Int → Int) : List V := (List.range n.toNat).map fun j : Nat => V.int (g (j : Int))
theorem gl_at {n x : Int} (g : Int → Int) (h0 : 0 ≤ x) (h1 : x < n) : atI (gl n g) x = some (.int (g x)) := by
  have e : x = ((x.toNat : Nat) : Int) := by omega
  have hx : (gl n g)[x.toNat]? = some (.int (g x)) := by
    unfold gl
    rw [List.getElem?_map, List.getElem?_range (by omega)]
    show some (V.int (g ((x.toNat : Nat) : Int))) = _
    rw [← e]
  exact at_of e hx
def Inj (n : Int) (g : Int → Int) : Prop := ∀ x y, 0 ≤ x → x < n → 0 ≤ y → y < n → g x = g y → x = y
end
end Own

namespace Own
open PySem PySem.Spec PyProof.Rows L2
theorem rep_gl (v : V) (k : Nat) : (List.replicate k [v]).flatten = List.replicate k v := by
  induction k with
  | zero => rfl
  | succ k ih =>
    rw [List.replicate_succ, List.flatten_cons, ih]
    rfl
theorem gl_const (n v : Int) : List.replicate n.toNat (V.int v) = gl n fun _ => v := by
  unfold gl
  rw [List.map_const', List.length_range]
theorem gl_len (n : Int) (g : Int → Int) : (gl n g).length = n.toNat := by
  unfold gl
  rw [List.length_map, List.length_range]
theorem gl_congr {n : Int} {g h : Int → Int} (e : ∀ x, 0 ≤ x → x < n → g x = h x) : gl n g = gl n h := by
  unfold gl
  refine List.map_congr_left fun j hj => ?_
  have := List.mem_range.mp hj
  rw [e (j : Int) (by omega) (by omega)]
theorem gl_ix {n x : Int} (g : Int → Int) (h0 : 0 ≤ x) (h1 : x < n) : ixN (gl n g).length x = some x.toNat := by
  unfold ixN
  rw [gl_len, if_pos h0, if_pos (by omega)]
theorem gl_set {n x : Int} (g : Int → Int) (v : Int) (h0 : 0 ≤ x) (h1 : x < n) : (gl n g).set x.toNat (.int v) = gl n fun y => if y = x then v else g y := by
  unfold gl
  apply List.ext_getElem
  · rw [List.length_set, List.length_map, List.length_map]
  · intro j hj hj2
    rw [List.length_map, List.length_range] at hj2
    rw [List.getElem_set, List.getElem_map, List.getElem_map, List.getElem_range]
    by_cases e : x.toNat = j
    · rw [if_pos e]
      show V.int v = V.int (if ((j : Nat) : Int) = x then v else g j)
      rw [if_pos (by omega)]
    · rw [if_neg e]
      show V.int (g j) = V.int (if ((j : Nat) : Int) = x then v else g j)
      rw [if_neg (by omega)]
def endsOf (cs : List Tr) (x : Int) : Int := bs (fun q => decide (q.1 = x ∨ q.2 = x)) cs
theorem endsOf_snoc (cs : List Tr) (t : Tr) (x : Int) : endsOf (cs ++ [t]) x = endsOf cs x + (if t.1 = x ∨ t.2.1 = x then t.2.2 else 0) := by
  unfold endsOf
  rw [bs_append]
  show _ + ((if decide (t.1 = x ∨ t.2.1 = x) = true then t.2.2 else 0) + 0) = _
  by_cases h : t.1 = x ∨ t.2.1 = x
  · rw [if_pos (decide_eq_true h), if_pos h]
    omega
  · rw [if_neg (by rw [decide_eq_false h]; decide), if_neg h]
    omega
def totOf (cs : List Tr) : Int := (cs.map fun t => t.2.2).sum
theorem fmod_in (x : Int) {n : Int} (h : 0 < n) : 0 ≤ x.fmod n ∧ x.fmod n < n := by
  rw [Int.fmod_eq_emod_of_nonneg _ (Int.le_of_lt h)]
  exact ⟨Int.emod_nonneg _ (by omega), Int.emod_lt_of_pos _ h⟩
def sh (n s x : Int) : Int := (x + s).fmod n
def mi (n x : Int) : Int := n - 1 - x
theorem sh_in {n s x : Int} (h : 0 < n) : 0 ≤ sh n s x ∧ sh n s x < n := fmod_in _ h
theorem sub_mod {n a b : Int} (h : a % n = b % n) : (a - b) % n = 0 := by
  rw [Int.sub_emod, h, Int.sub_self, Int.zero_emod]
theorem sh_inj (n s : Int) : Inj n (sh n s) := fun x y x0 x1 y0 y1 e => by
  have n0 : 0 < n := by omega
  unfold sh at e
  rw [Int.fmod_eq_emod_of_nonneg _ (by omega), Int.fmod_eq_emod_of_nonneg _ (by omega)] at e
  have h1 := sub_mod e
  have h2 := sub_mod e.symm
  rw [show x + s - (y + s) = x - y by omega] at h1
  rw [show y + s - (x + s) = y - x by omega] at h2
  by_cases h : y ≤ x
  · rw [Int.emod_eq_of_lt (by omega) (by omega)] at h1
    omega
  · rw [Int.emod_eq_of_lt (by omega) (by omega)] at h2
    omega
theorem mi_inj (n : Int) : Inj n (mi n) := fun x y _ _ _ _ e => by
  unfold mi at e
  omega
theorem mi_in {n x : Int} (h0 : 0 ≤ x) (h1 : x < n) : 0 ≤ mi n x ∧ mi n x < n := by
  unfold mi
  omega
section
variable {P : Program} {w : World} {K : PySem.W.Frag} {mg : Str → Option Value} {base : Heap} {C : Addr}
/-! ### the ends at each pin -/
def spEap : Sp := fun vs H Q _ => ∃ (n : Int) (c : Addr) (cs : List Tr), vs = [.int n, .ref c] ∧ 0 ≤ n ∧ n ≤ 1000 ∧ Trip H c cs ∧ (∀ t ∈ cs, Vld n t) ∧ ∀ H' p, Same H H' → H p = none → H' p = some (.lst (gl n (endsOf cs))) → Q (.ref p) H'
theorem ok_eap {f : Addr} {fd : FuncData} (F : Fun K "ends_at_pins" "ends_at_pins" s_ends_at_pins f fd) (T : Bi mg) : FnOk P w K mg base CX0 1 f fd ["pins", "cords"] spEap := by
  refine F.ok sc_ends_at_pins (fun vs H Q E h => ?_) (fun cdv A outer s H vs Q E hr h => ?_)
  · obtain ⟨n, c, cs, rfl, _⟩ := h
    rfl
  · obtain ⟨n, c, cs, rfl, n0, n1, hc, hv, q⟩ := h
    refine ⟨_, (pss_cons (ps_set (i := 2) sc_ends_at_pins.nd rfl (.inl rfl) (pe_op op_rep (pe_lst (pa_cons pe_int pa_nil)) (pv 0)))
        (pss_cons (ps_for PassesOwn.never rfl (pi_tup (pv 1)) (pg_tup (by rfl) (pgs_cons (pg_name (i := 3) sc_ends_at_pins.nd rfl (.inl rfl)) (pgs_cons (pg_name (i := 4) sc_ends_at_pins.nd rfl (.inl rfl)) (pgs_cons (pg_name (i := 5) sc_ends_at_pins.nd rfl (.inl rfl)) pgs_nil))))
        (pss_cons (ps_asg (pe_op op_add (pe_ix (r := rIxL K) ix_list (pv 2) (pv 3) (fun _ _ => rfl)) (pv 5)) (pg_sub (pv 2) (pv 3) set_list))
        (pss_one (ps_asg (pe_op op_add (pe_ix (r := rIxL K) ix_list (pv 2) (pv 4) (fun _ _ => rfl)) (pv 5)) (pg_sub (pv 2) (pv 4) set_list)))))
        (pss_one (ps_ret (pv 2))))), ?_⟩
    obtain ⟨vs, ec, tc⟩ := id hc
    refine ⟨by show 1 ≤ sizeLine; decide, fun l hl => ⟨_, rfl, l, n, _, rfl, rfl, upd_same, by omega, by omega, ?_, fun p np => ?_⟩⟩
    · show 1 * n.toNat ≤ sizeLine
      rw [Nat.one_mul]
      exact Nat.le_of_lt (small1000 (by omega))
    have np0 : H p = none := (same_upd (o := .lst [.int 0]) hl).free np
    have sL : Same H (upd (upd H l (.lst [.int 0])) p (.lst (List.replicate n.toNat [V.int 0]).flatten)) := (same_upd hl).trans (same_upd np)
    refine ⟨_, rfl, c, rfl, ⟨vs, .inl (.inl (sL _ _ ec))⟩, for_tup (xs := vs) (fun i σ H' => (∃ y3 y4 y5, σ = [some (.int n), some (.ref c), some (.ref p), y3, y4, y5]) ∧ Same H H' ∧ H' p = some (.lst (gl n (endsOf (cs.take i))))) ⟨⟨_, _, _, rfl⟩, sL, ?_⟩ (fun i σ H' _ p => .inl (.inl (p.2.1 _ _ ec))) (fun i x σ H' hxi p => ?_) (fun σ H' p => ?_)⟩
    · rw [upd_same, rep_gl, gl_const]
      rfl
    · obtain ⟨⟨y3, y4, y5, rfl⟩, sm, ep⟩ := p
      obtain ⟨u, t, rfl, hti, hu⟩ := (tc.same sm).at_ hxi
      obtain ⟨v0, v1, v2, v3, v4, v5⟩ := hv t (List.mem_of_getElem? hti)
      refine ⟨u, _, rfl, .inl (.inl hu), rfl, _, _, rfl, _, _, rfl, _, _, rfl, rfl, ?_⟩
      refine ⟨_, rfl, _, rfl, p, _, _, _, rfl, rfl, .inl (.inl ep), gl_at _ v0 v1, _, rfl, _, _, rfl, rfl, _, rfl, _, rfl, p, _, _, _, rfl, rfl, ep, gl_ix _ v0 v1, ?_⟩
      rw [gl_set _ _ v0 v1]
      refine ⟨_, rfl, _, rfl, p, _, _, _, rfl, rfl, .inl (.inl upd_same), gl_at _ v2 v3, _, rfl, _, _, rfl, rfl, _, rfl, _, rfl, p, _, _, _, rfl, rfl, upd_same, gl_ix _ v2 v3, ?_⟩
      rw [gl_set _ _ v2 v3, upd_upd]
      refine ⟨⟨_, _, _, rfl⟩, same_put (H1 := H) np0 sm, ?_⟩
      rw [upd_same, List.take_add_one, hti]
      congr 2
      refine gl_congr fun x _ _ => ?_
      show _ = endsOf (cs.take i ++ [t]) x
      rw [endsOf_snoc]
      by_cases e1 : x = t.2.1
      · subst e1
        rw [if_pos rfl, if_neg (fun z => v4 z.symm), if_pos (.inr rfl)]
      · by_cases e2 : x = t.1
        · subst e2
          rw [if_neg e1, if_pos rfl, if_pos (.inl rfl)]
        · rw [if_neg e1, if_neg e2, if_neg fun z => by rcases z with z | z <;> omega]
          omega
    · obtain ⟨⟨y3, y4, y5, rfl⟩, sm, ep⟩ := p
      rw [tc.1, List.take_length] at ep
      exact ⟨_, rfl, q H' p sm np0 ep⟩
def spEnds (C : Addr) : Sp := fun vs H Q _ => ∃ (p : Addr) (x n : Int) (cs : List Tr), vs = [.ref p, .int x] ∧ LotAt C H p n cs ∧ 0 ≤ x ∧ x < n ∧ n ≤ 1000 ∧ (∀ t ∈ cs, Vld n t) ∧ ∀ H', Same H H' → Q (.int (endsOf cs x)) H'
theorem ok_ends {f : Addr} {fd : FuncData} (F : Fun K "ends" "Lot.ends" s_Lot_ends f fd) (T : Bi mg) (L : LotC K mg C) {f_k : Addr} {d_k : FuncData} (D_k : Df K mg "check_pin" s_check_pin ["pins", "pin"] f_k d_k) (G_k : FnOk P w K mg base CX0 3 f_k d_k ["pins", "pin"] spCkPin)
    {f_p : Addr} {d_p : FuncData} (D_p : Df K mg "ends_at_pins" s_ends_at_pins ["pins", "cords"] f_p d_p) (G_p : FnOk P w K mg base CX0 1 f_p d_p ["pins", "cords"] spEap) : FnOk P w K mg base CX0 4 f fd ["self", "pin"] (spEnds C) := by
  refine F.ok sc_Lot_ends (fun vs H Q E h => ?_) (fun cdv A outer s H vs Q E hr h => ?_)
  · obtain ⟨p, x, n, cs, rfl, _⟩ := h
    rfl
  · obtain ⟨p, x, n, cs, rfl, hL, x0, x1, n1, hv, q⟩ := h
    refine ⟨_, (pss_cons (ps_expr (pe_call G_k hr (by rfl) D_k.g D_k.F.kp D_k.b .nil pass0 (pa_cons (pe_fld (pv 0) rfl) (pa_cons (pv 1) pa_nil))))
        (pss_one (ps_ret (pe_ix (r := rIxL K) ix_list (pe_call G_p (hr.mono (by decide)) (by rfl) D_p.g D_p.F.kp D_p.b .nil pass0 (pa_cons (pe_fld (pv 0) rfl) (pa_cons (pe_fld (pv 0) rfl) pa_nil))) (pv 1) (fun _ _ => rfl))))), ?_⟩
    obtain ⟨dx, c, e, t⟩ := hL
    refine ⟨_, rfl, p, C, dx, _, _, rfl, e, L.cl, L.nP, flds_pins _ _, _, rfl, n, x, rfl, x0, x1, ?_⟩
    refine ⟨_, rfl, p, C, dx, _, _, rfl, e, L.cl, L.nP, flds_pins _ _, _, rfl, p, C, dx, _, _, rfl, e, L.cl, L.nC, flds_cords _ _, n, c, cs, rfl, by omega, n1, t, hv, fun H1 u s1 nu eu => ?_⟩
    exact ⟨_, rfl, u, _, x, _, rfl, rfl, .inl (.inl eu), gl_at _ x0 x1, q H1 s1⟩
def spTotal (C : Addr) : Sp := fun vs H Q _ => ∃ (p : Addr) (n : Int) (cs : List Tr), vs = [.ref p] ∧ LotAt C H p n cs ∧ cs.length ≤ 1000 ∧ ∀ H', Same H H' → Q (.int (totOf cs)) H'
theorem ok_total {f : Addr} {fd : FuncData} (F : Fun K "total" "Lot.total" s_Lot_total f fd) (T : Bi mg) (L : LotC K mg C) : FnOk P w K mg base CX0 1 f fd ["self"] (spTotal C) := by
  refine F.ok sc_Lot_total (fun vs H Q E h => ?_) (fun cdv A outer s H vs Q E hr h => ?_)
  · obtain ⟨p, n, cs, rfl, _⟩ := h
    rfl
  · obtain ⟨p, n, cs, rfl, hL, hl, q⟩ := h
    refine ⟨_, (pss_one (ps_ret (pe_callB (cr_sum rfl) (by rfl) T.b_sum (by decide +kernel) (pa_cons (pe_lc (own := [("entry", 1)]) (g := gName 1) (tt := tYes) rfl sc_Lot_total.nd (pi_tup (pe_fld (pv 0) rfl)) (blkOk_by (own := [("entry", 1)]) (N := ["self", "entry"]) (sc := defScope s_Lot_total) (by decide +kernel)) (fun _ _ _ _ _ => (pg_name (i := 1) sc_Lot_total.nd rfl (.inl rfl))) (fun _ _ _ _ _ => pts_nil) (fun _ _ _ _ _ => (pe_ix (r := rIxT K) ix_tup (pv 1) pe_int (fun _ _ => rfl)))) pa_nil)))), ?_⟩
    obtain ⟨dx, c, e, vs, ec, tc⟩ := hL
    refine ⟨_, rfl, p, C, dx, _, _, rfl, e, L.cl, L.nC, flds_cords _ _, c, rfl, ⟨vs, .inl (.inl ec)⟩, fun D hD => ?_⟩
    refine lc_tup (K := K) (a := c) (xs := vs) (fun i H2 => H2 = upd H D (.lst (((cs.map fun t => t.2.2).take i).map V.int))) rfl (fun i H2 _ p => by subst p; exact .inl (.inl (same_upd hD _ _ ec))) (fun i x H2 hxi p => ?_) (fun H2 p => ?_)
    · subst p
      obtain ⟨u, t, rfl, hti, hu⟩ := tc.at_ hxi
      refine ⟨rfl, ?_⟩
      refine ⟨_, rfl, u, _, 2, _, rfl, rfl, .inl (.inl (same_upd hD _ _ hu)), atI_nat (j := 2) rfl, _, upd_same, ?_, ?_⟩
      · rw [List.length_map, List.length_take, List.length_map]
        exact Nat.lt_of_le_of_lt (Nat.min_le_right _ _) (small1000 hl)
      · rw [upd_upd, List.take_add_one, List.getElem?_map, hti, List.map_append]
        rfl
    · subst p
      rw [show vs.length = (cs.map fun t => t.2.2).length by rw [List.length_map]; exact tc.1, List.take_length]
      exact ⟨D, _, rfl, .inl (.inl upd_same), q _ (same_upd hD)⟩
def spLen (C : Addr) : Sp := fun vs H Q _ => ∃ (p : Addr) (n : Int) (cs : List Tr), vs = [.ref p] ∧ LotAt C H p n cs ∧ Q (.int (cs.length : Int)) H
theorem ok_len {f : Addr} {fd : FuncData} (F : Fun K "__len__" "Lot.__len__" s_Lot_len f fd) (T : Bi mg) (L : LotC K mg C) : FnOk P w K mg base CX0 1 f fd ["self"] (spLen C) := by
  refine F.ok sc_Lot_len (fun vs H Q E h => ?_) (fun cdv A outer s H vs Q E hr h => ?_)
  · obtain ⟨p, n, cs, rfl, _⟩ := h
    rfl
  · obtain ⟨p, n, cs, rfl, hL, q⟩ := h
    refine ⟨_, (pss_one (ps_ret (pe_callB call_len_seq (by rfl) T.b_len PySem.boot_len (pa_cons (pe_fld (pv 0) rfl) pa_nil)))), ?_⟩
    obtain ⟨dx, c, e, vs, ec, tc⟩ := hL
    refine ⟨_, rfl, p, C, dx, _, _, rfl, e, L.cl, L.nC, flds_cords _ _, c, vs, rfl, .inr (.inl (.inl ec)), ?_⟩
    rw [tc.1]
    exact q
/-! ### turned and mirrored -/
abbrev GI (P : Program) (w : World) (K : PySem.W.Frag) (mg : Str → Option Value) (base : Heap) (C f : Addr) (d : FuncData) : Prop := FnOk P w K mg base CX0 5 f d ["self", "pins", "cords"] (spInit K C)
end
end Own

/-! Tables of lots. -/
namespace Own
open PySem PySem.Spec PyProof.Rows L2
def gr (cs : List Tr) (a b : Int) : Int := bs (fun q => decide ((q.1 = a ∧ q.2 = b) ∨ (q.1 = b ∧ q.2 = a))) cs
theorem gr_snoc (cs : List Tr) (t : Tr) (a b : Int) : gr (cs ++ [t]) a b = gr cs a b + (if (t.1 = a ∧ t.2.1 = b) ∨ (t.1 = b ∧ t.2.1 = a) then t.2.2 else 0) := by
  unfold gr
  rw [bs_append]
  show _ + ((if decide ((t.1 = a ∧ t.2.1 = b) ∨ (t.1 = b ∧ t.2.1 = a)) = true then t.2.2 else 0) + 0) = _
  by_cases h : (t.1 = a ∧ t.2.1 = b) ∨ (t.1 = b ∧ t.2.1 = a)
  · rw [if_pos (decide_eq_true h), if_pos h]
    omega
  · rw [if_neg (by rw [decide_eq_false h]; decide), if_neg h]
    omega
theorem gr_new {n : Int} {cs : List Tr} (g : Good n cs) {i : Nat} {t : Tr} (h : cs[i]? = some t) : gr (cs.take i) t.1 t.2.1 = 0 ∧ gr (cs.take i) t.2.1 t.1 = 0 := by
  have hnd := srt_nodup g.srt
  have hi : i < cs.length := (List.getElem?_eq_some_iff.mp h).1
  have ht := g.ord t (List.mem_of_getElem? h)
  have hne : ∀ e ∈ cs.take i, ¬ (e.1 = t.1 ∧ e.2.1 = t.2.1) ∧ ¬ (e.1 = t.2.1 ∧ e.2.1 = t.1) := fun e he => by
    obtain ⟨j, hj, e1⟩ := List.mem_iff_getElem.mp he
    rw [List.length_take] at hj
    rw [List.getElem_take] at e1
    have ho := g.ord e (List.mem_of_mem_take he)
    refine ⟨fun z => ?_, fun z => by omega⟩
    have h1 : (cs.map pr)[j]? = (cs.map pr)[i]? := by
      rw [List.getElem?_map, List.getElem?_map, h, List.getElem?_eq_getElem (by omega), e1]
      show some (e.1, e.2.1) = some (t.1, t.2.1)
      rw [z.1, z.2]
    have h2 := (List.getElem?_inj (by rw [List.length_map]; omega) hnd).mp h1
    omega
  constructor
  · exact bs_none fun e he => decide_eq_false fun z => by
      have := hne e he
      unfold pr at z
      rcases z with z | z
      · exact this.1 z
      · exact this.2 z
  · exact bs_none fun e he => decide_eq_false fun z => by
      have := hne e he
      unfold pr at z
      rcases z with z | z
      · exact this.2 z
      · exact this.1 z
/-- the sum of the first k -/
def pre (f : Int → Int) : Nat → Int
  | 0 => 0
  | k + 1 => pre f k + f (k : Int)
def ite0 (b : Bool) (c : Int) : Int := if b = true then c else 0
theorem bs_add {f g h : Int × Int → Bool} {cs : List Tr} (H : ∀ t ∈ cs, ∀ c, ite0 (f (pr t)) c = ite0 (g (pr t)) c + ite0 (h (pr t)) c) : bs f cs = bs g cs + bs h cs := by
  induction cs with
  | nil => rfl
  | cons t r ih =>
    have h1 := H t List.mem_cons_self t.2.2
    have h2 := ih fun u hu => H u (List.mem_cons_of_mem _ hu)
    unfold ite0 at h1
    rw [bs, bs, bs]
    omega
theorem bs_four {f g h k m : Int × Int → Bool} {cs : List Tr} (H : ∀ t ∈ cs, ∀ c, ite0 (f (pr t)) c = ite0 (g (pr t)) c + ite0 (h (pr t)) c - 2 * (ite0 (k (pr t)) c - ite0 (m (pr t)) c)) : bs f cs = bs g cs + bs h cs - 2 * (bs k cs - bs m cs) := by
  induction cs with
  | nil => rfl
  | cons t r ih =>
    have h1 := H t List.mem_cons_self t.2.2
    have h2 := ih fun u hu => H u (List.mem_cons_of_mem _ hu)
    unfold ite0 at h1
    rw [bs, bs, bs, bs, bs]
    omega
theorem ite0_dec (p : Prop) [Decidable p] (c : Int) : ite0 (decide p) c = if p then c else 0 := by
  unfold ite0
  by_cases h : p
  · rw [if_pos (decide_eq_true h), if_pos h]
  · rw [if_neg (by rw [decide_eq_false h]; decide), if_neg h]
def upTo (j m : Int) (q : Int × Int) : Bool := decide ((q.1 = j ∧ q.2 < m) ∨ (q.2 = j ∧ q.1 < m))
theorem pre_gr {n : Int} {cs : List Tr} (g : Good n cs) (j : Int) (m : Nat) : pre (gr cs j) m = bs (upTo j m) cs := by
  induction m with
  | zero =>
    rw [bs_none]
    · rfl
    · intro e he
      have ho := g.ord e he
      refine decide_eq_false fun z => ?_
      unfold pr at z
      dsimp only at z
      omega
  | succ m ih =>
    rw [pre, ih]
    unfold gr
    symm
    refine bs_add fun e he c => ?_
    have ho := g.ord e he
    unfold upTo pr
    rw [ite0_dec, ite0_dec, ite0_dec]
    dsimp only
    split <;> split <;> split <;> omega
/-- does x lie between the gaps i and j? -/
def sepB (i j x : Int) : Bool := decide (lo i j < x ∧ x ≤ hi i j)
def tabE (cs : List Tr) (i j : Int) : Int := bs (fun q => sepB i j q.1 != sepB i j q.2) cs
theorem bne_dec (p q : Prop) [Decidable p] [Decidable q] : (decide p != decide q) = decide (¬ (p ↔ q)) := by
  by_cases h : p <;> by_cases k : q <;> simp [h, k]
theorem tabE_comm (cs : List Tr) (i j : Int) : tabE cs i j = tabE cs j i := by
  have e : ∀ x, sepB i j x = sepB j i x := fun x => by
    unfold sepB
    have h1 := lo_hi i j
    have h2 := lo_hi j i
    exact decide_eq_decide.mpr (by omega)
  unfold tabE
  refine bs_congr fun t _ => ?_
  rw [e, e]
theorem tabE_same (cs : List Tr) (i : Int) : tabE cs i i = 0 := by
  refine bs_none fun t _ => ?_
  have h : ∀ x, sepB i i x = false := fun x => decide_eq_false fun z => by
    have := lo_hi i i
    omega
  rw [h, h]
  rfl
/-- one gap further -/
theorem tabE_step {n : Int} {cs : List Tr} (g : Good n cs) {i j : Int} (h0 : 0 ≤ i) (h1 : i < j) (h2 : j < n) :
    tabE cs i j = tabE cs i (j - 1) + bs (upTo j n) cs - 2 * (bs (upTo j j) cs - bs (upTo j (i + 1)) cs) := by
  unfold tabE
  refine bs_four fun e he c => ?_
  have ho := g.ord e he
  have a := lo_hi i j
  have b := lo_hi i (j - 1)
  unfold sepB upTo pr
  rw [bne_dec, bne_dec, ite0_dec, ite0_dec, ite0_dec, ite0_dec, ite0_dec]
  dsimp only
  split <;> split <;> split <;> split <;> split <;> omega
end Own

namespace Own
open PySem PySem.Spec PyProof.Rows L2
/-! ### a list of lists of ints -/
structure Grid (H : Hp) (p : Addr) (rs : List Addr) (n m : Int) (f : Int → Int → Int) : Prop where
  at_ : H p = some (.lst (rs.map V.ref))
  len : rs.length = n.toNat
  nd : rs.Nodup
  out : p ∉ rs
  row : ∀ (j : Nat) (r : Addr), rs[j]? = some r → H r = some (.lst (gl m (f j)))
theorem Grid.same {H H' : Hp} {p : Addr} {rs : List Addr} {n m : Int} {f : Int → Int → Int} (s : Same H H') (g : Grid H p rs n m f) : Grid H' p rs n m f :=
  ⟨s _ _ g.at_, g.len, g.nd, g.out, fun j r e => s _ _ (g.row j r e)⟩
theorem Grid.get {H : Hp} {p : Addr} {rs : List Addr} {n m : Int} {f : Int → Int → Int} (g : Grid H p rs n m f) {a : Int} (h0 : 0 ≤ a) (h1 : a < n) : ∃ r, rs[a.toNat]? = some r ∧ atI (rs.map V.ref) a = some (.ref r) ∧ H r = some (.lst (gl m (f a))) := by
  have hl := g.len
  have hi : a.toNat < rs.length := by omega
  refine ⟨rs[a.toNat], List.getElem?_eq_getElem hi, ?_, ?_⟩
  · refine at_of (j := a.toNat) (by omega) ?_
    rw [List.getElem?_map, List.getElem?_eq_getElem hi]
    rfl
  · have := g.row a.toNat _ (List.getElem?_eq_getElem hi)
    rw [show ((a.toNat : Nat) : Int) = a by omega] at this
    exact this
theorem Grid.set {H : Hp} {p r : Addr} {rs : List Addr} {n m a b v : Int} {f : Int → Int → Int} (g : Grid H p rs n m f) (a0 : 0 ≤ a) (b0 : 0 ≤ b) (b1 : b < m) (hr : rs[a.toNat]? = some r) :
    Grid (upd H r (.lst ((gl m (f a)).set b.toNat (.int v)))) p rs n m (fun x y => if x = a ∧ y = b then v else f x y) := by
  have hm : r ∈ rs := List.mem_of_getElem? hr
  have hpr : p ≠ r := fun z => g.out (by rw [z]; exact hm)
  refine ⟨by rw [upd_ne hpr]; exact g.at_, g.len, g.nd, g.out, fun j u e => ?_⟩
  rw [gl_set _ _ b0 b1]
  by_cases h : u = r
  · subst h
    have ej : j = a.toNat := nd_ix g.nd e hr
    rw [upd_same]
    congr 2
    refine gl_congr fun y _ _ => ?_
    have ej2 : ((j : Nat) : Int) = a := by omega
    by_cases hy : y = b
    · rw [if_pos hy, if_pos ⟨ej2, hy⟩]
    · rw [if_neg hy, if_neg fun z => hy z.2, ej2]
  · rw [upd_ne h, g.row j u e]
    congr 2
    refine gl_congr fun y _ _ => ?_
    have : ¬ (((j : Nat) : Int) = a ∧ y = b) := fun z => h (by
      have : j = a.toNat := by omega
      rw [this, hr] at e
      exact (Option.some.inj e).symm)
    rw [if_neg this]
theorem Grid.congr {H : Hp} {p : Addr} {rs : List Addr} {n m : Int} {f h : Int → Int → Int} (g : Grid H p rs n m f) (e : ∀ x y, 0 ≤ x → x < n → 0 ≤ y → y < m → f x y = h x y) : Grid H p rs n m h :=
  ⟨g.at_, g.len, g.nd, g.out, fun j r hr => by
    have hj : j < n.toNat := by
      rw [← g.len]
      exact (List.getElem?_eq_some_iff.mp hr).1
    rw [g.row j r hr]
    congr 2
    exact gl_congr fun y y0 y1 => e _ y (by omega) (by omega) y0 y1⟩
/-- nothing of a base is among the rows -/
def Fresh (Hb : Hp) (p : Addr) (rs : List Addr) : Prop := Hb p = none ∧ ∀ r ∈ rs, Hb r = none
theorem Fresh.row {Hb H : Hp} {p r : Addr} {rs : List Addr} {o : HO} (f : Fresh Hb p rs) (s : Same Hb H) (h : r ∈ rs) : Same Hb (upd H r o) := same_put (H1 := Hb) (f.2 r h) s
section
variable {P : Program} {w : World} {K : PySem.W.Frag} {mg : Str → Option Value} {base : Heap} {C : Addr}
def spGaps : Sp := fun vs H Q _ => ∃ n : Int, vs = [.int n] ∧ Q (.int (hi n 1)) H
theorem ok_gaps {f : Addr} {fd : FuncData} (F : Fun K "gaps" "gaps" s_gaps f fd) (T : Bi mg) : FnOk P w K mg base CX0 1 f fd ["pins"] spGaps := by
  refine F.ok sc_gaps (fun vs H Q E h => ?_) (fun cdv A outer s H vs Q E hr h => ?_)
  · obtain ⟨n, rfl, _⟩ := h
    rfl
  · obtain ⟨n, rfl, q⟩ := h
    refine ⟨_, (pss_one (ps_ret (pe_callB (call_max2 rfl) (by rfl) T.b_max (by decide +kernel) (pa_cons (pv 0) (pa_cons pe_int pa_nil))))), ?_⟩
    exact ⟨_, rfl, n, 1, rfl, q⟩
/-! ### the sums before each place -/
def spSums (K : PySem.W.Frag) : Sp := fun vs H Q _ => ∃ (r : Addr) (n : Int) (f : Int → Int), vs = [.ref r] ∧ H r = some (.lst (gl n f)) ∧ 0 ≤ n ∧ n ≤ 1000 ∧ ∀ H' p, Same H H' → H p = none → H' p = some (.lst (gl (n + 1) fun x => pre f x.toNat)) → Q (.ref p) H'
theorem ok_sums {f : Addr} {fd : FuncData} (F : Fun K "sums_before" "sums_before" s_sums_before f fd) (T : Bi mg) : FnOk P w K mg base CX0 1 f fd ["row"] (spSums K) := by
  refine F.ok sc_sums_before (fun vs H Q E h => ?_) (fun cdv A outer s H vs Q E hr h => ?_)
  · obtain ⟨r, n, f, rfl, _⟩ := h
    rfl
  · obtain ⟨r, n, f, rfl, er, n0, n1, q⟩ := h
    refine ⟨_, (pss_cons (ps_set (i := 1) sc_sums_before.nd rfl (.inl rfl) (pe_lst (pa_cons pe_int pa_nil)))
        (pss_cons (ps_set (i := 2) sc_sums_before.nd rfl (.inl rfl) pe_int)
        (pss_cons (ps_for PassesOwn.never rfl (pi_list (pv 0)) (pg_name (i := 3) sc_sums_before.nd rfl (.inl rfl))
        (pss_cons (ps_set (i := 2) sc_sums_before.nd rfl (.inl rfl) (pe_op op_add (pv 2) (pv 3)))
        (pss_one (ps_expr (pe_bm PySem.F.plainAttrs_list PySem.F.slot_list_append PySem.F.type_list_append mt_append (pv 1) (pa_cons (pv 2) pa_nil))))))
        (pss_one (ps_ret (pv 1)))))), ?_⟩
    refine ⟨by show 1 ≤ sizeLine; decide, fun p np => ?_⟩
    refine ⟨_, rfl, r, rfl, ⟨_, .inl (.inl (same_upd np _ _ er))⟩, for_list (xs := gl n f) (fun i σ H' => (∃ y, σ = [some (.ref r), some (.ref p), some (.int (pre f i)), y]) ∧ H' = upd H p (.lst ((List.range (i + 1)).map fun j : Nat => V.int (pre f j)))) ⟨⟨_, rfl⟩, rfl⟩ (fun i σ H' _ pv => by obtain ⟨_, rfl⟩ := pv; exact .inl (.inl (same_upd np _ _ er))) (fun i x σ H' hx pv => ?_) (fun σ H' pv => ?_)⟩
    · obtain ⟨⟨y, rfl⟩, rfl⟩ := pv
      have hi : i < n.toNat := by
        have := (List.getElem?_eq_some_iff.mp hx).1
        rw [gl_len] at this
        exact this
      obtain rfl : x = .int (f (i : Int)) := by
        unfold gl at hx
        rw [List.getElem?_map, List.getElem?_range hi] at hx
        exact (Option.some.inj hx).symm
      refine ⟨_, rfl, _, rfl, _, _, rfl, rfl, ?_⟩
      refine ⟨_, rfl, .inl ⟨rfl, _, .inl (.inl upd_same)⟩, _, rfl, p, _, _, rfl, rfl, upd_same, ?_, ⟨_, rfl⟩, ?_⟩
      · rw [List.length_map, List.length_range]
        exact small1000 (by omega)
      · rw [upd_upd, List.range_succ (n := i + 1), List.map_append]
        rfl
    · obtain ⟨⟨y, rfl⟩, rfl⟩ := pv
      refine ⟨_, rfl, q _ p (same_upd np) np ?_⟩
      rw [upd_same, gl_len]
      unfold gl
      rw [show (n + 1).toNat = n.toNat + 1 by omega]
      rfl
/-! ### the cords between each two pins -/
def spGrid : Sp := fun vs H Q _ => ∃ (n : Int) (c : Addr) (cs : List Tr), vs = [.int n, .ref c] ∧ 0 ≤ n ∧ n ≤ 1000 ∧ Trip H c cs ∧ Good n cs ∧ ∀ H' p rs, Same H H' → Fresh H p rs → Grid H' p rs n n (gr cs) → Q (.ref p) H'
theorem ok_grid {f : Addr} {fd : FuncData} (F : Fun K "cord_grid" "cord_grid" s_cord_grid f fd) (T : Bi mg) : FnOk P w K mg base CX0 1 f fd ["pins", "cords"] spGrid := by
  refine F.ok sc_cord_grid (fun vs H Q E h => ?_) (fun cdv A outer s H vs Q E hr h => ?_)
  · obtain ⟨n, c, cs, rfl, _⟩ := h
    rfl
  · obtain ⟨n, c, cs, rfl, n0, n1, hc, hG, q⟩ := h
    refine ⟨_, (pss_cons (ps_setLc (i := 2) (own := [("_", 6)]) (g := gName 6) (tt := tYes) rfl sc_cord_grid.nd rfl rfl (sw_true rfl rfl rfl (by decide +kernel)) (pi_range1 (by rfl) T.b_range (pa_cons (pv 0) pa_nil)) (blkOk_by (own := [("_", 6)]) (N := ["pins", "cords", "rows", "a", "b", "many", "_"]) (sc := defScope s_cord_grid) (by decide +kernel)) (fun _ _ _ _ _ => (pg_name (i := 6) sc_cord_grid.nd rfl (.inl rfl))) (fun _ _ _ _ _ => pts_nil) (fun _ _ _ _ _ => (pe_op op_rep (pe_lst (pa_cons pe_int pa_nil)) (pv 0))))
        (pss_cons (ps_for PassesOwn.never rfl (pi_tup (pv 1)) (pg_tup (by rfl) (pgs_cons (pg_name (i := 3) sc_cord_grid.nd rfl (.inl rfl)) (pgs_cons (pg_name (i := 4) sc_cord_grid.nd rfl (.inl rfl)) (pgs_cons (pg_name (i := 5) sc_cord_grid.nd rfl (.inl rfl)) pgs_nil))))
        (pss_cons (ps_asg (pv 5) (pg_sub (pe_ix (r := rIxL K) ix_list (pv 2) (pv 3) (fun _ _ => rfl)) (pv 4) set_list))
        (pss_one (ps_asg (pv 5) (pg_sub (pe_ix (r := rIxL K) ix_list (pv 2) (pv 4) (fun _ _ => rfl)) (pv 3) set_list)))))
        (pss_one (ps_ret (pv 2))))), ?_⟩
    obtain ⟨vs, ec, tc⟩ := id hc
    refine ⟨_, rfl, n, rfl, by omega, by omega, fun D hD => ?_⟩
    refine lc_range (lo := 0) (n := n.toNat) (fun i H' => Same H H' ∧ ∃ rs, H' D = some (.lst (rs.map V.ref)) ∧ rs.length = i ∧ rs.Nodup ∧ D ∉ rs ∧ (∀ r ∈ rs, H r = none) ∧ ∀ (j : Nat) (r : Addr), rs[j]? = some r → H' r = some (.lst (gl n fun _ => 0))) ⟨same_upd hD, [], upd_same, rfl, List.nodup_nil, by simp, by simp, by simp⟩ (fun i H' hi pv => ?_) (fun H' pv => ?_)
    · obtain ⟨sm, rs, eD, hlen, hnd, hout, hfr, hrow⟩ := pv
      refine ⟨rfl, ?_⟩
      refine ⟨by show 1 ≤ sizeLine; decide, fun l hl => ⟨_, rfl, l, n, _, rfl, rfl, upd_same, by omega, by omega, ?_, fun r nr => ?_⟩⟩
      · show 1 * n.toNat ≤ sizeLine
        rw [Nat.one_mul]
        exact Nat.le_of_lt (small1000 (by omega))
      have s1 : Same H' (upd (upd H' l (.lst [.int 0])) r (.lst (List.replicate n.toNat [V.int 0]).flatten)) := (same_upd hl).trans (same_upd nr)
      have nr0 : H' r = none := (same_upd (o := .lst [.int 0]) hl).free nr
      have nrD : r ≠ D := fun z => by
        rw [z, eD] at nr0
        cases nr0
      have nin : r ∉ rs := fun m => by
        obtain ⟨j, hj, ej⟩ := List.mem_iff_getElem.mp m
        rw [hrow j r (by rw [List.getElem?_eq_getElem hj, ej])] at nr0
        cases nr0
      refine ⟨_, s1 _ _ eD, ?_, same_put (H1 := H) hD (sm.trans s1), rs ++ [r], ?_, ?_, ?_, ?_, ?_, ?_⟩
      · rw [List.length_map, hlen]
        exact small1000 (by omega)
      · rw [upd_same, List.map_append]
        rfl
      · rw [List.length_append, hlen]
        rfl
      · exact List.nodup_append.mpr ⟨hnd, by simp, fun a ha b hb z => nin (by rw [List.mem_singleton.mp hb] at z; rw [← z]; exact ha)⟩
      · intro m
        rcases List.mem_append.mp m with m | m
        · exact hout m
        · exact nrD (List.mem_singleton.mp m).symm
      · intro u m
        rcases List.mem_append.mp m with m | m
        · exact hfr u m
        · rw [List.mem_singleton.mp m]
          exact sm.free nr0
      · intro j u e
        have hu : u ≠ D := fun z => by
          have m := List.mem_of_getElem? e
          rcases List.mem_append.mp m with m | m
          · exact hout (z ▸ m)
          · exact nrD ((List.mem_singleton.mp m).symm.trans z)
        rw [upd_ne hu]
        by_cases hj : j < rs.length
        · rw [List.getElem?_append_left hj] at e
          exact s1 _ _ (hrow j u e)
        · rw [List.getElem?_append_right (by omega)] at e
          obtain rfl : r = u := by
            cases hk : j - rs.length with
            | zero =>
              rw [hk] at e
              exact Option.some.inj e
            | succ k =>
              rw [hk] at e
              simp at e
          rw [upd_same, rep_gl, gl_const]
    · obtain ⟨sm, rs, eD, hlen, hnd, hout, hfr, hrow⟩ := pv
      have g0 : Grid H' D rs n n (gr []) := ⟨eD, hlen, hnd, hout, fun j r e => hrow j r e⟩
      refine ⟨_, rfl, c, rfl, ⟨vs, .inl (.inl (sm _ _ ec))⟩, for_tup (xs := vs) (fun i σ H2 => (∃ y3 y4 y5 y6, σ = [some (.int n), some (.ref c), some (.ref D), y3, y4, y5, y6]) ∧ Same H H2 ∧ Grid H2 D rs n n (gr (cs.take i))) ⟨⟨_, _, _, _, rfl⟩, sm, g0⟩ (fun i σ H2 _ p => .inl (.inl (p.2.1 _ _ ec))) (fun i x σ H2 hxi p => ?_) (fun σ H2 p => ?_)⟩
      · obtain ⟨⟨y3, y4, y5, y6, rfl⟩, s2, g2⟩ := p
        obtain ⟨u, t, rfl, hti, hu⟩ := (tc.same s2).at_ hxi
        have ho := hG.ord t (List.mem_of_getElem? hti)
        have hnew := gr_new hG hti
        refine ⟨u, _, rfl, .inl (.inl hu), rfl, _, _, rfl, _, _, rfl, _, _, rfl, rfl, ?_⟩
        obtain ⟨r1, e1, a1, h1⟩ := g2.get (a := t.1) (by omega) (by omega)
        refine ⟨_, rfl, _, rfl, _, rfl, D, _, _, _, rfl, rfl, .inl (.inl g2.at_), a1, _, rfl, r1, _, _, _, rfl, rfl, h1, gl_ix _ (by omega) (by omega), ?_⟩
        have g3 := g2.set (v := t.2.2) (by omega) (show 0 ≤ t.2.1 by omega) (by omega) e1
        have s3 : Same H (upd H2 r1 (.lst ((gl n (gr (cs.take i) t.1)).set t.2.1.toNat (.int t.2.2)))) := same_put (H1 := H) (hfr r1 (List.mem_of_getElem? e1)) s2
        obtain ⟨r2, e2, a2, h2⟩ := g3.get (a := t.2.1) (by omega) (by omega)
        refine ⟨_, rfl, _, rfl, _, rfl, D, _, _, _, rfl, rfl, .inl (.inl g3.at_), a2, _, rfl, r2, _, _, _, rfl, rfl, h2, gl_ix _ (by omega) (by omega), ?_⟩
        have g4 := g3.set (v := t.2.2) (by omega) (show 0 ≤ t.1 by omega) (by omega) e2
        refine ⟨⟨_, _, _, _, rfl⟩, same_put (H1 := H) (hfr r2 (List.mem_of_getElem? e2)) s3, ?_⟩
        rw [List.take_add_one, hti]
        refine g4.congr fun x y _ _ _ _ => ?_
        show (if x = t.2.1 ∧ y = t.1 then t.2.2 else if x = t.1 ∧ y = t.2.1 then t.2.2 else gr (cs.take i) x y) = gr (cs.take i ++ [t]) x y
        rw [gr_snoc]
        by_cases q1 : x = t.2.1 ∧ y = t.1
        · rw [if_pos q1, if_pos (by omega), q1.1, q1.2, hnew.2]
          omega
        · by_cases q2 : x = t.1 ∧ y = t.2.1
          · rw [if_neg q1, if_pos q2, if_pos (by omega), q2.1, q2.2, hnew.1]
            omega
          · rw [if_neg q1, if_neg q2, if_neg (by omega)]
            omega
      · obtain ⟨⟨y3, y4, y5, y6, rfl⟩, s2, g2⟩ := p
        rw [tc.1, List.take_length] at g2
        exact ⟨_, rfl, q H2 D rs s2 ⟨hD, hfr⟩ g2⟩
end
end Own

namespace Own
open PySem PySem.Spec PyProof.Rows L2
def rTupOf (K : PySem.W.Frag) : List V → Hp → VK → Prop := fun xs H Q => ∃ p ys, xs = [V.ref p] ∧ ((SqL K H p ys ∧ ∀ l, H l = none → Q (.ref l) (upd H l (.tup ys))) ∨ (SqT K H p ys ∧ Q (.ref p) H))
theorem cr_tupOf {X : Cx} : CallR X (.type "tuple") (rTupOf X.K) := call_tuple_of
/-- rows of zeros, being made -/
structure ZInv (Hb : Hp) (D : Addr) (m : Int) (i : Nat) (rs : List Addr) (H : Hp) : Prop where
  sm : Same Hb H
  at_ : H D = some (.lst (rs.map V.ref))
  len : rs.length = i
  nd : rs.Nodup
  out : D ∉ rs
  fr : ∀ r ∈ rs, Hb r = none
  row : ∀ (j : Nat) (r : Addr), rs[j]? = some r → H r = some (.lst (gl m fun _ => 0))
theorem ZInv.step {Hb H H1 : Hp} {D r : Addr} {m : Int} {i : Nat} {rs : List Addr} (z : ZInv Hb D m i rs H) (nD : Hb D = none) (s1 : Same H H1) (nr : H r = none) (er : H1 r = some (.lst (gl m fun _ => 0))) : ZInv Hb D m (i + 1) (rs ++ [r]) (upd H1 D (.lst (rs.map V.ref ++ [.ref r]))) := by
  have nrD : r ≠ D := fun e => by
    rw [e, z.at_] at nr
    cases nr
  have nin : r ∉ rs := fun mm => by
    obtain ⟨j, hj, ej⟩ := List.mem_iff_getElem.mp mm
    rw [z.row j r (by rw [List.getElem?_eq_getElem hj, ej])] at nr
    cases nr
  refine ⟨same_put (H1 := Hb) nD (z.sm.trans s1), ?_, ?_, ?_, ?_, ?_, ?_⟩
  · rw [upd_same, List.map_append]
    rfl
  · rw [List.length_append, z.len]
    rfl
  · exact List.nodup_append.mpr ⟨z.nd, by simp, fun a ha b hb e => nin (by rw [List.mem_singleton.mp hb] at e; rw [← e]; exact ha)⟩
  · intro mm
    rcases List.mem_append.mp mm with mm | mm
    · exact z.out mm
    · exact nrD (List.mem_singleton.mp mm).symm
  · intro u mm
    rcases List.mem_append.mp mm with mm | mm
    · exact z.fr u mm
    · rw [List.mem_singleton.mp mm]
      exact z.sm.free nr
  · intro j u e
    have hu : u ≠ D := fun e2 => by
      rcases List.mem_append.mp (List.mem_of_getElem? e) with mm | mm
      · exact z.out (by rw [← e2]; exact mm)
      · exact nrD ((List.mem_singleton.mp mm).symm.trans e2)
    rw [upd_ne hu]
    by_cases hj : j < rs.length
    · rw [List.getElem?_append_left hj] at e
      exact s1 _ _ (z.row j u e)
    · rw [List.getElem?_append_right (by omega)] at e
      obtain rfl : r = u := by
        cases hk : j - rs.length with
        | zero =>
          rw [hk] at e
          exact Option.some.inj e
        | succ k =>
          rw [hk] at e
          simp at e
      exact er
/-- a table: a tuple of tuples of ints -/
def TabAt (H : Hp) (a : Addr) (sz : Int) (f : Int → Int → Int) : Prop := ∃ vs, H a = some (.tup vs) ∧ vs.length = sz.toNat ∧ ∀ j : Nat, j < sz.toNat → ∃ r, vs[j]? = some (.ref r) ∧ H r = some (.tup (gl sz (f j)))
theorem TabAt.same {H H' : Hp} {a : Addr} {sz : Int} {f : Int → Int → Int} (s : Same H H') (h : TabAt H a sz f) : TabAt H' a sz f := by
  obtain ⟨vs, e, l, r⟩ := h
  refine ⟨vs, s _ _ e, l, fun j hj => ?_⟩
  obtain ⟨u, e1, e2⟩ := r j hj
  exact ⟨u, e1, s _ _ e2⟩
section
variable {P : Program} {w : World} {K : PySem.W.Frag} {mg : Str → Option Value} {base : Heap} {C : Addr}
def spTable : Sp := fun vs H Q _ => ∃ (n : Int) (c : Addr) (cs : List Tr), vs = [.int n, .ref c] ∧ 0 ≤ n ∧ n ≤ 1000 ∧ Trip H c cs ∧ Good n cs ∧ ∀ H' p, Same H H' → TabAt H' p (hi n 1) (tabE cs) → Q (.ref p) H'
theorem ok_table {f : Addr} {fd : FuncData} (F : Fun K "table_rows" "table_rows" s_table_rows f fd) (T : Bi mg) {f_c : Addr} {d_c : FuncData} (D_c : Df K mg "cord_grid" s_cord_grid ["pins", "cords"] f_c d_c) (G_c : FnOk P w K mg base CX0 1 f_c d_c ["pins", "cords"] spGrid)
    {f_z : Addr} {d_z : FuncData} (D_z : Df K mg "gaps" s_gaps ["pins"] f_z d_z) (G_z : FnOk P w K mg base CX0 1 f_z d_z ["pins"] spGaps) {f_s : Addr} {d_s : FuncData} (D_s : Df K mg "sums_before" s_sums_before ["row"] f_s d_s) (G_s : FnOk P w K mg base CX0 1 f_s d_s ["row"] (spSums K)) :
    FnOk P w K mg base CX0 2 f fd ["pins", "cords"] spTable := by
  refine F.ok sc_table_rows (fun vs H Q E h => ?_) (fun cdv A outer s H vs Q E hr h => ?_)
  · obtain ⟨n, c, cs, rfl, _⟩ := h
    rfl
  · obtain ⟨n, c, cs, rfl, n0, n1, hc, hG, q⟩ := h
    refine ⟨_, (pss_cons (ps_setLc (i := 2) (own := [("row", 8)]) (g := gName 8) (tt := tYes) rfl sc_table_rows.nd rfl rfl (sw_true rfl rfl rfl (by decide +kernel)) (pi_list (pe_call G_c hr (by rfl) D_c.g D_c.F.kp D_c.b .nil pass0 (pa_cons (pv 0) (pa_cons (pv 1) pa_nil)))) (blkOk_by (own := [("row", 8)]) (N := ["pins", "cords", "sums", "size", "rows", "i", "across", "j", "row", "_"]) (sc := defScope s_table_rows) (by decide +kernel)) (fun _ _ _ _ _ => (pg_name (i := 8) sc_table_rows.nd rfl (.inl rfl))) (fun _ _ _ _ _ => pts_nil) (fun _ _ _ _ _ => (show PE _ _ (tCall (spSums K) [] E0 (tCons (tVar 8) tNil)) from pe_call G_s (hr.mono (by decide)) (by rfl) D_s.g D_s.F.kp D_s.b .nil pass0 (pa_cons (pv 8) pa_nil))))
        (pss_cons (ps_set (i := 3) sc_table_rows.nd rfl (.inr rfl) (pe_call G_z hr (by rfl) D_z.g D_z.F.kp D_z.b .nil pass0 (pa_cons (pv 0) pa_nil)))
        (pss_cons (ps_setLc (i := 4) (own := [("_", 9)]) (g := gName 9) (tt := tYes) rfl sc_table_rows.nd rfl rfl (sw_true rfl rfl rfl (by decide +kernel)) (pi_range1 (by rfl) T.b_range (pa_cons (pv 3) pa_nil)) (blkOk_by (own := [("_", 9)]) (N := ["pins", "cords", "sums", "size", "rows", "i", "across", "j", "row", "_"]) (sc := defScope s_table_rows) (by decide +kernel)) (fun _ _ _ _ _ => (pg_name (i := 9) sc_table_rows.nd rfl (.inl rfl))) (fun _ _ _ _ _ => pts_nil) (fun _ _ _ _ _ => (pe_op op_rep (pe_lst (pa_cons pe_int pa_nil)) (pv 3))))
        (pss_cons (ps_for PassesOwn.never rfl (pi_range1 (by rfl) T.b_range (pa_cons (pv 3) pa_nil)) (pg_name (i := 5) sc_table_rows.nd rfl (.inl rfl))
        (pss_cons (ps_set (i := 6) sc_table_rows.nd rfl (.inl rfl) pe_int)
        (pss_one (ps_for PassesOwn.never rfl (pi_range2 (by rfl) T.b_range (pa_cons (pe_op op_add (pv 5) pe_int) (pa_cons (pv 3) pa_nil))) (pg_name (i := 7) sc_table_rows.nd rfl (.inl rfl))
        (pss_cons (ps_set (i := 6) sc_table_rows.nd rfl (.inl rfl) (pe_op op_sub (pe_op op_add (pv 6) (pe_ix (r := rIxL K) ix_list (pe_ix (r := rIxL K) ix_list (pv 2) (pv 7) (fun _ _ => rfl)) (pv 0) (fun _ _ => rfl))) (pe_op op_mul pe_int (pe_op op_sub (pe_ix (r := rIxL K) ix_list (pe_ix (r := rIxL K) ix_list (pv 2) (pv 7) (fun _ _ => rfl)) (pv 7) (fun _ _ => rfl)) (pe_ix (r := rIxL K) ix_list (pe_ix (r := rIxL K) ix_list (pv 2) (pv 7) (fun _ _ => rfl)) (pe_op op_add (pv 5) pe_int) (fun _ _ => rfl))))))
        (pss_cons (ps_asg (pv 6) (pg_sub (pe_ix (r := rIxL K) ix_list (pv 4) (pv 5) (fun _ _ => rfl)) (pv 7) set_list))
        (pss_one (ps_asg (pv 6) (pg_sub (pe_ix (r := rIxL K) ix_list (pv 4) (pv 7) (fun _ _ => rfl)) (pv 5) set_list)))))))))
        (pss_one (ps_ret (pe_callTy call_tuple_of (by rfl) T.b_tuple (by decide +kernel) (pa_cons (pe_lc (own := [("row", 8)]) (g := gName 8) (tt := tYes) rfl sc_table_rows.nd (pi_list (pv 4)) (blkOk_by (own := [("row", 8)]) (N := ["pins", "cords", "sums", "size", "rows", "i", "across", "j", "row", "_"]) (sc := defScope s_table_rows) (by decide +kernel)) (fun _ _ _ _ _ => (pg_name (i := 8) sc_table_rows.nd rfl (.inl rfl))) (fun _ _ _ _ _ => pts_nil) (fun _ _ _ _ _ => (pe_callTy (r := rTupOf K) cr_tupOf (by rfl) T.b_tuple (by decide +kernel) (pa_cons (pv 8) pa_nil)))) pa_nil)))))))), ?_⟩
    refine ⟨_, rfl, _, rfl, n, c, cs, rfl, n0, n1, hc, hG, fun H1 p0 rs0 s1 _ g1 => ⟨p0, rfl, ⟨_, .inl (.inl g1.at_)⟩, fun D hD => ?_⟩⟩
    -- sums
    refine lc_list (K := K) (a := p0) (xs := rs0.map V.ref) (fun i H2 => Same H1 H2 ∧ ∃ ss : List Addr, H2 D = some (.lst (ss.map V.ref)) ∧ ss.length = i ∧ D ∉ ss ∧ ∀ (j : Nat) (u : Addr), ss[j]? = some u → H2 u = some (.lst (gl (n + 1) fun x => pre (gr cs j) x.toNat))) ⟨same_upd hD, [], upd_same, rfl, by simp, by simp⟩ (fun i H2 _ p => .inl (.inl (p.1 _ _ g1.at_))) (fun i x H2 hxi p => ?_) (fun H2 p => ?_)
    · obtain ⟨s2, ss, eD, hlen, hout, hss⟩ := p
      obtain ⟨r, hri, rfl⟩ : ∃ r, rs0[i]? = some r ∧ x = .ref r := by
        rw [List.getElem?_map] at hxi
        cases e : rs0[i]? with
        | none => rw [e] at hxi; cases hxi
        | some r =>
          rw [e] at hxi
          exact ⟨r, rfl, (Option.some.inj hxi).symm⟩
      have hi0 : i < n.toNat := by
        rw [← g1.len]
        exact (List.getElem?_eq_some_iff.mp hri).1
      refine ⟨rfl, ?_⟩
      refine ⟨_, rfl, r, n, gr cs i, rfl, s2 _ _ (g1.row i r hri), n0, n1, fun H3 u s3 nu eu => ?_⟩
      have nuD : u ≠ D := fun z => by
        rw [z, eD] at nu
        cases nu
      refine ⟨_, s3 _ _ eD, ?_, same_put (H1 := H1) hD (s2.trans s3), ss ++ [u], ?_, ?_, ?_, ?_⟩
      · rw [List.length_map, hlen]
        exact small1000 (by omega)
      · rw [upd_same, List.map_append]
        rfl
      · rw [List.length_append, hlen]
        rfl
      · intro m
        rcases List.mem_append.mp m with m | m
        · exact hout m
        · exact nuD (List.mem_singleton.mp m).symm
      · intro j v e
        have hv : v ≠ D := fun e2 => by
          rcases List.mem_append.mp (List.mem_of_getElem? e) with m | m
          · exact hout (by rw [← e2]; exact m)
          · exact nuD ((List.mem_singleton.mp m).symm.trans e2)
        rw [upd_ne hv]
        by_cases hj : j < ss.length
        · rw [List.getElem?_append_left hj] at e
          exact s3 _ _ (hss j v e)
        · rw [List.getElem?_append_right (by omega)] at e
          have hk : j - ss.length = 0 := by
            cases hk : j - ss.length with
            | zero => rfl
            | succ k =>
              rw [hk] at e
              simp at e
          rw [hk] at e
          obtain rfl : u = v := Option.some.inj e
          have ej : j = i := by omega
          subst ej
          exact eu
    obtain ⟨s2, ss, eD, hlen, hout, hss⟩ := p
    rw [List.length_map, g1.len] at hlen
    -- size, rows
    refine ⟨_, rfl, n, rfl, ?_⟩
    have hsz := lo_hi n 1
    have hz0 : 1 ≤ hi n 1 ∧ hi n 1 ≤ 1000 ∧ (2 ≤ hi n 1 → hi n 1 = n) := by omega
    refine ⟨_, rfl, hi n 1, rfl, by omega, by omega, fun R hR => ?_⟩
    refine lc_range (lo := 0) (n := (hi n 1).toNat) (fun i H3 => ∃ rr, ZInv H2 R (hi n 1) i rr H3) ⟨[], same_upd hR, upd_same, rfl, List.nodup_nil, by simp, by simp, by simp⟩ (fun i H3 hi3 pv => ?_) (fun H3 pv => ?_)
    · obtain ⟨rr, z⟩ := pv
      refine ⟨rfl, ?_⟩
      refine ⟨by show 1 ≤ sizeLine; decide, fun l hl => ⟨_, rfl, l, hi n 1, _, rfl, rfl, upd_same, by omega, by omega, ?_, fun r nr => ?_⟩⟩
      · show 1 * (hi n 1).toNat ≤ sizeLine
        rw [Nat.one_mul]
        exact Nat.le_of_lt (small1000 (by omega))
      have sA : Same H3 (upd (upd H3 l (.lst [.int 0])) r (.lst (List.replicate (hi n 1).toNat [V.int 0]).flatten)) := (same_upd hl).trans (same_upd nr)
      refine ⟨_, sA _ _ z.at_, ?_, _, z.step hR sA ((same_upd (o := .lst [.int 0]) hl).free nr) ?_⟩
      · rw [List.length_map, z.len]
        exact small1000 (by omega)
      · rw [upd_same, rep_gl, gl_const]
    obtain ⟨rr, z⟩ := pv
    have gz : Grid H3 R rr (hi n 1) (hi n 1) (fun x y => if x ≠ y ∧ lo x y < 0 then tabE cs x y else 0) := by
      refine Grid.congr (f := fun _ _ => 0) ⟨z.at_, z.len, z.nd, z.out, fun j r e => z.row j r e⟩ fun x y x0 x1 y0 y1 => ?_
      have := lo_hi x y
      rw [if_neg (by omega)]
    generalize hsz2 : hi n 1 = sz at hz0 gz
    -- the places
    refine ⟨_, rfl, sz, rfl, by omega, by omega, for_range (lo := 0) (n := sz.toNat) (fun i σ H4 => (∃ y5 y6 y7 y8 y9, σ = [some (.int n), some (.ref c), some (.ref D), some (.int sz), some (.ref R), y5, y6, y7, y8, y9]) ∧ Same H2 H4 ∧ Grid H4 R rr sz sz (fun x y => if x ≠ y ∧ lo x y < (i : Int) then tabE cs x y else 0)) ⟨⟨none, none, none, none, none, rfl⟩, z.sm, gz⟩ (fun i σ H4 hi4 pv => ?_) (fun σ H4 pv => ?_)⟩
    · obtain ⟨⟨y5, y6, y7, y8, y9, rfl⟩, s4, g4⟩ := pv
      rw [Int.zero_add]
      refine ⟨_, rfl, _, _, rfl, rfl, _, rfl, (i : Int) + 1, sz, rfl, ⟨by omega, by omega, by omega, by omega⟩, for_range (lo := (i : Int) + 1) (n := (sz - ((i : Int) + 1)).toNat) (fun k σ H5 => (∃ y7, σ = [some (.int n), some (.ref c), some (.ref D), some (.int sz), some (.ref R), some (.int (i : Int)), some (.int (tabE cs i ((i : Int) + k))), y7, y8, y9]) ∧ Same H2 H5 ∧ Grid H5 R rr sz sz (fun x y => if x ≠ y ∧ (lo x y < (i : Int) ∨ (lo x y = (i : Int) ∧ hi x y < (i : Int) + 1 + k)) then tabE cs x y else 0)) ⟨⟨y7, ?_⟩, s4, ?_⟩ (fun k σ H5 hk pv => ?_) (fun σ H5 pv => ?_)⟩
      · rw [show ((i : Int) + ((0 : Nat) : Int)) = (i : Int) by omega, tabE_same]
        rfl
      · refine g4.congr fun x y x0 x1 y0 y1 => ?_
        have := lo_hi x y
        by_cases h : x ≠ y ∧ lo x y < (i : Int)
        · rw [if_pos h, if_pos ⟨h.1, .inl h.2⟩]
        · rw [if_neg h, if_neg (by omega)]
      · obtain ⟨⟨y7, rfl⟩, s5, g5⟩ := pv
        have hn : sz = n := hz0.2.2 (by omega)
        generalize hj : (i : Int) + 1 + (k : Int) = j
        have j0 : (i : Int) < j ∧ j < n := by omega
        have hsj : ∃ u, atI (ss.map V.ref) j = some (.ref u) ∧ H2 u = some (.lst (gl (n + 1) fun x => pre (gr cs j) x.toNat)) := by
          have hl2 : j.toNat < ss.length := by omega
          refine ⟨ss[j.toNat], at_of (j := j.toNat) (by omega) ?_, ?_⟩
          · rw [List.getElem?_map, List.getElem?_eq_getElem hl2]
            rfl
          · have := hss j.toNat _ (List.getElem?_eq_getElem hl2)
            rw [show ((j.toNat : Nat) : Int) = j by omega] at this
            exact this
        obtain ⟨u, au, hu⟩ := hsj
        have eD5 : SqL K H5 D (ss.map V.ref) := .inl (.inl (s5 _ _ eD))
        have eu5 : SqL K H5 u (gl (n + 1) fun x => pre (gr cs j) x.toNat) := .inl (.inl (s5 _ _ hu))
        refine ⟨_, rfl, _, rfl, _, rfl, D, _, j, _, rfl, rfl, eD5, au, _, rfl, u, _, n, _, rfl, rfl, eu5, gl_at _ (by omega) (by omega), _, _, rfl, rfl, ?_⟩
        refine ⟨_, rfl, _, rfl, D, _, j, _, rfl, rfl, eD5, au, _, rfl, u, _, j, _, rfl, rfl, eu5, gl_at _ (by omega) (by omega), ?_⟩
        refine ⟨_, rfl, _, rfl, D, _, j, _, rfl, rfl, eD5, au, _, rfl, _, _, rfl, rfl, u, _, _, _, rfl, rfl, eu5, gl_at _ (by omega) (by omega), _, _, rfl, rfl, _, _, rfl, rfl, .inl ⟨by decide, by decide⟩, _, _, rfl, rfl, ?_⟩
        have hval : tabE cs i ((i : Int) + k) + pre (gr cs j) n.toNat - 2 * (pre (gr cs j) j.toNat - pre (gr cs j) ((i : Int) + 1).toNat) = tabE cs i j := by
          rw [pre_gr hG, pre_gr hG, pre_gr hG, show ((n.toNat : Nat) : Int) = n by omega, show ((j.toNat : Nat) : Int) = j by omega, show ((((i : Int) + 1).toNat : Nat) : Int) = (i : Int) + 1 by omega,
            tabE_step hG (by omega) j0.1 j0.2, show (i : Int) + (k : Int) = j - 1 by omega]
        show (tSeq _ _) _ ([some (.int n), some (.ref c), some (.ref D), some (.int sz), some (.ref R), some (.int (i : Int)), some (.int (tabE cs i ((i : Int) + k) + pre (gr cs j) n.toNat - 2 * (pre (gr cs j) j.toNat - pre (gr cs j) ((i : Int) + 1).toNat))), some (.int j), y8, y9]) _
        rw [hval]
        obtain ⟨r1, e1, a1, h1⟩ := g5.get (a := (i : Int)) (by omega) (by omega)
        refine ⟨_, rfl, _, rfl, _, rfl, R, _, _, _, rfl, rfl, .inl (.inl g5.at_), a1, _, rfl, r1, _, _, _, rfl, rfl, h1, gl_ix _ (by omega) (by omega), ?_⟩
        have g6 := g5.set (v := tabE cs i j) (by omega) (show 0 ≤ j by omega) (by omega) e1
        have s6 := same_put (H1 := H2) (o := .lst ((gl sz (fun y => if (i : Int) ≠ y ∧ (lo i y < (i : Int) ∨ (lo i y = (i : Int) ∧ hi i y < (i : Int) + 1 + k)) then tabE cs i y else 0)).set j.toNat (.int (tabE cs i j)))) (z.fr r1 (List.mem_of_getElem? e1)) s5
        obtain ⟨r2, e2, a2, h2⟩ := g6.get (a := j) (by omega) (by omega)
        refine ⟨_, rfl, _, rfl, _, rfl, R, _, _, _, rfl, rfl, .inl (.inl g6.at_), a2, _, rfl, r2, _, _, _, rfl, rfl, h2, gl_ix _ (by omega) (by omega), ?_⟩
        have g7 := g6.set (v := tabE cs i j) (by omega) (show 0 ≤ (i : Int) by omega) (by omega) e2
        refine ⟨⟨some (.int j), ?_⟩, same_put (H1 := H2) (z.fr r2 (List.mem_of_getElem? e2)) s6, g7.congr fun x y x0 x1 y0 y1 => ?_⟩
        · rw [show (i : Int) + ((k + 1 : Nat) : Int) = j by omega]
        · have hxy := lo_hi x y
          by_cases q1 : x = j ∧ y = (i : Int)
          · rw [if_pos q1, if_pos (by omega), q1.1, q1.2, tabE_comm]
          · rw [if_neg q1]
            by_cases q2 : x = (i : Int) ∧ y = j
            · rw [if_pos q2, if_pos (by omega), q2.1, q2.2]
            · rw [if_neg q2]
              by_cases q3 : x ≠ y ∧ (lo x y < (i : Int) ∨ (lo x y = (i : Int) ∧ hi x y < (i : Int) + 1 + k))
              · rw [if_pos q3, if_pos (by omega)]
              · rw [if_neg q3, if_neg (by omega)]
      · obtain ⟨⟨y7, rfl⟩, s5, g5⟩ := pv
        refine ⟨⟨_, _, _, _, _, rfl⟩, s5, g5.congr fun x y x0 x1 y0 y1 => ?_⟩
        have hxy := lo_hi x y
        by_cases q3 : x ≠ y ∧ lo x y < ((i + 1 : Nat) : Int)
        · rw [if_pos q3, if_pos (by omega)]
        · rw [if_neg q3, if_neg (by omega)]
    -- the tuples
    obtain ⟨⟨y5, y6, y7, y8, y9, rfl⟩, s4, g4⟩ := pv
    have g5 : Grid H4 R rr sz sz (tabE cs) := g4.congr fun x y x0 x1 y0 y1 => by
      have hxy := lo_hi x y
      by_cases h : x = y
      · rw [if_neg (by omega), h, tabE_same]
      · rw [if_pos (by omega)]
    refine ⟨_, rfl, R, rfl, ⟨_, .inl (.inl g5.at_)⟩, fun O hO => ?_⟩
    refine lc_list (K := K) (a := R) (xs := rr.map V.ref) (fun i H5 => Same H4 H5 ∧ ∃ us : List Addr, H5 O = some (.lst (us.map V.ref)) ∧ us.length = i ∧ ∀ (j : Nat) (u : Addr), us[j]? = some u → H5 u = some (.tup (gl sz (tabE cs j)))) ⟨same_upd hO, [], upd_same, rfl, by simp⟩ (fun i H5 _ p => .inl (.inl (p.1 _ _ g5.at_))) (fun i x H5 hxi p => ?_) (fun H5 p => ?_)
    · obtain ⟨s5, us, eO, hul, hus⟩ := p
      obtain ⟨r, hri, rfl⟩ : ∃ r, rr[i]? = some r ∧ x = .ref r := by
        rw [List.getElem?_map] at hxi
        cases e : rr[i]? with
        | none => rw [e] at hxi; cases hxi
        | some r =>
          rw [e] at hxi
          exact ⟨r, rfl, (Option.some.inj hxi).symm⟩
      have hi0 : i < sz.toNat := by
        rw [← g5.len]
        exact (List.getElem?_eq_some_iff.mp hri).1
      refine ⟨rfl, ?_⟩
      refine ⟨_, rfl, r, _, rfl, .inl ⟨.inl (.inl (s5 _ _ (g5.row i r hri))), fun u nu => ?_⟩⟩
      have nuO : u ≠ O := fun z => by
        rw [z, eO] at nu
        cases nu
      refine ⟨_, same_upd nu _ _ eO, ?_, same_put (H1 := H4) hO (s5.trans (same_upd nu)), us ++ [u], ?_, ?_, ?_⟩
      · rw [List.length_map, hul]
        exact small1000 (by omega)
      · rw [upd_same, List.map_append]
        rfl
      · rw [List.length_append, hul]
        rfl
      · intro j v e
        by_cases hj : j < us.length
        · rw [List.getElem?_append_left hj] at e
          have h5 := hus j v e
          have hv : v ≠ O := fun z => by
            rw [z, eO] at h5
            cases h5
          rw [upd_ne hv]
          exact same_upd nu _ _ h5
        · rw [List.getElem?_append_right (by omega)] at e
          have hk : j - us.length = 0 := by
            cases hk : j - us.length with
            | zero => rfl
            | succ k =>
              rw [hk] at e
              simp at e
          rw [hk] at e
          obtain rfl : u = v := Option.some.inj e
          have ej : j = i := by omega
          subst ej
          rw [upd_ne nuO, upd_same]
    · obtain ⟨s5, us, eO, hul, hus⟩ := p
      rw [List.length_map, g5.len] at hul
      refine ⟨O, _, rfl, .inl ⟨.inl (.inl eO), fun a na => ?_⟩⟩
      refine q _ a ((((s1.trans s2).trans s4).trans s5).trans (same_upd na)) ⟨_, upd_same, ?_, fun j hj => ?_⟩
      · rw [List.length_map, hul, hsz2]
      · rw [hsz2] at hj
        have hj2 : j < us.length := by omega
        refine ⟨us[j], ?_, ?_⟩
        · rw [List.getElem?_map, List.getElem?_eq_getElem hj2]
          rfl
        · rw [hsz2]
          exact same_upd na _ _ (hus j _ (List.getElem?_eq_getElem hj2))
def spTab (C : Addr) : Sp := fun vs H Q _ => ∃ (p : Addr) (n : Int) (cs : List Tr), vs = [.ref p] ∧ LotAt C H p n cs ∧ 0 ≤ n ∧ n ≤ 1000 ∧ Good n cs ∧ ∀ H' u, Same H H' → TabAt H' u (hi n 1) (tabE cs) → Q (.ref u) H'
theorem ok_tab {f : Addr} {fd : FuncData} (F : Fun K "table" "Lot.table" s_Lot_table f fd) (T : Bi mg) (L : LotC K mg C) {f_t : Addr} {d_t : FuncData} (D_t : Df K mg "table_rows" s_table_rows ["pins", "cords"] f_t d_t) (G_t : FnOk P w K mg base CX0 2 f_t d_t ["pins", "cords"] spTable) : FnOk P w K mg base CX0 3 f fd ["self"] (spTab C) := by
  refine F.ok sc_Lot_table (fun vs H Q E h => ?_) (fun cdv A outer s H vs Q E hr h => ?_)
  · obtain ⟨p, n, cs, rfl, _⟩ := h
    rfl
  · obtain ⟨p, n, cs, rfl, hL, n0, n1, hG, q⟩ := h
    refine ⟨_, (pss_one (ps_ret (pe_call G_t hr (by rfl) D_t.g D_t.F.kp D_t.b .nil pass0 (pa_cons (pe_fld (pv 0) rfl) (pa_cons (pe_fld (pv 0) rfl) pa_nil))))), ?_⟩
    obtain ⟨dx, c, e, t⟩ := hL
    exact ⟨_, rfl, p, C, dx, _, _, rfl, e, L.cl, L.nP, flds_pins _ _, _, rfl, p, C, dx, _, _, rfl, e, L.cl, L.nC, flds_cords _ _, n, c, cs, rfl, n0, n1, t, hG, q⟩
end
end Own

namespace Own
open PySem PySem.Spec PyProof.Rows L2
section
variable {P : Program} {w : World} {K : PySem.W.Frag} {mg : Str → Option Value} {base : Heap} {C : Addr}
/-! ### the law's helpers: kinds, cells, digits -/
theorem ok_lwhole {f : Addr} {fd : FuncData} (F : Fun K "_law_whole" "_law_whole" s__law_whole f fd) (T : Bi mg) : FnOk P w K mg base CX0 1 f fd ["_law_value"] spWhole := by
  refine F.ok sc__law_whole (fun vs H Q E h => ?_) (fun cdv A outer s H vs Q E hr h => ?_)
  · obtain ⟨i, rfl, _⟩ := h
    rfl
  · obtain ⟨i, rfl, q⟩ := h
    refine ⟨_, (pss_one (ps_ret (pe_and (pe_callB call_isi (by rfl) T.b_isinstance (by decide +kernel) (pa_cons (pv 0) (pa_cons (pe_bltn (v := .ty "int") (by rfl) T.b_int (by decide +kernel) rfl) pa_nil))) (pe_one (pe_not (pe_callB call_isi (by rfl) T.b_isinstance (by decide +kernel) (pa_cons (pv 0) (pa_cons (pe_bltn (v := .ty "bool") (by rfl) T.b_bool (by decide +kernel) rfl) pa_nil)))))))), ?_⟩
    refine ⟨_, rfl, _, _, _, _, true, rfl, .ty "int", .base (.int i), kit_ty (by decide +kernel), true, rfl, ?_⟩
    exact ⟨_, rfl, _, _, _, _, false, rfl, .ty "bool", .base (.int i), kit_ty (by decide +kernel), false, rfl, q⟩
def spCell (K : PySem.W.Frag) : Sp := fun vs H Q _ => ∃ (l : Addr) (ns : List Int) (j : Nat), vs = [.ref l, .int (j : Int)] ∧ SqL K H l (ns.map V.int) ∧ j ≤ 100000 ∧ ns.length ≤ 1000 ∧ ∀ c : Int, Q (.int c) H
theorem ok_cell {f : Addr} {fd : FuncData} (F : Fun K "_law_cell" "_law_cell" s__law_cell f fd) (T : Bi mg) : FnOk P w K mg base CX0 1 f fd ["_law_script", "_law_k"] (spCell K) := by
  refine F.ok sc__law_cell (fun vs H Q E h => ?_) (fun cdv A outer s H vs Q E hr h => ?_)
  · obtain ⟨l, ns, j, rfl, _⟩ := h
    rfl
  · obtain ⟨l, ns, j, rfl, hs, hj, hn, q⟩ := h
    refine ⟨_, (pss_cons (ps_if (pt_cmpR op_lt (pv 1) (pe_callB call_len_seq (by rfl) T.b_len PySem.boot_len (pa_cons (pv 0) pa_nil)) (nomark _)) (pss_one (ps_ret (pe_ix (r := rIxL K) ix_list (pv 0) (pv 1) (fun _ _ => rfl)))) pss_nil)
        (pss_cons (ps_set (i := 2) sc__law_cell.nd rfl (.inl rfl) pe_int)
        (pss_cons (ps_for PassesOwn.never rfl (pi_list (pv 0)) (pg_name (i := 3) sc__law_cell.nd rfl (.inl rfl))
        (pss_one (ps_set (i := 2) sc__law_cell.nd rfl (.inl rfl) (pe_op op_mod (pe_callTy call_int1 (by rfl) T.b_int (by decide +kernel) (pa_cons (pe_op op_add (pe_op op_mul (pv 2) pe_int) (pe_op op_mod (pe_callTy call_int1 (by rfl) T.b_int (by decide +kernel) (pa_cons (pv 3) pa_nil)) pe_int)) pa_nil)) pe_int))))
        (pss_one (ps_ret (pe_op op_mod (pe_callTy call_int1 (by rfl) T.b_int (by decide +kernel) (pa_cons (pe_op op_mul (pe_op op_mul (pe_op op_add (pv 2) pe_int) (pe_op op_add (pv 1) pe_int)) pe_int) pa_nil)) pe_int)))))), ?_⟩
    refine ⟨_, rfl, _, rfl, l, _, rfl, .inl hs, _, _, rfl, rfl, _, rfl, ite2 (fun e => ?_) (fun e => ?_)⟩
    · have e1 : (j : Int) < ((ns.map V.int).length : Int) := of_decide_eq_true e
      rw [List.length_map] at e1
      have hj2 : j < ns.length := by omega
      have g : (ns.map V.int)[j]? = some (.int ns[j]) := by
        rw [List.getElem?_map, List.getElem?_eq_getElem hj2]
        rfl
      exact ⟨_, rfl, _, rfl, _, _, _, _, rfl, rfl, hs, atI_nat g, q _⟩
    · refine ⟨_, rfl, l, rfl, ⟨_, hs⟩, for_list (xs := ns.map V.int) (fun i σ H' => (∃ (z : Int) (y : Option V), 0 ≤ z ∧ z < 1000003 ∧ σ = [some (.ref l), some (.int (j : Int)), some (.int z), y]) ∧ H' = H) ⟨⟨17, none, by decide, by decide, rfl⟩, rfl⟩ (fun i σ H' _ p => by rw [p.2]; exact hs) (fun i x σ H' hx p => ?_) (fun σ H' p => ?_)⟩
      · obtain ⟨⟨z, y, z0, z1, rfl⟩, rfl⟩ := p
        obtain ⟨c, rfl⟩ : ∃ c, x = .int c := by
          rw [List.getElem?_map] at hx
          cases e2 : ns[i]? with
          | none => rw [e2] at hx; cases hx
          | some c =>
            rw [e2] at hx
            exact ⟨c, (Option.some.inj hx).symm⟩
        refine ⟨_, rfl, _, _, rfl, rfl, .inl ⟨by omega, by omega⟩, _, rfl, .inl ⟨_, rfl, _, _, rfl, rfl, by show (0 : Int) < 1000003; decide, _, _, rfl, rfl, .inl ⟨_, rfl, _, _, rfl, rfl, by show (0 : Int) < 1000003; decide, ?_⟩⟩⟩
        exact ⟨⟨_, _, Int.emod_nonneg _ (by decide), Int.emod_lt_of_pos _ (by decide), rfl⟩, rfl⟩
      · obtain ⟨⟨z, y, z0, z1, rfl⟩, rfl⟩ := p
        have hp : (z + 7) * ((j : Int) + 3) < 2 ^ 64 ∧ -(2 ^ 64) < (z + 7) * ((j : Int) + 3) := by
          have a1 : 0 ≤ z + 7 := by omega
          have a2 : z + 7 ≤ 1000010 := by omega
          have b1 : 0 ≤ (j : Int) + 3 := by omega
          have b2 : (j : Int) + 3 ≤ 100003 := by omega
          have c1 : (z + 7) * ((j : Int) + 3) ≤ 1000010 * 100003 := Int.mul_le_mul a2 b2 b1 (by decide)
          have c2 : 0 ≤ (z + 7) * ((j : Int) + 3) := Int.mul_nonneg a1 b1
          omega
        exact ⟨_, rfl, _, _, rfl, rfl, _, rfl, _, _, rfl, rfl, _, _, rfl, rfl, .inl ⟨by omega, by omega⟩, _, _, rfl, rfl, .inl ⟨hp.2, hp.1⟩, .inl ⟨_, rfl, _, _, rfl, rfl, by show (0 : Int) < 2147483647; decide, q _⟩⟩
/-- each digit lies below its size -/
def Digs (ds szs : List Int) : Prop := ds.length = szs.length ∧ ∀ (i : Nat) (d s : Int), ds[i]? = some d → szs[i]? = some s → 0 ≤ d ∧ d < s
theorem Digs.snoc {ds szs : List Int} {i : Nat} {d s : Int} (h : Digs ds (szs.take i)) (e : szs[i]? = some s) (h0 : 0 ≤ d) (h1 : d < s) : Digs (ds ++ [d]) (szs.take (i + 1)) := by
  have hi : i < szs.length := (List.getElem?_eq_some_iff.mp e).1
  have hl : ds.length = i := by
    rw [h.1, List.length_take]
    omega
  rw [List.take_add_one, e]
  refine ⟨by rw [List.length_append, List.length_append, h.1]; rfl, fun j x y hx hy => ?_⟩
  by_cases hj : j < i
  · rw [List.getElem?_append_left (by omega)] at hx
    rw [List.getElem?_append_left (by rw [List.length_take]; omega)] at hy
    exact h.2 j x y hx hy
  · rw [List.getElem?_append_right (by omega)] at hx
    rw [List.getElem?_append_right (by rw [List.length_take]; omega), List.length_take] at hy
    have hk : j - ds.length = 0 := by
      cases hk : j - ds.length with
      | zero => rfl
      | succ k =>
        rw [hk] at hx
        simp at hx
    rw [hk] at hx
    rw [show j - min i szs.length = 0 by omega] at hy
    obtain rfl : d = x := Option.some.inj hx
    obtain rfl : s = y := Option.some.inj hy
    exact ⟨h0, h1⟩
def spDigs (K : PySem.W.Frag) : Sp := fun vs H Q _ => ∃ (c : Int) (b : Addr) (szs : List Int), vs = [.int c, .ref b] ∧ SqL K H b (szs.map V.int) ∧ szs.length ≤ 1000 ∧ (∀ s ∈ szs, 0 < s ∧ s < 1073741824) ∧ ∀ H' p ds, Same H H' → H p = none → H' p = some (.lst (ds.map V.int)) → Digs ds szs → Q (.ref p) H'
theorem int_at {ns : List Int} {i : Nat} {x : V} (h : (ns.map V.int)[i]? = some x) : ∃ c, x = .int c ∧ ns[i]? = some c := by
  rw [List.getElem?_map] at h
  cases e : ns[i]? with
  | none => rw [e] at h; cases h
  | some c =>
    rw [e] at h
    exact ⟨c, (Option.some.inj h).symm, rfl⟩
theorem ok_digits {f : Addr} {fd : FuncData} (F : Fun K "_law_digits" "_law_digits" s__law_digits f fd) (T : Bi mg) : FnOk P w K mg base CX0 1 f fd ["_law_cell_here", "_law_sizes"] (spDigs K) := by
  refine F.ok sc__law_digits (fun vs H Q E h => ?_) (fun cdv A outer s H vs Q E hr h => ?_)
  · obtain ⟨c, b, szs, rfl, _⟩ := h
    rfl
  · obtain ⟨c, b, szs, rfl, hb, hl, hsz, q⟩ := h
    refine ⟨_, (pss_cons (ps_set (i := 2) sc__law_digits.nd rfl (.inl rfl) (pe_lst pa_nil))
        (pss_cons (ps_set (i := 3) sc__law_digits.nd rfl (.inl rfl) (pe_callTy call_int1 (by rfl) T.b_int (by decide +kernel) (pa_cons (pv 0) pa_nil)))
        (pss_cons (ps_if (pt_cmpR op_ge (pv 3) (pe_op op_pow pe_int pe_int) (nomark _)) (pss_cons (ps_set (i := 3) sc__law_digits.nd rfl (.inl rfl) (pe_op op_sub (pv 3) (pe_op op_pow pe_int pe_int)))
        (pss_cons (ps_for PassesOwn.never rfl (pi_list (pv 1)) (pg_name (i := 6) sc__law_digits.nd rfl (.inl rfl))
        (pss_cons (ps_expr (pe_bm PySem.F.plainAttrs_list PySem.F.slot_list_append PySem.F.type_list_append mt_append (pv 2) (pa_cons (pe_op op_modN (pe_callTy call_int1 (by rfl) T.b_int (by decide +kernel) (pa_cons (pv 3) pa_nil)) (pv 6)) pa_nil)))
        (pss_one (ps_set (i := 3) sc__law_digits.nd rfl (.inl rfl) (pe_op op_fdivN (pe_callTy call_int1 (by rfl) T.b_int (by decide +kernel) (pa_cons (pv 3) pa_nil)) (pv 6))))))
        (pss_one (ps_ret (pv 2))))) pss_nil)
        (pss_cons (ps_set (i := 4) sc__law_digits.nd rfl (.inl rfl) (pe_op op_mod (pe_callTy call_int1 (by rfl) T.b_int (by decide +kernel) (pa_cons (pv 3) pa_nil)) pe_int))
        (pss_cons (ps_for PassesOwn.never rfl (pi_range1 (by rfl) T.b_range (pa_cons (pe_callB call_len_seq (by rfl) T.b_len PySem.boot_len (pa_cons (pv 1) pa_nil)) pa_nil)) (pg_name (i := 5) sc__law_digits.nd rfl (.inl rfl))
        (pss_cons (ps_set (i := 4) sc__law_digits.nd rfl (.inl rfl) (pe_op op_mod (pe_callTy call_int1 (by rfl) T.b_int (by decide +kernel) (pa_cons (pe_op op_add (pe_op op_add (pe_op op_mul (pv 4) pe_int) (pe_op op_mul pe_int (pv 5))) pe_int) pa_nil)) pe_int))
        (pss_cons (ps_set (i := 7) sc__law_digits.nd rfl (.inl rfl) (pe_op op_mod (pe_callTy call_int1 (by rfl) T.b_int (by decide +kernel) (pa_cons (pe_op op_mul (pv 4) (pe_op op_add (pe_op op_fdiv (pv 4) pe_int) pe_int)) pa_nil)) pe_int))
        (pss_one (ps_expr (pe_bm PySem.F.plainAttrs_list PySem.F.slot_list_append PySem.F.type_list_append mt_append (pv 2) (pa_cons (pe_op op_modN (pe_op op_fdiv (pv 7) pe_int) (pe_ix (r := rIxL K) ix_list (pv 1) (pv 5) (fun _ _ => rfl))) pa_nil)))))))
        (pss_one (ps_ret (pv 2)))))))), ?_⟩
    refine ⟨Nat.zero_le _, fun p np => ?_⟩
    have sp : Same H (upd H p (.lst [])) := same_upd np
    refine ⟨_, rfl, .inl ⟨_, rfl, ?_⟩⟩
    refine ⟨_, rfl, _, _, rfl, rfl, ⟨by decide, by decide, by decide⟩, _, _, rfl, rfl, _, rfl, ite2 (fun e => ?_) (fun e => ?_)⟩
    · refine ⟨_, rfl, _, _, rfl, rfl, ⟨by decide, by decide, by decide⟩, _, _, rfl, rfl, ?_⟩
      refine ⟨_, rfl, b, rfl, ⟨_, sp.seq hb⟩, for_list (xs := szs.map V.int) (fun i σ H' => (∃ (z : Int) (ds : List Int) (y4 y5 y6 y7 : Option V), σ = [some (.int c), some (.ref b), some (.ref p), some (.int z), y4, y5, y6, y7] ∧ H' = upd H p (.lst (ds.map V.int)) ∧ Digs ds (szs.take i))) ⟨_, [], _, _, _, _, rfl, rfl, rfl, fun j d s h => by simp at h⟩ (fun i σ H' _ p => by obtain ⟨_, _, _, _, _, _, _, rfl, _⟩ := p; exact (same_upd np).seq hb) (fun i x σ H' hx pv => ?_) (fun σ H' pv => ?_)⟩
      · obtain ⟨z, ds, y4, y5, y6, y7, rfl, rfl, dg⟩ := pv
        obtain ⟨sz, rfl, hsi⟩ := int_at hx
        have hs := hsz sz (List.mem_of_getElem? hsi)
        have hi : i < szs.length := (List.getElem?_eq_some_iff.mp hsi).1
        refine ⟨_, rfl, .inl ⟨rfl, _, .inl (.inl upd_same)⟩, _, rfl, .inl ⟨_, rfl, _, rfl, _, _, rfl, rfl, by omega, p, _, _, rfl, rfl, upd_same, ?_, ?_⟩⟩
        · rw [List.length_map, dg.1, List.length_take]
          exact Nat.lt_of_le_of_lt (Nat.min_le_right _ _) (small1000 hl)
        refine ⟨_, rfl, .inl ⟨_, rfl, _, rfl, _, _, rfl, rfl, ⟨by omega, by omega⟩, ?_⟩⟩
        have hm := fmod_in z hs.1
        refine ⟨_, ds ++ [z.fmod sz], _, _, _, _, rfl, ?_, dg.snoc hsi hm.1 hm.2⟩
        rw [upd_upd, List.map_append]
        rfl
      · obtain ⟨z, ds, y4, y5, y6, y7, rfl, rfl, dg⟩ := pv
        rw [List.length_map, List.take_length] at dg
        exact ⟨_, rfl, q _ p ds (same_upd np) np upd_same dg⟩
    · refine ⟨_, rfl, .inl ⟨_, rfl, _, _, rfl, rfl, by show (0 : Int) < 2147483629; decide, ?_⟩⟩
      refine ⟨_, rfl, b, _, rfl, .inl (sp.seq hb), _, rfl, by omega, by rw [List.length_map]; omega, ?_⟩
      rw [show ((szs.map V.int).length : Int).toNat = szs.length by rw [List.length_map]; omega]
      refine for_range (lo := 0) (n := szs.length) (fun i σ H' => (∃ (z : Int) (ds : List Int) (y3 y4 y6 y7 : Option V), 0 ≤ z ∧ z < 2147483647 ∧ σ = [some (.int c), some (.ref b), some (.ref p), y3, some (.int z), y4, y6, y7] ∧ H' = upd H p (.lst (ds.map V.int)) ∧ Digs ds (szs.take i))) ⟨_, [], _, _, _, _, Int.emod_nonneg _ (by decide), Int.lt_of_lt_of_le (Int.emod_lt_of_pos _ (by decide)) (by decide), rfl, rfl, rfl, fun j d s h => by simp at h⟩ (fun i σ H' hi pv => ?_) (fun σ H' pv => ?_)
      · obtain ⟨z, ds, y3, y4, y6, y7, z0, z1, rfl, rfl, dg⟩ := pv
        have hsi : szs[i]? = some szs[i] := List.getElem?_eq_getElem hi
        have hs := hsz szs[i] (List.mem_of_getElem? hsi)
        generalize szs[i] = sz at hsi hs
        refine ⟨_, rfl, _, _, rfl, rfl, .inl ⟨by omega, by omega⟩, _, rfl, _, _, rfl, rfl, .inl ⟨by decide, by decide⟩, _, _, rfl, rfl, _, _, rfl, rfl, .inl ⟨_, rfl, _, _, rfl, rfl, by show (0 : Int) < 2147483647; decide, ?_⟩⟩
        generalize hz : (z * 48271 + 974711 * (0 + (i : Int)) + 12345) % 2147483647 = z2
        have z20 : 0 ≤ z2 := by rw [← hz]; exact Int.emod_nonneg _ (by decide)
        have z21 : z2 < 2147483647 := by rw [← hz]; exact Int.emod_lt_of_pos _ (by decide)
        refine ⟨_, rfl, _, rfl, _, _, rfl, rfl, ⟨by decide, by decide⟩, _, _, rfl, rfl, _, _, rfl, rfl, .inl ⟨?_, ?_⟩, .inl ⟨_, rfl, _, _, rfl, rfl, by show (0 : Int) < 2147483629; decide, ?_⟩⟩
        · show -(2 ^ 64) < (z * 48271 + 974711 * (0 + (i : Int)) + 12345) % 2147483647
          rw [hz]
          omega
        · show (z * 48271 + 974711 * (0 + (i : Int)) + 12345) % 2147483647 < 2 ^ 64
          rw [hz]
          omega
        refine ⟨_, rfl, .inl ⟨rfl, _, .inl (.inl upd_same)⟩, _, rfl, _, _, rfl, rfl, ⟨by decide, by decide⟩, _, rfl, _, rfl, b, _, _, _, rfl, rfl, (same_upd np).seq hb, at_of (j := i) (by omega) (by rw [List.getElem?_map, hsi]; rfl), _, _, rfl, rfl, by omega, p, _, _, rfl, rfl, upd_same, ?_, ?_⟩
        · rw [List.length_map, dg.1, List.length_take]
          exact Nat.lt_of_le_of_lt (Nat.min_le_right _ _) (small1000 hl)
        have hm := fun x : Int => fmod_in x hs.1
        refine ⟨_, ds ++ [((((z * 48271 + 974711 * (0 + (i : Int)) + 12345) % 2147483647) * (((z * 48271 + 974711 * (0 + (i : Int)) + 12345) % 2147483647) / 65537 + 3)) % 2147483629 / 19).fmod sz], _, _, _, _, ?_, ?_, rfl, ?_, dg.snoc hsi (hm _).1 (hm _).2⟩
        · exact Int.emod_nonneg _ (by decide)
        · exact Int.emod_lt_of_pos _ (by decide)
        · rw [upd_upd, List.map_append]
          rfl
      · obtain ⟨z, ds, y3, y4, y6, y7, z0, z1, rfl, rfl, dg⟩ := pv
        rw [List.take_length] at dg
        exact ⟨_, rfl, q _ p ds (same_upd np) np upd_same dg⟩
end
end Own

namespace Own
open PySem PySem.Spec PyProof.Rows L2
/-- an item of a list or of a tuple -/
def rIxB (K : PySem.W.Frag) : R2 := fun x y H Q => ∃ p xs i v, x = .ref p ∧ y = .int i ∧ SqB K H p xs ∧ atI xs i = some v ∧ Q v H
theorem ix_seqB {X : Cx} : IxR X (rIxB X.K) := by
  intro value slice pins s σ H x y v u Q I rx ry h hs
  obtain ⟨p, xs, i, z, rfl, rfl, hB, ha, q⟩ := h
  rcases hB with hB | hB
  · exact ix_list value slice pins s σ H _ _ v u Q I rx ry ⟨p, xs, i, z, rfl, rfl, hB, ha, q⟩ hs
  · exact ix_tup value slice pins s σ H _ _ v u Q I rx ry ⟨p, xs, i, z, rfl, rfl, hB, ha, q⟩ hs
/-- the same data, nested at most so deep: ints, truth values, None, tuples and lists -/
def EqV : Nat → Hp → V → V → Prop
  | 0, _, x, y => (∃ i : Int, x = .int i ∧ y = .int i) ∨ (∃ b : Bool, x = .bl b ∧ y = .bl b) ∨ (x = .non ∧ y = .non) ∨ ∃ z : Str, x = .str z ∧ y = .str z
  | d + 1, H, x, y => EqV d H x y ∨ ∃ (a b : Addr) (vs us : List V), x = .ref a ∧ y = .ref b ∧ ((H a = some (.tup vs) ∧ H b = some (.tup us)) ∨ (H a = some (.lst vs) ∧ H b = some (.lst us))) ∧ vs.length = us.length ∧ us.length ≤ 1000 ∧ ∀ (i : Nat) (x y : V), vs[i]? = some x → us[i]? = some y → EqV d H x y
theorem EqV.up {d : Nat} {H : Hp} {x y : V} (h : EqV d H x y) : EqV (d + 1) H x y := .inl h
theorem EqV.le {d e : Nat} {H : Hp} {x y : V} (h : EqV d H x y) (l : d ≤ e) : EqV e H x y := by
  induction l with
  | refl => exact h
  | step _ ih => exact .inl ih
theorem EqV.int {d : Nat} {H : Hp} (i : Int) : EqV d H (.int i) (.int i) := EqV.le (d := 0) (.inl ⟨i, rfl, rfl⟩) (Nat.zero_le _)
theorem EqV.bl {d : Nat} {H : Hp} (b : Bool) : EqV d H (.bl b) (.bl b) := EqV.le (d := 0) (.inr (.inl ⟨b, rfl, rfl⟩)) (Nat.zero_le _)
theorem EqV.non {d : Nat} {H : Hp} : EqV d H .non .non := EqV.le (d := 0) (.inr (.inr (.inl ⟨rfl, rfl⟩))) (Nat.zero_le _)
theorem EqV.str {d : Nat} {H : Hp} (z : Str) : EqV d H (.str z) (.str z) := EqV.le (d := 0) (.inr (.inr (.inr ⟨z, rfl, rfl⟩))) (Nat.zero_le _)
theorem EqV.cases' {d : Nat} {H : Hp} {x y : V} (h : EqV d H x y) : EqV 0 H x y ∨ ∃ (e : Nat) (a b : Addr) (vs us : List V), e + 1 ≤ d ∧ x = .ref a ∧ y = .ref b ∧ ((H a = some (.tup vs) ∧ H b = some (.tup us)) ∨ (H a = some (.lst vs) ∧ H b = some (.lst us))) ∧ vs.length = us.length ∧ us.length ≤ 1000 ∧ ∀ (i : Nat) (x y : V), vs[i]? = some x → us[i]? = some y → EqV e H x y := by
  induction d with
  | zero => exact .inl h
  | succ d ih =>
    rcases h with h | ⟨a, b, vs, us, h⟩
    · rcases ih h with h | ⟨e, a, b, vs, us, he, h⟩
      · exact .inl h
      · exact .inr ⟨e, a, b, vs, us, Nat.le_succ_of_le he, h⟩
    · exact .inr ⟨d, a, b, vs, us, Nat.le_refl _, h⟩
/-- tuples of ints -/
theorem EqV.ints {H : Hp} {a b : Addr} {ns : List Int} (ha : H a = some (.tup (ns.map V.int))) (hb : H b = some (.tup (ns.map V.int))) (hl : ns.length ≤ 1000) : EqV 1 H (.ref a) (.ref b) := by
  refine .inr ⟨a, b, _, _, rfl, rfl, .inl ⟨ha, hb⟩, rfl, by rw [List.length_map]; exact hl, fun i x y hx hy => ?_⟩
  rw [hx] at hy
  obtain rfl : x = y := Option.some.inj hy
  rw [List.getElem?_map] at hx
  cases e : ns[i]? with
  | none => rw [e] at hx; cases hx
  | some n =>
    rw [e] at hx
    cases hx
    exact EqV.int n
theorem EqV.tr {H : Hp} {a b : Addr} {t : Tr} (ha : H a = some (.tup (tv t))) (hb : H b = some (.tup (tv t))) : EqV 1 H (.ref a) (.ref b) := EqV.ints (ns := [t.1, t.2.1, t.2.2]) ha hb (by show 3 ≤ 1000; decide)
theorem EqV.trip {H : Hp} {a b : Addr} {l : List Tr} (ha : Trip H a l) (hb : Trip H b l) (hl : l.length ≤ 1000) : EqV 2 H (.ref a) (.ref b) := by
  obtain ⟨vs, e1, t1⟩ := ha
  obtain ⟨us, e2, t2⟩ := hb
  refine .inr ⟨a, b, vs, us, rfl, rfl, .inl ⟨e1, e2⟩, by rw [t1.1, t2.1], by rw [t2.1]; exact hl, fun i x y hx hy => ?_⟩
  obtain ⟨p, t, rfl, h1, h2⟩ := t1.at_ hx
  obtain ⟨q, u, rfl, h3, h4⟩ := t2.at_ hy
  rw [h1] at h3
  obtain rfl : t = u := Option.some.inj h3
  exact EqV.tr h2 h4
section
variable {P : Program} {w : World} {K : PySem.W.Frag} {mg : Str → Option Value} {base : Heap} {C : Addr}
def spSame (d : Nat) : Sp := fun vs H Q _ => ∃ x y : V, vs = [x, y] ∧ EqV d H x y ∧ Q (.bl true) H
def spNo : Sp := fun _ _ _ _ => False
theorem fn_no {k : Nat} {f : Addr} {fd : FuncData} {ps : List Str} : FnOk P w K mg base CX0 k f fd ps spNo := ⟨fun _ _ _ _ h => h.elim, fun _ _ _ _ _ _ _ _ _ _ _ _ _ h => h.elim⟩
/-- its body, with any promise for the call within -/
theorem same_body {f : Addr} {fd : FuncData} {k : Nat} {sp : Sp} {d : Nat} (D_s : Df K mg "_law_same" s__law_same ["_law_value", "_law_due"] f fd) (T : Bi mg) {f_w : Addr} {d_w : FuncData} (D_w : Df K mg "_law_whole" s__law_whole ["_law_value"] f_w d_w) (G_w : FnOk P w K mg base CX0 1 f_w d_w ["_law_value"] spWhole)
    (G_s : FnOk P w K mg base CX0 (k + 1) f fd ["_law_value", "_law_due"] sp) (hsp : ∀ e x y H Q, e + 1 ≤ d → EqV e H x y → Q (.bl true) H → sp [x, y] H Q E0) : FnOk P w K mg base CX0 (k + 2) f fd ["_law_value", "_law_due"] (spSame d) := by
  refine D_s.F.ok sc__law_same (fun vs H Q E h => ?_) (fun cdv A outer s H vs Q E hr h => ?_)
  · obtain ⟨x, y, rfl, _⟩ := h
    rfl
  · obtain ⟨x, y, rfl, hxy, q⟩ := h
    refine ⟨_, (pss_cons (ps_if (pt_cmpR op_isN (pv 1) pe_non (nomark _)) (pss_one (ps_ret (pe_cmpR op_isN (pv 0) pe_non (nomark _)))) pss_nil)
        (pss_cons (ps_if (pt_val (pe_callB call_isi (by rfl) T.b_isinstance (by decide +kernel) (pa_cons (pv 1) (pa_cons (pe_bltn (v := .ty "bool") (by rfl) T.b_bool (by decide +kernel) rfl) pa_nil)))) (pss_one (ps_ret (pe_and (pe_callB call_isi (by rfl) T.b_isinstance (by decide +kernel) (pa_cons (pv 0) (pa_cons (pe_bltn (v := .ty "bool") (by rfl) T.b_bool (by decide +kernel) rfl) pa_nil))) (pe_one (pe_cmpR op_eq (pv 0) (pv 1) (nomark _)))))) pss_nil)
        (pss_cons (ps_if (pt_val (pe_callB call_isi (by rfl) T.b_isinstance (by decide +kernel) (pa_cons (pv 1) (pa_cons (pe_bltn (v := .ty "int") (by rfl) T.b_int (by decide +kernel) rfl) pa_nil)))) (pss_one (ps_ret (pe_and (pe_call G_w (hr.mono (by omega)) (by rfl) D_w.g D_w.F.kp D_w.b .nil pass0 (pa_cons (pv 0) pa_nil)) (pe_one (pe_cmpR op_eq (pv 0) (pv 1) (nomark _)))))) pss_nil)
        (pss_cons (ps_if (pt_val (pe_callB call_isi (by rfl) T.b_isinstance (by decide +kernel) (pa_cons (pv 1) (pa_cons (pe_bltn (v := .ty "str") (by rfl) T.b_str (by decide +kernel) rfl) pa_nil)))) (pss_one (ps_ret (pe_and (pe_callB call_isi (by rfl) T.b_isinstance (by decide +kernel) (pa_cons (pv 0) (pa_cons (pe_bltn (v := .ty "str") (by rfl) T.b_str (by decide +kernel) rfl) pa_nil))) (pe_one (pe_cmpR op_eq (pv 0) (pv 1) (nomark _)))))) pss_nil)
        (pss_cons (ps_if (PW.pt (pw_and (pt_val (pe_callB call_isi (by rfl) T.b_isinstance (by decide +kernel) (pa_cons (pv 1) (pa_cons (pe_bltn (v := .ty "list") (by rfl) T.b_list (by decide +kernel) rfl) pa_nil)))) (pw_and1 (pt_not (pt_val (pe_callB call_isi (by rfl) T.b_isinstance (by decide +kernel) (pa_cons (pv 0) (pa_cons (pe_bltn (v := .ty "list") (by rfl) T.b_list (by decide +kernel) rfl) pa_nil)))))))) (pss_one (ps_ret pe_bl)) pss_nil)
        (pss_cons (ps_if (PW.pt (pw_and (pt_val (pe_callB call_isi (by rfl) T.b_isinstance (by decide +kernel) (pa_cons (pv 1) (pa_cons (pe_bltn (v := .ty "tuple") (by rfl) T.b_tuple (by decide +kernel) rfl) pa_nil)))) (pw_and1 (pt_not (pt_val (pe_callB call_isi (by rfl) T.b_isinstance (by decide +kernel) (pa_cons (pv 0) (pa_cons (pe_bltn (v := .ty "tuple") (by rfl) T.b_tuple (by decide +kernel) rfl) pa_nil)))))))) (pss_one (ps_ret pe_bl)) pss_nil)
        (pss_cons (ps_if (pt_cmpR op_ne (pe_callB call_len_seq (by rfl) T.b_len PySem.boot_len (pa_cons (pv 0) pa_nil)) (pe_callB call_len_seq (by rfl) T.b_len PySem.boot_len (pa_cons (pv 1) pa_nil)) (nomark _)) (pss_one (ps_ret pe_bl)) pss_nil)
        (pss_cons (ps_for PassesOwn.never rfl (pi_range1 (by rfl) T.b_range (pa_cons (pe_callB call_len_seq (by rfl) T.b_len PySem.boot_len (pa_cons (pv 1) pa_nil)) pa_nil)) (pg_name (i := 2) sc__law_same.nd rfl (.inl rfl))
        (pss_one (ps_if (pt_not (pt_val (pe_call G_s hr (by rfl) D_s.g D_s.F.kp D_s.b .nil pass0 (pa_cons (pe_ix (r := rIxB K) ix_seqB (pv 0) (pv 2) (fun _ _ => rfl)) (pa_cons (pe_ix (r := rIxB K) ix_seqB (pv 1) (pv 2) (fun _ _ => rfl)) pa_nil))))) (pss_one (ps_ret pe_bl)) pss_nil)))
        (pss_one (ps_ret pe_bl)))))))))), ?_⟩
    rcases hxy.cases' with (⟨i, rfl, rfl⟩ | ⟨b, rfl, rfl⟩ | ⟨rfl, rfl⟩ | ⟨z, rfl, rfl⟩) | ⟨e, a, b, vs, us, hle, rfl, rfl, hab, hlen, hl, hel⟩
    · refine ⟨_, rfl, rfl, _, rfl, ?_⟩
      refine ⟨_, rfl, _, _, _, _, false, rfl, .ty "bool", .base (.int i), kit_ty (by decide +kernel), false, rfl, ?_⟩
      refine ⟨_, rfl, _, _, _, _, true, rfl, .ty "int", .base (.int i), kit_ty (by decide +kernel), true, rfl, ?_⟩
      refine ⟨_, rfl, i, rfl, true, rfl, ?_⟩
      refine ⟨_, rfl, _, rfl, rfl, ?_⟩
      rw [decide_eq_true rfl]
      exact q
    · refine ⟨_, rfl, rfl, _, rfl, ?_⟩
      refine ⟨_, rfl, _, _, _, _, true, rfl, .ty "bool", .base (.bl b), kit_ty (by decide +kernel), true, rfl, ?_⟩
      refine ⟨_, rfl, _, _, _, _, true, rfl, .ty "bool", .base (.bl b), kit_ty (by decide +kernel), true, rfl, ?_⟩
      refine ⟨_, rfl, _, rfl, rfl, ?_⟩
      rw [decide_eq_true rfl]
      exact q
    · refine ⟨_, rfl, rfl, _, rfl, ?_⟩
      exact ⟨_, rfl, rfl, q⟩
    · refine ⟨_, rfl, rfl, _, rfl, ?_⟩
      refine ⟨_, rfl, _, _, _, _, false, rfl, .ty "bool", .base (.str z), kit_ty (by decide +kernel), false, rfl, ?_⟩
      refine ⟨_, rfl, _, _, _, _, false, rfl, .ty "int", .base (.str z), kit_ty (by decide +kernel), false, rfl, ?_⟩
      refine ⟨_, rfl, _, _, _, _, true, rfl, .ty "str", .base (.str z), kit_ty (by decide +kernel), true, rfl, ?_⟩
      refine ⟨_, rfl, _, _, _, _, true, rfl, .ty "str", .base (.str z), kit_ty (by decide +kernel), true, rfl, ?_⟩
      refine ⟨_, rfl, _, rfl, rfl, ?_⟩
      rw [decide_eq_true rfl]
      exact q
    · rcases hab with ⟨ha, hb⟩ | ⟨ha, hb⟩
      · have tA : TyX K H (.ref a) (.type "tuple") := .base (.tup ha)
        have tB : TyX K H (.ref b) (.type "tuple") := .base (.tup hb)
        have qA : SqB K H a vs := .inr (.inl (.inl ha))
        have qB : SqB K H b us := .inr (.inl (.inl hb))
        refine ⟨_, rfl, rfl, _, rfl, ?_⟩
        refine ⟨_, rfl, _, _, _, _, false, rfl, .ty "bool", tB, kit_ty (by decide +kernel), false, rfl, ?_⟩
        refine ⟨_, rfl, _, _, _, _, false, rfl, .ty "int", tB, kit_ty (by decide +kernel), false, rfl, ?_⟩
        refine ⟨_, rfl, _, _, _, _, false, rfl, .ty "str", tB, kit_ty (by decide +kernel), false, rfl, ?_⟩
        refine ⟨_, rfl, _, _, _, _, false, rfl, .ty "list", tB, kit_ty (by decide +kernel), false, rfl, ?_⟩
        refine ⟨_, rfl, _, _, _, _, true, rfl, .ty "tuple", tB, kit_ty (by decide +kernel), true, rfl, ?_⟩
        refine ⟨_, rfl, _, _, _, _, true, rfl, .ty "tuple", tA, kit_ty (by decide +kernel), true, rfl, ?_⟩
        refine ⟨_, rfl, a, _, rfl, qA, _, rfl, b, _, rfl, qB, rfl, _, rfl, ?_⟩
        rw [hlen]
        refine iteNS rfl ?_
        refine ⟨_, rfl, b, _, rfl, qB, _, rfl, by omega, by omega, ?_⟩
        rw [show ((us.length : Int)).toNat = us.length by omega]
        refine for_range (lo := 0) (n := us.length) (fun i σ H' => (∃ y2, σ = [some (.ref a), some (.ref b), y2]) ∧ H' = H) ⟨⟨_, rfl⟩, rfl⟩ (fun i σ H' hi p => ?_) (fun σ H' p => ?_)
        · obtain ⟨⟨y2, rfl⟩, rfl⟩ := p
          have hv : vs[i]? = some vs[i] := List.getElem?_eq_getElem (by omega)
          have hu : us[i]? = some us[i] := List.getElem?_eq_getElem hi
          refine ⟨_, rfl, _, rfl, a, _, _, _, rfl, rfl, qA, at_of (j := i) (by omega) hv, _, rfl, _, rfl, b, _, _, _, rfl, rfl, qB, at_of (j := i) (by omega) hu, ?_⟩
          exact hsp e _ _ _ _ hle (hel i _ _ hv hu) ⟨true, rfl, ⟨_, rfl⟩, rfl⟩
        · obtain ⟨_, rfl⟩ := p
          exact q
      · have tA : TyX K H (.ref a) (.type "list") := .base (.lst ha)
        have tB : TyX K H (.ref b) (.type "list") := .base (.lst hb)
        have qA : SqB K H a vs := .inl (.inl (.inl ha))
        have qB : SqB K H b us := .inl (.inl (.inl hb))
        refine ⟨_, rfl, rfl, _, rfl, ?_⟩
        refine ⟨_, rfl, _, _, _, _, false, rfl, .ty "bool", tB, kit_ty (by decide +kernel), false, rfl, ?_⟩
        refine ⟨_, rfl, _, _, _, _, false, rfl, .ty "int", tB, kit_ty (by decide +kernel), false, rfl, ?_⟩
        refine ⟨_, rfl, _, _, _, _, false, rfl, .ty "str", tB, kit_ty (by decide +kernel), false, rfl, ?_⟩
        refine ⟨_, rfl, _, _, _, _, true, rfl, .ty "list", tB, kit_ty (by decide +kernel), true, rfl, ?_⟩
        refine ⟨_, rfl, _, _, _, _, true, rfl, .ty "list", tA, kit_ty (by decide +kernel), true, rfl, ?_⟩
        refine ⟨_, rfl, _, _, _, _, false, rfl, .ty "tuple", tB, kit_ty (by decide +kernel), false, rfl, ?_⟩
        refine ⟨_, rfl, a, _, rfl, qA, _, rfl, b, _, rfl, qB, rfl, _, rfl, ?_⟩
        rw [hlen]
        refine iteNS rfl ?_
        refine ⟨_, rfl, b, _, rfl, qB, _, rfl, by omega, by omega, ?_⟩
        rw [show ((us.length : Int)).toNat = us.length by omega]
        refine for_range (lo := 0) (n := us.length) (fun i σ H' => (∃ y2, σ = [some (.ref a), some (.ref b), y2]) ∧ H' = H) ⟨⟨_, rfl⟩, rfl⟩ (fun i σ H' hi p => ?_) (fun σ H' p => ?_)
        · obtain ⟨⟨y2, rfl⟩, rfl⟩ := p
          have hv : vs[i]? = some vs[i] := List.getElem?_eq_getElem (by omega)
          have hu : us[i]? = some us[i] := List.getElem?_eq_getElem hi
          refine ⟨_, rfl, _, rfl, a, _, _, _, rfl, rfl, qA, at_of (j := i) (by omega) hv, _, rfl, _, rfl, b, _, _, _, rfl, rfl, qB, at_of (j := i) (by omega) hu, ?_⟩
          exact hsp e _ _ _ _ hle (hel i _ _ hv hu) ⟨true, rfl, ⟨_, rfl⟩, rfl⟩
        · obtain ⟨_, rfl⟩ := p
          exact q
theorem ok_same {f : Addr} {fd : FuncData} (D_s : Df K mg "_law_same" s__law_same ["_law_value", "_law_due"] f fd) (T : Bi mg) {f_w : Addr} {d_w : FuncData} (D_w : Df K mg "_law_whole" s__law_whole ["_law_value"] f_w d_w) (G_w : FnOk P w K mg base CX0 1 f_w d_w ["_law_value"] spWhole) :
    ∀ d : Nat, FnOk P w K mg base CX0 (d + 2) f fd ["_law_value", "_law_due"] (spSame d)
  | 0 => same_body (k := 0) D_s T D_w G_w (sp := spNo) fn_no fun e x y H Q h => absurd h (by omega)
  | d + 1 => same_body (k := d + 1) D_s T D_w G_w (ok_same D_s T D_w G_w d) fun e x y H Q h h1 q => ⟨x, y, rfl, h1.le (by omega), q⟩
/-! ### drawn pins -/
def spPins (K : PySem.W.Frag) : Sp := fun vs H Q _ => ∃ c : Int, vs = [.int c] ∧ ∀ H' n, Same H H' → 0 ≤ n → n ≤ 40 → Q (.int n) H'
theorem ok_pins {f : Addr} {fd : FuncData} (F : Fun K "_law_pins" "_law_pins" s__law_pins f fd) (T : Bi mg) {f_d : Addr} {d_d : FuncData} (D_d : Df K mg "_law_digits" s__law_digits ["_law_cell_here", "_law_sizes"] f_d d_d) (G_d : FnOk P w K mg base CX0 1 f_d d_d ["_law_cell_here", "_law_sizes"] (spDigs K)) : FnOk P w K mg base CX0 2 f fd ["_law_cell_here"] (spPins K) := by
  refine F.ok sc__law_pins (fun vs H Q E h => ?_) (fun cdv A outer s H vs Q E hr h => ?_)
  · obtain ⟨c, rfl, _⟩ := h
    rfl
  · obtain ⟨c, rfl, q⟩ := h
    refine ⟨_, (pss_cons (ps_set (i := 1) sc__law_pins.nd rfl (.inl rfl) (pe_call G_d hr (by rfl) D_d.g D_d.F.kp D_d.b .nil pass0 (pa_cons (pv 0) (pa_cons (pe_lst (pa_cons pe_int (pa_cons pe_int (pa_cons pe_int pa_nil)))) pa_nil))))
        (pss_cons (ps_if (pt_cmpR op_lt (pe_ix (r := rIxL K) ix_list (pv 1) pe_int (fun _ _ => rfl)) pe_int (nomark _)) (pss_one (ps_ret (pe_op op_add pe_int (pe_op op_mod (pe_callTy call_int1 (by rfl) T.b_int (by decide +kernel) (pa_cons (pe_ix (r := rIxL K) ix_list (pv 1) pe_int (fun _ _ => rfl)) pa_nil)) pe_int)))) pss_nil)
        (pss_cons (ps_if (pt_cmpR op_eq (pe_ix (r := rIxL K) ix_list (pv 1) pe_int (fun _ _ => rfl)) pe_int (nomark _)) (pss_one (ps_ret (pe_op op_add pe_int (pe_op op_mod (pe_callTy call_int1 (by rfl) T.b_int (by decide +kernel) (pa_cons (pe_ix (r := rIxL K) ix_list (pv 1) pe_int (fun _ _ => rfl)) pa_nil)) pe_int)))) pss_nil)
        (pss_cons (ps_if (pt_cmpR op_eq (pe_ix (r := rIxL K) ix_list (pv 1) pe_int (fun _ _ => rfl)) pe_int (nomark _)) (pss_one (ps_ret (pe_op op_mod (pe_callTy call_int1 (by rfl) T.b_int (by decide +kernel) (pa_cons (pe_ix (r := rIxL K) ix_list (pv 1) pe_int (fun _ _ => rfl)) pa_nil)) pe_int))) pss_nil)
        (pss_one (ps_ret (pe_ix (r := rIxL K) ix_list (pv 1) pe_int (fun _ _ => rfl)))))))), ?_⟩
    refine ⟨_, rfl, by show 3 ≤ sizeLine; decide, fun b nb => ⟨c, b, [8, 30, 41], rfl, .inl (.inl upd_same), by decide, by decide, fun H1 p ds s1 np ep dg => ?_⟩⟩
    have sm : Same H H1 := (same_upd nb).trans s1
    obtain ⟨x0, x1, x2, rfl⟩ : ∃ x0 x1 x2, ds = [x0, x1, x2] := by
      have hl := dg.1
      match ds, hl with
      | [x0, x1, x2], _ => exact ⟨x0, x1, x2, rfl⟩
    have b0 := dg.2 0 x0 8 rfl rfl
    have b1 := dg.2 1 x1 30 rfl rfl
    have b2 := dg.2 2 x2 41 rfl rfl
    have hS : SqL K H1 p [.int x0, .int x1, .int x2] := .inl (.inl ep)
    have a0 : atI [V.int x0, .int x1, .int x2] 0 = some (.int x0) := atI_nat (j := 0) rfl
    have a1 : atI [V.int x0, .int x1, .int x2] 1 = some (.int x1) := atI_nat (j := 1) rfl
    have a2 : atI [V.int x0, .int x1, .int x2] 2 = some (.int x2) := atI_nat (j := 2) rfl
    have m5 := Int.emod_nonneg x1 (show (5 : Int) ≠ 0 by decide)
    have m5' := Int.emod_lt_of_pos x1 (show (0 : Int) < 5 by decide)
    have m6 := Int.emod_nonneg x1 (show (6 : Int) ≠ 0 by decide)
    have m6' := Int.emod_lt_of_pos x1 (show (0 : Int) < 6 by decide)
    have m2 := Int.emod_nonneg x1 (show (2 : Int) ≠ 0 by decide)
    have m2' := Int.emod_lt_of_pos x1 (show (0 : Int) < 2 by decide)
    refine ⟨_, rfl, p, _, 0, _, rfl, rfl, hS, a0, x0, 5, rfl, rfl, _, rfl, ite2 (fun e => ?_) (fun e => ?_)⟩
    · refine ⟨_, rfl, p, _, 1, _, rfl, rfl, hS, a1, .inl ⟨_, rfl, _, _, rfl, rfl, by show (0 : Int) < 5; decide, _, _, rfl, rfl, q H1 _ sm (by omega) (by omega)⟩⟩
    · refine ⟨_, rfl, p, _, 0, _, rfl, rfl, hS, a0, rfl, _, rfl, ite2 (fun e2 => ?_) (fun e2 => ?_)⟩
      · exact ⟨_, rfl, p, _, 1, _, rfl, rfl, hS, a1, .inl ⟨_, rfl, _, _, rfl, rfl, by show (0 : Int) < 6; decide, _, _, rfl, rfl, q H1 _ sm (by omega) (by omega)⟩⟩
      · refine ⟨_, rfl, p, _, 0, _, rfl, rfl, hS, a0, rfl, _, rfl, ite2 (fun e3 => ?_) (fun e3 => ?_)⟩
        · exact ⟨_, rfl, p, _, 1, _, rfl, rfl, hS, a1, .inl ⟨_, rfl, _, _, rfl, rfl, by show (0 : Int) < 2; decide, q H1 _ sm (by omega) (by omega)⟩⟩
        · exact ⟨_, rfl, p, _, 2, _, rfl, rfl, hS, a2, q H1 _ sm (by omega) (by omega)⟩
end
end Own

namespace Own
open PySem PySem.Spec PyProof.Rows L2
/-- a list of pairs, each a tuple -/
def PairsV (H : Hp) (bs : List Addr) (ps : List (Int × Int)) : Prop := bs.length = ps.length ∧ ∀ (i : Nat) (b : Addr) (p : Int × Int), bs[i]? = some b → ps[i]? = some p → H b = some (.tup [.int p.1, .int p.2])
theorem PairsV.sameT {H H' : Hp} {bs : List Addr} {ps : List (Int × Int)} (s : SameT H H') (h : PairsV H bs ps) : PairsV H' bs ps := ⟨h.1, fun i b p e1 e2 => s _ _ (h.2 i b p e1 e2)⟩
theorem PairsV.snoc {H : Hp} {bs : List Addr} {ps : List (Int × Int)} {b : Addr} {p : Int × Int} (h : PairsV H bs ps) (e : H b = some (.tup [.int p.1, .int p.2])) : PairsV H (bs ++ [b]) (ps ++ [p]) := by
  refine ⟨by rw [List.length_append, List.length_append, h.1]; rfl, fun i c q h1 h2 => ?_⟩
  by_cases hi : i < bs.length
  · rw [List.getElem?_append_left hi] at h1
    rw [List.getElem?_append_left (by rw [← h.1]; exact hi)] at h2
    exact h.2 i c q h1 h2
  · rw [List.getElem?_append_right (by omega)] at h1
    rw [List.getElem?_append_right (by rw [← h.1]; omega), ← h.1] at h2
    have hk : i - bs.length = 0 := by
      cases hk : i - bs.length with
      | zero => rfl
      | succ k =>
        rw [hk] at h1
        simp at h1
    rw [hk] at h1 h2
    obtain rfl : b = c := Option.some.inj h1
    obtain rfl : p = q := Option.some.inj h2
    exact e
theorem PairsV.at_ {H : Hp} {bs : List Addr} {ps : List (Int × Int)} (h : PairsV H bs ps) {b : Addr} (m : b ∈ bs) : ∃ p ∈ ps, H b = some (.tup [.int p.1, .int p.2]) := by
  obtain ⟨i, hi, e⟩ := List.mem_iff_getElem.mp m
  have hp : i < ps.length := by
    rw [← h.1]
    exact hi
  exact ⟨ps[i], List.getElem_mem hp, h.2 i b ps[i] (by rw [List.getElem?_eq_getElem hi, e]) (List.getElem?_eq_getElem hp)⟩
/-- as data -/
def pd (p : Int × Int) : PyData := .tuple [.int p.1, .int p.2]
theorem PairsV.dp {K : PySem.W.Frag} {H : Hp} : ∀ {bs : List Addr} {ps : List (Int × Int)}, PairsV H bs ps → DpAll K H (bs.map V.ref) (ps.map pd)
  | [], [], _ => .nil
  | [], _ :: _, h => by have := h.1; simp at this
  | _ :: _, [], h => by have := h.1; simp at this
  | b :: bs, p :: ps, h => .cons (.tup (.inl (.inl (h.2 0 b p rfl rfl))) (.cons (.int _) (.cons (.int _) .nil))) (PairsV.dp ⟨by have := h.1; simpa using this, fun i c q h1 h2 => h.2 (i + 1) c q h1 h2⟩)
theorem pd_eqv (p q : Int × Int) : PyData.eqv (pd p) (pd q) = decide (p = q) := by
  unfold pd
  simp only [PyData.eqv, PyData.eqvAll, Bool.and_true]
  by_cases h : p = q
  · subst h
    simp
  · rw [decide_eq_false h]
    by_cases h1 : p.1 = q.1
    · have h2 : ¬ p.2 = q.2 := fun z => h (Prod.ext h1 z)
      simp [h1, h2]
    · simp [h1]
theorem any_pd (p : Int × Int) (ps : List (Int × Int)) : ((ps.map pd).any fun z => PyData.eqv z (pd p)) = decide (p ∈ ps) := by
  rw [List.any_map]
  induction ps with
  | nil => rfl
  | cons q r ih =>
    rw [List.any_cons, ih]
    show (PyData.eqv (pd q) (pd p) || decide (p ∈ r)) = _
    rw [pd_eqv]
    by_cases h : q = p
    · subst h
      simp
    · have h2 : ¬ p = q := fun z => h z.symm
      simp [h, h2]
theorem shaped_pd (p : Int × Int) : SeqAt.shaped (pd p) = true := by
  unfold SeqAt.shaped pd
  simp [PyData.canLay0, PyData.canLayAll0, PyData.depth, PyData.depthAll]
theorem lay_pds : ∀ ps : List (Int × Int), PyData.canLayAll0 (ps.map pd) = true ∧ PyData.depthAll (ps.map pd) ≤ 1
  | [] => ⟨rfl, Nat.zero_le _⟩
  | p :: r => by
    obtain ⟨h1, h2⟩ := lay_pds r
    refine ⟨?_, ?_⟩
    · show (PyData.canLay0 (pd p) && PyData.canLayAll0 (r.map pd)) = true
      rw [h1]
      rfl
    · show max (PyData.depth (pd p)) (PyData.depthAll (r.map pd)) ≤ 1
      have : PyData.depth (pd p) = 1 := rfl
      omega
theorem shaped_pds (ps : List (Int × Int)) : SeqAt.shaped (.list (ps.map pd)) = true := by
  obtain ⟨h1, h2⟩ := lay_pds ps
  unfold SeqAt.shaped
  have e1 : PyData.canLay0 (.list (ps.map pd)) = true := h1
  have e2 : PyData.depth (.list (ps.map pd)) ≤ 64 := by
    show PyData.depthAll (ps.map pd) + 1 ≤ 64
    omega
  rw [e1, decide_eq_true e2]
  rfl
section
variable {P : Program} {w : World} {K : PySem.W.Frag} {mg : Str → Option Value} {base : Heap} {C : Addr}
def pos (l : List Tr) : List Tr := l.filter fun t => decide (0 < t.2.2)
theorem pos_snoc (l : List Tr) (t : Tr) : pos (l ++ [t]) = if 0 < t.2.2 then pos l ++ [t] else pos l := by
  unfold pos
  rw [List.filter_append]
  by_cases h : 0 < t.2.2
  · rw [if_pos h, List.filter_cons, if_pos (decide_eq_true h)]
    rfl
  · rw [if_neg h, List.filter_cons, if_neg (by rw [decide_eq_false h]; decide)]
    exact List.append_nil _
theorem pos_all {l : List Tr} (h : ∀ t ∈ l, 1 ≤ t.2.2) : pos l = l := List.filter_eq_self.mpr fun t ht => decide_eq_true (by have := h t ht; omega)
/-- as IsNorm, entries without cords left out -/
structure GN (l r : List Tr) : Prop where
  srt : (r.map pr).Pairwise Lex
  mem : ∀ p, p ∈ r.map pr ↔ p ∈ (pos l).map ky
  cnt : ∀ e ∈ r, e.2.2 = tot (pr e) l
theorem GN.norm {l r : List Tr} (h : GN l r) (v : ∀ t ∈ l, 1 ≤ t.2.2) : IsNorm l r := ⟨h.srt, fun p => by rw [h.mem, pos_all v], h.cnt⟩
def spNorm (K : PySem.W.Frag) : Sp := fun vs H Q _ => ∃ (a : Addr) (xs : List V) (l : List Tr), vs = [.ref a] ∧ SqB K H a xs ∧ TrV H xs l ∧ l.length ≤ 1000 ∧ ∀ H' c r, Same H H' → Trip H' c r → GN l r → Q (.ref c) H'
theorem ok_norm {f : Addr} {fd : FuncData} (F : Fun K "_law_norm" "_law_norm" s__law_norm f fd) (T : Bi mg) : FnOk P w K mg base CX0 1 f fd ["_law_triples"] (spNorm K) := by
  refine F.ok sc__law_norm (fun vs H Q E h => ?_) (fun cdv A outer s H vs Q E hr h => ?_)
  · obtain ⟨a, xs, l, rfl, _⟩ := h
    rfl
  · obtain ⟨a, xs, l, rfl, hB, hx, hl, q⟩ := h
    have hu65 : (A.deeper (envOfC "_law_norm" (defScope s__law_norm) s.heap.objs.size f cdv)).units + 65 < cLine := by
      have := hr.un
      omega
    refine ⟨_, (pss_cons (ps_set (i := 1) sc__law_norm.nd rfl (.inl rfl) (pe_lst pa_nil))
        (pss_cons (ps_for PassesOwn.never rfl (pi_seq (pv 0)) (pg_name (i := 2) sc__law_norm.nd rfl (.inl rfl))
        (pss_cons (ps_set (i := 5) sc__law_norm.nd rfl (.inl rfl) (pe_callB (call_min2 rfl) (by rfl) T.b_min (by decide +kernel) (pa_cons (pe_ix (r := rIxT K) ix_tup (pv 2) pe_int (fun _ _ => rfl)) (pa_cons (pe_ix (r := rIxT K) ix_tup (pv 2) pe_int (fun _ _ => rfl)) pa_nil))))
        (pss_cons (ps_set (i := 6) sc__law_norm.nd rfl (.inl rfl) (pe_callB (call_max2 rfl) (by rfl) T.b_max (by decide +kernel) (pa_cons (pe_ix (r := rIxT K) ix_tup (pv 2) pe_int (fun _ _ => rfl)) (pa_cons (pe_ix (r := rIxT K) ix_tup (pv 2) pe_int (fun _ _ => rfl)) pa_nil))))
        (pss_one (ps_if (PW.pt (pw_and (pt_cmpR op_gt (pe_ix (r := rIxT K) ix_tup (pv 2) pe_int (fun _ _ => rfl)) pe_int (nomark _)) (pw_and1 (pt_cmpR (op_notInD hu65) (pe_tup (pa_cons (pv 5) (pa_cons (pv 6) pa_nil))) (pv 1) (by rfl))))) (pss_one (ps_expr (pe_bm PySem.F.plainAttrs_list PySem.F.slot_list_append PySem.F.type_list_append mt_append (pv 1) (pa_cons (pe_tup (pa_cons (pv 5) (pa_cons (pv 6) pa_nil))) pa_nil)))) pss_nil)))))
        (pss_cons (ps_set (i := 3) sc__law_norm.nd rfl (.inl rfl) (pe_lst pa_nil))
        (pss_cons (ps_for PassesOwn.never rfl (pi_list (pe_callB cr_sortedPO (by rfl) T.b_sorted (by decide +kernel) (pa_cons (pv 1) pa_nil))) (pg_name (i := 4) sc__law_norm.nd rfl (.inl rfl))
        (pss_cons (ps_set (i := 7) sc__law_norm.nd rfl (.inl rfl) pe_int)
        (pss_cons (ps_for PassesOwn.never rfl (pi_seq (pv 0)) (pg_name (i := 2) sc__law_norm.nd rfl (.inl rfl))
        (pss_one (ps_if (PW.pt (pw_and (pt_cmpR op_eq (pe_callB (call_min2 rfl) (by rfl) T.b_min (by decide +kernel) (pa_cons (pe_ix (r := rIxT K) ix_tup (pv 2) pe_int (fun _ _ => rfl)) (pa_cons (pe_ix (r := rIxT K) ix_tup (pv 2) pe_int (fun _ _ => rfl)) pa_nil))) (pe_ix (r := rIxT K) ix_tup (pv 4) pe_int (fun _ _ => rfl)) (nomark _)) (pw_and1 (pt_cmpR op_eq (pe_callB (call_max2 rfl) (by rfl) T.b_max (by decide +kernel) (pa_cons (pe_ix (r := rIxT K) ix_tup (pv 2) pe_int (fun _ _ => rfl)) (pa_cons (pe_ix (r := rIxT K) ix_tup (pv 2) pe_int (fun _ _ => rfl)) pa_nil))) (pe_ix (r := rIxT K) ix_tup (pv 4) pe_int (fun _ _ => rfl)) (nomark _))))) (pss_one (ps_set (i := 7) sc__law_norm.nd rfl (.inl rfl) (pe_op op_add (pv 7) (pe_ix (r := rIxT K) ix_tup (pv 2) pe_int (fun _ _ => rfl))))) pss_nil)))
        (pss_one (ps_expr (pe_bm PySem.F.plainAttrs_list PySem.F.slot_list_append PySem.F.type_list_append mt_append (pv 3) (pa_cons (pe_tup (pa_cons (pe_ix (r := rIxT K) ix_tup (pv 4) pe_int (fun _ _ => rfl)) (pa_cons (pe_ix (r := rIxT K) ix_tup (pv 4) pe_int (fun _ _ => rfl)) (pa_cons (pv 7) pa_nil)))) pa_nil)))))))
        (pss_one (ps_ret (pe_callTy call_tuple_of (by rfl) T.b_tuple (by decide +kernel) (pa_cons (pv 3) pa_nil)))))))), ?_⟩
    refine ⟨Nat.zero_le _, fun p np => ?_⟩
    have sp : Same H (upd H p (.lst [])) := same_upd np
    refine ⟨_, rfl, a, rfl, for_same (Hb := H) hB (fun i σ H' => ∃ (bs : List Addr) (ps : List (Int × Int)) (y2 y5 y6 : Option V), σ = [some (.ref a), some (.ref p), y2, none, none, y5, y6, none] ∧ H' p = some (.lst (bs.map V.ref)) ∧ PairsV H' bs ps ∧ ps.Nodup ∧ (∀ x, x ∈ ps ↔ x ∈ (pos (l.take i)).map ky) ∧ Same H H' ∧ ps.length ≤ i) ⟨[], [], none, none, none, rfl, upd_same, ⟨rfl, fun i b q h => by simp at h⟩, List.nodup_nil, fun x => by simp [pos], sp, Nat.le_refl _⟩ (fun i σ' H' pv => by obtain ⟨_, _, _, _, _, _, _, _, _, _, s, _⟩ := pv; exact s) (fun i x σ H' hxi pv => ?_) (fun σ H' pv => ?_)⟩
    · obtain ⟨bs, ps, y2, y5, y6, rfl, ep, pV, hnd, hmem, sm, hlen⟩ := pv
      obtain ⟨b, t, rfl, hti, hb⟩ := (hx.same sm).at_ hxi
      have hil : i < l.length := (List.getElem?_eq_some_iff.mp hti).1
      have etk : l.take (i + 1) = l.take i ++ [t] := by rw [List.take_add_one, hti]; rfl
      have qb : SqT K H' b (tv t) := .inl (.inl hb)
      have i0 : atI (tv t) 0 = some (.int t.1) := atI_nat (j := 0) rfl
      have i1 : atI (tv t) 1 = some (.int t.2.1) := atI_nat (j := 1) rfl
      have i2 : atI (tv t) 2 = some (.int t.2.2) := atI_nat (j := 2) rfl
      refine ⟨_, rfl, b, _, 0, _, rfl, rfl, qb, i0, _, rfl, b, _, 1, _, rfl, rfl, qb, i1, _, _, rfl, ?_⟩
      refine ⟨_, rfl, b, _, 0, _, rfl, rfl, qb, i0, _, rfl, b, _, 1, _, rfl, rfl, qb, i1, _, _, rfl, ?_⟩
      refine ⟨_, rfl, b, _, 2, _, rfl, rfl, qb, i2, _, _, rfl, rfl, _, rfl, ?_⟩
      by_cases hv : 0 < t.2.2
      · rw [decide_eq_true hv]
        refine ⟨_, rfl, _, rfl, by show 2 ≤ sizeLine; decide, fun u nu => ?_⟩
        have su : Same H' (upd H' u (.tup [.int (lo t.1 t.2.1), .int (hi t.1 t.2.1)])) := same_upd nu
        have pV1 := pV.sameT fun b o h => su _ _ h
        have ep1 := su _ _ ep
        refine ⟨_, rfl, pd (ky t), ps.map pd, .tup (.inl (.inl upd_same)) (.cons (.int _) (.cons (.int _) .nil)), .lst (.inl (.inl ep1)) pV1.dp, shaped_pd _, shaped_pds _, _, rfl, ?_⟩
        rw [any_pd]
        by_cases hk : ky t ∈ ps
        · rw [decide_eq_true hk]
          refine ⟨bs, ps, _, _, _, rfl, ep1, pV1, hnd, fun x => ?_, sm.trans su, by omega⟩
          rw [etk, pos_snoc, if_pos hv, List.map_append, List.mem_append, ← hmem]
          constructor
          · exact .inl
          · rintro (h | h)
            · exact h
            · rw [List.mem_singleton.mp h]
              exact hk
        · rw [decide_eq_false hk]
          refine ⟨_, rfl, .inl ⟨rfl, _, .inl (.inl ep1)⟩, _, rfl, _, rfl, by show 2 ≤ sizeLine; decide, fun v nv => ?_⟩
          have sv := same_upd (o := .tup [.int (lo t.1 t.2.1), .int (hi t.1 t.2.1)]) nv
          have ep2 := sv _ _ ep1
          refine ⟨p, _, _, rfl, rfl, ep2, ?_, ?_⟩
          · rw [List.length_map, pV.1]
            exact small1000 (by omega)
          have nvp : v ≠ p := fun z => by
            rw [z] at nv
            exact nomatch (ep1.symm.trans nv)
          refine ⟨bs ++ [v], ps ++ [ky t], _, _, _, rfl, ?_, ?_, ?_, fun x => ?_, same_put (H1 := H) np ((sm.trans su).trans sv), ?_⟩
          · rw [upd_same, List.map_append]
            rfl
          · refine (pV1.sameT (sameT_put ep1 sv)).snoc ?_
            rw [upd_ne nvp, upd_same]
            rfl
          · exact List.nodup_append.mpr ⟨hnd, by simp, fun x hx2 y hy z => hk (by rw [List.mem_singleton.mp hy] at z; rw [← z]; exact hx2)⟩
          · rw [etk, pos_snoc, if_pos hv, List.map_append, List.mem_append, List.mem_append, ← hmem]
            exact Iff.rfl
          · rw [List.length_append]
            show ps.length + 1 ≤ i + 1
            omega
      · rw [decide_eq_false hv]
        refine ⟨bs, ps, _, _, _, rfl, ep, pV, hnd, fun x => ?_, sm, by omega⟩
        rw [etk, pos_snoc, if_neg hv]
        exact hmem x
    · obtain ⟨bs, ps, y2, y5, y6, rfl, ep, pV, hnd, hmem, sm, hlen⟩ := pv
      rw [hx.1] at hlen
      rw [hx.1, List.take_length] at hmem
      refine ⟨Nat.zero_le _, fun rw_ nrw => ?_⟩
      have s1 : Same H' (upd H' rw_ (.lst [])) := same_upd nrw
      have pV1 := pV.sameT fun b o h => s1 _ _ h
      refine ⟨_, rfl, p, _, kOf (upd H' rw_ (.lst [])), rfl, .inl (.inl (s1 _ _ ep)), fun x hx2 => ?_, fun ys p0 hsrt hstb np0 => ?_⟩
      · obtain ⟨b, hb, rfl⟩ := List.mem_map.mp hx2
        obtain ⟨pp, _, hp⟩ := pV1.at_ hb
        exact ⟨b, rfl, by rw [kOf_at hp]; exact hp⟩
      generalize hH1 : upd H' rw_ (.lst []) = H1 at s1 pV1 hsrt hstb np0
      have erw : H1 rw_ = some (.lst []) := by rw [← hH1]; exact upd_same
      have hks : (bs.map V.ref).map (kOf H1) = ps := by
        apply List.ext_getElem
        · rw [List.length_map, List.length_map]
          exact pV1.1
        · intro j h1 h2
          rw [List.getElem_map, List.getElem_map]
          rw [List.length_map, List.length_map] at h1
          exact kOf_at (pV1.2 j bs[j] ps[j] (List.getElem?_eq_getElem h1) (List.getElem?_eq_getElem h2))
      have hperm : (ys.map (kOf H1)).Perm ps := by
        have := hstb.perm.map (kOf H1)
        rw [hks] at this
        exact this
      have hall : ∀ y ∈ ys, ∃ b, y = .ref b ∧ H1 b = some (.tup [.int (kOf H1 y).1, .int (kOf H1 y).2]) := fun y hy => by
        obtain ⟨b, hb, rfl⟩ := List.mem_map.mp (hstb.perm.mem_iff.mp hy)
        obtain ⟨pp, _, hp⟩ := pV1.at_ hb
        exact ⟨b, rfl, by rw [kOf_at hp]; exact hp⟩
      have hlex : (ys.map (kOf H1)).Pairwise Lex := sorted_lex (hperm.nodup_iff.mpr hnd) (SrtO.srtd_map (lt := SrtO.lexB) (f := kOf H1) hsrt)
      have hN : GN l ((ys.map (kOf H1)).map fun p => (p.1, p.2, tot p l)) := by
        have e1 : (((ys.map (kOf H1)).map fun p => ((p.1, p.2, tot p l) : Tr))).map pr = ys.map (kOf H1) := by
          rw [List.map_map]
          exact List.map_id' _
        refine ⟨by rw [e1]; exact hlex, fun x => by rw [e1, hperm.mem_iff]; exact hmem x, fun e he => ?_⟩
        obtain ⟨x, _, rfl⟩ := List.mem_map.mp he
        rfl
      have hylen : ys.length ≤ 1000 := by
        have h1 := hperm.length_eq
        rw [List.length_map] at h1
        omega
      generalize hr0 : ((ys.map (kOf H1)).map fun p => ((p.1, p.2, tot p l) : Tr)) = r at hN
      have hrl : r.length = ys.length := by rw [← hr0, List.length_map, List.length_map]
      have s0 : Same H1 (upd H1 p0 (.lst ys)) := same_upd np0
      have n0rw : p0 ≠ rw_ := fun z => by
        rw [z, erw] at np0
        cases np0
      have nrwH : H rw_ = none := sm.free nrw
      refine ⟨p0, rfl, ⟨_, .inl (.inl upd_same)⟩, for_list (xs := ys) (fun j σ H2 => ∃ (vs : List V) (y2 y4 y5 y6 y7 : Option V), σ = [some (.ref a), some (.ref p), y2, some (.ref rw_), y4, y5, y6, y7] ∧ Same H H2 ∧ SameT H1 H2 ∧ H2 p0 = some (.lst ys) ∧ H2 rw_ = some (.lst vs) ∧ TrV H2 vs (r.take j)) ⟨[], _, _, _, _, _, rfl, ?_, fun b o h => s0 _ _ h, upd_same, s0 _ _ erw, TrV.nil⟩ (fun j σ H2 _ pv => by obtain ⟨_, _, _, _, _, _, _, _, _, e, _⟩ := pv; exact .inl (.inl e)) (fun j x σ H2 hxj pv => ?_) (fun σ H2 pv => ?_)⟩
      · exact (sm.trans s1).trans s0
      · obtain ⟨vs, y2, y4, y5, y6, y7, rfl, sH, sT, e0, eR, tV⟩ := pv
        obtain ⟨b, rfl, hb⟩ := hall x (List.mem_of_getElem? hxj)
        have hjl : j < ys.length := (List.getElem?_eq_some_iff.mp hxj).1
        generalize hp : kOf H1 (.ref b) = pq at hb
        have hb2 : SqT K H2 b [.int pq.1, .int pq.2] := .inl (.inl (sT _ _ hb))
        have j0 : atI [V.int pq.1, .int pq.2] 0 = some (.int pq.1) := atI_nat (j := 0) rfl
        have j1 : atI [V.int pq.1, .int pq.2] 1 = some (.int pq.2) := atI_nat (j := 1) rfl
        have hrj : r[j]? = some (pq.1, pq.2, tot pq l) := by
          rw [← hr0, List.getElem?_map, List.getElem?_map, hxj, ← hp]
          rfl
        refine ⟨_, rfl, a, rfl, for_same (Hb := H) hB (fun i σ H3 => (∃ y2, σ = [some (.ref a), some (.ref p), y2, some (.ref rw_), some (.ref b), y5, y6, some (.int (tot pq (l.take i)))]) ∧ H3 = H2) ⟨⟨y2, rfl⟩, rfl⟩ (fun i σ' H3 pv => by rw [pv.2]; exact sH) (fun i x σ H3 hxi pv => ?_) (fun σ H3 pv => ?_)⟩
        · obtain ⟨⟨y2, rfl⟩, rfl⟩ := pv
          obtain ⟨u, t, rfl, hti, hu⟩ := (hx.same sH).at_ hxi
          have qb : SqT K H3 u (tv t) := .inl (.inl hu)
          have i0 : atI (tv t) 0 = some (.int t.1) := atI_nat (j := 0) rfl
          have i1 : atI (tv t) 1 = some (.int t.2.1) := atI_nat (j := 1) rfl
          have i2 : atI (tv t) 2 = some (.int t.2.2) := atI_nat (j := 2) rfl
          have et : tot pq (l.take (i + 1)) = tot pq (l.take i) + (if ky t = pq then t.2.2 else 0) := by
            rw [List.take_add_one, hti]
            exact tot_snoc pq (l.take i) t
          refine ⟨_, rfl, u, _, 0, _, rfl, rfl, qb, i0, _, rfl, u, _, 1, _, rfl, rfl, qb, i1, _, _, rfl, ?_⟩
          refine ⟨_, rfl, b, _, 0, _, rfl, rfl, hb2, j0, rfl, _, rfl, ite2 (fun e1 => ?_) (fun e1 => ?_)⟩
          · have f1 : lo t.1 t.2.1 = pq.1 := V.int.inj (of_decide_eq_true e1)
            refine ⟨_, rfl, u, _, 0, _, rfl, rfl, qb, i0, _, rfl, u, _, 1, _, rfl, rfl, qb, i1, _, _, rfl, ?_⟩
            refine ⟨_, rfl, b, _, 1, _, rfl, rfl, hb2, j1, rfl, _, rfl, ite2 (fun e2 => ?_) (fun e2 => ?_)⟩
            · have f2 : hi t.1 t.2.1 = pq.2 := V.int.inj (of_decide_eq_true e2)
              refine ⟨_, rfl, _, rfl, u, _, 2, _, rfl, rfl, qb, i2, _, _, rfl, rfl, ⟨some (.ref u), ?_⟩, rfl⟩
              rw [et, if_pos (show ky t = pq from Prod.ext f1 f2)]
              rfl
            · have f2 : ¬ hi t.1 t.2.1 = pq.2 := fun z => e2 (decide_eq_true (congrArg V.int z))
              refine ⟨⟨some (.ref u), ?_⟩, rfl⟩
              rw [et, if_neg (fun z : ky t = pq => f2 (congrArg Prod.snd z)), Int.add_zero]
              rfl
          · have f1 : ¬ lo t.1 t.2.1 = pq.1 := fun z => e1 (decide_eq_true (congrArg V.int z))
            refine ⟨⟨some (.ref u), ?_⟩, rfl⟩
            rw [et, if_neg (fun z : ky t = pq => f1 (congrArg Prod.fst z)), Int.add_zero]
            rfl
        · obtain ⟨⟨y2, rfl⟩, rfl⟩ := pv
          rw [hx.1, List.take_length]
          refine ⟨_, rfl, .inl ⟨rfl, _, .inl (.inl eR)⟩, _, rfl, b, _, 0, _, rfl, rfl, hb2, j0, _, rfl, b, _, 1, _, rfl, rfl, hb2, j1, _, rfl, by show 3 ≤ sizeLine; decide, fun u nu => ?_⟩
          have su := same_upd (o := .tup [.int pq.1, .int pq.2, .int (tot pq l)]) nu
          refine ⟨rw_, _, _, rfl, rfl, su _ _ eR, ?_, ?_⟩
          · rw [tV.1, List.length_take]
            exact Nat.lt_of_le_of_lt (Nat.min_le_right _ _) (small1000 (by omega))
          have nur : u ≠ rw_ := fun z => by
            rw [z, eR] at nu
            cases nu
          refine ⟨_, _, _, _, _, _, rfl, same_put (H1 := H) nrwH (sH.trans su), fun c o h => ?_, ?_, upd_same, ?_⟩
          · exact sameT_put (H := H3) eR su _ _ (sT _ _ h)
          · rw [upd_ne n0rw]
            exact su _ _ e0
          · rw [List.take_add_one, hrj]
            refine (tV.sameT (sameT_put eR su)).snoc ?_
            rw [upd_ne nur, upd_same]
      · obtain ⟨vs, y2, y4, y5, y6, y7, rfl, sH, sT, e0, eR, tV⟩ := pv
        rw [← hrl, List.take_length] at tV
        refine ⟨_, rfl, rw_, _, rfl, .inl ⟨.inl (.inl eR), fun c nc => ?_⟩⟩
        exact q _ c r (sH.trans (same_upd nc)) ⟨vs, upd_same, tV.same (same_upd nc)⟩ hN
end
end Own

namespace Own
open PySem PySem.Spec PyProof.Rows L2
theorem fmod_lo {y n : Int} (h0 : 0 ≤ y) (h1 : y < n) : y.fmod n = y := by
  rw [Int.fmod_eq_emod_of_nonneg _ (by omega)]
  exact Int.emod_eq_of_lt h0 h1
theorem fmod_hi {y n : Int} (h0 : n ≤ y) (h1 : y < n + n) : y.fmod n = y - n := by
  rw [Int.fmod_eq_emod_of_nonneg _ (by omega), show y = (y - n) + n * 1 by omega, Int.add_mul_emod_self_left, Int.emod_eq_of_lt (by omega) (by omega)]
  omega
theorem fmod_neg {y n : Int} (h0 : -n ≤ y) (h1 : y < 0) : y.fmod n = y + n := by
  rw [Int.fmod_eq_emod_of_nonneg _ (by omega), show y = (y + n) + n * (-1) by omega, Int.add_mul_emod_self_left, Int.emod_eq_of_lt (by omega) (by omega)]
  omega
/-- the numbers of the entries that the test takes -/
def fl (f : Int × Int → Bool) (cs : List Tr) : List Int := (cs.filter fun t => f (pr t)).map fun t => t.2.2
theorem fl_sum (f : Int × Int → Bool) (cs : List Tr) : (fl f cs).sum = bs f cs := by
  unfold fl
  induction cs with
  | nil => rfl
  | cons t r ih =>
    rw [bs, List.filter_cons]
    by_cases h : f (pr t) = true
    · rw [if_pos h, if_pos h, List.map_cons, List.sum_cons, ih]
    · rw [if_neg h, if_neg h, ih]
      omega
theorem fl_snoc (f : Int × Int → Bool) (cs : List Tr) (t : Tr) : fl f (cs ++ [t]) = if f (pr t) = true then fl f cs ++ [t.2.2] else fl f cs := by
  unfold fl
  rw [List.filter_append, List.map_append]
  by_cases h : f (pr t) = true
  · rw [if_pos h, List.filter_cons, if_pos h]
    rfl
  · rw [if_neg h, List.filter_cons, if_neg h]
    exact List.append_nil _
theorem fl_len (f : Int × Int → Bool) (cs : List Tr) : (fl f cs).length ≤ cs.length := by
  unfold fl
  rw [List.length_map]
  exact List.length_filter_le _ _
/-- met on the walk of k steps from gap i -/
def mt (n i : Int) (k : Nat) (x : Int) : Bool := decide (0 < (x - i).fmod n ∧ (x - i).fmod n ≤ (k : Int))
theorem mt_val {n i x : Int} (i0 : 0 ≤ i) (i1 : i < n) (x0 : 0 ≤ x) (x1 : x < n) : (i ≤ x ∧ (x - i).fmod n = x - i) ∨ (x < i ∧ (x - i).fmod n = x - i + n) := by
  by_cases h : i ≤ x
  · exact .inl ⟨h, fmod_lo (by omega) (by omega)⟩
  · exact .inr ⟨by omega, fmod_neg (by omega) (by omega)⟩
theorem mt_step {n i x : Int} {k : Nat} (i0 : 0 ≤ i) (i1 : i < n) (x0 : 0 ≤ x) (x1 : x < n) (hk : (k : Int) + 1 < n) : mt n i (k + 1) x = if x = (i + (1 + (k : Int))).fmod n then true else mt n i k x := by
  have hv := mt_val i0 i1 x0 x1
  have hj : (i + (1 + (k : Int)) < n ∧ (i + (1 + (k : Int))).fmod n = i + (1 + (k : Int))) ∨ (n ≤ i + (1 + (k : Int)) ∧ (i + (1 + (k : Int))).fmod n = i + (1 + (k : Int)) - n) := by
    by_cases h : i + (1 + (k : Int)) < n
    · exact .inl ⟨h, fmod_lo (by omega) h⟩
    · exact .inr ⟨by omega, fmod_hi (by omega) (by omega)⟩
  unfold mt
  by_cases e : x = (i + (1 + (k : Int))).fmod n
  · rw [if_pos e]
    exact decide_eq_true (by omega)
  · rw [if_neg e]
    exact decide_eq_decide.mpr (by omega)
theorem mt_zero (n i x : Int) : mt n i 0 x = false := decide_eq_false (by omega)
theorem mt_all {n i x : Int} (i0 : 0 ≤ i) (i1 : i < n) (x0 : 0 ≤ x) (x1 : x < n) {k : Nat} (hk : (k : Int) + 1 = n) : mt n i k x = decide (x ≠ i) := by
  have hv := mt_val i0 i1 x0 x1
  exact decide_eq_decide.mpr (by omega)
theorem bne_not (p q : Bool) : ((!p) != (!q)) = (p != q) := by
  cases p <;> cases q <;> rfl
/-- the walk parts pins as the gaps do -/
theorem mt_sep {n i a b : Int} {k : Nat} (i0 : 0 ≤ i) (i1 : i < n) (hk : (k : Int) + 1 < n) (a0 : 0 ≤ a) (a1 : a < n) (b0 : 0 ≤ b) (b1 : b < n) :
    (mt n i (k + 1) a != mt n i (k + 1) b) = (sepB i ((i + (1 + (k : Int))).fmod n) a != sepB i ((i + (1 + (k : Int))).fmod n) b) := by
  by_cases h : i + (1 + (k : Int)) < n
  · have ej := fmod_lo (n := n) (show 0 ≤ i + (1 + (k : Int)) by omega) h
    rw [ej]
    have hl := lo_hi i (i + (1 + (k : Int)))
    have e : ∀ x, 0 ≤ x → x < n → mt n i (k + 1) x = sepB i (i + (1 + (k : Int))) x := fun x x0 x1 => by
      have hv := mt_val i0 i1 x0 x1
      exact decide_eq_decide.mpr (by omega)
    rw [e a a0 a1, e b b0 b1]
  · have ej := fmod_hi (n := n) (show n ≤ i + (1 + (k : Int)) by omega) (by omega)
    rw [ej]
    have hl := lo_hi i (i + (1 + (k : Int)) - n)
    have e : ∀ x, 0 ≤ x → x < n → mt n i (k + 1) x = !sepB i (i + (1 + (k : Int)) - n) x := fun x x0 x1 => by
      have hv := mt_val i0 i1 x0 x1
      unfold mt sepB
      rw [← decide_not]
      exact decide_eq_decide.mpr (by omega)
    rw [e a a0 a1, e b b0 b1, bne_not]
/-- a list of truth values -/
def bl (n : Int) (g : Int → Bool) : List V := (List.range n.toNat).map fun j : Nat => V.bl (g (j : Int))
theorem bl_at {n x : Int} (g : Int → Bool) (h0 : 0 ≤ x) (h1 : x < n) : atI (bl n g) x = some (.bl (g x)) := by
  have e : x = ((x.toNat : Nat) : Int) := by omega
  have hx : (bl n g)[x.toNat]? = some (.bl (g x)) := by
    unfold bl
    rw [List.getElem?_map, List.getElem?_range (by omega)]
    show some (V.bl (g ((x.toNat : Nat) : Int))) = _
    rw [← e]
  exact at_of e hx
theorem bl_len (n : Int) (g : Int → Bool) : (bl n g).length = n.toNat := by
  unfold bl
  rw [List.length_map, List.length_range]
theorem bl_ix {n x : Int} (g : Int → Bool) (h0 : 0 ≤ x) (h1 : x < n) : ixN (bl n g).length x = some x.toNat := by
  unfold ixN
  rw [bl_len, if_pos h0, if_pos (by omega)]
theorem bl_congr {n : Int} {g h : Int → Bool} (e : ∀ x, 0 ≤ x → x < n → g x = h x) : bl n g = bl n h := by
  unfold bl
  refine List.map_congr_left fun j hj => ?_
  have := List.mem_range.mp hj
  rw [e (j : Int) (by omega) (by omega)]
theorem bl_set {n x : Int} (g : Int → Bool) (v : Bool) (h0 : 0 ≤ x) (h1 : x < n) : (bl n g).set x.toNat (.bl v) = bl n fun y => if y = x then v else g y := by
  unfold bl
  apply List.ext_getElem
  · rw [List.length_set, List.length_map, List.length_map]
  · intro j hj hj2
    rw [List.length_map, List.length_range] at hj2
    rw [List.getElem_set, List.getElem_map, List.getElem_map, List.getElem_range]
    by_cases e : x.toNat = j
    · rw [if_pos e]
      show V.bl v = V.bl (if ((j : Nat) : Int) = x then v else g j)
      rw [if_pos (by omega)]
    · rw [if_neg e]
      show V.bl (g j) = V.bl (if ((j : Nat) : Int) = x then v else g j)
      rw [if_neg (by omega)]
theorem ne_bl (p q : Bool) : (!decide (V.bl p = V.bl q)) = (p != q) := by
  cases p <;> cases q <;> rfl
/-- as many keys as entries at most -/
theorem nodup_le : ∀ {P L : List (Int × Int)}, P.Nodup → (∀ p ∈ P, p ∈ L) → P.length ≤ L.length
  | [], _, _, _ => Nat.zero_le _
  | p :: P, L, hn, h => by
    have hc := List.nodup_cons.mp hn
    have hp : p ∈ L := h p List.mem_cons_self
    have ih := nodup_le (P := P) (L := L.erase p) hc.2 fun q hq => (List.mem_erase_of_ne (fun z => hc.1 (by rw [← z]; exact hq))).mpr (h q (List.mem_cons_of_mem _ hq))
    rw [List.length_erase_of_mem hp] at ih
    have := List.length_pos_of_mem hp
    rw [List.length_cons]
    omega
theorem IsNorm.len {l r : List Tr} (h : IsNorm l r) : r.length ≤ l.length := by
  have := nodup_le (srt_nodup h.srt) fun p m => (h.mem p).mp m
  rw [List.length_map, List.length_map] at this
  exact this
end Own

/-! An own error class whose __init__ begins with super().__init__(text) and then stores its fields. -/
namespace Own
open PySem PySem.Spec PyProof.Rows L2 NdefX
abbrev supS (p0 p1 p2 p3 p4 : Pos) (e : Expr) (es : List Expr) : Stmt := .Expr (.Call (.Attribute (.Call (.Name "super" p0) [] [] p1) "__init__" p2) (e :: es) [] p3) p4
abbrev supF (name qual : Str) (params : Arguments) (body : List Stmt) (scope : Scope) (cc cda : Addr) : NF := ⟨name, qual, params, body, scope, [("__class__", cc)], cda⟩
section
variable {CX : CXT} {P : Program} {w : World} {K : PySem.W.Frag} {mg : Str → Option Value} {base : Heap} {k : Nat} {f cc cda D : Addr}
/-- what is known of the class, of its cell and of the code -/
structure ErrK (P : Program) (K : PySem.W.Frag) (mg : Str → Option Value) (D cc cda : Addr) : Prop where
  oex : OexC K D
  cell : ∃ cl cld csl, K.lookup cc = some ⟨cl, cld, .cell (some (.ref D)), csl⟩
  code : ∃ ccl cdd vs ccs file tf, K.lookup cda = some ⟨ccl, cdd, .fields vs, ccs⟩ ∧ vs[2]? = some (.str file tf) ∧ ((P.main.file : Str) == file) = true
  sup : PySem.W.ks_superIn K D D "__init__" = some (some (.builtin "ValueError.__init__"))
  ve : PySem.W.subIn K (.ref D) (.type "ValueError") = some true
  self : PySem.W.mroIn K D (.ref D) = some true
  opq : PySem.W.nsIn K cStatics "thirdparty.any" = some none
  mgs : mg "super" = none
  top : (P.main.scope.names.lookup ("super" : Str)).isSome = false
theorem one_look {cc c : Addr} {y : Str} (hy : List.lookup y [(("__class__" : Str), cc)] = some c) : y = "__class__" ∧ c = cc := by
  simp only [List.lookup] at hy
  split at hy
  · rename_i q
    exact ⟨eq_of_beq q, (Option.some.inj hy).symm⟩
  · cases hy
theorem exo_self {H : Hp} {a D : Addr} (e : H a = some (exo a D none)) : upd H a (exo a D none) = H := by
  funext b
  by_cases hb : b = a
  · rw [hb, upd_same, e]
  · rw [upd_ne hb]
theorem fn_err {N ps : List Str} {sp : Sp} {name qual : Str} {params : Arguments} {scope : Scope} {rest : List Stmt} {p0 p1 p2 p3 p4 : Pos} {e : Expr} {es : List Expr} {ar : Arg} {dV kV doc pm ct oc : Value} {an od : Option Addr} {osl : Array (Option Value)} (T : ErrK P K mg D cc cda)
    (lk : K.lookup f = some ⟨oc, od, .func (PySem.W.fnX name qual params (supS p0 p1 p2 p3 p4 e es :: rest) scope [("__class__", cc)] dV kV doc pm an (.ref cda) ct), osl⟩) (hcd : PySem.W.codeIn K (.ref cda) qual = true)
    (S : NScope N ps ["__class__"] scope) (hp : (params.posonlyargs ++ params.args).head? = some ar) (hps : ps[0]? = some ar.arg) (hks : scope.names.lookup ("super" : Str) = some .globalImplicit)
    (len : ∀ vs H Q E, sp vs H Q E → vs.length = ps.length)
    (hbody : ∀ (A : Around) (outer : List Env) (s : Shared) (H : Hp) (vs : List V) (Q : VK) (E : XK), Room k (A.deeper (envF (supF name qual params (supS p0 p1 p2 p3 p4 e es :: rest) scope cc cda) f s.heap.objs.size)) → sp vs H Q E →
      ∃ (a : Addr) (ta : TA) (t : TS), vs[0]? = some (.ref a) ∧ H a = some (exo a D none) ∧
        PA (ncx CX P w K mg base N (supF name qual params (supS p0 p1 p2 p3 p4 e es :: rest) scope cc cda) f A outer s H E) (e :: es) ta ∧
        PSs (ncx CX P w K mg base N (supF name qual params (supS p0 p1 p2 p3 p4 e es :: rest) scope cc cda) f A outer s H E) rest t ∧
        ta (startF N vs [none]) H fun ws H1 => ws.length ≤ 1000 ∧ H1 a = some (exo a D none) ∧ t { nx := fun _ H' => Q .non H', rt := Q } (startF N vs [none]) H1)
    (he : ∀ env : Env, starEach (e :: es) env = (false, eval e env) :: starEach es env := by intro _; rfl) (hpl : ∀ env : Env, (backTo p3 (starEach es env)).any (·.1) = false := by intro _; rfl) {pl : Sem Bool}
    (hev : ∀ env : Env, eval (.Call (.Attribute (.Call (.Name "super" p0) [] [] p1) "__init__" p2) (e :: es) [] p3) env = (do
      let ov ← attributeBase (.Call (.Name "super" p0) [] [] p1) "__init__" env (eval (.Call (.Name "super" p0) [] [] p1) env)
      standAt p2.atName
      let (f, first) ← holding [ov] (getMethod ov "__init__" pl)
      callWith p3 f first (backTo p3 (starEach (e :: es) env)) []) := by intro _; rfl) :
    FnOk P w K mg base CX (k + 1) f (PySem.W.fnX name qual params (supS p0 p1 p2 p3 p4 e es :: rest) scope [("__class__", cc)] dV kV doc pm an (.ref cda) ct) ps sp := by
  refine ⟨len, fun A outer s H args us vs Q E hr e0 hb r hsp => ?_⟩
  have hl := len _ _ _ _ hsp
  have kpb : ∀ b o, base.get? b = some o → s.heap.get? b = some o := fun b o e => (e0.bs b o e).1
  have KX : K.In s.heap := e0.mod.kin.keeps kpb
  have lim : s.heap.NoLimit := e0.mod.nolimit.keeps kpb
  obtain ⟨cl, cld, csl, hcell⟩ := T.cell
  obtain ⟨ccl, cdd, cvs, ccs, file, tf, hcode, hvs, hfile⟩ := T.code
  have hcc : H cc = none := (e0.bs _ _ (e0.mod.kin _ _ hcell)).2
  refine PySem.ks_codeAny_call_defAt (binds := ps.zip us) hr.depth (KX _ _ lk) rfl lim (PySem.W.codeRec_of KX hcd) rfl hb S.nocell (fun ⟨n, _⟩ hy => S.par n (List.of_mem_zip hy).1) (fun h₁ hns kp => ?_) S.co S.gen S.kind
  show PySem.wpAt (model P w) (A.deeper (envF (supF name qual params (supS p0 p1 p2 p3 p4 e es :: rest) scope cc cda) f s.heap.objs.size)) (.func (supS p0 p1 p2 p3 p4 e es :: rest) (envF (supF name qual params (supS p0 p1 p2 p3 p4 e es :: rest) scope cc cda) f s.heap.objs.size)) (execs (supS p0 p1 p2 p3 p4 e es :: rest) (envF (supF name qual params (supS p0 p1 p2 p3 p4 e es :: rest) scope cc cda) f s.heap.objs.size)) _ _ _
  obtain ⟨a, ta, t, ea, eHa, ha, ht, hq⟩ := hbody A outer s H vs Q E (hr.deeper _) hsp
  have C : CellsAt [(("__class__" : Str), cc)] ["__class__"] [none] s.heap H := by
    refine ⟨rfl, fun y c hy => ?_, fun x y c h1 h2 => ?_, fun i y hi => ?_⟩
    · obtain ⟨rfl, rfl⟩ := one_look hy
      exact ⟨hcc, _, ⟨_, KX _ _ hcell, rfl⟩⟩
    · rw [(one_look h1).1, (one_look h2).1]
    · have : y = "__class__" ∧ i = 0 := by
        cases i with
        | zero => exact ⟨(Option.some.inj hi).symm, rfl⟩
        | succ i => simp at hi
      obtain ⟨rfl, rfl⟩ := this
      exact ⟨cc, by simp [List.lookup], fun v hv => by cases hv⟩
  have I := inv_startN (CX := CX) (E := E) (F := supF name qual params (supS p0 p1 p2 p3 p4 e es :: rest) scope cc cda) (f := f) (tk := s.toks + (ps.zip us).length) S hr.hd e0 hl r C hns kp
  have kc : (envF (supF name qual params (supS p0 p1 p2 p3 p4 e es :: rest) scope cc cda) f s.heap.objs.size).kindOf "__class__" = some .free := S.frk _ List.mem_cons_self
  obtain ⟨nm, qq, NN, bs, bm, sn, sub, ab, col, dd, k0, k1, k2, k3, k5, hC, hbm⟩ := T.oex.cls
  have hcl : PySem.W.clsIn K D = some { name := nm, bases := bs, mro := .ref D :: bm, ns := NN, qualname := qq, hasDict := true, slotNames := sn, subclasses := sub, abstract := ab, collection := col, hasDel := false } := by unfold PySem.W.clsIn; rw [hC] <;> rfl
  have K1 : K.In h₁ := KX.keeps kp
  obtain ⟨t1, hoa⟩ := exo_at I.hok eHa
  have hoa : h₁.get? a = some ({ cls := .ref D, dict := none, data := .fields #[.ref t1, .none, .none, .none, .bool false, .none] } : Obj) := hoa
  have IA : PySem.W.InstAt h₁ a { cls := .ref D, dict := none, data := .fields #[.ref t1, .none, .none, .none, .bool false, .none] } D none := ⟨hoa, rfl, rfl, trivial⟩
  have u0 : us[0]? = some (.ref a) := by
    obtain ⟨u, hu, ru⟩ := r.get ea
    rw [hu]
    exact congrArg some ru
  have ndP : ps.Nodup := by
    have q := S.nd.sublist (List.take_sublist (ps.length + (["__class__"] : List Str).length) N)
    rw [S.pre] at q
    exact (List.nodup_append.mp q).1
  have hself : (fun y => (ps.zip us).reverse.lookup y) ar.arg = some (.ref a) := zip_look ndP hps u0
  refine PySem.ks_wpAt_execs_cons (PySem.ks_wpAt_Expr_any (PySem.ks_wpAt_MethodCall (pl := pl) ?_ (hev _)) ?hi)
  case hi =>
    unfold interactive
    simp [S.kind]
  refine PySem.ks_wpAt_super_base hks kc (by decide) rfl (kp _ _ (KX _ _ lk)) rfl hp rfl (kp _ _ (KX _ _ hcode)) rfl hvs hfile T.top ?_
  obtain ⟨mb, b1, b2⟩ := I.mod.blt
  refine PySem.W.ks_loadName_global S.kind hks (Calls.loadGlobal_builtin (show Heap.Ns _ mainGlobals mg from I.mod.glob.keeps I.bk) T.mgs (show Heap.Ns _ builtinsNs mb from b1.keeps I.bk) ((b2 "super" (by decide)).trans PyProof.Rows.Boot.«super») ⟨rfl, ?_⟩)
  refine wpAny_loadName_free S.kind kc rfl ⟨_, kp _ _ (KX _ _ hcell), rfl⟩ ?_
  refine wpAny_loadName_local S.kind (S.par _ (List.mem_of_getElem? hps)) hns hself ?_
  refine PySem.ks_wpAny_isType_cls (K1 _ _ hC) rfl ⟨rfl, ?_⟩
  refine PySem.ks_wpAny_call_super (K1 _ _ hC) rfl hoa rfl (fun c z => nomatch z) (PySem.W.looks_mroIn K1 T.self) (fun h2 e2 kk2 => ?_)
  have K2 : K.In h2 := K1.keeps kk2
  have hm := T.sup
  unfold PySem.W.ks_superIn at hm
  rw [hcl] at hm
  have IA2 : PySem.W.InstAt h2 a { cls := .ref D, dict := none, data := .fields #[.ref t1, .none, .none, .none, .bool false, .none] } D none := ⟨kk2 _ _ hoa, rfl, rfl, trivial⟩
  refine PySem.W.kxs_getMethod PySem.W.kxs_ValueError e2 (PySem.W.looks_opaque K2 T.opq) (l₀ := .ref D :: bm) (fun A Q E s k q => wpAny_bind ((PySem.W.looks_clsIn K2 hcl) A _ E s k (wpAny_pure q))) rfl K2 hm (IA2.type.andThen (PySem.W.looks_subIn K2 T.ve)) (PySem.W.ks_ne K2 IA2 hcl) (by decide) ?_
  have nu : H h2.objs.size = none := (I.kept (h' := h2) (t' := s.toks + (ps.zip us).length) kk2).hok.fresh (Nat.le_refl _)
  have I2 : Inv (ncx CX P w K mg base N (supF name qual params (supS p0 p1 p2 p3 p4 e es :: rest) scope cc cda) f A outer s H E) [] (startF N vs [none]) H { heap := h2, gens := s.gens, drawn := s.drawn, toks := s.toks + (ps.zip us).length, os := s.os } := I.kept kk2
  have hmw : (h2.push (PySem.W.kxs_mw "ValueError.__init__" a)).get? h2.objs.size = some (PySem.W.kxs_mw "ValueError.__init__" a) := Heap.get?_push_at rfl rfl
  have I3 : Inv (ncx CX P w K mg base N (supF name qual params (supS p0 p1 p2 p3 p4 e es :: rest) scope cc cda) f A outer s H E) [] (startF N vs [none]) H { heap := h2.push (PySem.W.kxs_mw "ValueError.__init__" a), gens := s.gens, drawn := s.drawn, toks := s.toks + (ps.zip us).length + 1, os := s.os } := I2.kept fun _ _ z => Heap.get?_push_of_some _ z
  have F2 := I2.fpOk (Nat.le_refl _) nu
  have I4 := I3.pinned (fp := [h2.objs.size]) (fun b hb => by rw [List.mem_singleton.mp hb]; exact F2) (fun b hb => by rw [List.mem_singleton.mp hb]; exact ⟨_, hmw, fun v z => nomatch z⟩)
  show wpAny _ _ (callWith p3 (.ref h2.objs.size) [] (backTo p3 (starEach (e :: es) _)) []) _ _ _
  refine PySem.W.kxs_callWith (i := "ValueError.__init__") (x := a) (by rw [he]; show (false || (backTo p3 (starEach es _)).any (·.1)) = false; rw [hpl]; rfl) ?_
  have run := ha.run p3 _ _ (startF N vs [none]) H _ I4 hq
  rw [he] at run ⊢
  refine Calls.evalArgs_plain (thn run fun ws s5 ⟨zs, H5, I5, r5, lz, e5, q5⟩ => ?_)
  have hu5 : s5.heap.get? h2.objs.size = some (PySem.W.kxs_mw "ValueError.__init__" a) := (I5.pin (h2.objs.size, PySem.W.kxs_mw "ValueError.__init__" a) (List.mem_append_right _ (List.mem_append_right _ (mem_pinsAt List.mem_cons_self hmw)))).1
  refine ⟨hu5, ?_⟩
  obtain ⟨t5, ho5⟩ := exo_at I5.hok e5
  have K5 := I5.kIn
  have lw : ws.length ≤ sizeLine := by
    rw [← Paired.length r5]
    exact Nat.le_of_lt (small1000 lz)
  refine wpAny_call (codeAny_of_tree ?_)
  show wpAny _ _ (callAny (.ref h2.objs.size) ⟨ws, []⟩) _ _ _
  simp only [callAny]
  obtain ⟨hh, g5, d5, tk5, os5⟩ := s5
  refine wpAny_bind (wpAny_load hu5 ?_)
  simp only [PySem.W.kxs_mw, show (Value.type "method-wrapper" == Value.type "method" || Value.type "method-wrapper" == Value.type "builtin_function_or_method" || Value.type "method-wrapper" == Value.type "method-wrapper") = true by decide, if_true]
  refine PySem.W.KFB.if_so (by decide) ?_
  refine wpAny_bind (PySem.W.check_bound_init F.excBase_ValueError.toExcCallFacts (K5 _ _ hC) ho5 rfl ?_)
  refine wpAny_bind (wpAny_pure (wpAny_pure ?_))
  refine ⟨plainId_quiet F.excBase_ValueError.init.plain _, codeAny_builtin F.excBase_ValueError.initEntry ?_⟩
  refine PySem.W.exc_init_tree (cls := .ref D) (t0 := t5) (dv := none) (c2 := .none) (c3 := .none) (b4 := .bool false) ho5 lw (fun h6 k6 e6 _ => ?_)
  have J := I5.write (t' := tk5) (h' := h6) (x := a) (e := a) (o := exo a D none) (by rw [e5]; exact True.intro) (.inl rfl) k6 ⟨_, e6⟩ (exo_ok e6)
  rw [exo_self e5] at J
  have J := J.unpinned
  refine PySem.wpAt_of_wpAny ?_
  refine wpAny_mono (ht.run [] _ (startF N vs [none]) H5 _ J q5) (fun fl s' hs => ?_) fun e s' hs => hs
  have fin : ∀ {σ' : L2.St} {H' : Hp} {v : V} {u : Value}, Inv (ncx CX P w K mg base N (supF name qual params (supS p0 p1 p2 p3 p4 e es :: rest) scope cc cda) f A outer s H E) [] σ' H' s' → L2.RelV v u → Q v H' → CE outer P w H s Q u s' :=
    fun {σ' H' v u} J rv q => ⟨v, H', J.os, J.bare, J.base, J.hok, rv, q⟩
  cases fl with
  | ret u =>
    obtain ⟨v, σ', H', J, rv, q⟩ := hs
    exact fin J rv q
  | next =>
    obtain ⟨σ', H', J, q⟩ := hs
    exact fin (v := V.non) (u := Value.none) J rfl q
  | brk =>
    obtain ⟨_, _, _, q⟩ := hs
    exact False.elim q
  | cont =>
    obtain ⟨_, _, _, q⟩ := hs
    exact False.elim q
end
end Own

/-! The promise of an own error's __init__; raising it. -/
namespace Own
open PySem PySem.Spec PyProof.Rows L2 NdefX
/-- an int that is written in a text -/
def Shw (v : V) : Prop := ∃ i : Int, v = .int i ∧ i.natAbs.log2 < 1000
theorem log_lt {i : Int} {k : Nat} (hk : 0 < k) (h : i.natAbs < 2 ^ k) : i.natAbs.log2 < k := by
  by_cases h0 : i.natAbs = 0
  · rw [h0, Nat.log2_zero]
    exact hk
  · exact (Nat.log2_lt h0).mpr h
theorem Shw.of {i : Int} (h0 : -(2 ^ 64) < i) (h1 : i < 2 ^ 64) : Shw (.int i) := ⟨i, rfl, Nat.lt_of_lt_of_le (log_lt (k := 64) (by decide) (by omega)) (by decide)⟩
theorem txt_len {i : Int} (h : i.natAbs.log2 < 1000) : (Str.ofString (toString i)).length ≤ 1001 := by
  rw [PySem.ofString_length]
  exact int_text_length_le (by decide) h
/-- the error's own dict by its fields -/
def flE (nm : List Str) (ys : List V) : List (Str × V) := (nm.zip ys).reverse
def spErr (D : Addr) (nm : List Str) : Sp := fun vs H Q _ => ∃ (a : Addr) (ys : List V), vs = .ref a :: ys ∧ ys.length = nm.length ∧ (∀ y ∈ ys, Shw y) ∧ H a = some (exo a D none) ∧
  ∀ d H', H d = none → d ≠ a → (∀ b, H' b = if b = d then some (exd d (flE nm ys)) else if b = a then some (exo a D (some d)) else H b) → Q .non H'
/-- what the class must say besides, that its instances can be raised -/
structure ErrT (K : PySem.W.Frag) (mg : Str → Option Value) (x : Str) (D f : Addr) : Prop where
  g : mg x = some (.ref D)
  i : PySem.W.findIn K (.ref D) "__init__" = some (some (.ref f))
  t : PySem.W.typeIn K (.ref f) = some (.type "function")
section
variable {P : Program} {w : World} {K : PySem.W.Frag} {mg : Str → Option Value} {base : Heap} {X : Cx}
/-- the reading of X(..) that is raised -/
theorem rd_err {D : Addr} {nm : List Str} {ys : List V} {H : Hp} {Q : XK} (hl : ys.length = nm.length) (hz : nm.length ≤ 1000) (hs : ∀ y ∈ ys, Shw y) (q : ∀ d, H d = none → Q (.ref D) (some d) (upd H d (.xd (flE nm ys)))) :
    ys.length ≤ 1000 ∧ ∀ a, H a = none → spErr D nm (.ref a :: (ys ++ [])) (upd H a (exo a D none)) (fun v H2 => v = .non ∧ ∃ (d : Addr) (fs : List (Str × V)), H2 a = some (exo a D (some d)) ∧ H2 d = some (exd d fs) ∧ H d = none ∧ Q (.ref D) (some d) (upd (del H2 a) d (.xd fs))) (fun _ _ _ => False) := by
  refine ⟨by omega, fun a na => ⟨a, ys, by rw [List.append_nil], hl, hs, upd_same, fun d H' nd ne h => ⟨rfl, d, flE nm ys, ?_, ?_, ?_, ?_⟩⟩⟩
  · rw [h, if_neg ne.symm, if_pos rfl]
  · rw [h, if_pos rfl]
  · rw [upd_ne ne] at nd
    exact nd
  · have : upd (del H' a) d (.xd (flE nm ys)) = upd H d (.xd (flE nm ys)) := by
      funext b
      by_cases hb : b = d
      · rw [hb, upd_same, upd_same]
      · rw [upd_ne hb, upd_ne hb]
        by_cases ha : b = a
        · rw [ha, del_same, na]
        · rw [del_ne ha, h, if_neg hb, if_neg ha, upd_ne ha]
    rw [this]
    rw [upd_ne ne] at nd
    exact q d nd
/-- raise X(e, ..) -/
theorem ps_err {W : WX} {x : Str} {D f : Addr} {k : Nat} {fd : FuncData} {ps nm : List Str} {e : Expr} {es : List Expr} {ta : TA} {p pos pos' : Pos} (hc : X.calm = true) (tk : Takes X W) (T : OexC X.K D) (R : ErrT X.K X.mg x D f) (F1 : FnOk X.prog X.w X.K X.mg X.base CX0 k f fd ps (spErr D nm)) (hr : Room (k + 1) X.A)
    (hb : Binds X.K fd ps []) (hg : Gl X x) (ha : PA X (e :: es) ta) (hdb : (x == ("__debug__" : Str)) = false := by decide) (he : starEach (e :: es) X.env = (false, eval e X.env) :: starEach es X.env := by rfl) (hpl : (backTo pos (starEach es X.env)).any (·.1) = false := by rfl) :
    PS X (.Raise (some (.Call (.Name x p) (e :: es) [] pos)) none pos') (fun _ σ H => tMkO D (spErr D nm) [] ta σ H fun cls d H' => W cls d σ H') :=
  ps_raise hc tk (pmk_oex T R.i R.t F1 hr hb .nil pass0 hg R.g ha hdb he hpl)
end
/-- the text of an error's __init__ -/
abbrev inErr (st : Stmt) : Stmt := inClass st 0
section
variable {P : Program} {w : World} {K : PySem.W.Frag} {mg : Str → Option Value} {base : Heap} {D cc cda f : Addr}
theorem upd2 {H : Hp} {a d : Addr} {o u : HO} (b : Addr) (ne : d ≠ a) : (upd (upd H d o) a u) b = if b = d then some o else if b = a then some u else H b := by
  by_cases hb : b = d
  · rw [if_pos hb, hb, upd_ne ne, upd_same]
  · rw [if_neg hb]
    by_cases ha : b = a
    · rw [if_pos ha, ha, upd_same]
    · rw [if_neg ha, upd_ne ha, upd_ne hb]
end
end Own

/-! More rules: list.count of data, the operator in by an own class, isinstance of a caught error that has fields. -/
namespace Own
open PySem PySem.Spec PyProof.Rows L2
section
variable {X : Cx}
/-- xs.count(x), items that are plain data: some number -/
def rCntD (K : PySem.W.Frag) : V → List V → Hp → VK → Prop := fun x xs H Q => ∃ (a : Addr) (y : V) (d : PyData) (ds : List PyData), x = V.ref a ∧ xs = [y] ∧ Dp K H (V.ref a) (.list ds) ∧ Dp K H y d ∧ PyData.plainAll ds = true ∧ d.plain = true ∧ d.depth ≤ 60 ∧ ∀ n : Nat, Q (.int (n : Int)) H
theorem mt_lcountD (room : X.A.units + 65 < cLine) : MtR X "list.count" (rCntD X.K) := by
  intro pins s σ H whole args u us Q inv rw_ ra ask
  obtain ⟨a, y, d, ds, rfl, rfl, lis, one, pl, pd, few, q⟩ := ask
  cases rw_
  obtain ⟨w, rfl, rw1⟩ := vals1 ra
  obtain ⟨bs, rd⟩ := Dp.reads inv d y w one rw1
  cases lis with
  | lst seq all =>
    obtain ⟨its, vals, obj, _⟩ := inv.list seq
    obtain ⟨as, rds⟩ := Dp.readsAll inv ds _ its all vals
    refine PySem.SeqAt.count_list_data obj.isList rds rd pl pd (by omega) ?_
    exact ⟨.int (_ : Nat), H, inv.tok _, ⟨_, rfl⟩, q _⟩
/-- x in o, o of an own class with its own rule for it -/
def tOwnIn (C : Addr) (sp : Sp) (E : L2.St → XK) (ta tb : TE) : TE := fun σ H Q => ta σ H fun x H1 => tb σ H1 fun y H2 => ∃ a dx fs, y = .ref a ∧ H2 a = some (.ins C dx fs) ∧ sp [.ref a, x] H2 (fun v H3 => ∃ b, v = .bl b ∧ Q (.bl b) H3) (E σ)
theorem pe_ownIn {CX : CXT} {k : Nat} {C g : Addr} {fd : FuncData} {ps : List Str} {sp : Sp} {E : L2.St → XK} {a b : Expr} {ta tb : TE} {pos : Pos} (hs : PySem.W.findIn X.K (.ref C) "__contains__" = some (some (.ref g))) (hf : PySem.W.isFn X.K (.ref g) = true)
    (F : FnOk X.prog X.w X.K X.mg X.base CX k g fd ps sp) (hr : Room k X.A) (hb : Binds X.K fd ps []) (hx : ∀ σ, PassesAt CX X σ (E σ)) (ha : PE X a ta) (hb' : PE X b tb) (hm : behindInMarks .In b = false := by rfl) : PE X (.Compare a [.In] [b] pos) (tOwnIn C sp E ta tb) := by
  refine ⟨fun pins s σ H Q I h => ?_⟩
  refine wpAny_Compare1 (binT (R := fun x y H2 => ∃ a dx fs, y = .ref a ∧ H2 a = some (.ins C dx fs) ∧ sp [.ref a, x] H2 (fun v H3 => ∃ b, v = .bl b ∧ Q (.bl b) H3) (E σ)) ha hb' I h fun v u s2 x y H2 I2 rx ry q => ?_) hm
  obtain ⟨p, dx, fs, rfl, hp, q⟩ := q
  cases (show u = Value.ref p from ry)
  obtain ⟨mA, O, _, _, _, _⟩ := ins_get I2.hok hp
  obtain ⟨od, J, _⟩ := O.look
  obtain ⟨m, hF⟩ := I2.fr
  refine PySem.W.in_K hF I2.ok.mod.kin J hs hf ?_
  refine wpAny_mono (run_fnS (us := [.ref p, v]) (vs := [.ref p, x]) F hr hb (hx σ) I2 (.cons rfl (.cons rx .nil)) q) (fun w s' z => ?_) fun _ _ x => x
  obtain ⟨z', H', I', rz, b, rfl, qz⟩ := z
  cases rz
  exact wpAny_truthy_bool ⟨.bl b, H', I', rfl, qz⟩
end
end Own
namespace Own
open PySem PySem.Spec PyProof.Rows L2
/-- isinstance(e, c), e the caught error of the class D, its dict at d -/
def rIsD (K : PySem.W.Frag) (D a d : Addr) : List V → Hp → VK → Prop := fun xs H Q => ∃ (c : V) (cv : Value) (b : Bool) (fs : List (Str × V)), xs = [.ref a, c] ∧ H d = some (.xd fs) ∧ (∀ u, RelV c u → u = cv) ∧ PySem.W.kitOne K (.ref D) cv = some b ∧ Q (.bl b) H
theorem call_isD {X : Cx} {a D d : Addr} {oe : Obj} {pn : List (Addr × Obj)} (C : ExcC X.K D) (hz : Zc (.ref D) (some d) oe) (hf : ∃ vs, oe.data = .fields vs) : CallR (X.suite a ((a, oe) :: pn)) (.builtin "isinstance") (rIsD X.K D a d) := by
  intro pins s σ H xs us Q I r h
  obtain ⟨c, cv, b, fs, rfl, hd, hcv, e, q⟩ := h
  cases r with
  | cons rx rr =>
    cases rr with
    | cons rt rr =>
      cases rr
      cases rx
      have ec := hcv _ rt
      subst ec
      obtain ⟨hget, _⟩ := I.pin (a, oe) (List.mem_append.mpr (.inl List.mem_cons_self))
      obtain ⟨vs, hv⟩ := hf
      have hx : ObjOk X.prog X.w H s.heap d (.xd fs) := I.hok d _ hd
      obtain ⟨mA, hns, _⟩ := hx
      obtain ⟨od, ho, _⟩ := lookIn_ns hns
      have J : PySem.W.InstAt s.heap a oe D (some od) := ⟨hget, hz.1, by unfold PySem.W.notCls; rw [hv] <;> rfl, by rw [hz.2]; exact ho⟩
      exact PySem.W.kia_one (PySem.W.kitx_exc (ox := oe) (od := some od) (by obtain ⟨cd, hc, _⟩ := PySem.W.any_some C.hd; rw [hc]; rfl) C.hg C.hk C.hs C.ha C.hn C.ht C.hm) I.kIn J e (fun z => nomatch z) fun tk => ⟨.bl b, H, I.kept (t' := tk) fun _ _ z => z, rfl, q⟩
end Own

/-! Own errors raised where nothing is handled (their context is None), so that defs may be called where they are caught. -/
namespace Own
open PySem PySem.Spec PyProof.Rows L2 NdefX
section
variable {X : Cx} {pins : List (Addr × Obj)} {σ : L2.St} {H : Hp} {s : Shared} {Q : XK} {D f : Addr} {k : Nat} {fd : FuncData} {ps nm : List Str} {ys : List V} {us : List Value} {x : Str}
/-- the call of the class -/
theorem err_made (T : OexC X.K D) (R : ErrT X.K X.mg x D f) (F1 : FnOk X.prog X.w X.K X.mg X.base CX0 k f fd ps (spErr D nm)) (hr : Room (k + 1) X.A) (hb : Binds X.K fd ps []) (I : Inv X pins σ H s) (r : Vals ys us) (hl : ys.length = nm.length) (hz : nm.length ≤ 1000)
    (hs : ∀ y ∈ ys, Shw y) (q : ∀ d, H d = none → Q (.ref D) (some d) (upd H d (.xd (flE nm ys)))) : wpAny (model X.prog X.w) X.A (call (.ref D) us) (L2N.MkP X pins σ Q) X.xe s := by
  obtain ⟨nn, qq, N, bs, bm, sn, sub, ab, col, dd, k0, k1, k2, k3, k5, hC, hbm⟩ := T.cls
  obtain ⟨hp, g, dr, tk, os⟩ := s
  -- where the error comes to stand
  have far : hp.objs.size ≤ hp.objs.size + 1 := Nat.le_succ _
  have free : H (hp.objs.size + 1) = none := I.hok.fresh far
  obtain ⟨_, ask⟩ := rd_err (D := D) hl hz hs q
  have ask := ask _ free
  rw [List.append_nil] at ask
  have old : ∀ b o, hp.get? b = some o → ((hp.push (PySem.W.kdv_tup us)).push (PySem.HandSPX.excO D hp.objs.size)).get? b = some o := fun b o e => Heap.get?_push_of_some _ (Heap.get?_push_of_some _ e)
  have here : ((hp.push (PySem.W.kdv_tup us)).push (PySem.HandSPX.excO D hp.objs.size)).get? (hp.objs.size + 1) = some (PySem.HandSPX.excO D hp.objs.size) := by heap_get
  have J : Inv X pins σ (upd H (hp.objs.size + 1) (exo (hp.objs.size + 1) D none)) ⟨(hp.push (PySem.W.kdv_tup us)).push (PySem.HandSPX.excO D hp.objs.size), g, dr, tk, os⟩ := I.laid (t' := tk) (a := hp.objs.size + 1) (o := exo (hp.objs.size + 1) D none) old far (exo_ok here)
  have vals : Vals (V.ref (hp.objs.size + 1) :: ys) (Value.ref (hp.objs.size + 1) :: us) := .cons rfl r
  have len : (Value.ref (hp.objs.size + 1) :: us).length = ps.length := by
    rw [← vals.length]
    exact F1.len _ _ _ _ ask
  have few : us.length ≤ sizeLine := by
    rw [← Paired.length r, hl]
    exact Nat.le_trans hz (by decide)
  have bind := hb _ (Value.ref (hp.objs.size + 1) :: us) J.kIn (by rw [List.append_nil]; exact len)
  rw [List.append_nil] at bind
  have run := F1.run _ X.stack _ _ ⟨Value.ref (hp.objs.size + 1) :: us, []⟩ _ _ _ (fun _ _ _ => False) (hr.make D us []) (J.env0.make D us []) bind vals ask
  refine wpAny_call (PySem.HandSPX.call_own F.excBase_ValueError (fun Y => PySem.HandSPX.refsVE_contains Y bm hbm) (I.kIn _ _ hC) (PySem.W.looks_findIn I.kIn R.i) (fun self => PySem.W.bind_fn I.kIn self R.t) few (codeAny_mono run fun res s' back => ?_))
  cases res with
  | error er => exact back.elim
  | ok fl =>
    cases fl with
    | ret u =>
      obtain ⟨v, H2, os2, bare2, un2, hok2, rv, ev, d, fs, ea, ed, hd1, q2⟩ := back
      subst ev
      obtain ⟨h2, g2, d2, t2, os'⟩ := s'
      obtain ⟨t0, G, K1, kG, ge, hoe, na⟩ := mk_end0 (d2 := d2) (t2 := t2) I far old un2 hok2 os2 bare2 ea ed hd1
      exact ⟨rv, hp.objs.size + 1, _, _, ⟨G, g2, d2, t2, os'⟩, _, .ref D, some d, rfl, K1, kG, ge, hoe, ⟨rfl, rfl, fun vs e => by cases e; rfl⟩, rfl, rfl, na, rfl, bare2, raises_own T.exC T.tyC, q2⟩
    | next => exact back.elim
    | brk => exact back.elim
    | cont => exact back.elim
end
/-- raise X(e, ..): the fields are shown -/
def tErr (D : Addr) (nm : List Str) (ta : TA) : L2.St → Hp → XK → Prop := fun σ H Q => ta σ H fun ys H1 => ys.length = nm.length ∧ nm.length ≤ 1000 ∧ (∀ y ∈ ys, Shw y) ∧ ∀ d, H1 d = none → Q (.ref D) (some d) (upd H1 d (.xd (flE nm ys)))
section
variable {X : Cx} {W : WX} {x : Str} {D f : Addr} {k : Nat} {fd : FuncData} {ps nm : List Str} {e : Expr} {es : List Expr} {ta : TA} {p pos pos' : Pos}
theorem pmk_err (T : OexC X.K D) (R : ErrT X.K X.mg x D f) (F1 : FnOk X.prog X.w X.K X.mg X.base CX0 k f fd ps (spErr D nm)) (hr : Room (k + 1) X.A) (hb : Binds X.K fd ps []) (hg : Gl X x) (ha : PA X (e :: es) ta)
    (hdb : (x == ("__debug__" : Str)) = false := by decide)
    (he : starEach (e :: es) X.env = (false, eval e X.env) :: starEach es X.env := by rfl)
    (hpl : (backTo pos (starEach es X.env)).any (·.1) = false := by rfl) :
    L2N.PMk X (.Call (.Name x p) (e :: es) [] pos) (tErr D nm ta) := by
  intro pins s σ H Q I h
  refine wpAny_Call_Name_kw (ld_glob I hg R.g ?_ hdb)
  refine PySem.W.callWith_K (h₀ := X.base) I.ok.mod.kin T.kC (thn (ha.run pos pins s σ H _ I h) fun us s1 ⟨ys, H1, I1, r, hl, hz, hs, q⟩ => ⟨I1.kIn, ?_⟩) he hpl
  exact err_made T R F1 hr hb I1 r hl hz hs q
theorem ps_errN (hc : X.calm = true) (tk : L2N.Takes X W) (T : OexC X.K D) (R : ErrT X.K X.mg x D f) (F1 : FnOk X.prog X.w X.K X.mg X.base CX0 k f fd ps (spErr D nm)) (hr : Room (k + 1) X.A) (hb : Binds X.K fd ps []) (hg : Gl X x) (ha : PA X (e :: es) ta)
    (hdb : (x == ("__debug__" : Str)) = false := by decide)
    (he : starEach (e :: es) X.env = (false, eval e X.env) :: starEach es X.env := by rfl)
    (hpl : (backTo pos (starEach es X.env)).any (·.1) = false := by rfl) :
    PS X (.Raise (some (.Call (.Name x p) (e :: es) [] pos)) none pos') (fun _ σ H => tErr D nm ta σ H fun cls d H' => W cls d σ H') :=
  L2N.ps_raise hc tk (pmk_err T R F1 hr hb hg ha hdb he hpl)
/-- nothing is let out -/
theorem passN : Passes (L2N.CX X.prog X.w) X E0 := fun _ _ _ _ _ _ _ ⟨_, _, _, _, _, _, _, _, _, _, _, _, z⟩ => z.elim
theorem takesN : L2N.Takes X (fun _ _ _ _ => False) := fun _ _ ⟨_, _, _, _, _, _, _, _, _, _, _, _, _, _, _, _, z⟩ => z.elim
theorem pass0A {σ : L2.St} : PassesAt CX0 X σ E0 := fun pins H s e s' I h => pass0 pins σ H s e s' I h
end
section
variable {P : Program} {w : World} {K : PySem.W.Frag} {mg : Str → Option Value} {base : Heap}
/-- a def that may raise, by its body -/
theorem okN {x qual : Str} {st : Stmt} {f : Addr} {fd : FuncData} {N ps : List Str} {k : Nat} {sp : Sp} (F : Fun K x qual st f fd) (S : FnScope N ps (defScope st)) (len : ∀ vs H Q E, sp vs H Q E → vs.length = ps.length)
    (hbody : ∀ (cdv : Value) (A : Around) (outer : List Env) (s : Shared) (H : Hp) (vs : List V) (Q : VK) (E : XK), Room k (A.deeper (envOfC qual (defScope st) s.heap.objs.size f cdv)) → sp vs H Q E →
      ∃ t, PSs (cxOf (L2N.CX P w) P w K mg base N qual (defScope st) f cdv A outer s H E) (defBody st) t ∧ t { nx := fun _ H' => Q .non H', rt := Q } (start N vs) H) : FnOk P w K mg base (L2N.CX P w) (k + 1) f fd ps sp := by
  obtain ⟨_, _, _, _, _, _, cdv, _, _, rfl, lk, hcd⟩ := F.ex
  exact fn_of lk hcd S len (hbody cdv)
/-- a def called where an error is handled, by its body; it raises nothing -/
theorem okH {x qual : Str} {st : Stmt} {f : Addr} {fd : FuncData} {N ps : List Str} {k : Nat} {sp : Sp} (F : Fun K x qual st f fd) (S : FnScope N ps (defScope st)) (len : ∀ vs H Q E, sp vs H Q E → vs.length = ps.length)
    (hbody : ∀ (cdv : Value) (A : Around) (outer : List Env) (s : Shared) (H : Hp) (vs : List V) (Q : VK) (E : XK) (p : Addr × Obj), L2H.HotC (L2H.cxH CX0 P w K mg base N qual (defScope st) f cdv A outer s H E p).nox → L2H.RoomH k (A.deeper (envOfC qual (defScope st) s.heap.objs.size f cdv)) → sp vs H Q E →
      ∃ t, PSs (L2H.cxH CX0 P w K mg base N qual (defScope st) f cdv A outer s H E p).nox (defBody st) t ∧ t { nx := fun _ H' => Q .non H', rt := Q } (start N vs) H) : L2H.FnH P w K mg base CX0 (k + 1) f fd ps sp := by
  obtain ⟨_, _, _, _, _, _, cdv, _, _, rfl, lk, hcd⟩ := F.ex
  refine L2H.fn_ofH lk hcd S len fun A outer s H vs Q E p hot hr h => ?_
  obtain ⟨t, ht, q⟩ := hbody cdv A outer s H vs Q E p ⟨p, hot, List.mem_cons_self⟩ hr h
  exact ⟨t, ht.nox, q⟩
end
/-- isinstance(e, c), e the caught error -/
def rIsX (K : PySem.W.Frag) (D a : Addr) (cls : Value) (d : Option Addr) : List V → Hp → VK → Prop := fun xs H Q => cls = .ref D ∧ ∃ (dd : Addr) (c : V) (cv : Value) (b : Bool) (fs : List (Str × V)), d = some dd ∧ xs = [.ref a, c] ∧ H dd = some (.xd fs) ∧ (∀ u, RelV c u → u = cv) ∧ PySem.W.kitOne K (.ref D) cv = some b ∧ Q (.bl b) H
theorem call_isX {X : Cx} {a D : Addr} {oe : Obj} {cls : Value} {d : Option Addr} {pn : List (Addr × Obj)} (C : ExcC X.K D) (hz : Zc cls d oe) (hf : ∃ vs, oe.data = .fields vs) : CallR (X.suite a ((a, oe) :: pn)) (.builtin "isinstance") (rIsX X.K D a cls d) := by
  intro pins s σ H xs us Q I r h
  obtain ⟨ec, dd, c, cv, b, fs, ed, ex, hd, hcv, e, q⟩ := h
  subst ec ed
  exact call_isD C hz hf pins s σ H xs us Q I r ⟨c, cv, b, fs, ex, hd, hcv, e, q⟩
/-- the suite's context bears the handled error -/
theorem hotS {X : Cx} {a : Addr} {oe : Obj} {cls : Value} {d : Option Addr} {pn : List (Addr × Obj)} (hz : L2N.Zn cls d oe) (hf : ∃ vs, oe.data = .fields vs) : L2H.HotC (X.suite a ((a, oe) :: pn)) := by
  obtain ⟨vs, e⟩ := hf
  exact ⟨(a, oe), ⟨rfl, vs, e, hz.2.2 vs e⟩, List.mem_cons_self⟩
end Own

/-! What a value looks like in an error's text, whatever is under way: some text of bounded length. -/
namespace Own
open PySem PySem.Spec PyProof.Rows L2
section
variable {prog : Program} {w : World} {A : Around} {E : Value → Shared → Prop} {s : Shared} {a : Addr} {oa : Obj} {x : Value} {l : List Value} {na : Nat} {ts : List Str}
/-- repr of a list of plain things -/
theorem shown_list {Q : Value → Shared → Prop} (hTy : s.TypeIs (.ref a) "list") (ha : s.heap.get? a = some oa) (hda : oa.data = .seq (x :: l).toArray na) (hlen : ts.length = (x :: l).toArray.size)
    (hT : ∀ (i : Nat) (y : Value), (x :: l).toArray[i]? = some y → ∃ t, ts[i]? = some t ∧ ReprIs prog w y t) (hsz : (listText ts).length ≤ sizeLine)
    (hQ : ∀ h' m u tk, (∀ b o, s.heap.get? b = some o → h'.get? b = some o) → m.length ≤ (listText ts).length + 5 → Q (.str m u) { s with heap := h', toks := tk }) : wpAny (model prog w) A (call (.builtin "list.__repr__") [.ref a]) Q E s := by
  refine wpAny_call (codeAny_call_builtin F.slot_list_repr.plain F.entry_list_repr (F.slot_list_repr.check _ _ _ _ _ _ _ _ hTy (F.args_list_repr_1 _) ?_))
  show wpAny _ _ (Builtin.listReprAt 0 ⟨[.ref a], []⟩) _ _ s
  unfold Builtin.listReprAt
  refine wpAny_bind (wpAny_of_eq (a := ((Value.ref a : Value), ([] : List Value))) (by first | rfl | (simp only [slotArgs]; rfl)) ?_)
  refine wpAny_bind (wpAny_listItems ha hda ?_)
  rw [if_neg (by simp)]
  refine wpAny_bind (wpAny_stack_any fun st => ?_)
  generalize (st.tail.any fun x => match x with
    | (.builtin "list.__repr__.loop" ⟨v :: _, _⟩, _) => Builtin.List.listSameRef v (.ref a)
    | _ => false) = running
  show wpAny _ _ (if running = true then _ else _) _ _ _
  cases running with
  | true =>
    refine PySem.W.KFB.if_so rfl ?_
    refine wpAny_bind (wpAny_rule ?_)
    refine wpAny_bind (wpAny_mkStr (wpAny_pure ?_) (by decide +kernel))
    exact hQ s.heap _ _ _ (fun _ _ e => e) (Nat.le_trans (show ("[...]" : Str).length ≤ 5 by decide +kernel) (Nat.le_add_left _ _))
  | false =>
    refine PySem.W.KFB.if_not rfl ?_
    refine wpAny_bind (m := newList []) (wpAny_newObj_type ?_)
    refine wpAny_pure ⟨F.quiet_list_repr_loop _, ?_⟩
    refine codeAny_list_repr_start (P := s.heap.objs.size) (b := 0) (Nat.ne_of_lt (Heap.lt_size ha)) hlen hT (Heap.get?_push_of_some _ ha) hda (Heap.get?_push_size _ rfl) (fun h' u tk hk => ?_) (by omega)
    exact hQ h' _ u tk (fun b o e => hk b o (Nat.ne_of_lt (Heap.lt_size e)) (Heap.get?_push_of_some _ e)) (Nat.le_add_right _ _)
/-- .. as an object's text -/
theorem obj_list {Q : Value → Shared → Prop} (hu : A.units < cLine) (hTy : s.TypeIs (.ref a) "list") (ha : s.heap.get? a = some oa) (hda : oa.data = .seq (x :: l).toArray na) (hlen : ts.length = (x :: l).toArray.size)
    (hT : ∀ (i : Nat) (y : Value), (x :: l).toArray[i]? = some y → ∃ t, ts[i]? = some t ∧ ReprIs prog w y t) (hsz : (listText ts).length ≤ sizeLine)
    (hQ : ∀ h' m u tk, (∀ b o, s.heap.get? b = some o → h'.get? b = some o) → m.length ≤ (listText ts).length + 5 → Q (.str m u) { s with heap := h', toks := tk }) : wpAny (model prog w) A (pyReprObj (.ref a)) Q E s :=
  wpAny_pyReprObj_slot hu hTy F.slot_list_repr.toG (shown_list hTy ha hda hlen hT hsz fun h' m u tk k hm => ⟨m, u, rfl, hQ h' m u tk k hm⟩)
theorem obj_tuple {Q : Value → Shared → Prop} (hu : A.units < cLine) (ha : s.heap.get? a = some oa) (hc : oa.cls = .type "tuple") (hda : oa.data = .seq (x :: l).toArray na) (hT : ReprAll prog w (x :: l) ts) (hsz : (tupleText ts).length ≤ sizeLine)
    (hQ : ∀ m u tk, m.length ≤ (tupleText ts).length + 5 → Q (.str m u) { s with toks := tk }) : wpAny (model prog w) A (pyReprObj (.ref a)) Q E s :=
  wpAny_pyReprObj_slot hu ⟨oa, ha, hc⟩ F.slot_tuple_repr (fmt_tuple_repr ha hc hda hT hsz fun m u tk hm => ⟨m, u, rfl, hQ m u tk hm⟩)
end
/-- what can be written in an error's text -/
def ShoV (K : PySem.W.Frag) (H : Hp) (v : V) : Prop :=
  (∃ i : Int, v = .int i ∧ i.natAbs.log2 < 1000) ∨ (∃ b : Bool, v = .bl b) ∨ v = .non ∨ (∃ y : Str, v = .str y ∧ (reprText y).length ≤ 1000) ∨
  (∃ (p : Addr) (i : Int), v = .ref p ∧ (SqL K H p [.int i] ∨ SqT K H p [.int i]) ∧ i.natAbs.log2 < 1000)
section
variable {X : Cx}
/-- {x!r}: some text -/
def tFmtS (K : PySem.W.Frag) (te : TE) : TE := fun σ H Q => te σ H fun x H1 => ShoV K H1 x ∧ ∀ y : Str, y.length ≤ 2000 → Q (.str y) H1
theorem len_list1 (t : Str) : (listText [t]).length ≤ t.length + 2 := by
  show ((((("[" : Str) ++ (("" : String) : Str)) ++ t) ++ ("]" : Str)) : Str).length ≤ _
  rw [strLen_append, strLen_append, strLen_append]
  have h1 : ("[" : Str).length = 1 := by decide +kernel
  have h2 : ("]" : Str).length = 1 := by decide +kernel
  have h3 : ((("" : String) : Str)).length = 0 := by decide +kernel
  omega
theorem len_tuple1 (t : Str) : (tupleText [t]).length ≤ t.length + 3 := by
  show (((("(" : Str) ++ Str.join ", " [t]) ++ ((",)" : String) : Str)) : Str).length ≤ _
  rw [strLen_append, strLen_append]
  have h1 : ("(" : Str).length = 1 := by decide +kernel
  have h2 : ((",)" : String) : Str).length = 2 := by decide +kernel
  have h3 := join_length_add [t] (by simp)
  have h4 : piled [t] = t.length + 2 := by simp [piled]
  omega
theorem pe_fmtS {k : Nat} {e : Expr} {te : TE} {pos : Pos} (room : Room k X.A) (he : PE X e te) : PE X (.FormattedValue e 114 none pos) (tFmtS X.K te) := by
  refine ⟨fun pins s σ H Q inv ask => ?_⟩
  refine wpAny_FormattedValue_repr (thn (he.run pins s σ H _ inv ask) fun v s1 hv => ?_)
  obtain ⟨x, H1, I1, r1, sho, q⟩ := hv
  have room0 := room.units0
  have put : ∀ (m : Str) (t : Tok) (s2 : Shared), m.length ≤ 2000 → Inv X pins σ H1 s2 → wpAny (model X.prog X.w) X.A (formatField (.str m t) Str.empty) (EP X pins σ Q) X.xe s2 := fun m t s2 hm J =>
    wpAny_formatField_str ⟨.str m, H1, J, ⟨_, rfl⟩, q m hm⟩ ⟨.str m, H1, J.tok _, ⟨_, rfl⟩, q m hm⟩ (Nat.le_trans hm (by decide))
  rcases sho with ⟨i, rfl, hi⟩ | ⟨b, rfl⟩ | rfl | ⟨y, rfl, hy⟩ | ⟨p, i, rfl, hp, hi⟩
  · obtain ⟨t, rfl⟩ := r1
    exact pyReprObj_int (by omega) (put _ _ _ (Nat.le_trans (txt_len hi) (by decide)) (I1.tok _))
  · cases (show v = Value.bool b from r1)
    exact pyReprObj_bool (put _ _ _ (by cases b <;> decide +kernel) (I1.tok _))
  · cases (show v = Value.none from r1)
    exact pyReprObj_none (put _ _ _ (by decide +kernel) (I1.tok _))
  · obtain ⟨t, rfl⟩ := r1
    exact pyReprObj_str (put _ _ _ (by omega) (I1.tok _)) (Nat.le_trans hy (by decide))
  · cases (show v = Value.ref p from r1)
    have hl := txt_len hi
    rcases hp with hp | hp
    · obtain ⟨its, rv, obj, _⟩ := I1.list hp
      obtain ⟨u, rfl, t, rfl⟩ := vals1 rv
      obtain ⟨⟨oc, od, dt, sl⟩, ho, hc, n, hd⟩ := obj.isList
      have h2 := len_list1 (Str.ofString (toString i))
      refine obj_list (ts := [Str.ofString (toString i)]) room0 ⟨_, ho, hc⟩ ho hd rfl (fun j y hj => ?_) (Nat.le_trans (show _ ≤ 1100 by omega) (by decide)) fun h' m u tk kp hm => put m u _ (by omega) (I1.kept (t' := tk) kp)
      match j, hj with
      | 0, hj =>
        cases hj
        exact ⟨_, rfl, ReprIs.int t (by omega)⟩
    · obtain ⟨its, rv, ⟨o, ho, hc, n, hd⟩, _⟩ := I1.tuple hp
      obtain ⟨u, rfl, t, rfl⟩ := vals1 rv
      have h2 := len_tuple1 (Str.ofString (toString i))
      exact obj_tuple (ts := [Str.ofString (toString i)]) room0 ho hc hd (.cons (ReprIs.int t (by omega)) .nil) (Nat.le_trans (show _ ≤ 1100 by omega) (by decide)) fun m u tk hm => put m u _ (by omega) (I1.tok _)
end
end Own

/-! Own errors whose fields are values of many kinds. -/
namespace Own
open PySem PySem.Spec PyProof.Rows L2 NdefX
theorem ShoV.keep {K : PySem.W.Frag} {H H' : Hp} {v : V} (s : ∀ b o, H b = some o → H' b = some o) (h : ShoV K H v) : ShoV K H' v := by
  rcases h with h | h | h | h | ⟨p, i, rfl, h, hi⟩
  · exact .inl h
  · exact .inr (.inl h)
  · exact .inr (.inr (.inl h))
  · exact .inr (.inr (.inr (.inl h)))
  · refine .inr (.inr (.inr (.inr ⟨p, i, rfl, ?_, hi⟩)))
    rcases h with ((h | ⟨o, h⟩) | h) | ((h | ⟨o, h⟩) | h)
    · exact .inl (.inl (.inl (s _ _ h)))
    · exact .inl (.inl (.inr ⟨o, s _ _ h⟩))
    · exact .inl (.inr h)
    · exact .inr (.inl (.inl (s _ _ h)))
    · exact .inr (.inl (.inr ⟨o, s _ _ h⟩))
    · exact .inr (.inr h)
theorem ShoV.int {K : PySem.W.Frag} {H : Hp} {i : Int} (h0 : -(2 ^ 64) < i) (h1 : i < 2 ^ 64) : ShoV K H (.int i) := by
  obtain ⟨j, e, h⟩ := Shw.of h0 h1
  cases e
  exact .inl ⟨i, rfl, h⟩
theorem ShoV.bl {K : PySem.W.Frag} {H : Hp} (b : Bool) : ShoV K H (.bl b) := .inr (.inl ⟨b, rfl⟩)
theorem ShoV.non {K : PySem.W.Frag} {H : Hp} : ShoV K H .non := .inr (.inr (.inl rfl))
/-- the promise of its __init__ -/
def spErrV (K : PySem.W.Frag) (D : Addr) (nm : List Str) : Sp := fun vs H Q _ => ∃ (a : Addr) (ys : List V), vs = .ref a :: ys ∧ ys.length = nm.length ∧ (∀ y ∈ ys, ShoV K H y) ∧ H a = some (exo a D none) ∧
  ∀ d H', H d = none → d ≠ a → (∀ b, H' b = if b = d then some (exd d (flE nm ys)) else if b = a then some (exo a D (some d)) else H b) → Q .non H'
section
variable {X : Cx} {pins : List (Addr × Obj)} {σ : L2.St} {H : Hp} {s : Shared} {Q : XK} {D f : Addr} {k : Nat} {fd : FuncData} {ps nm : List Str} {ys : List V} {us : List Value} {x : Str}
/-- what is asked of the class when it is called -/
theorem ask_err {K : PySem.W.Frag} (hl : ys.length = nm.length) (hs : ∀ y ∈ ys, ShoV K H y) (q : ∀ d, H d = none → Q (.ref D) (some d) (upd H d (.xd (flE nm ys)))) {a : Addr} (na : H a = none) :
    spErrV K D nm (.ref a :: ys) (upd H a (exo a D none)) (fun v H2 => v = .non ∧ ∃ (d : Addr) (fs : List (Str × V)), H2 a = some (exo a D (some d)) ∧ H2 d = some (exd d fs) ∧ H d = none ∧ Q (.ref D) (some d) (upd (del H2 a) d (.xd fs))) (fun _ _ _ => False) := by
  refine ⟨a, ys, rfl, hl, fun y hy => (hs y hy).keep fun b o e => ?_, upd_same, fun d H' nd ne h => ⟨rfl, d, flE nm ys, ?_, ?_, ?_, ?_⟩⟩
  · by_cases hb : b = a
    · rw [hb, na] at e
      cases e
    · rw [upd_ne hb]
      exact e
  · rw [h, if_neg ne.symm, if_pos rfl]
  · rw [h, if_pos rfl]
  · rw [upd_ne ne] at nd
    exact nd
  · have : upd (del H' a) d (.xd (flE nm ys)) = upd H d (.xd (flE nm ys)) := by
      funext b
      by_cases hb : b = d
      · rw [hb, upd_same, upd_same]
      · rw [upd_ne hb, upd_ne hb]
        by_cases ha : b = a
        · rw [ha, del_same, na]
        · rw [del_ne ha, h, if_neg hb, if_neg ha, upd_ne ha]
    rw [this]
    rw [upd_ne ne] at nd
    exact q d nd
/-- the call of the class -/
theorem err_madeV (T : OexC X.K D) (R : ErrT X.K X.mg x D f) (F1 : FnOk X.prog X.w X.K X.mg X.base CX0 k f fd ps (spErrV X.K D nm)) (hr : Room (k + 1) X.A) (hb : Binds X.K fd ps []) (I : Inv X pins σ H s) (r : Vals ys us) (hl : ys.length = nm.length) (hz : nm.length ≤ 1000)
    (hs : ∀ y ∈ ys, ShoV X.K H y) (q : ∀ d, H d = none → Q (.ref D) (some d) (upd H d (.xd (flE nm ys)))) : wpAny (model X.prog X.w) X.A (call (.ref D) us) (L2N.MkP X pins σ Q) X.xe s := by
  obtain ⟨nn, qq, N, bs, bm, sn, sub, ab, col, dd, k0, k1, k2, k3, k5, hC, hbm⟩ := T.cls
  obtain ⟨hp, g, dr, tk, os⟩ := s
  have far : hp.objs.size ≤ hp.objs.size + 1 := Nat.le_succ _
  have free : H (hp.objs.size + 1) = none := I.hok.fresh far
  have ask := ask_err (D := D) hl hs q free
  have old : ∀ b o, hp.get? b = some o → ((hp.push (PySem.W.kdv_tup us)).push (PySem.HandSPX.excO D hp.objs.size)).get? b = some o := fun b o e => Heap.get?_push_of_some _ (Heap.get?_push_of_some _ e)
  have here : ((hp.push (PySem.W.kdv_tup us)).push (PySem.HandSPX.excO D hp.objs.size)).get? (hp.objs.size + 1) = some (PySem.HandSPX.excO D hp.objs.size) := by heap_get
  have J : Inv X pins σ (upd H (hp.objs.size + 1) (exo (hp.objs.size + 1) D none)) ⟨(hp.push (PySem.W.kdv_tup us)).push (PySem.HandSPX.excO D hp.objs.size), g, dr, tk, os⟩ := I.laid (t' := tk) (a := hp.objs.size + 1) (o := exo (hp.objs.size + 1) D none) old far (exo_ok here)
  have vals : Vals (V.ref (hp.objs.size + 1) :: ys) (Value.ref (hp.objs.size + 1) :: us) := .cons rfl r
  have len : (Value.ref (hp.objs.size + 1) :: us).length = ps.length := by
    rw [← vals.length]
    exact F1.len _ _ _ _ ask
  have few : us.length ≤ sizeLine := by
    rw [← Paired.length r, hl]
    exact Nat.le_trans hz (by decide)
  have bind := hb _ (Value.ref (hp.objs.size + 1) :: us) J.kIn (by rw [List.append_nil]; exact len)
  rw [List.append_nil] at bind
  have run := F1.run _ X.stack _ _ ⟨Value.ref (hp.objs.size + 1) :: us, []⟩ _ _ _ (fun _ _ _ => False) (hr.make D us []) (J.env0.make D us []) bind vals ask
  refine wpAny_call (PySem.HandSPX.call_own F.excBase_ValueError (fun Y => PySem.HandSPX.refsVE_contains Y bm hbm) (I.kIn _ _ hC) (PySem.W.looks_findIn I.kIn R.i) (fun self => PySem.W.bind_fn I.kIn self R.t) few (codeAny_mono run fun res s' back => ?_))
  cases res with
  | error er => exact back.elim
  | ok fl =>
    cases fl with
    | ret u =>
      obtain ⟨v, H2, os2, bare2, un2, hok2, rv, ev, d, fs, ea, ed, hd1, q2⟩ := back
      subst ev
      obtain ⟨h2, g2, d2, t2, os'⟩ := s'
      obtain ⟨t0, G, K1, kG, ge, hoe, na⟩ := mk_end0 (d2 := d2) (t2 := t2) I far old un2 hok2 os2 bare2 ea ed hd1
      exact ⟨rv, hp.objs.size + 1, _, _, ⟨G, g2, d2, t2, os'⟩, _, .ref D, some d, rfl, K1, kG, ge, hoe, ⟨rfl, rfl, fun vs e => by cases e; rfl⟩, rfl, rfl, na, rfl, bare2, raises_own T.exC T.tyC, q2⟩
    | next => exact back.elim
    | brk => exact back.elim
    | cont => exact back.elim
end
/-- raise X(e, ..) -/
def tErrV (K : PySem.W.Frag) (D : Addr) (nm : List Str) (ta : TA) : L2.St → Hp → XK → Prop := fun σ H Q => ta σ H fun ys H1 => ys.length = nm.length ∧ nm.length ≤ 1000 ∧ (∀ y ∈ ys, ShoV K H1 y) ∧ ∀ d, H1 d = none → Q (.ref D) (some d) (upd H1 d (.xd (flE nm ys)))
section
variable {X : Cx} {W : WX} {x : Str} {D f : Addr} {k : Nat} {fd : FuncData} {ps nm : List Str} {e : Expr} {es : List Expr} {ta : TA} {p pos pos' : Pos}
theorem ps_errV (hc : X.calm = true) (tk : L2N.Takes X W) (T : OexC X.K D) (R : ErrT X.K X.mg x D f) (F1 : FnOk X.prog X.w X.K X.mg X.base CX0 k f fd ps (spErrV X.K D nm)) (hr : Room (k + 1) X.A) (hb : Binds X.K fd ps []) (hg : Gl X x) (ha : PA X (e :: es) ta)
    (hdb : (x == ("__debug__" : Str)) = false := by decide)
    (he : starEach (e :: es) X.env = (false, eval e X.env) :: starEach es X.env := by rfl)
    (hpl : (backTo pos (starEach es X.env)).any (·.1) = false := by rfl) :
    PS X (.Raise (some (.Call (.Name x p) (e :: es) [] pos)) none pos') (fun _ σ H => tErrV X.K D nm ta σ H fun cls d H' => W cls d σ H') := by
  refine L2N.ps_raise hc tk fun pins s σ H Q I h => ?_
  refine wpAny_Call_Name_kw (ld_glob I hg R.g ?_ hdb)
  refine PySem.W.callWith_K (h₀ := X.base) I.ok.mod.kin T.kC (thn (ha.run pos pins s σ H _ I h) fun us s1 ⟨ys, H1, I1, r, hl, hz, hs, q⟩ => ⟨I1.kIn, ?_⟩) he hpl
  exact err_madeV T R F1 hr hb I1 r hl hz hs q
end
end Own

namespace Own
open PySem PySem.Spec PyProof.Rows L2 NdefX
section
variable {P : Program} {w : World} {K : PySem.W.Frag} {mg : Str → Option Value} {base : Heap} {D cc cda f : Addr}
abbrev s_BadPin_init : Stmt := inClass (top 4) 0
theorem sn_BadPin : NScope ["self", "pin", "__class__"] ["self", "pin"] ["__class__"] (defScope s_BadPin_init) := nscope_by (by decide +kernel)
theorem ok_BadPin {oc kV dc pm ct : Value} {an od : Option Addr} {sl : Array (Option Value)} (T : ErrK P K mg D cc cda)
    (lk : K.lookup f = some ⟨oc, od, .func (PySem.W.fnX "__init__" "BadPin.__init__" (defArgs s_BadPin_init) (defBody s_BadPin_init) (defScope s_BadPin_init) [("__class__", cc)] .none kV dc pm an (.ref cda) ct), sl⟩) (hcd : PySem.W.codeIn K (.ref cda) "BadPin.__init__" = true)
    (n1 : PySem.W.findIn K (.ref D) "pin" = some none) :
    FnOk P w K mg base CX0 1 f (PySem.W.fnX "__init__" "BadPin.__init__" (defArgs s_BadPin_init) (defBody s_BadPin_init) (defScope s_BadPin_init) [("__class__", cc)] .none kV dc pm an (.ref cda) ct) ["self", "pin"] (spErrV K D ["pin"]) := by
  refine fn_err (N := ["self", "pin", "__class__"]) (ps := ["self", "pin"]) T lk hcd sn_BadPin rfl rfl rfl (fun vs H Q E h => ?_) (fun A outer s H vs Q E hr h => ?_)
  · obtain ⟨a, ys, rfl, hl, _⟩ := h
    show ys.length + 1 = _
    rw [hl]
    rfl
  · obtain ⟨a, ys, rfl, hl, hs, ha, q⟩ := h
    match ys, hl with
    | [y1], _ =>
      have h1 := hs y1 (by simp)
      refine ⟨a, _, _, rfl, ha, pa_cons (pe_joined (PJ.cons pe_str (PJ.cons (pe_fmtS hr (pv 1)) PJ.nil))) pa_nil, (pss_one (ps_ost (pv 0) (pv 1))), ?_⟩
      have e0 : (Str.empty).length = 0 := rfl
      have c1 : (Str.ofString "pin ").length ≤ 100 := by decide +kernel
      refine ⟨_, rfl, ?_, _, rfl, h1, fun z1 hz1 => ⟨_, rfl, ?_, ⟨by show 1 ≤ 1000; decide, ha, ?_⟩⟩⟩
      all_goals first | (simp only [strLen_append, sizeLine_eq, e0] at *; (first | omega | (show _ ≤ _; omega))) | skip
      refine ⟨_, rfl, _, rfl, a, D, rfl, T.oex, n1, .inl ⟨ha, fun dx nd ne => ?_⟩⟩
      refine q dx _ nd ne fun b => ?_
      by_cases hb : b = dx
      · subst hb
        rw [if_pos rfl]
        first | (rw [upd_ne ne, upd_same]; rfl) | (rw [upd_same]; rfl)
      · rw [if_neg hb]
        by_cases hb2 : b = a
        · subst hb2
          rw [if_pos rfl]
          first | (rw [upd_same]) | (rw [upd_ne hb, upd_same]) | (rw [upd_ne hb, upd_ne hb, upd_same])
        · rw [if_neg hb2]
          repeat (first | rw [upd_ne hb] | rw [upd_ne hb2])
abbrev s_UnlikePins_init : Stmt := inClass (top 5) 0
theorem sn_UnlikePins : NScope ["self", "one", "other", "__class__"] ["self", "one", "other"] ["__class__"] (defScope s_UnlikePins_init) := nscope_by (by decide +kernel)
theorem ok_UnlikePins {oc kV dc pm ct : Value} {an od : Option Addr} {sl : Array (Option Value)} (T : ErrK P K mg D cc cda)
    (lk : K.lookup f = some ⟨oc, od, .func (PySem.W.fnX "__init__" "UnlikePins.__init__" (defArgs s_UnlikePins_init) (defBody s_UnlikePins_init) (defScope s_UnlikePins_init) [("__class__", cc)] .none kV dc pm an (.ref cda) ct), sl⟩) (hcd : PySem.W.codeIn K (.ref cda) "UnlikePins.__init__" = true)
    (n1 : PySem.W.findIn K (.ref D) "one" = some none) (n2 : PySem.W.findIn K (.ref D) "other" = some none) :
    FnOk P w K mg base CX0 1 f (PySem.W.fnX "__init__" "UnlikePins.__init__" (defArgs s_UnlikePins_init) (defBody s_UnlikePins_init) (defScope s_UnlikePins_init) [("__class__", cc)] .none kV dc pm an (.ref cda) ct) ["self", "one", "other"] (spErrV K D ["one", "other"]) := by
  refine fn_err (N := ["self", "one", "other", "__class__"]) (ps := ["self", "one", "other"]) T lk hcd sn_UnlikePins rfl rfl rfl (fun vs H Q E h => ?_) (fun A outer s H vs Q E hr h => ?_)
  · obtain ⟨a, ys, rfl, hl, _⟩ := h
    show ys.length + 1 = _
    rw [hl]
    rfl
  · obtain ⟨a, ys, rfl, hl, hs, ha, q⟩ := h
    match ys, hl with
    | [y1, y2], _ =>
      have h1 := hs y1 (by simp)
      have h2 := hs y2 (by simp)
      refine ⟨a, _, _, rfl, ha, pa_cons (pe_joined (PJ.cons pe_str (PJ.cons (pe_fmtS hr (pv 1)) (PJ.cons pe_str (PJ.cons (pe_fmtS hr (pv 2)) PJ.nil))))) pa_nil, (pss_cons (ps_ost (pv 0) (pv 1)) (pss_one (ps_ost (pv 0) (pv 2)))), ?_⟩
      have e0 : (Str.empty).length = 0 := rfl
      have c1 : (Str.ofString "one ").length ≤ 100 := by decide +kernel
      have c2 : (Str.ofString ", other ").length ≤ 100 := by decide +kernel
      refine ⟨_, rfl, ?_, _, rfl, h1, fun z1 hz1 => ⟨_, rfl, ?_, _, rfl, ?_, _, rfl, h2, fun z2 hz2 => ⟨_, rfl, ?_, ⟨by show 1 ≤ 1000; decide, ha, ?_⟩⟩⟩⟩
      all_goals first | (simp only [strLen_append, sizeLine_eq, e0] at *; (first | omega | (show _ ≤ _; omega))) | skip
      refine ⟨_, rfl, _, rfl, a, D, rfl, T.oex, n1, .inl ⟨ha, fun dx nd ne => ?_⟩⟩
      refine ⟨_, rfl, _, rfl, a, D, rfl, T.oex, n2, .inr ⟨dx, [("one", y1)], ?_, ?_, ?_, ?_⟩⟩
      · first | exact upd_same | (rw [upd_ne ne.symm]; exact upd_same)
      · first | exact upd_same | (rw [upd_ne ne]; exact upd_same)
      · simp
      refine q dx _ nd ne fun b => ?_
      by_cases hb : b = dx
      · subst hb
        rw [if_pos rfl]
        first | (rw [upd_ne ne, upd_same]; rfl) | (rw [upd_same]; rfl)
      · rw [if_neg hb]
        by_cases hb2 : b = a
        · subst hb2
          rw [if_pos rfl]
          first | (rw [upd_same]) | (rw [upd_ne hb, upd_same]) | (rw [upd_ne hb, upd_ne hb, upd_same])
        · rw [if_neg hb2]
          repeat (first | rw [upd_ne hb] | rw [upd_ne hb2])
abbrev s_NotPart_init : Stmt := inClass (top 7) 0
theorem sn_NotPart : NScope ["self", "a", "b", "__class__"] ["self", "a", "b"] ["__class__"] (defScope s_NotPart_init) := nscope_by (by decide +kernel)
theorem ok_NotPart {oc kV dc pm ct : Value} {an od : Option Addr} {sl : Array (Option Value)} (T : ErrK P K mg D cc cda)
    (lk : K.lookup f = some ⟨oc, od, .func (PySem.W.fnX "__init__" "NotPart.__init__" (defArgs s_NotPart_init) (defBody s_NotPart_init) (defScope s_NotPart_init) [("__class__", cc)] .none kV dc pm an (.ref cda) ct), sl⟩) (hcd : PySem.W.codeIn K (.ref cda) "NotPart.__init__" = true)
    (n1 : PySem.W.findIn K (.ref D) "a" = some none) (n2 : PySem.W.findIn K (.ref D) "b" = some none) :
    FnOk P w K mg base CX0 1 f (PySem.W.fnX "__init__" "NotPart.__init__" (defArgs s_NotPart_init) (defBody s_NotPart_init) (defScope s_NotPart_init) [("__class__", cc)] .none kV dc pm an (.ref cda) ct) ["self", "a", "b"] (spErrV K D ["a", "b"]) := by
  refine fn_err (N := ["self", "a", "b", "__class__"]) (ps := ["self", "a", "b"]) T lk hcd sn_NotPart rfl rfl rfl (fun vs H Q E h => ?_) (fun A outer s H vs Q E hr h => ?_)
  · obtain ⟨a, ys, rfl, hl, _⟩ := h
    show ys.length + 1 = _
    rw [hl]
    rfl
  · obtain ⟨a, ys, rfl, hl, hs, ha, q⟩ := h
    match ys, hl with
    | [y1, y2], _ =>
      have h1 := hs y1 (by simp)
      have h2 := hs y2 (by simp)
      refine ⟨a, _, _, rfl, ha, pa_cons (pe_joined (PJ.cons pe_str (PJ.cons (pe_fmtS hr (pv 1)) (PJ.cons pe_str (PJ.cons (pe_fmtS hr (pv 2)) PJ.nil))))) pa_nil, (pss_cons (ps_ost (pv 0) (pv 1)) (pss_one (ps_ost (pv 0) (pv 2)))), ?_⟩
      have e0 : (Str.empty).length = 0 := rfl
      have c1 : (Str.ofString "a ").length ≤ 100 := by decide +kernel
      have c2 : (Str.ofString ", b ").length ≤ 100 := by decide +kernel
      refine ⟨_, rfl, ?_, _, rfl, h1, fun z1 hz1 => ⟨_, rfl, ?_, _, rfl, ?_, _, rfl, h2, fun z2 hz2 => ⟨_, rfl, ?_, ⟨by show 1 ≤ 1000; decide, ha, ?_⟩⟩⟩⟩
      all_goals first | (simp only [strLen_append, sizeLine_eq, e0] at *; (first | omega | (show _ ≤ _; omega))) | skip
      refine ⟨_, rfl, _, rfl, a, D, rfl, T.oex, n1, .inl ⟨ha, fun dx nd ne => ?_⟩⟩
      refine ⟨_, rfl, _, rfl, a, D, rfl, T.oex, n2, .inr ⟨dx, [("a", y1)], ?_, ?_, ?_, ?_⟩⟩
      · first | exact upd_same | (rw [upd_ne ne.symm]; exact upd_same)
      · first | exact upd_same | (rw [upd_ne ne]; exact upd_same)
      · simp
      refine q dx _ nd ne fun b => ?_
      by_cases hb : b = dx
      · subst hb
        rw [if_pos rfl]
        first | (rw [upd_ne ne, upd_same]; rfl) | (rw [upd_same]; rfl)
      · rw [if_neg hb]
        by_cases hb2 : b = a
        · subst hb2
          rw [if_pos rfl]
          first | (rw [upd_same]) | (rw [upd_ne hb, upd_same]) | (rw [upd_ne hb, upd_ne hb, upd_same])
        · rw [if_neg hb2]
          repeat (first | rw [upd_ne hb] | rw [upd_ne hb2])
abbrev s_BadNumber_init : Stmt := inClass (top 8) 0
theorem sn_BadNumber : NScope ["self", "number", "__class__"] ["self", "number"] ["__class__"] (defScope s_BadNumber_init) := nscope_by (by decide +kernel)
theorem ok_BadNumber {oc kV dc pm ct : Value} {an od : Option Addr} {sl : Array (Option Value)} (T : ErrK P K mg D cc cda)
    (lk : K.lookup f = some ⟨oc, od, .func (PySem.W.fnX "__init__" "BadNumber.__init__" (defArgs s_BadNumber_init) (defBody s_BadNumber_init) (defScope s_BadNumber_init) [("__class__", cc)] .none kV dc pm an (.ref cda) ct), sl⟩) (hcd : PySem.W.codeIn K (.ref cda) "BadNumber.__init__" = true)
    (n1 : PySem.W.findIn K (.ref D) "number" = some none) :
    FnOk P w K mg base CX0 1 f (PySem.W.fnX "__init__" "BadNumber.__init__" (defArgs s_BadNumber_init) (defBody s_BadNumber_init) (defScope s_BadNumber_init) [("__class__", cc)] .none kV dc pm an (.ref cda) ct) ["self", "number"] (spErrV K D ["number"]) := by
  refine fn_err (N := ["self", "number", "__class__"]) (ps := ["self", "number"]) T lk hcd sn_BadNumber rfl rfl rfl (fun vs H Q E h => ?_) (fun A outer s H vs Q E hr h => ?_)
  · obtain ⟨a, ys, rfl, hl, _⟩ := h
    show ys.length + 1 = _
    rw [hl]
    rfl
  · obtain ⟨a, ys, rfl, hl, hs, ha, q⟩ := h
    match ys, hl with
    | [y1], _ =>
      have h1 := hs y1 (by simp)
      refine ⟨a, _, _, rfl, ha, pa_cons (pe_joined (PJ.cons pe_str (PJ.cons (pe_fmtS hr (pv 1)) PJ.nil))) pa_nil, (pss_one (ps_ost (pv 0) (pv 1))), ?_⟩
      have e0 : (Str.empty).length = 0 := rfl
      have c1 : (Str.ofString "number ").length ≤ 100 := by decide +kernel
      refine ⟨_, rfl, ?_, _, rfl, h1, fun z1 hz1 => ⟨_, rfl, ?_, ⟨by show 1 ≤ 1000; decide, ha, ?_⟩⟩⟩
      all_goals first | (simp only [strLen_append, sizeLine_eq, e0] at *; (first | omega | (show _ ≤ _; omega))) | skip
      refine ⟨_, rfl, _, rfl, a, D, rfl, T.oex, n1, .inl ⟨ha, fun dx nd ne => ?_⟩⟩
      refine q dx _ nd ne fun b => ?_
      by_cases hb : b = dx
      · subst hb
        rw [if_pos rfl]
        first | (rw [upd_ne ne, upd_same]; rfl) | (rw [upd_same]; rfl)
      · rw [if_neg hb]
        by_cases hb2 : b = a
        · subst hb2
          rw [if_pos rfl]
          first | (rw [upd_same]) | (rw [upd_ne hb, upd_same]) | (rw [upd_ne hb, upd_ne hb, upd_same])
        · rw [if_neg hb2]
          repeat (first | rw [upd_ne hb] | rw [upd_ne hb2])
end
end Own

namespace Own
open PySem PySem.Spec PyProof.Rows L2
/-- no whole number -/
def NotW (K : PySem.W.Frag) (H : Hp) (v : V) : Prop := (∃ b : Bool, v = .bl b) ∨ v = .non ∨ (∃ z : Str, v = .str z) ∨ (∃ (p : Addr) (i : Int), v = .ref p ∧ H p = some (.lst [.int i])) ∨ ∃ (p : Addr) (i : Int), v = .ref p ∧ H p = some (.tup [.int i])
/-- an error's class with its __init__ -/
structure ErrU (K : PySem.W.Frag) (mg : Str → Option Value) (x : Str) (D f : Addr) (d : FuncData) (ps : List Str) : Prop where
  T : OexC K D
  R : ErrT K mg x D f
  b : Binds K d ps []
abbrev GE (P : Program) (w : World) (K : PySem.W.Frag) (mg : Str → Option Value) (base : Heap) (D f : Addr) (d : FuncData) (nm : List Str) : Prop := FnOk P w K mg base CX0 1 f d ("self" :: nm) (spErrV K D nm)
/-- the error is let out, its fields are these -/
def Out (D : Addr) (nm : List Str) (ys : List V) (H : Hp) (E : XK) : Prop := ∀ d, H d = none → E (.ref D) (some d) (upd H d (.xd (flE nm ys)))
section
variable {P : Program} {w : World} {K : PySem.W.Frag} {mg : Str → Option Value} {base : Heap} {C D f_u : Addr} {d_u : FuncData}
def spWholeX (K : PySem.W.Frag) : Sp := fun vs H Q _ => ∃ v : V, vs = [v] ∧ ((∃ i : Int, v = .int i ∧ Q (.bl true) H) ∨ (NotW K H v ∧ Q (.bl false) H))
theorem ok_wholeX {f : Addr} {fd : FuncData} (F : Fun K "is_whole" "is_whole" s_is_whole f fd) (T : Bi mg) : FnOk P w K mg base CX0 1 f fd ["value"] (spWholeX K) := by
  refine F.ok sc_is_whole (fun vs H Q E h => ?_) (fun cdv A outer s H vs Q E hr h => ?_)
  · obtain ⟨v, rfl, _⟩ := h
    rfl
  · obtain ⟨v, rfl, h⟩ := h
    refine ⟨_, (pss_one (ps_ret (pe_and (pe_callB call_isi (by rfl) T.b_isinstance (by decide +kernel) (pa_cons (pv 0) (pa_cons (pe_bltn (v := .ty "int") (by rfl) T.b_int (by decide +kernel) rfl) pa_nil))) (pe_one (pe_not (pe_callB call_isi (by rfl) T.b_isinstance (by decide +kernel) (pa_cons (pv 0) (pa_cons (pe_bltn (v := .ty "bool") (by rfl) T.b_bool (by decide +kernel) rfl) pa_nil)))))))), ?_⟩
    rcases h with ⟨i, rfl, q⟩ | ⟨⟨b, rfl⟩ | rfl | ⟨z, rfl⟩ | ⟨p, i, rfl, hp⟩ | ⟨p, i, rfl, hp⟩, q⟩
    · refine ⟨_, rfl, _, _, _, _, true, rfl, .ty "int", .base (.int i), kit_ty (by decide +kernel), true, rfl, ?_⟩
      exact ⟨_, rfl, _, _, _, _, false, rfl, .ty "bool", .base (.int i), kit_ty (by decide +kernel), false, rfl, q⟩
    · refine ⟨_, rfl, _, _, _, _, true, rfl, .ty "int", .base (.bl b), kit_ty (by decide +kernel), true, rfl, ?_⟩
      exact ⟨_, rfl, _, _, _, _, true, rfl, .ty "bool", .base (.bl b), kit_ty (by decide +kernel), true, rfl, q⟩
    · refine ⟨_, rfl, _, _, _, _, false, rfl, .ty "int", .base (.non), kit_ty (by decide +kernel), false, rfl, ?_⟩
      exact q
    · refine ⟨_, rfl, _, _, _, _, false, rfl, .ty "int", .base (.str z), kit_ty (by decide +kernel), false, rfl, ?_⟩
      exact q
    · refine ⟨_, rfl, _, _, _, _, false, rfl, .ty "int", .base (.lst hp), kit_ty (by decide +kernel), false, rfl, ?_⟩
      exact q
    · refine ⟨_, rfl, _, _, _, _, false, rfl, .ty "int", .base (.tup hp), kit_ty (by decide +kernel), false, rfl, ?_⟩
      exact q
/-- no number of 0, 1, .., n - 1 -/
def NotB (K : PySem.W.Frag) (H : Hp) (n : Int) (v : V) : Prop := (∃ i : Int, v = .int i ∧ (i < 0 ∨ n ≤ i)) ∨ NotW K H v
def spBelowX (K : PySem.W.Frag) : Sp := fun vs H Q _ => ∃ (v : V) (n : Int), vs = [v, .int n] ∧ ((∃ i : Int, v = .int i ∧ 0 ≤ i ∧ i < n ∧ Q (.bl true) H) ∨ (NotB K H n v ∧ Q (.bl false) H))
theorem ok_belowX {f : Addr} {fd : FuncData} (F : Fun K "is_below" "is_below" s_is_below f fd) {f_w : Addr} {d_w : FuncData} (D_w : Df K mg "is_whole" s_is_whole ["value"] f_w d_w) (G_w : FnOk P w K mg base CX0 1 f_w d_w ["value"] (spWholeX K))  : FnOk P w K mg base CX0 2 f fd ["value", "bound"] (spBelowX K) := by
  refine F.ok sc_is_below (fun vs H Q E h => ?_) (fun cdv A outer s H vs Q E hr h => ?_)
  · obtain ⟨v, n, rfl, _⟩ := h
    rfl
  · obtain ⟨v, n, rfl, h⟩ := h
    refine ⟨_, (pss_one (ps_ret (pe_and (pe_call G_w (hr.mono (by decide)) (by rfl) D_w.g D_w.F.kp D_w.b .nil pass0 (pa_cons (pv 0) pa_nil)) (pe_one (pe_chain op_le op_lt pe_int (pv 0) (pv 1)))))), ?_⟩
    rcases h with ⟨i, rfl, h0, h1, q⟩ | ⟨⟨i, rfl, hi⟩ | hw, q⟩
    · refine ⟨_, rfl, _, rfl, .inl ⟨i, rfl, true, rfl, ?_⟩⟩
      refine ⟨_, rfl, _, _, rfl, rfl, _, rfl, ?_⟩
      rw [decide_eq_true h0]
      refine ⟨_, rfl, _, _, rfl, rfl, ?_⟩
      show Q (.bl (decide (i < n))) H
      rw [decide_eq_true h1]
      exact q
    · refine ⟨_, rfl, _, rfl, .inl ⟨i, rfl, true, rfl, ?_⟩⟩
      refine ⟨_, rfl, _, _, rfl, rfl, _, rfl, ite2 (fun e => ?_) (fun e => q)⟩
      have h0 : 0 ≤ i := of_decide_eq_true e
      refine ⟨_, rfl, _, _, rfl, rfl, ?_⟩
      show Q (.bl (decide (i < n))) H
      rw [decide_eq_false (show ¬ i < n by omega)]
      exact q
    · exact ⟨_, rfl, _, rfl, .inr ⟨hw, false, rfl, q⟩⟩
def spCkPinX (K : PySem.W.Frag) (D : Addr) : Sp := fun vs H Q E => ∃ (n : Int) (v : V), vs = [.int n, v] ∧ ((∃ i : Int, v = .int i ∧ 0 ≤ i ∧ i < n ∧ Q .non H) ∨ (NotB K H n v ∧ ShoV K H v ∧ Out D ["pin"] [v] H E))
theorem ok_ckpinX {f : Addr} {fd : FuncData} (F : Fun K "check_pin" "check_pin" s_check_pin f fd) {f_b : Addr} {d_b : FuncData} (D_b : Df K mg "is_below" s_is_below ["value", "bound"] f_b d_b) (G_b : FnOk P w K mg base CX0 2 f_b d_b ["value", "bound"] (spBelowX K)) (U : ErrU K mg "BadPin" D f_u d_u ["self", "pin"]) (G_u : GE P w K mg base D f_u d_u ["pin"]) : FnOk P w K mg base (L2N.CX P w) 4 f fd ["pins", "pin"] (spCkPinX K D) := by
  refine okN F sc_check_pin (fun vs H Q E h => ?_) (fun cdv A outer s H vs Q E hr h => ?_)
  · obtain ⟨n, v, rfl, _⟩ := h
    rfl
  · obtain ⟨n, v, rfl, h⟩ := h
    refine ⟨_, (pss_one (ps_if (pt_not (pt_val (pe_call G_b (hr.mono (by decide)) (by rfl) D_b.g D_b.F.kp D_b.b .nil pass0 (pa_cons (pv 1) (pa_cons (pv 0) pa_nil))))) (pss_one (ps_errV rfl (L2N.takes_of rfl rfl rfl rfl) U.T U.R G_u (hr.mono (by decide)) U.b (by rfl) (pa_cons (pv 1) pa_nil))) pss_nil)), ?_⟩
    rcases h with ⟨i, rfl, h0, h1, q⟩ | ⟨hb, hs, q⟩
    · exact ⟨_, rfl, _, rfl, _, _, rfl, .inl ⟨i, rfl, h0, h1, true, rfl, q⟩⟩
    · refine ⟨_, rfl, _, rfl, _, _, rfl, .inr ⟨hb, false, rfl, ?_⟩⟩
      refine ⟨_, rfl, rfl, by decide, fun y hy => ?_, fun d nd => q d nd⟩
      rw [List.mem_singleton.mp hy]
      exact hs
def spCkNumX (K : PySem.W.Frag) (D : Addr) : Sp := fun vs H Q E => ∃ (v : V) (l : Int), vs = [v, .int l] ∧ ((∃ i : Int, v = .int i ∧ l ≤ i ∧ Q .non H) ∨ (((∃ i : Int, v = .int i ∧ i < l) ∨ NotW K H v) ∧ ShoV K H v ∧ Out D ["number"] [v] H E))
theorem ok_cknumX {f : Addr} {fd : FuncData} (F : Fun K "check_number" "check_number" s_check_number f fd) {f_w : Addr} {d_w : FuncData} (D_w : Df K mg "is_whole" s_is_whole ["value"] f_w d_w) (G_w : FnOk P w K mg base CX0 1 f_w d_w ["value"] (spWholeX K)) (U : ErrU K mg "BadNumber" D f_u d_u ["self", "number"]) (G_u : GE P w K mg base D f_u d_u ["number"]) : FnOk P w K mg base (L2N.CX P w) 4 f fd ["number", "least"] (spCkNumX K D) := by
  refine okN F sc_check_number (fun vs H Q E h => ?_) (fun cdv A outer s H vs Q E hr h => ?_)
  · obtain ⟨v, l, rfl, _⟩ := h
    rfl
  · obtain ⟨v, l, rfl, h⟩ := h
    refine ⟨_, (pss_one (ps_if (PW.pt (pw_or (pt_not (pt_val (pe_call G_w (hr.mono (by decide)) (by rfl) D_w.g D_w.F.kp D_w.b .nil pass0 (pa_cons (pv 0) pa_nil)))) (pw_or1 (pt_cmpR op_lt (pv 0) (pv 1) (nomark _))))) (pss_one (ps_errV rfl (L2N.takes_of rfl rfl rfl rfl) U.T U.R G_u (hr.mono (by decide)) U.b (by rfl) (pa_cons (pv 0) pa_nil))) pss_nil)), ?_⟩
    have bad : ShoV K H v → Out D ["number"] [v] H E → tErrV K D ["number"] (tCons (tVar 0) tNil) (start ["number", "least"] [v, .int l]) H (fun cls d H' => E cls d H') := fun hs q => by
      refine ⟨_, rfl, rfl, by decide, fun y hy => ?_, fun d nd => q d nd⟩
      rw [List.mem_singleton.mp hy]
      exact hs
    rcases h with ⟨i, rfl, h0, q⟩ | ⟨⟨i, rfl, hi⟩ | hw, hs, q⟩
    · refine ⟨_, rfl, _, rfl, .inl ⟨i, rfl, true, rfl, ?_⟩⟩
      refine ⟨_, rfl, _, rfl, _, _, rfl, rfl, _, rfl, ?_⟩
      rw [decide_eq_false (show ¬ i < l by omega)]
      exact q
    · refine ⟨_, rfl, _, rfl, .inl ⟨i, rfl, true, rfl, ?_⟩⟩
      refine ⟨_, rfl, _, rfl, _, _, rfl, rfl, _, rfl, ?_⟩
      rw [decide_eq_true hi]
      exact bad hs q
    · exact ⟨_, rfl, _, rfl, .inr ⟨hw, false, rfl, bad hs q⟩⟩
def spLikeX (D : Addr) : Sp := fun vs H Q E => ∃ n m : Int, vs = [.int n, .int m] ∧ (0 ≤ n ∧ n ≤ 1000) ∧ (0 ≤ m ∧ m ≤ 1000) ∧ (n = m → Q .non H) ∧ (n ≠ m → Out D ["one", "other"] [.int n, .int m] H E)
theorem ok_likeX {f : Addr} {fd : FuncData} (F : Fun K "check_like" "check_like" s_check_like f fd) (U : ErrU K mg "UnlikePins" D f_u d_u ["self", "one", "other"]) (G_u : GE P w K mg base D f_u d_u ["one", "other"]) : FnOk P w K mg base (L2N.CX P w) 4 f fd ["one", "other"] (spLikeX D) := by
  refine okN F sc_check_like (fun vs H Q E h => ?_) (fun cdv A outer s H vs Q E hr h => ?_)
  · obtain ⟨n, m, rfl, _⟩ := h
    rfl
  · obtain ⟨n, m, rfl, hn, hm, q, e⟩ := h
    refine ⟨_, (pss_one (ps_if (pt_cmpR op_ne (pv 0) (pv 1) (nomark _)) (pss_one (ps_errV rfl (L2N.takes_of rfl rfl rfl rfl) U.T U.R G_u (hr.mono (by decide)) U.b (by rfl) (pa_cons (pv 0) (pa_cons (pv 1) pa_nil)))) pss_nil)), ?_⟩
    refine ⟨_, rfl, _, rfl, rfl, _, rfl, ?_⟩
    by_cases c : n = m
    · subst c
      rw [show (!decide (V.int n = V.int n)) = false by rw [decide_eq_true rfl]; rfl]
      exact q rfl
    · rw [show (!decide (V.int n = V.int m)) = true by rw [decide_eq_false fun z => c (V.int.inj z)]; rfl]
      refine ⟨_, rfl, _, rfl, rfl, by decide, fun y hy => ?_, fun d nd => e c d nd⟩
      simp only [List.mem_cons, List.not_mem_nil, or_false] at hy
      rcases hy with rfl | rfl
      · exact ShoV.int (by omega) (by omega)
      · exact ShoV.int (by omega) (by omega)
end
end Own

namespace Own
open PySem PySem.Spec PyProof.Rows L2
/-! ### operators of an own class -/
section
variable {X : Cx} {CX : CXT} {k : Nat} {C g : Addr} {fd : FuncData} {ps : List Str} {sp : Sp} {E : XK}
def rOwnB (C : Addr) (sp : Sp) (E : XK) : R2 := fun x y H Q => ∃ a dx fs b dy gs, x = .ref a ∧ y = .ref b ∧ H a = some (.ins C dx fs) ∧ H b = some (.ins C dy gs) ∧ sp [.ref a, .ref b] H Q E
theorem op_ownB {op : Operator} (hc : PySem.W.selfFirst X.K C = true) (hs : PySem.W.findIn X.K (.ref C) (PySem.dunder op.info.2) = some (some (.ref g))) (hf : PySem.W.isFn X.K (.ref g) = true)
    (F : FnOk X.prog X.w X.K X.mg X.base CX k g fd ps sp) (hr : Room k X.A) (hb : Binds X.K fd ps []) (hx : Passes CX X E) : OpR X (binaryOp op) (rOwnB C sp E) := by
  intro pins s σ H x y v u Q I rx ry h
  obtain ⟨a, dx, fs, b, dy, gs, rfl, rfl, ha, hb', q⟩ := h
  cases (show v = Value.ref a from rx)
  cases (show u = Value.ref b from ry)
  obtain ⟨mA, O, _, _, _, _⟩ := ins_get I.hok ha
  obtain ⟨od, J, _⟩ := O.look
  obtain ⟨mB, O', _, _, _, _⟩ := ins_get I.hok hb'
  obtain ⟨od', J', _⟩ := O'.look
  obtain ⟨m, hF⟩ := I.fr
  refine PySem.W.binop_K hF I.ok.mod.kin J J'.type hc hs hf ?_
  refine wpAny_mono (run_fn (us := [.ref a, .ref b]) (vs := [.ref a, .ref b]) F hr hb .nil hx I (.cons rfl (.cons rfl .nil)) q) (fun w s' z => ?_) fun _ _ x => x
  obtain ⟨z', H', I', rz, qz⟩ := z
  exact SlX.cmpback rz ⟨z', H', I', rz, qz⟩
def rOwnI (C : Addr) (sp : Sp) (E : XK) : R2 := fun x y H Q => ∃ a dx fs i, x = .ref a ∧ y = .int i ∧ H a = some (.ins C dx fs) ∧ sp [.ref a, .int i] H Q E
theorem op_ownI {op : Operator} {fo ro rc : Option Value} (hc : PySem.W.selfFirst X.K C = true) (hs : PySem.W.findIn X.K (.ref C) (PySem.dunder op.info.2) = some (some (.ref g))) (hf : PySem.W.isFn X.K (.ref g) = true)
    (hR : PySem.W.findIn X.K (.ref C) (dunderR op.info.2) = some rc) (hp : rc = none ∨ ∃ g : Addr, rc = some (.ref g)) (h1 : PySem.W.findIn X.K (.type "int") (PySem.dunder op.info.2) = some fo) (h2 : PySem.W.findIn X.K (.type "int") (dunderR op.info.2) = some ro) (hsub : PySem.W.subIn X.K (.type "int") (.ref C) = some false)
    (F : FnOk X.prog X.w X.K X.mg X.base CX k g fd ps sp) (hr : Room k X.A) (hb : Binds X.K fd ps []) (hx : Passes CX X E) : OpR X (binaryOp op) (rOwnI C sp E) := by
  intro pins s σ H x y v u Q I rx ry h
  obtain ⟨a, dx, fs, i, rfl, rfl, ha, q⟩ := h
  cases (show v = Value.ref a from rx)
  obtain ⟨t, e⟩ := (show ∃ t, u = Value.int i t from ry)
  cases e
  obtain ⟨mA, O, _, _, _, _⟩ := ins_get I.hok ha
  obtain ⟨od, J, _⟩ := O.look
  obtain ⟨m, hF⟩ := I.fr
  refine PySem.W.ksp_binT (T := "int") hF I.ok.mod.kin J rfl hc hs hf hR hp h1 h2 hsub ?_
  refine wpAny_mono (run_fn (us := [.ref a, .int i t]) (vs := [.ref a, .int i]) F hr hb .nil hx I (.cons rfl (.cons ⟨t, rfl⟩ .nil)) q) (fun w s' z => ?_) fun _ _ x => x
  obtain ⟨z', H', I', rz, qz⟩ := z
  exact SlX.cmpback rz ⟨z', H', I', rz, qz⟩
end
end Own

namespace Own
open PySem PySem.Spec PyProof.Rows L2
/-! ### a dict comprehension whose keys are tuples -/
section
variable {X : Cx}
/-- one entry more, at a tuple's key -/
theorem put_tup {pins : List (Addr × Obj)} {σ : L2.St} {H : Hp} {s : Shared} {E : Value → Shared → Prop} {D b : Addr} {kvs : List (List Key × V)} {k : List Key} {v : V} {r : Value} {Q : Unit → Shared → Prop} (hu : X.A.units < cLine) (I : Inv X pins σ H s)
    (eD : H D = some (.dT kvs)) (eb : H b = some (.tup (k.map kV))) (hz : kvs.length < sizeLine) (rv : RelV v r) (q : ∀ s', Inv X pins σ (upd H D (.dT (putK kvs k v))) s' → Q () s') : wpAny (model X.prog X.w) X.A (dictSet D (.ref b) r) Q E s := by
  obtain ⟨z, nsys, xs, rel, dd⟩ := dt_of I.hok eD
  have lx : xs.length ≤ sizeLine := (Paired.length rel).symm ▸ z
  have lk : (putK kvs k v).length ≤ sizeLine := Nat.le_trans (length_putK kvs k v) hz
  refine wpAny_dictSet_heap (hsz := lx) hu (key_of I.hok eb) dd fun h2 d2 sb => q _ ?_
  obtain ⟨o, es, ep, g1, g2, g3, g4, _, g5⟩ := d2
  have keep : ∀ c ys, H c = some (.tup ys) → (upd H D (.dT (putK kvs k v))) c = some (.tup ys) := fun c ys ec => by
    rw [upd_ne (ne_of ec eD (fun z => nomatch z))]
    exact ec
  exact d_write I (by rw [eD]; exact True.intro) sb ⟨o, g1⟩ ⟨lk, nsys, _, (rel.put k eb rv).keeps keep, o, es, ep, g1, g2, g3, g4, g5⟩
abbrev InB (X : Cx) (sc : Scope) (p : Cx → Prop) : Prop := ∀ s H C cl fp, p (X.blk s H sc (compEnvC sc cl C X.env) fp)
abbrev cellsB (X : Cx) (sc : Scope) (n : Nat) : List (Str × Addr) := cellsFrom (n + 1) sc.names (cloFrom X.env.cells sc.names [])
/-- {k: v for .. in ..}, keys tuples -/
def tDcT (wi : TI) (g : TG) (tt : TT) (tk tv : TE) (own : List Nat) : TE := fun σ H Q => wi σ H fun J H1 => ∀ D, H1 D = none → ∃ W : Nat → Nat → Hp → Prop, (∃ m, W 0 m (upd H1 D (.dT []))) ∧ ∀ i m H2, W i m H2 →
  (J.stop i H2 ∧ Q (.ref D) H2) ∨ (J.go i H2 ∧ ∃ N : Hp → Prop, (∀ H3, N H3 → ∃ m', m' < m ∧ W (i + 1) m' H3) ∧ ∀ x H3, J.yld i H2 x H3 → g x (wipe σ own) H3 fun σ4 H4 => wipe σ4 own = wipe σ own ∧ tt σ4 H4 fun b H5 =>
    if b = true then tk σ4 H5 fun y H6 => tv σ4 H6 fun z H7 => ∃ kvs k a, y = .ref a ∧ H7 D = some (.dT kvs) ∧ H7 a = some (.tup (k.map kV)) ∧ kvs.length < sizeLine ∧ N (upd H7 D (.dT (putK kvs k z))) else N H5)
theorem dcT_core {pins : List (Addr × Obj)} {s : Shared} {σ : L2.St} {H : Hp} {Q : VK} {kx vx tg iter : Expr} {ifs : List Expr} {sc : Scope} {own : List (Str × Nat)} {pos pos' : Pos} {wi : TI} {g : TG} {tt : TT} {tk tv : TE} {use : Option (Value → Sem Unit)} {Qf : Value → Shared → Prop} (calm : X.calm = true) (room : X.A.units < cLine) (nd : X.N.Nodup) (I : Inv X pins σ H s) (src : PI X tg iter wi) (ok : BlkOk X.N X.env.scope sc own)
    (hg : InB X sc fun Y => PG Y tg g) (ht : InB X sc fun Y => PTs Y ifs tt) (hk : InB X sc fun Y => PE Y kx tk) (hv : InB X sc fun Y => PE Y vx tv) (fold : ∀ x, foldedSetIterable iter X.env x = pure x)
    (h : tDcT wi g tt tk tv (own.map (·.2)) σ H Q)
    (hRR : ∀ D Z s' m G, Inv X pins σ G s' → Q (.ref D) G → s'.heap.Ns Z m → FpOk X pins G Z → compPost (model X.prog X.w) X.A X.xe use Qf (.ref D) Z (.ok .next) s') :
    wpAny (model X.prog X.w) X.A (comprehension (.DictComp kx vx [⟨tg, iter, ifs, 0⟩] sc pos) sc X.env pos' newDict false (eval iter X.env) use) Qf X.xe s := by
  have frees : ∀ y ∈ sc.names, y.2 = .free → ∃ c, X.env.cells.lookup y.1 = some c := fun y hy e => (ok.free y hy e).elim (fun k => I.ok.has _ (.inl k)) fun k => I.ok.has _ (.inr k)
  refine wpAny_comprehension_free (use := use) rfl fold (closure_ok frees) ok.kind (fun y hy e => by rw [ok.uniq y hy, e]) (thn (src.run pins s σ H _ I h) fun _ _ hx => thn hx fun itv s2 h2 => ?_)
  obtain ⟨it, fp, tn, J, H2, rfl, I2, T, t2, f2, q⟩ := h2
  refine wpAny_newObj_type (newEnv_comp ?_)
  have nD : H2 s2.heap.objs.size = none := I2.hok.fresh (Nat.le_refl _)
  obtain ⟨W, ⟨m0, w0⟩, turn⟩ := q _ nD
  generalize eD : s2.heap.objs.size = D at nD w0 turn ⊢
  -- the dict stands, empty
  generalize e3 : ({ s2 with heap := s2.heap.push { cls := .type "dict", data := .dict #[] } } : Shared) = s3
  have p3 : s3.heap = s2.heap.push { cls := .type "dict", data := .dict #[] } := e3 ▸ rfl
  have old3 : ∀ {b : Addr} {o : Obj}, s2.heap.get? b = some o → s3.heap.get? b = some o := fun e => p3 ▸ Heap.get?_push_of_some _ e
  have I3 : Inv X pins σ (upd H2 D (.dT [])) s3 := by
    subst e3 eD
    exact I2.laid (t' := s2.toks) (fun _ _ e => Heap.get?_push_of_some _ e) (Nat.le_refl _) (dt_empty s2.heap I2.big)
  have f3 : ∀ b ∈ fp, FpOk X pins (upd H2 D (.dT [])) b ∧ b < s3.heap.objs.size := fun b hb => by
    obtain ⟨o, e, _⟩ := T.obj _ _ t2 b hb
    have lt := Heap.lt_size e
    refine ⟨⟨?_, (f2 b hb).2⟩, ?_⟩
    · rw [upd_ne (eD ▸ Nat.ne_of_lt lt)]
      exact (f2 b hb).1
    · rw [p3, Heap.size_push]
      exact Nat.lt_succ_of_lt lt
  have t3 : tn 0 s3.heap := T.keep _ _ _ t2 fun _ _ _ e => old3 e
  have I4 := block_start I3 ok nd f3
  generalize eZ : s3.heap.objs.size = Z at I4
  have pg := hg s3 (upd H2 D (.dT [])) Z (cellsB X sc Z) fp
  have pt := ht s3 (upd H2 D (.dT [])) Z (cellsB X sc Z) fp
  have pk := hk s3 (upd H2 D (.dT [])) Z (cellsB X sc Z) fp
  have pv_ := hv s3 (upd H2 D (.dT [])) Z (cellsB X sc Z) fp
  show codeAny (model X.prog X.w) X.A (.compStart (.DictComp kx vx [⟨tg, iter, ifs, 0⟩] sc pos) 0 (.ref it) (.ref D) (compEnvC sc (cellsB X sc Z) Z X.env)) (compPost (model X.prog X.w) X.A X.xe use Qf (.ref D) Z)
    { s3 with heap := pushCells (s3.heap.push { cls := .type "dict", data := .dict #[] }) sc.names }
  generalize e4 : ({ s3 with heap := pushCells (s3.heap.push { cls := .type "dict", data := .dict #[] }) sc.names } : Shared) = s4 at I4 ⊢
  have t4 : tn 0 s4.heap := T.keep _ _ _ t3 fun _ _ _ e => e4 ▸ pushCells_keeps _ _ _ _ (Heap.get?_push_of_some _ e)
  have nf : ∀ b ∈ fp, (upd H2 D (.dT [])) b = none := fun b hb => (f3 b hb).1.1
  generalize upd H2 D (.dT []) = H3 at I3 I4 f3 nf w0 pg pt pk pv_
  generalize eC : compEnvC sc (cellsB X sc Z) Z X.env = ce at I4 pg pt pk pv_ ⊢
  have lC : ce.locals = Z := eC ▸ rfl
  have fps : ∀ {τ : L2.St} {G : Hp} {s' : Shared}, Inv (X.blk s3 H3 sc ce fp) [] τ G s' → (∀ b ∈ fp, G b = none) → ∀ b ∈ fp, FpOk (X.blk s3 H3 sc ce fp) [] G b := fun J hn b hb => by
    obtain ⟨x1, x2⟩ := J.ok.exf b hb
    exact ⟨hn b hb, x1, J.ok.exfs b hb, .inl hb, fun x c => x2 x c, fun p hp => nomatch (show p ∈ ([] : List (Addr × Obj)) from hp)⟩
  have loop : codeAny (model X.prog X.w) X.A (.compLoop (.DictComp kx vx [⟨tg, iter, ifs, 0⟩] sc pos) 0 (.ref it) (.ref D) ce) (compPost (model X.prog X.w) X.A X.xe use Qf (.ref D) Z) s4 := by
    refine compLoop_anyD (fun n s' => ∃ i G, Inv (X.blk s3 H3 sc ce fp) [] (wipe σ (own.map (·.2))) G s' ∧ tn i s'.heap ∧ (∀ b ∈ fp, G b = none) ∧ W i n G) ?_ m0 ⟨0, H3, I4, t4, nf, w0⟩
    intro n s5 ⟨i, H5, I5, t5, n5, w5⟩
    obtain ⟨stop, done⟩ | ⟨go, N, hN, one⟩ := turn i n H5 w5
    · -- nothing more
      refine thnF (T.done (X.blk s3 H3 sc ce fp) rfl rfl rfl calm i [] s5 _ H5 (fun _ _ => False) I5 (fps I5 n5) t5 stop) fun r s6 ⟨er, I6⟩ => ?_
      subst er
      have nZ : H5 Z = none := lC ▸ (show H5 ce.locals = none from I6.free)
      have I7 : Inv X pins σ H5 s6 := I3.call' (ch := fp) I6.os I6.base I6.hok I6.bare fun b hb => by
        obtain ⟨⟨_, k1, k2, k3, k4⟩, _⟩ := f3 b hb
        exact ⟨k3, k1, k4⟩
      obtain ⟨m, hm, _⟩ := I6.loc
      have hm2 : s6.heap.Ns Z m := lC ▸ (show s6.heap.Ns ce.locals m from hm)
      exact hRR D Z s6 m H5 I7 done hm2 (I3.fpOk (Nat.le_of_eq eZ) nZ)
    · -- one more
      refine thnF (T.item (X.blk s3 H3 sc ce fp) rfl rfl rfl calm i [] s5 _ H5 (fun _ _ => False) I5 (fps I5 n5) t5 go) fun r s6 ⟨u, er, h6⟩ => ?_
      subst er
      refine thnF h6 fun _ s7 ⟨x, H7, I7, r7, y7, t7, n7⟩ => ?_
      have P7 := I7.pinned (fps I7 n7) (T.obj _ _ t7)
      refine thnF (pg.run _ s7 _ H7 x u _ P7 r7 (one x H7 y7)) fun _ s8 ⟨σ8, H8, I8, same8, q8⟩ => ?_
      refine thnF (pt.run _ s8 σ8 H8 _ I8 q8) fun b s9 ⟨H9, I9, q9⟩ => ?_
      have back : ∀ {s' : Shared} {G : Hp}, Inv (X.blk s3 H3 sc ce fp) ([] ++ pinsAt fp s7.heap) σ8 G s' → N G → ∃ m, m < n ∧ ∃ i G, Inv (X.blk s3 H3 sc ce fp) [] (wipe σ (own.map (·.2))) G s' ∧ tn i s'.heap ∧ (∀ b ∈ fp, G b = none) ∧ W i m G := fun {s' G} J nx => by
        obtain ⟨m', lt, w'⟩ := hN G nx
        have stays : ∀ b ∈ fp, ∀ o, s7.heap.get? b = some o → s'.heap.get? b = some o ∧ G b = none := fun b hb o e => by
          have z := J.pin (b, o) (List.mem_append_right _ (List.mem_append_right _ (mem_pinsAt hb e)))
          exact ⟨z.1, z.2.1⟩
        refine ⟨m', lt, i + 1, G, (J.unpinned (pins := [])).weak ?_ fun j v e => ?_, T.keep _ _ _ t7 fun b hb o e => (stays b hb o e).1, fun b hb => ?_, w'⟩
        · rw [← same8, wipe_length]
        · exact (wipe_some (same8.symm ▸ e)).1
        · obtain ⟨o, e, _⟩ := T.obj _ _ t7 b hb
          exact (stays b hb o e).2
      cases b with
      | false => exact back I9 q9
      | true =>
        refine thnF (pk.run _ s9 σ8 H9 _ I9 q9) fun kk_ sa ⟨yk, Ha, Ia, ra, qa⟩ => ?_
        refine thnF (pv_.run _ sa σ8 Ha _ Ia qa) fun vv_ sb ⟨yv, Hb, Ib, rb, kvs, k, a, ey, eDb, eab, lz, nx⟩ => ?_
        subst ey
        cases (show kk_ = Value.ref a from ra)
        exact put_tup (X := X.blk s3 H3 sc ce fp) room Ib eDb eab lz rb fun sc_ Ic => back Ic nx
  exact codeAny_compStart_dict loop (T.self X.A 0 _ _ _ t4 loop)
theorem pe_dcT {kx vx tg iter : Expr} {ifs : List Expr} {sc : Scope} {own : List (Str × Nat)} {pos : Pos} {wi : TI} {g : TG} {tt : TT} {tk tv : TE} (calm : X.calm = true) (room : X.A.units < cLine) (nd : X.N.Nodup) (src : PI X tg iter wi) (ok : BlkOk X.N X.env.scope sc own)
    (hg : InB X sc fun Y => PG Y tg g) (ht : InB X sc fun Y => PTs Y ifs tt) (hk : InB X sc fun Y => PE Y kx tk) (hv : InB X sc fun Y => PE Y vx tv) (fold : ∀ x, foldedSetIterable iter X.env x = pure x := by intro _; rfl) :
    PE X (.DictComp kx vx [⟨tg, iter, ifs, 0⟩] sc pos) (tDcT wi g tt tk tv (own.map (·.2))) := by
  refine ⟨fun pins s σ H Q I h => ?_⟩
  rw [arm_eval_DictComp]
  refine dcT_core calm room nd I src ok hg ht hk hv fold h fun D Z s' m G I' q hn f => ⟨m, hn, fun h'' sb => ?_⟩
  obtain ⟨f0, f1, f2, f3, f4, f5⟩ := f
  exact ⟨.ref D, G, I'.turned (t' := s'.toks) (fun b o hb e => (sb.2 b hb).trans e) f0 f1 f3 f4 f5, rfl, q⟩
/-- name = {k: v for ..} on one line, the name a local -/
theorem ps_setDcT {i : Nat} {y : Str} {py : Pos} {kx vx tg iter : Expr} {ifs : List Expr} {sc : Scope} {own : List (Str × Nat)} {pos spos : Pos} {wi : TI} {g : TG} {tt : TT} {tk tv : TE} (calm : X.calm = true) (room : X.A.units < cLine) (nd : X.N.Nodup) (hy : X.N[i]? = some y) (hyl : X.env.scope.names.lookup y = some .local)
    (hsw : swapsWith (.DictComp kx vx [⟨tg, iter, ifs, 0⟩] sc pos) (some (.Name y py)) spos.line X.env = pure true) (src : PI X tg iter wi) (ok : BlkOk X.N X.env.scope sc own)
    (hg : InB X sc fun Y => PG Y tg g) (ht : InB X sc fun Y => PTs Y ifs tt) (hk : InB X sc fun Y => PE Y kx tk) (hv : InB X sc fun Y => PE Y vx tv) (fold : ∀ x, foldedSetIterable iter X.env x = pure x := by intro _; rfl) :
    PS X (.Assign [.Name y py] (.DictComp kx vx [⟨tg, iter, ifs, 0⟩] sc pos) spos) (tAsg (tDcT wi g tt tk tv (own.map (·.2))) (gName i)) := by
  refine ⟨fun pins s σ H D I h => ?_⟩
  rw [exec_Assign_Name_used _ _ _ _ hsw]
  refine wpAny_bind (wpAny_standAt (wpAny_bind ?_))
  show wpAny _ X.A (do let _ ← comprehension (.DictComp kx vx [⟨tg, iter, ifs, 0⟩] sc pos) sc X.env (firstIterPos [⟨tg, iter, ifs, 0⟩] pos) newDict false (eval iter X.env) (some (assign (.Name y py) X.env))) _ _ s
  have h : tDcT wi g tt tk tv (own.map (·.2)) σ H (fun x H1 => gName i x σ H1 D.nx) := h
  refine wpAny_bind (thn (dcT_core (Qf := fun _ s' => SP X pins D .next s') calm room nd I src ok hg ht hk hv fold h fun L Z s' m G I' q hn f => ?_) fun _ s' hq => wpAny_pure (wpAny_pure hq))
  show wpAny _ _ (assign (.Name y py) X.env (.ref L)) _ _ _
  refine wpAny_assign_Name (store_ok2 (v := V.ref L) I' nd hy (.inl hyl) rfl (fun s2 I2 ⟨a, sb, ha⟩ => ?_) (.inr hyl))
  obtain ⟨f0, f1, f2, f3, f4, f5⟩ := f
  have haZ : Z ≠ a := by
    rcases ha with z | z
    · rw [z]; exact f1
    · exact fun e => f4 y a z e.symm
  refine ⟨m, hn.sameBut sb haZ, fun h3 sb3 => ?_⟩
  exact ⟨_, G, I2.turned (t' := s2.toks) (fun b o hb e => (sb3.2 b hb).trans e) f0 f1 f3 f4 f5, q⟩
theorem sw_dict {kx vx : Expr} {gs : List Comprehension} {sc : Scope} {pos py : Pos} {y : Str} {l : Nat} {env : Env} (hk : env.scope.kind = .function) (hy : env.scope.names.lookup y = some .local) (hl : (py.line == pos.line) = true)
    (ha : (sc.names.any fun (n, k) => n == y && (k == .local || k == .cell)) = false) : swapsWith (.DictComp kx vx gs sc pos) (some (.Name y py)) l env = pure true := by
  have ky : env.kindOf y = some .local := hy
  have hb : env.blockKind = .function := by unfold Env.blockKind; rw [hk]; rfl
  unfold swapsWith
  simp only [hb, ky, ha, Expr.pos, hl]
  rfl
end
end Own

namespace Own
open PySem PySem.Spec PyProof.Rows L2
theorem TrV.app {H : Hp} {vs us : List V} {l m : List Tr} (h : TrV H vs l) (k : TrV H us m) : TrV H (vs ++ us) (l ++ m) := by
  refine ⟨by rw [List.length_append, List.length_append, h.1, k.1], fun i t e => ?_⟩
  by_cases hi : i < l.length
  · rw [List.getElem?_append_left hi] at e
    rw [List.getElem?_append_left (by rw [h.1]; exact hi)]
    exact h.2 i t e
  · rw [List.getElem?_append_right (by omega)] at e
    rw [List.getElem?_append_right (by rw [h.1]; omega), h.1]
    exact k.2 _ t e
section
variable {P : Program} {w : World} {K : PySem.W.Frag} {mg : Str → Option Value} {base : Heap} {C : Addr}
theorem rd_make2 {n : Int} {a : Addr} {xs : List V} {l : List Tr} {H : Hp} {R : VK} {x dx : Addr} (hn : 0 ≤ n) (hB : SqB K H a xs) (hx : TrV H xs l) (hv : ∀ t ∈ l, Vld n t) (hl : l.length ≤ 1000) (nx : H x = none) (nd : H dx = none) (ne : dx ≠ x)
    (q : ∀ H' cs, Same H H' → LotAt C H' x n cs → IsNorm l cs → R .non H') : spInit K C (.ref x :: ([.int n, .ref a] ++ [])) (upd (upd H dx (.own x)) x (.ins C dx [])) R E0 := by
  have h := rd_make (C := C) (Q := fun v H' => v = V.ref x → R .non H') hn hB hx hv hl (fun H' y cs s hL hN e => by cases e; exact q H' cs s hL hN) x dx nx nd ne
  obtain ⟨p, dx', n', a', xs', l', e, h1, h2, h3, h4, h5, h6, h7⟩ := h
  exact ⟨p, dx', n', a', xs', l', e, h1, h2, h3, h4, h5, h6, fun H' c r k1 k2 k3 k4 => (h7 H' c r k1 k2 k3 k4).2 rfl⟩
def tms (k : Int) (l : List Tr) : List Tr := l.map fun t => (t.1, t.2.1, t.2.2 * k)
def mulE (k : Int) (l : List Tr) : List Tr := if k = 0 then [] else tms k l
end
end Own

/-! Lots counted by pairs: sums, multiples, differences. -/
namespace Own
open PySem PySem.Spec PyProof.Rows L2
theorem Good.more {n m : Int} {cs : List Tr} (g : Good n cs) (h : n ≤ m) : Good m cs := ⟨g.srt, fun e he => by
  have := g.ord e he
  omega⟩
theorem Good.lt {n : Int} {cs : List Tr} (g : Good n cs) : ∀ e ∈ cs, e.1 < e.2.1 := fun e he => (g.ord e he).2.1
theorem bs_add2 {n : Int} {cs ds r : List Tr} (g : Good n cs) (h : Good n ds) (i : IsNorm (cs ++ ds) r) (f : Int × Int → Bool) : bs f r = bs f cs + bs f ds := by
  rw [bs_norm f i, bk_append, bk_bs f g.lt, bk_bs f h.lt]
theorem tab_add {n : Int} {cs ds r : List Tr} (g : Good n cs) (h : Good n ds) (i : IsNorm (cs ++ ds) r) (x y : Int) : tabE r x y = tabE cs x y + tabE ds x y := bs_add2 g h i _
theorem bs_tms (f : Int × Int → Bool) (k : Int) (l : List Tr) : bs f (tms k l) = bs f l * k := by
  induction l with
  | nil => show (0 : Int) = 0 * k; omega
  | cons t r ih =>
    show (if f (pr (t.1, t.2.1, t.2.2 * k)) = true then t.2.2 * k else 0) + bs f (tms k r) = _
    rw [ih, bs, Int.add_mul]
    show (if f (pr t) = true then t.2.2 * k else 0) + _ = _
    split
    · rfl
    · rw [Int.zero_mul]
theorem tms_lt {k : Int} {l : List Tr} (h : ∀ e ∈ l, e.1 < e.2.1) : ∀ e ∈ tms k l, e.1 < e.2.1 := fun e he => by
  obtain ⟨t, ht, rfl⟩ := List.mem_map.mp he
  exact h t ht
theorem bs_mulE {n k : Int} {cs r : List Tr} (g : Good n cs) (i : IsNorm (mulE k cs) r) (f : Int × Int → Bool) : bs f r = bs f cs * k := by
  rw [bs_norm f i]
  unfold mulE
  by_cases h : k = 0
  · rw [if_pos h, h, Int.mul_zero]
    rfl
  · rw [if_neg h, bk_bs f (tms_lt g.lt), bs_tms]
theorem tab_mul {n k : Int} {cs r : List Tr} (g : Good n cs) (i : IsNorm (mulE k cs) r) (x y : Int) : tabE r x y = tabE cs x y * k := bs_mulE g i _
theorem mulE_vld {n k : Int} {cs : List Tr} (g : Good n cs) (k0 : 0 ≤ k) : ∀ t ∈ mulE k cs, Vld n t := fun t ht => by
  unfold mulE at ht
  by_cases h : k = 0
  · rw [if_pos h] at ht
    cases ht
  · rw [if_neg h] at ht
    obtain ⟨u, hu, rfl⟩ := List.mem_map.mp ht
    obtain ⟨v0, v1, v2, v3, v4, v5⟩ := g.vld u hu
    refine ⟨v0, v1, v2, v3, v4, ?_⟩
    show 1 ≤ u.2.2 * k
    have := Int.mul_pos (show 0 < u.2.2 by omega) (show 0 < k by omega)
    omega
theorem norm_nil {r : List Tr} (h : IsNorm [] r) : r = [] := List.eq_nil_of_length_eq_zero (Nat.le_zero.mp h.len)
theorem good_nil (n : Int) : Good n [] := ⟨List.Pairwise.nil, fun e he => by cases he⟩
/-- the cords between the two pins -/
def cnt (cs : List Tr) (p : Int × Int) : Int := bs (fun q => decide (q = p)) cs
theorem cnt_cons (t : Tr) (cs : List Tr) (p : Int × Int) : cnt (t :: cs) p = (if pr t = p then t.2.2 else 0) + cnt cs p := by
  unfold cnt
  rw [bs]
  by_cases h : pr t = p <;> simp [h]
theorem cnt_snoc (t : Tr) (cs : List Tr) (p : Int × Int) : cnt (cs ++ [t]) p = cnt cs p + (if pr t = p then t.2.2 else 0) := by
  unfold cnt
  rw [bs_append]
  show _ + ((if decide (pr t = p) = true then t.2.2 else 0) + 0) = _
  by_cases h : pr t = p <;> simp [h]
theorem cnt_out {cs : List Tr} {p : Int × Int} (h : p ∉ cs.map pr) : cnt cs p = 0 := bs_none fun e he => decide_eq_false fun z => h (by rw [← z]; exact List.mem_map.mpr ⟨e, he, rfl⟩)
theorem cnt_nn {cs : List Tr} (h : ∀ e ∈ cs, 1 ≤ e.2.2) (p : Int × Int) : 0 ≤ cnt cs p := by
  induction cs with
  | nil => exact Int.le_refl 0
  | cons t r ih =>
    rw [cnt_cons]
    have h1 := h t List.mem_cons_self
    have h2 := ih fun u hu => h u (List.mem_cons_of_mem _ hu)
    split <;> omega
theorem Good.pos {n : Int} {cs : List Tr} (g : Good n cs) : ∀ e ∈ cs, 1 ≤ e.2.2 := fun e he => (g.ord e he).2.2.2
theorem Good.cnt {n : Int} {cs : List Tr} (g : Good n cs) {e : Tr} (h : e ∈ cs) : cnt cs (pr e) = e.2.2 := (self_cnt (srt_nodup g.srt) e h).symm
theorem Good.mem {n : Int} {cs : List Tr} (g : Good n cs) (p : Int × Int) : p ∈ cs.map pr ↔ 1 ≤ Own.cnt cs p := by
  constructor
  · intro h
    obtain ⟨e, he, rfl⟩ := List.mem_map.mp h
    rw [g.cnt he]
    exact g.pos e he
  · intro h
    by_cases m : p ∈ cs.map pr
    · exact m
    · rw [cnt_out m] at h
      omega
theorem good_ext {n : Int} {r s : List Tr} (g : Good n r) (h : Good n s) (e : ∀ p, cnt r p = cnt s p) : r = s := by
  have em : r.map pr = s.map pr := sorted_uniq g.srt h.srt fun p => by rw [g.mem, h.mem, e]
  have e1 := of_pairs (r := r) (g := fun p => cnt s p) fun u hu => (g.cnt hu).symm.trans (e _)
  have e2 := of_pairs (r := s) (g := fun p => cnt s p) fun u hu => (h.cnt hu).symm
  exact e1.trans ((congrArg (List.map _) em).trans e2.symm)
theorem cnt_norm {l r : List Tr} (i : IsNorm l r) (o : ∀ e ∈ l, e.1 < e.2.1) (p : Int × Int) : cnt r p = cnt l p := by
  unfold cnt
  rw [bs_norm _ i, bk_bs _ o]
/-! the dict of a difference -/
def dvs (ps : List (Int × Int)) (v : Int × Int → Int) : List (List Key × V) := ps.map fun p => (kk p, V.int (v p))
theorem dvs_val (ps : List (Int × Int)) (v : Int × Int → Int) (p : Int × Int) : valV (dvs ps v) (kk p) = if p ∈ ps then some (.int (v p)) else none := by
  induction ps with
  | nil => rfl
  | cons q r ih =>
    unfold dvs valV
    rw [List.map_cons, List.find?_cons]
    by_cases h : q = p
    · subst h
      rw [if_pos List.mem_cons_self]
      simp
    · have hk : decide (kk q = kk p) = false := decide_eq_false fun z => h (kk_inj z)
      have e : (p ∈ q :: r) ↔ p ∈ r := ⟨fun m => (List.mem_cons.mp m).resolve_left fun z => h z.symm, List.mem_cons_of_mem _⟩
      dsimp only
      rw [hk]
      dsimp only
      have := ih
      unfold dvs valV at this
      rw [this]
      simp only [e]
theorem dvs_set {ps : List (Int × Int)} {p : Int × Int} (v : Int × Int → Int) (x : Int) (h : p ∈ ps) : putK (dvs ps v) (kk p) (.int x) = dvs ps fun q => if q = p then x else v q := by
  unfold putK
  rw [valV_any, dvs_val, if_pos h]
  show (dvs ps v).map _ = _
  unfold dvs
  rw [List.map_map]
  refine List.map_congr_left fun q _ => ?_
  show (if kk q = kk p then (kk q, V.int x) else (kk q, V.int (v q))) = (kk q, V.int (if q = p then x else v q))
  by_cases e : q = p
  · rw [if_pos (by rw [e]), if_pos e]
  · rw [if_neg fun z => e (kk_inj z), if_neg e]
theorem dvs_new {ps : List (Int × Int)} {p : Int × Int} (v : Int × Int → Int) (h : p ∉ ps) : putK (dvs ps v) (kk p) (.int (v p)) = dvs (ps ++ [p]) v := by
  rw [putK_new _ (by rw [dvs_val, if_neg h])]
  unfold dvs
  rw [List.map_append]
  rfl
def keep (ps : List (Int × Int)) (v : Int × Int → Int) : List Tr := (ps.filter fun p => decide (0 < v p)).map fun p => (p.1, p.2, v p)
theorem keep_cnt (v : Int × Int → Int) (q : Int × Int) : ∀ {ps : List (Int × Int)}, ps.Nodup → cnt (keep ps v) q = if q ∈ ps ∧ 0 < v q then v q else 0
  | [], _ => by
    rw [if_neg fun z => by cases z.1]
    rfl
  | p :: ps, hn => by
    have hc := List.nodup_cons.mp hn
    have ih := keep_cnt v q hc.2
    unfold keep at ih ⊢
    rw [List.filter_cons]
    by_cases h : 0 < v p
    · rw [if_pos (decide_eq_true h), List.map_cons, cnt_cons, ih]
      show (if (p.1, p.2) = q then v p else 0) + _ = _
      by_cases e : p = q
      · subst e
        rw [if_pos rfl, if_neg fun z => hc.1 z.1, if_pos ⟨List.mem_cons_self, h⟩]
        omega
      · rw [if_neg e]
        have e1 : (q ∈ p :: ps ∧ 0 < v q) ↔ (q ∈ ps ∧ 0 < v q) := ⟨fun m => ⟨(List.mem_cons.mp m.1).resolve_left fun z => e z.symm, m.2⟩, fun m => ⟨List.mem_cons_of_mem _ m.1, m.2⟩⟩
        simp only [e1]
        omega
    · rw [if_neg (by rw [decide_eq_false h]; decide), ih]
      by_cases e : p = q
      · subst e
        rw [if_neg fun z => h z.2, if_neg fun z => h z.2]
      · have e1 : (q ∈ p :: ps ∧ 0 < v q) ↔ (q ∈ ps ∧ 0 < v q) := ⟨fun m => ⟨(List.mem_cons.mp m.1).resolve_left fun z => e z.symm, m.2⟩, fun m => ⟨List.mem_cons_of_mem _ m.1, m.2⟩⟩
        simp only [e1]
theorem keep_ord {n : Int} {rs : List Tr} {v : Int × Int → Int} (g : Good n rs) : ∀ t ∈ keep (rs.map pr) v, Vld n t ∧ t.1 < t.2.1 := fun t ht => by
  obtain ⟨p, hp, rfl⟩ := List.mem_map.mp ht
  obtain ⟨h1, h2⟩ := List.mem_filter.mp hp
  obtain ⟨e, he, rfl⟩ := List.mem_map.mp h1
  have ho := g.ord e he
  have hv := of_decide_eq_true h2
  unfold Vld pr
  unfold pr at hv
  dsimp only
  omega
theorem keep_len {rs : List Tr} {v : Int × Int → Int} : (keep (rs.map pr) v).length ≤ rs.length := by
  unfold keep
  rw [List.length_map]
  refine Nat.le_trans (List.length_filter_le _ _) ?_
  rw [List.length_map]
  exact Nat.le_refl _
theorem keep_snoc (ps : List (Int × Int)) (v : Int × Int → Int) (p : Int × Int) : keep (ps ++ [p]) v = if 0 < v p then keep ps v ++ [(p.1, p.2, v p)] else keep ps v := by
  unfold keep
  rw [List.filter_append, List.map_append]
  by_cases h : 0 < v p
  · rw [if_pos h, List.filter_cons, if_pos (decide_eq_true h)]
    rfl
  · rw [if_neg h, List.filter_cons, if_neg (by rw [decide_eq_false h]; decide)]
    exact List.append_nil _
/-- what is left when ds is taken away -/
theorem sub_cnt {n : Int} {rs ds r : List Tr} (g : Good n rs) (h : Good n ds) (le : ∀ t ∈ ds, t.2.2 ≤ cnt rs (pr t)) (i : IsNorm (keep (rs.map pr) fun p => cnt rs p - cnt ds p) r) : Good n r ∧ ∀ p, cnt r p = cnt rs p - cnt ds p := by
  refine ⟨i.good fun t ht => (keep_ord g t ht).1, fun p => ?_⟩
  rw [cnt_norm i fun t ht => (keep_ord g t ht).2, keep_cnt _ _ (srt_nodup g.srt)]
  have nn := cnt_nn g.pos p
  by_cases hd : p ∈ ds.map pr
  · obtain ⟨e, he, rfl⟩ := List.mem_map.mp hd
    have h1 := le e he
    have h2 := h.cnt he
    have h3 := h.pos e he
    by_cases hz : 0 < cnt rs (pr e) - cnt ds (pr e)
    · rw [if_pos ⟨(g.mem _).mpr (by omega), hz⟩]
    · rw [if_neg fun z => hz z.2]
      omega
  · rw [cnt_out hd]
    by_cases hm : p ∈ rs.map pr
    · have := (g.mem p).mp hm
      rw [if_pos ⟨hm, by omega⟩]
    · rw [if_neg fun z => hm z.1, cnt_out hm]
      rfl
end Own

namespace Own
open PySem PySem.Spec PyProof.Rows L2
section
variable {J : It} {n : Nat} {G : Hp → Prop} {Y : Nat → Hp → V → Hp → Prop}
/-- a dict comprehension over a walk -/
theorem dc_it (w : Walk J n G Y) {g : TG} {tt : TT} {tk tv : TE} {vs : List Nat} {σ : L2.St} {H1 : Hp} {D : Addr} {Qd : Hp → Prop} (Pv : Nat → Hp → Prop) (h0 : Pv 0 (upd H1 D (.dT []))) (hG : ∀ i H, i ≤ n → Pv i H → G H)
    (hs : ∀ i x H H', i < n → Pv i H → Y i H x H' → g x (wipe σ vs) H' fun σ2 H2 => wipe σ2 vs = wipe σ vs ∧ tt σ2 H2 fun b H3 =>
      if b = true then tk σ2 H3 fun y H4 => tv σ2 H4 fun z H5 => ∃ kvs k a, y = .ref a ∧ H5 D = some (.dT kvs) ∧ H5 a = some (.tup (k.map kV)) ∧ kvs.length < sizeLine ∧ Pv (i + 1) (upd H5 D (.dT (putK kvs k z))) else Pv (i + 1) H3) (hd : ∀ H, Pv n H → Qd H) :
    ∃ W : Nat → Nat → Hp → Prop, (∃ m, W 0 m (upd H1 D (.dT []))) ∧ ∀ i m H, W i m H →
      (J.stop i H ∧ Qd H) ∨ (J.go i H ∧ ∃ Nx : Hp → Prop, (∀ H', Nx H' → ∃ m', m' < m ∧ W (i + 1) m' H') ∧ ∀ x H', J.yld i H x H' → g x (wipe σ vs) H' fun σ2 H2 => wipe σ2 vs = wipe σ vs ∧ tt σ2 H2 fun b H3 =>
        if b = true then tk σ2 H3 fun y H4 => tv σ2 H4 fun z H5 => ∃ kvs k a, y = .ref a ∧ H5 D = some (.dT kvs) ∧ H5 a = some (.tup (k.map kV)) ∧ kvs.length < sizeLine ∧ Nx (upd H5 D (.dT (putK kvs k z))) else Nx H3) := by
  refine ⟨fun i m H => m = n - i ∧ i ≤ n ∧ Pv i H, ⟨n, by simp, Nat.zero_le _, h0⟩, ?_⟩
  rintro i m H ⟨rfl, hi, p⟩
  have q := hG i H hi p
  by_cases hlt : i < n
  · exact .inr ⟨w.goes i H hlt q, Pv (i + 1), fun H' p' => ⟨n - (i + 1), by omega, rfl, hlt, p'⟩, fun x H' y => hs i x H H' hlt p (w.yields i H x H' hlt q y)⟩
  · have e : i = n := by omega
    subst e
    exact .inl ⟨w.stops H q, hd H p⟩
end
theorem dvs_len (ps : List (Int × Int)) (v : Int × Int → Int) : (dvs ps v).length = ps.length := List.length_map _
theorem dvs_at {ps : List (Int × Int)} {v : Int × Int → Int} {i : Nat} {k : List Key} {x : V} (h : (dvs ps v)[i]? = some (k, x)) : ∃ p, ps[i]? = some p ∧ k = kk p := by
  unfold dvs at h
  rw [List.getElem?_map] at h
  cases e : ps[i]? with
  | none => rw [e] at h; cases h
  | some p =>
    rw [e] at h
    cases h
    exact ⟨p, rfl, rfl⟩
section
variable {P : Program} {w : World} {K : PySem.W.Frag} {mg : Str → Option Value} {base : Heap} {C : Addr}
def spEntOf : Sp := fun vs H Q _ => ∃ (d : Addr) (ps : List (Int × Int)) (v : Int × Int → Int), vs = [.ref d] ∧ H d = some (.dT (dvs ps v)) ∧ ps.length ≤ 1000 ∧ ∀ H' p, Same H H' → H p = none → TripL H' p (keep ps v) → Q (.ref p) H'
theorem ok_entof {f : Addr} {fd : FuncData} (F : Fun K "entries_of" "entries_of" s_entries_of f fd) : FnOk P w K mg base CX0 1 f fd ["held"] spEntOf := by
  refine F.ok sc_entries_of (fun vs H Q E h => ?_) (fun cdv A outer s H vs Q E hr h => ?_)
  · obtain ⟨d, ps, v, rfl, _⟩ := h
    rfl
  · obtain ⟨d, ps, v, rfl, hd, hl, q⟩ := h
    have hu := hu_of hr
    refine ⟨_, (pss_one (ps_ret (pe_lock (pe_lc (own := [("a", 1), ("b", 2)]) (g := gTup K 2 (gCons (gName 1) (gCons (gName 2) gNil))) rfl sc_entries_of.nd (pi_keys (pv 0)) (blkOk_by (own := [("a", 1), ("b", 2)]) (N := ["held", "a", "b"]) (sc := defScope s_entries_of) (by decide +kernel)) (fun _ _ _ _ _ => (pg_tup (by rfl) (pgs_cons (pg_name (i := 1) sc_entries_of.nd rfl (.inl rfl)) (pgs_cons (pg_name (i := 2) sc_entries_of.nd rfl (.inl rfl)) pgs_nil)))) (fun _ _ _ _ _ => pts_one (pt_cmpR op_gt (pe_dget hu (pv 0) (pe_tup (pa_cons (pv 1) (pa_cons (pv 2) pa_nil))) (fun _ _ => rfl)) pe_int (nomark _))) (fun _ _ _ _ _ => (pe_tup (pa_cons (pv 1) (pa_cons (pv 2) (pa_cons (pe_dget hu (pv 0) (pe_tup (pa_cons (pv 1) (pa_cons (pv 2) pa_nil))) (fun _ _ => rfl)) pa_nil))))))))), ?_⟩
    refine ⟨d, _, hd, trivial, fun od => ?_⟩
    generalize hHf : upd H d (.frz od (.dT (dvs ps v))) = Hf
    have ef : Hf d = some (.frz od (.dT (dvs ps v))) := by rw [← hHf]; exact upd_same
    have of : ∀ b, b ≠ d → Hf b = H b := fun b h => by rw [← hHf]; exact upd_ne h
    refine ⟨_, rfl, d, od, rfl, .inr ⟨_, ef, fun D hD => ?_⟩⟩
    have nD0 : D ≠ d := fun z => by rw [z, ef] at hD; cases hD
    refine lc_it walk_keysT (fun i H2 => Same Hf H2 ∧ ∃ ws, H2 D = some (.lst ws) ∧ TrV H2 ws (keep (ps.take i) v)) ⟨same_upd hD, [], upd_same, TrV.nil⟩ (fun i H2 _ p => p.1 _ _ ef) (fun i x H2 H2' hi pv y => ?_) (fun H2 pv => ?_)
    · obtain ⟨s2, ws, eD, tV⟩ := pv
      obtain ⟨rfl, k, x0, qa, hk, rfl, hq⟩ := y
      obtain ⟨p, hp, rfl⟩ := dvs_at hk
      have hq2 : H2' qa = some (.tup [.int p.1, .int p.2]) := hq
      have hval : valV (dvs ps v) (kk p) = some (.int (v p)) := by rw [dvs_val, if_pos (List.mem_of_getElem? hp)]
      have ed := s2 _ _ ef
      have get : ∀ {H3 : Hp} {b : Addr}, Same H2' H3 → H3 b = some (.tup [.int p.1, .int p.2]) → DGet H3 d (.ref b) (some (.int (v p))) := fun {H3 b} s e => .inr ⟨_, kk p, b, .inr ⟨_, s _ _ ed⟩, rfl, e, hval.symm⟩
      refine ⟨qa, _, rfl, .inl (.inl hq2), rfl, _, _, rfl, _, _, rfl, rfl, rfl, ?_⟩
      refine ⟨_, rfl, _, rfl, _, rfl, by show 2 ≤ sizeLine; decide, fun p1 np1 => ⟨d, .int (v p), rfl, get (same_upd np1) upd_same, ?_⟩⟩
      have s1 := same_upd (o := .tup [.int p.1, .int p.2]) np1
      have tk : keep (ps.take (i + 1)) v = if 0 < v p then keep (ps.take i) v ++ [(p.1, p.2, v p)] else keep (ps.take i) v := by
        rw [List.take_add_one, hp]
        exact keep_snoc _ _ _
      have hlen : ws.length ≤ 1000 := by
        rw [tV.1]
        unfold keep
        rw [List.length_map]
        have h1 := List.length_filter_le (fun p => decide (0 < v p)) (ps.take i)
        rw [List.length_take] at h1
        omega
      refine ⟨_, _, rfl, rfl, _, rfl, ite2 (fun e => ?_) (fun e => ?_)⟩
      · have h0 : 0 < v p := of_decide_eq_true e
        refine ⟨_, rfl, _, rfl, _, rfl, _, rfl, _, rfl, by show 2 ≤ sizeLine; decide, fun p2 np2 => ⟨d, .int (v p), rfl, get (s1.trans (same_upd np2)) upd_same, by show 3 ≤ sizeLine; decide, fun p3 np3 => ?_⟩⟩
        have s3 := (s1.trans (same_upd (o := .tup [.int p.1, .int p.2]) np2)).trans (same_upd (o := .tup [.int p.1, .int p.2, .int (v p)]) np3)
        have nD : p3 ≠ D := fun z => by
          rw [z] at np3
          have := (s1.trans (same_upd (o := .tup [.int p.1, .int p.2]) np2)) _ _ eD
          rw [this] at np3
          cases np3
        refine ⟨ws, s3 _ _ eD, small1000 hlen, same_put (H1 := Hf) hD (s2.trans s3), _, upd_same, ?_⟩
        rw [tk, if_pos h0]
        refine (tV.sameT (sameT_put eD s3)).snoc ?_
        rw [upd_ne nD, upd_same]
      · have h0 : ¬ 0 < v p := fun z => e (decide_eq_true z)
        refine ⟨s2.trans s1, ws, s1 _ _ eD, ?_⟩
        rw [tk, if_neg h0]
        exact tV.same s1
    · obtain ⟨s2, ws, eD, tV⟩ := pv
      rw [dvs_len, List.take_length] at tV
      have ed := s2 _ _ ef
      refine ⟨ed, q _ D (fun b o e => ?_) (by rw [← of D nD0]; exact hD) ⟨ws, by rw [upd_ne nD0]; exact eD, tV.sameT fun b o e => ?_⟩⟩
      · by_cases z : b = d
        · subst z
          rw [upd_same, ← hd]
          exact e
        · rw [upd_ne z]
          exact s2 _ _ (by rw [of b z]; exact e)
      · rw [upd_ne fun z => by rw [z, ed] at e; cases e]
        exact e
def spByPair : Sp := fun vs H Q _ => ∃ (c : Addr) (n : Int) (cs : List Tr), vs = [.ref c] ∧ Trip H c cs ∧ Good n cs ∧ cs.length ≤ 1000 ∧ ∀ H' d, Same H H' → H d = none → H' d = some (.dT (dvs (cs.map pr) (cnt cs))) → Q (.ref d) H'
theorem ok_bypair {f : Addr} {fd : FuncData} (F : Fun K "by_pair" "by_pair" s_by_pair f fd) : FnOk P w K mg base CX0 1 f fd ["cords"] spByPair := by
  refine F.ok sc_by_pair (fun vs H Q E h => ?_) (fun cdv A outer s H vs Q E hr h => ?_)
  · obtain ⟨c, n, cs, rfl, _⟩ := h
    rfl
  · obtain ⟨c, n, cs, rfl, hc, hG, hl, q⟩ := h
    have hu := hu_of hr
    refine ⟨_, (pss_one (ps_ret (pe_dcT (own := [("a", 1), ("b", 2), ("many", 3)]) (g := gTup K 3 (gCons (gName 1) (gCons (gName 2) (gCons (gName 3) gNil)))) (tt := tYes) rfl (Nat.lt_of_succ_lt hu) sc_by_pair.nd (pi_tup (pv 0)) (blkOk_by (own := [("a", 1), ("b", 2), ("many", 3)]) (N := ["cords", "a", "b", "many"]) (sc := defScope s_by_pair) (by decide +kernel)) (fun _ _ _ _ _ => (pg_tup (by rfl) (pgs_cons (pg_name (i := 1) sc_by_pair.nd rfl (.inl rfl)) (pgs_cons (pg_name (i := 2) sc_by_pair.nd rfl (.inl rfl)) (pgs_cons (pg_name (i := 3) sc_by_pair.nd rfl (.inl rfl)) pgs_nil))))) (fun _ _ _ _ _ => pts_nil) (fun _ _ _ _ _ => (pe_tup (pa_cons (pv 1) (pa_cons (pv 2) pa_nil)))) (fun _ _ _ _ _ => (pv 3))))), ?_⟩
    obtain ⟨xs, ex, tx⟩ := hc
    refine ⟨_, rfl, c, rfl, ⟨xs, .inl (.inl ex)⟩, fun O hO => ?_⟩
    refine dc_it (walk_tup (K := K) (a := c) (xs := xs)) (fun i H2 => Same H H2 ∧ H2 O = some (.dT (dvs ((cs.take i).map pr) (cnt cs)))) ⟨same_upd hO, upd_same⟩ (fun i H2 _ pv => .inl (.inl (pv.1 _ _ ex))) (fun i x H2 H2' hi pv y => ?_) (fun H2 pv => ?_)
    · obtain ⟨rfl, hxi⟩ := y
      obtain ⟨s2, eD⟩ := pv
      obtain ⟨u, t, rfl, hti, hu2⟩ := (tx.same s2).at_ hxi
      refine ⟨u, _, rfl, .inl (.inl hu2), rfl, _, _, rfl, _, _, rfl, _, _, rfl, rfl, rfl, ?_⟩
      refine ⟨_, rfl, _, rfl, by show 2 ≤ sizeLine; decide, fun p1 np1 => ⟨_, rfl, _, kk (pr t), p1, rfl, (same_upd np1) _ _ eD, upd_same, ?_, ?_⟩⟩
      · rw [dvs_len, List.length_map, List.length_take]
        exact Nat.lt_of_le_of_lt (Nat.min_le_right _ _) (small1000 hl)
      · refine ⟨same_put (H1 := H) hO (s2.trans (same_upd np1)), ?_⟩
        rw [upd_same, List.take_add_one, hti]
        have hnew : pr t ∉ (cs.take i).map pr := fun m => by
          have hnd := srt_nodup hG.srt
          rw [List.map_take] at m
          obtain ⟨j, hj, ej⟩ := List.mem_iff_getElem.mp m
          rw [List.length_take] at hj
          have hil : i < (cs.map pr).length := by rw [List.length_map]; exact (List.getElem?_eq_some_iff.mp hti).1
          have h1 : (cs.map pr)[j]? = (cs.map pr)[i]? := by
            rw [List.getElem_take] at ej
            rw [List.getElem?_eq_getElem (by omega), ej, List.getElem?_map, hti]
            rfl
          have h2 := (List.getElem?_inj (by omega) hnd).mp h1
          omega
        have hc := hG.cnt (List.mem_of_getElem? hti)
        show some (HO.dT (putK _ (kk (pr t)) (.int t.2.2))) = some (HO.dT (dvs ((cs.take i ++ [t]).map pr) (cnt cs)))
        rw [← hc, dvs_new _ hnew, List.map_append]
        rfl
    · obtain ⟨s2, eD⟩ := pv
      have hxl : xs.length = cs.length := tx.1
      rw [hxl, List.take_length] at eD
      exact q H2 O s2 hO eD
/-- the cords between two pins -/
def spBtw (K : PySem.W.Frag) (C D : Addr) : Sp := fun vs H Q E => ∃ (p : Addr) (x y : V) (n : Int) (cs : List Tr), vs = [.ref p, x, y] ∧ LotAt C H p n cs ∧ 0 ≤ n ∧ n ≤ 1000 ∧ Good n cs ∧ cs.length ≤ 1000 ∧
  ((∃ i j : Int, x = .int i ∧ y = .int j ∧ 0 ≤ i ∧ i < n ∧ 0 ≤ j ∧ j < n ∧ ∀ H', Same H H' → Q (.int (cnt cs (lo i j, hi i j))) H') ∨
    (NotB K H n x ∧ ShoV K H x ∧ Out D ["pin"] [x] H E) ∨ (∃ i : Int, x = .int i ∧ 0 ≤ i ∧ i < n ∧ NotB K H n y ∧ ShoV K H y ∧ Out D ["pin"] [y] H E))
theorem ok_btw {f D : Addr} {fd : FuncData} (F : Fun K "between" "Lot.between" s_Lot_between f fd) (T : Bi mg) (L : LotC K mg C) {f_k : Addr} {d_k : FuncData} (D_k : Df K mg "check_pin" s_check_pin ["pins", "pin"] f_k d_k) (G_k : FnOk P w K mg base (L2N.CX P w) 4 f_k d_k ["pins", "pin"] (spCkPinX K D)) {f_p : Addr} {d_p : FuncData} (D_p : Df K mg "by_pair" s_by_pair ["cords"] f_p d_p) (G_p : FnOk P w K mg base CX0 1 f_p d_p ["cords"] spByPair) : FnOk P w K mg base (L2N.CX P w) 6 f fd ["self", "one", "other"] (spBtw K C D) := by
  refine okN F sc_Lot_between (fun vs H Q E h => ?_) (fun cdv A outer s H vs Q E hr h => ?_)
  · obtain ⟨p, x, y, n, cs, rfl, _⟩ := h
    rfl
  · obtain ⟨p, x, y, n, cs, rfl, hL, n0, n1, hG, hl, h⟩ := h
    have hu := hu_of hr
    refine ⟨_, (pss_cons (ps_expr (pe_call G_k (hr.mono (by decide)) (by rfl) D_k.g D_k.F.kp D_k.b .nil (L2N.passes_call (L2N.takes_of rfl rfl rfl rfl) (fun _ _ _ _ h => h)) (pa_cons (pe_fld (pv 0) rfl) (pa_cons (pv 1) pa_nil)))) (pss_cons (ps_expr (pe_call G_k (hr.mono (by decide)) (by rfl) D_k.g D_k.F.kp D_k.b .nil (L2N.passes_call (L2N.takes_of rfl rfl rfl rfl) (fun _ _ _ _ h => h)) (pa_cons (pe_fld (pv 0) rfl) (pa_cons (pv 2) pa_nil)))) (pss_one (ps_ret (pe_dget2 hu (pe_call G_p (hr.mono (by decide)) (by rfl) D_p.g D_p.F.kp D_p.b .nil pass0 (pa_cons (pe_fld (pv 0) rfl) pa_nil)) (pe_tup (pa_cons (pe_callB (call_min2 rfl) (by rfl) T.b_min (by decide +kernel) (pa_cons (pv 1) (pa_cons (pv 2) pa_nil))) (pa_cons (pe_callB (call_max2 rfl) (by rfl) T.b_max (by decide +kernel) (pa_cons (pv 1) (pa_cons (pv 2) pa_nil))) pa_nil))) pe_int ⟨rfl, rfl, rfl, rfl⟩))))), ?_⟩
    obtain ⟨dx, c, e, t⟩ := id hL
    rcases h with ⟨i, j, rfl, rfl, i0, i1, j0, j1, q⟩ | ⟨hb, hs, q⟩ | ⟨i, rfl, i0, i1, hb, hs, q⟩
    · refine ⟨_, rfl, p, C, dx, _, _, rfl, e, L.cl, L.nP, flds_pins _ _, _, rfl, n, _, rfl, .inl ⟨i, rfl, i0, i1, ?_⟩⟩
      refine ⟨_, rfl, p, C, dx, _, _, rfl, e, L.cl, L.nP, flds_pins _ _, _, rfl, n, _, rfl, .inl ⟨j, rfl, j0, j1, ?_⟩⟩
      refine ⟨_, rfl, p, C, dx, _, _, rfl, e, L.cl, L.nC, flds_cords _ _, c, n, cs, rfl, t, hG, hl, fun H1 d s1 nd ed => ?_⟩
      refine ⟨d, rfl, .inr ⟨_, .inl ed⟩, _, rfl, _, rfl, _, _, rfl, _, rfl, _, rfl, _, _, rfl, by show 2 ≤ sizeLine; decide, fun p1 np1 => ?_⟩
      have k1 := same_upd (o := .tup [.int (lo i j), .int (hi i j)]) np1
      refine ⟨_, .inr ⟨_, kk (lo i j, hi i j), p1, .inl (k1 _ _ ed), rfl, upd_same, rfl⟩, ?_⟩
      rw [dvs_val]
      by_cases m : (lo i j, hi i j) ∈ cs.map pr
      · rw [if_pos m]
        exact q _ (s1.trans k1)
      · rw [if_neg m]
        have z := cnt_out m
        have := q _ (s1.trans k1)
        rw [z] at this
        exact this
    · exact ⟨_, rfl, p, C, dx, _, _, rfl, e, L.cl, L.nP, flds_pins _ _, _, rfl, n, _, rfl, .inr ⟨hb, hs, q⟩⟩
    · refine ⟨_, rfl, p, C, dx, _, _, rfl, e, L.cl, L.nP, flds_pins _ _, _, rfl, n, _, rfl, .inl ⟨i, rfl, i0, i1, ?_⟩⟩
      exact ⟨_, rfl, p, C, dx, _, _, rfl, e, L.cl, L.nP, flds_pins _ _, _, rfl, n, _, rfl, .inr ⟨hb, hs, q⟩⟩
def spEndsX (K : PySem.W.Frag) (C D : Addr) : Sp := fun vs H Q E => ∃ (p : Addr) (x : V) (n : Int) (cs : List Tr), vs = [.ref p, x] ∧ LotAt C H p n cs ∧ 0 ≤ n ∧ n ≤ 1000 ∧ (∀ t ∈ cs, Vld n t) ∧
  ((∃ i : Int, x = .int i ∧ 0 ≤ i ∧ i < n ∧ ∀ H', Same H H' → Q (.int (endsOf cs i)) H') ∨ (NotB K H n x ∧ ShoV K H x ∧ Out D ["pin"] [x] H E))
theorem ok_endsX {f D : Addr} {fd : FuncData} (F : Fun K "ends" "Lot.ends" s_Lot_ends f fd) (L : LotC K mg C) {f_k : Addr} {d_k : FuncData} (D_k : Df K mg "check_pin" s_check_pin ["pins", "pin"] f_k d_k) (G_k : FnOk P w K mg base (L2N.CX P w) 4 f_k d_k ["pins", "pin"] (spCkPinX K D)) {f_p : Addr} {d_p : FuncData} (D_p : Df K mg "ends_at_pins" s_ends_at_pins ["pins", "cords"] f_p d_p) (G_p : FnOk P w K mg base CX0 1 f_p d_p ["pins", "cords"] spEap) : FnOk P w K mg base (L2N.CX P w) 6 f fd ["self", "pin"] (spEndsX K C D) := by
  refine okN F sc_Lot_ends (fun vs H Q E h => ?_) (fun cdv A outer s H vs Q E hr h => ?_)
  · obtain ⟨p, x, n, cs, rfl, _⟩ := h
    rfl
  · obtain ⟨p, x, n, cs, rfl, hL, n0, n1, hv, h⟩ := h
    refine ⟨_, (pss_cons (ps_expr (pe_call G_k (hr.mono (by decide)) (by rfl) D_k.g D_k.F.kp D_k.b .nil (L2N.passes_call (L2N.takes_of rfl rfl rfl rfl) (fun _ _ _ _ h => h)) (pa_cons (pe_fld (pv 0) rfl) (pa_cons (pv 1) pa_nil)))) (pss_one (ps_ret (pe_ix (r := rIxL K) ix_list (pe_call G_p (hr.mono (by decide)) (by rfl) D_p.g D_p.F.kp D_p.b .nil pass0 (pa_cons (pe_fld (pv 0) rfl) (pa_cons (pe_fld (pv 0) rfl) pa_nil))) (pv 1) (fun _ _ => rfl))))), ?_⟩
    obtain ⟨dx, c, e, t⟩ := id hL
    rcases h with ⟨i, rfl, i0, i1, q⟩ | ⟨hb, hs, q⟩
    · refine ⟨_, rfl, p, C, dx, _, _, rfl, e, L.cl, L.nP, flds_pins _ _, _, rfl, n, _, rfl, .inl ⟨i, rfl, i0, i1, ?_⟩⟩
      refine ⟨_, rfl, p, C, dx, _, _, rfl, e, L.cl, L.nP, flds_pins _ _, _, rfl, p, C, dx, _, _, rfl, e, L.cl, L.nC, flds_cords _ _, n, c, cs, rfl, n0, n1, t, hv, fun H1 u s1 nu eu => ?_⟩
      exact ⟨_, rfl, u, _, i, _, rfl, rfl, .inl (.inl eu), gl_at _ i0 i1, q H1 s1⟩
    · exact ⟨_, rfl, p, C, dx, _, _, rfl, e, L.cl, L.nP, flds_pins _ _, _, rfl, n, _, rfl, .inr ⟨hb, hs, q⟩⟩
end
end Own

namespace Own
open PySem PySem.Spec PyProof.Rows L2
section
variable {P : Program} {w : World} {K : PySem.W.Frag} {mg : Str → Option Value} {base : Heap} {C D D2 f_u : Addr} {d_u : FuncData}
def spAddX (C D : Addr) : Sp := fun vs H Q E => ∃ (p o : Addr) (n m : Int) (cs ds : List Tr), vs = [.ref p, .ref o] ∧ LotAt C H p n cs ∧ LotAt C H o m ds ∧ (0 ≤ n ∧ n ≤ 1000) ∧ (0 ≤ m ∧ m ≤ 1000) ∧ (∀ t ∈ cs, Vld n t) ∧ (∀ t ∈ ds, Vld m t) ∧ cs.length + ds.length ≤ 1000 ∧
  (n = m → ∀ H' x r, Same H H' → LotAt C H' x n r → IsNorm (cs ++ ds) r → Q (.ref x) H') ∧ (n ≠ m → Out D ["one", "other"] [.int n, .int m] H E)
theorem ok_addX {f : Addr} {fd : FuncData} (F : Fun K "__add__" "Lot.__add__" s_Lot_add f fd) (L : LotC K mg C) {z f_i : Addr} {d_i : FuncData} (M : Mk K C f_i) (b_i : Binds K d_i ["self", "pins", "cords"] []) (b_1 : Binds K d_i ["self", "pins", "cords"] [.ref z]) (G_i : GI P w K mg base C f_i d_i) {f_k : Addr} {d_k : FuncData} (D_k : Df K mg "check_like" s_check_like ["one", "other"] f_k d_k) (G_k : FnOk P w K mg base (L2N.CX P w) 4 f_k d_k ["one", "other"] (spLikeX D)) : FnOk P w K mg base (L2N.CX P w) 7 f fd ["self", "other"] (spAddX C D) := by
  refine okN F sc_Lot_add (fun vs H Q E h => ?_) (fun cdv A outer s H vs Q E hr h => ?_)
  · obtain ⟨p, o, n, m, cs, ds, rfl, _⟩ := h
    rfl
  · obtain ⟨p, o, n, m, cs, ds, rfl, hp, ho, ⟨n0, n1⟩, ⟨m0, m1⟩, vc, vd, hl, q, u⟩ := h
    refine ⟨_, (pss_cons (ps_expr (pe_call G_k (hr.mono (by decide)) (by rfl) D_k.g D_k.F.kp D_k.b .nil (L2N.passes_call (L2N.takes_of rfl rfl rfl rfl) (fun _ _ _ _ h => h)) (pa_cons (pe_fld (pv 0) rfl) (pa_cons (pe_fld (pv 1) rfl) pa_nil))))
        (pss_one (ps_ret (pe_make M G_i hr (by rfl) L.g b_i .nil pass0 (pa_cons (pe_fld (pv 0) rfl) (pa_cons (pe_op op_catA (pe_fld (pv 0) rfl) (pe_fld (pv 1) rfl)) pa_nil)))))), ?_⟩
    obtain ⟨dx, c, e, xs, ex, tx⟩ := hp
    obtain ⟨dy, d, e2, ys, ey, ty⟩ := ho
    refine ⟨_, rfl, p, C, dx, _, _, rfl, e, L.cl, L.nP, flds_pins _ _, _, rfl, o, C, dy, _, _, rfl, e2, L.cl, L.nP, flds_pins _ _, n, m, rfl, ⟨n0, n1⟩, ⟨m0, m1⟩, fun e => ?_, u⟩
    subst e
    replace q := q rfl
    refine ⟨_, rfl, p, C, dx, _, _, rfl, e, L.cl, L.nP, flds_pins _ _, _, rfl, p, C, dx, _, _, rfl, e, L.cl, L.nC, flds_cords _ _, _, rfl, o, C, dy, _, _, rfl, e2, L.cl, L.nC, flds_cords _ _, c, d, xs, ys, rfl, rfl, .inl (.inl ex), .inl (.inl ey), ?_, fun hx => ?_, fun hx hy => ?_, fun hx hy u nu => ?_⟩
    · rw [tx.1, ty.1]
      exact Nat.le_trans hl (by decide)
    · have : cs = [] := List.eq_nil_of_length_eq_zero (by rw [← tx.1, hx]; rfl)
      subst this
      exact rd_make n0 (.inr (.inl (.inl ey))) ty vd (by omega) fun H2 x r s3 hLt hN => q H2 x r s3 hLt hN
    · have : ds = [] := List.eq_nil_of_length_eq_zero (by rw [← ty.1, hy]; rfl)
      subst this
      rw [List.append_nil] at q
      exact rd_make n0 (.inr (.inl (.inl ex))) tx vc (by omega) fun H2 x r s3 hLt hN => q H2 x r s3 hLt hN
    · have su : Same H (upd H u (.tup (xs ++ ys))) := same_upd nu
      refine rd_make n0 (.inr (.inl (.inl upd_same))) ((tx.same su).app (ty.same su)) (fun t ht => ?_) (by rw [List.length_append]; exact hl) fun H2 x r s3 hLt hN => q H2 x r (su.trans s3) hLt hN
      rcases List.mem_append.mp ht with h | h
      · exact vc t h
      · exact vd t h
def spMulX (K : PySem.W.Frag) (C D : Addr) : Sp := fun vs H Q E => ∃ (p : Addr) (v : V) (n : Int) (cs : List Tr), vs = [.ref p, v] ∧ LotAt C H p n cs ∧ 0 ≤ n ∧ (∀ t ∈ cs, Vld n t) ∧ cs.length ≤ 1000 ∧
  ((∃ k : Int, v = .int k ∧ 0 ≤ k ∧ (∀ t ∈ cs, CMul t.2.2 k) ∧ ∀ H' x r, Same H H' → LotAt C H' x n r → IsNorm (mulE k cs) r → Q (.ref x) H') ∨ (((∃ i : Int, v = .int i ∧ i < 0) ∨ NotW K H v) ∧ ShoV K H v ∧ Out D ["number"] [v] H E))
theorem ok_mulX {f : Addr} {fd : FuncData} (F : Fun K "__mul__" "Lot.__mul__" s_Lot_mul f fd) (L : LotC K mg C) {z f_i : Addr} {d_i : FuncData} (M : Mk K C f_i) (b_i : Binds K d_i ["self", "pins", "cords"] []) (b_1 : Binds K d_i ["self", "pins", "cords"] [.ref z]) (G_i : GI P w K mg base C f_i d_i) (hz : ∀ H, SqT K H z []) {f_k : Addr} {d_k : FuncData} (D_k : Df K mg "check_number" s_check_number ["number", "least"] f_k d_k) (G_k : FnOk P w K mg base (L2N.CX P w) 4 f_k d_k ["number", "least"] (spCkNumX K D)) : FnOk P w K mg base (L2N.CX P w) 7 f fd ["self", "number"] (spMulX K C D) := by
  refine okN F sc_Lot_mul (fun vs H Q E h => ?_) (fun cdv A outer s H vs Q E hr h => ?_)
  · obtain ⟨p, v, n, cs, rfl, _⟩ := h
    rfl
  · obtain ⟨p, v, n, cs, rfl, hp, n0, vc, hl, h⟩ := h
    refine ⟨_, (pss_cons (ps_expr (pe_call G_k (hr.mono (by decide)) (by rfl) D_k.g D_k.F.kp D_k.b .nil (L2N.passes_call (L2N.takes_of rfl rfl rfl rfl) (fun _ _ _ _ h => h)) (pa_cons (pv 1) (pa_cons pe_int pa_nil))))
        (pss_cons (ps_if (pt_cmpR op_eq (pv 1) pe_int (nomark _)) (pss_one (ps_ret (pe_make M G_i hr (by rfl) L.g b_1 (show Vals [V.ref z] [Value.ref z] from .cons rfl .nil) pass0 (pa_cons (pe_fld (pv 0) rfl) pa_nil)))) pss_nil)
        (pss_one (ps_ret (pe_make M G_i hr (by rfl) L.g b_i .nil pass0 (pa_cons (pe_fld (pv 0) rfl) (pa_cons (pe_lc (own := [("a", 2), ("b", 3), ("many", 4)]) (g := gTup K 3 (gCons (gName 2) (gCons (gName 3) (gCons (gName 4) gNil)))) (tt := tYes) rfl sc_Lot_mul.nd (pi_tup (pe_fld (pv 0) rfl)) (blkOk_by (own := [("a", 2), ("b", 3), ("many", 4)]) (N := ["self", "number", "a", "b", "many"]) (sc := defScope s_Lot_mul) (by decide +kernel)) (fun _ _ _ _ _ => (pg_tup (by rfl) (pgs_cons (pg_name (i := 2) sc_Lot_mul.nd rfl (.inl rfl)) (pgs_cons (pg_name (i := 3) sc_Lot_mul.nd rfl (.inl rfl)) (pgs_cons (pg_name (i := 4) sc_Lot_mul.nd rfl (.inl rfl)) pgs_nil))))) (fun _ _ _ _ _ => pts_nil) (fun _ _ _ _ _ => (pe_tup (pa_cons (pv 2) (pa_cons (pv 3) (pa_cons (pe_op op_mul (pv 4) (pv 1)) pa_nil)))))) pa_nil))))))), ?_⟩
    obtain ⟨dx, c, e, xs, ex, tx⟩ := hp
    rcases h.symm with ⟨hb, hs, q⟩ | ⟨k, rfl, k0, vm, q⟩
    · exact ⟨_, rfl, v, 0, rfl, .inr ⟨hb, hs, q⟩⟩
    refine ⟨_, rfl, _, 0, rfl, .inl ⟨k, rfl, k0, ?_⟩⟩
    refine ⟨_, rfl, rfl, _, rfl, ite2 (fun z => ?_) (fun z => ?_)⟩
    · have hk : k = 0 := by
        have := of_decide_eq_true z
        exact V.int.inj this
      refine ⟨_, rfl, p, C, dx, _, _, rfl, e, L.cl, L.nP, flds_pins _ _, ?_⟩
      refine rd_make (l := []) n0 (.inr (hz H)) TrV.nil (by simp) (Nat.zero_le _) fun H2 x r s3 hLt hN => q H2 x r s3 hLt ?_
      unfold mulE
      rw [if_pos hk]
      exact hN
    · have hk : k ≠ 0 := fun e => z (decide_eq_true (by rw [e]))
      refine ⟨_, rfl, p, C, dx, _, _, rfl, e, L.cl, L.nP, flds_pins _ _, ?_⟩
      refine ⟨_, rfl, p, C, dx, _, _, rfl, e, L.cl, L.nC, flds_cords _ _, c, rfl, ⟨xs, .inl (.inl ex)⟩, fun D hD => ?_⟩
      refine lc_tup (K := K) (a := c) (xs := xs) (fun i H2 => Same H H2 ∧ ∃ ws, H2 D = some (.lst ws) ∧ TrV H2 ws ((tms k cs).take i)) ⟨same_upd hD, [], upd_same, TrV.nil⟩ (fun i H2 _ p => .inl (.inl (p.1 _ _ ex))) (fun i x H2 hxi pv => ?_) (fun H2 pv => ?_)
      · obtain ⟨s2, ws, eD, tV⟩ := pv
        obtain ⟨u, t, rfl, hti, hu⟩ := (tx.same s2).at_ hxi
        refine ⟨u, _, rfl, .inl (.inl hu), rfl, _, _, rfl, _, _, rfl, _, _, rfl, rfl, rfl, ?_⟩
        refine ⟨_, rfl, _, rfl, _, rfl, _, rfl, _, _, rfl, rfl, vm t (List.mem_of_getElem? hti), by show 3 ≤ sizeLine; decide, fun p2 np2 => ?_⟩
        have s3 := same_upd (o := .tup [.int t.1, .int t.2.1, .int (t.2.2 * k)]) np2
        have hri : (tms k cs)[i]? = some (t.1, t.2.1, t.2.2 * k) := by
          unfold tms
          rw [List.getElem?_map, hti]
          rfl
        refine ⟨ws, s3 _ _ eD, ?_, same_put (H1 := H) hD (s2.trans s3), _, upd_same, ?_⟩
        · rw [tV.1, List.length_take]
          have : (tms k cs).length = cs.length := List.length_map _
          exact Nat.lt_of_le_of_lt (Nat.min_le_right _ _) (small1000 (by omega))
        · rw [List.take_add_one, hri]
          have nD : p2 ≠ D := fun z => by
            rw [z, eD] at np2
            cases np2
          refine (tV.sameT (sameT_put eD s3)).snoc ?_
          rw [upd_ne nD, upd_same]
      · obtain ⟨s2, ws, eD, tV⟩ := pv
        have hlen : xs.length = (tms k cs).length := by
          rw [tx.1]
          exact (List.length_map _).symm
        rw [hlen, List.take_length] at tV
        refine rd_make n0 (.inl (.inl (.inl eD))) tV (fun t ht => ?_) (by rw [← hlen, tx.1]; exact hl) fun H3 x r s3 hLt hN => q H3 x r (s2.trans s3) hLt ?_
        · obtain ⟨t0, h0, rfl⟩ := List.mem_map.mp ht
          obtain ⟨v0, v1, v2, v3, v4, v5⟩ := vc t0 h0
          refine ⟨v0, v1, v2, v3, v4, ?_⟩
          show 1 ≤ t0.2.2 * k
          have := Int.mul_pos (show 0 < t0.2.2 by omega) (show 0 < k by omega)
          omega
        · unfold mulE
          rw [if_neg hk]
          exact hN
end
end Own

namespace Own
open PySem PySem.Spec PyProof.Rows L2
section
variable {P : Program} {w : World} {K : PySem.W.Frag} {mg : Str → Option Value} {base : Heap} {C D D2 f_u : Addr} {d_u : FuncData}
def spSubX (C D D2 : Addr) : Sp := fun vs H Q E => ∃ (p o : Addr) (n m : Int) (rs ds : List Tr), vs = [.ref p, .ref o] ∧ LotAt C H p n rs ∧ LotAt C H o m ds ∧ (0 ≤ n ∧ n ≤ 1000) ∧ (0 ≤ m ∧ m ≤ 1000) ∧ Good n rs ∧ Good m ds ∧ rs.length ≤ 1000 ∧
  (n = m → (∀ t ∈ ds, t.2.2 ≤ cnt rs (pr t)) → ∀ H' x r, Same H H' → LotAt C H' x n r → Good n r → (∀ p, cnt r p = cnt rs p - cnt ds p) → Q (.ref x) H') ∧
  (n = m → ∀ (j : Nat) (t : Tr), ds[j]? = some t → cnt rs (pr t) < t.2.2 → (∀ (k : Nat) (u : Tr), k < j → ds[k]? = some u → u.2.2 ≤ cnt rs (pr u)) → ∀ H', Same H H' → Out D2 ["a", "b"] [.int t.1, .int t.2.1] H' E) ∧ (n ≠ m → Out D ["one", "other"] [.int n, .int m] H E)
theorem ok_subX {f : Addr} {fd : FuncData} (F : Fun K "__sub__" "Lot.__sub__" s_Lot_sub f fd) (L : LotC K mg C) {f_i : Addr} {d_i : FuncData} (M : Mk K C f_i) (b_i : Binds K d_i ["self", "pins", "cords"] []) (G_i : GI P w K mg base C f_i d_i) {f_k : Addr} {d_k : FuncData} (D_k : Df K mg "check_like" s_check_like ["one", "other"] f_k d_k) (G_k : FnOk P w K mg base (L2N.CX P w) 4 f_k d_k ["one", "other"] (spLikeX D)) {f_e : Addr} {d_e : FuncData} (D_e : Df K mg "entries_of" s_entries_of ["held"] f_e d_e) (G_e : FnOk P w K mg base CX0 1 f_e d_e ["held"] spEntOf) (U : ErrU K mg "NotPart" D2 f_u d_u ["self", "a", "b"]) (G_u : GE P w K mg base D2 f_u d_u ["a", "b"]) : FnOk P w K mg base (L2N.CX P w) 7 f fd ["self", "other"] (spSubX C D D2) := by
  refine okN F sc_Lot_sub (fun vs H Q E h => ?_) (fun cdv A outer s H vs Q E hr h => ?_)
  · obtain ⟨p, o, n, m, rs, ds, rfl, _⟩ := h
    rfl
  · obtain ⟨p, o, n, m, rs, ds, rfl, hp, ho, ⟨n0, n1⟩, ⟨m0, m1⟩, gr_, gd, hl, q, bad, u⟩ := h
    have hu := hu_of hr
    refine ⟨_, (pss_cons (ps_expr (pe_call G_k (hr.mono (by decide)) (by rfl) D_k.g D_k.F.kp D_k.b .nil (L2N.passes_call (L2N.takes_of rfl rfl rfl rfl) (fun _ _ _ _ h => h)) (pa_cons (pe_fld (pv 0) rfl) (pa_cons (pe_fld (pv 1) rfl) pa_nil))))
        (pss_cons (ps_setDcT (i := 2) (own := [("a", 3), ("b", 4), ("many", 5)]) (g := gTup K 3 (gCons (gName 3) (gCons (gName 4) (gCons (gName 5) gNil)))) (tt := tYes) rfl (Nat.lt_of_succ_lt hu) sc_Lot_sub.nd rfl rfl (sw_dict rfl rfl rfl (by decide +kernel)) (pi_tup (pe_fld (pv 0) rfl)) (blkOk_by (own := [("a", 3), ("b", 4), ("many", 5)]) (N := ["self", "other", "left", "a", "b", "many"]) (sc := defScope s_Lot_sub) (by decide +kernel)) (fun _ _ _ _ _ => (pg_tup (by rfl) (pgs_cons (pg_name (i := 3) sc_Lot_sub.nd rfl (.inl rfl)) (pgs_cons (pg_name (i := 4) sc_Lot_sub.nd rfl (.inl rfl)) (pgs_cons (pg_name (i := 5) sc_Lot_sub.nd rfl (.inl rfl)) pgs_nil))))) (fun _ _ _ _ _ => pts_nil) (fun _ _ _ _ _ => (pe_tup (pa_cons (pv 3) (pa_cons (pv 4) pa_nil)))) (fun _ _ _ _ _ => (pv 5)))
        (pss_cons (ps_for PassesOwn.leaving rfl (pi_tup (pe_fld (pv 1) rfl)) (pg_tup (by rfl) (pgs_cons (pg_name (i := 3) sc_Lot_sub.nd rfl (.inl rfl)) (pgs_cons (pg_name (i := 4) sc_Lot_sub.nd rfl (.inl rfl)) (pgs_cons (pg_name (i := 5) sc_Lot_sub.nd rfl (.inl rfl)) pgs_nil))))
        (pss_cons (ps_if (pt_cmpR op_lt (pe_dget2 hu (pv 2) (pe_tup (pa_cons (pv 3) (pa_cons (pv 4) pa_nil))) pe_int ⟨rfl, rfl, rfl, rfl⟩) (pv 5) (nomark _)) (pss_one (ps_errV rfl (L2N.takes_of rfl rfl rfl rfl) U.T U.R G_u (hr.mono (by decide)) U.b (by rfl) (pa_cons (pv 3) (pa_cons (pv 4) pa_nil)))) pss_nil)
        (pss_one (ps_dput hu (pv 2) (pe_tup (pa_cons (pv 3) (pa_cons (pv 4) pa_nil))) (pe_op op_sub (pe_dget hu (pv 2) (pe_tup (pa_cons (pv 3) (pa_cons (pv 4) pa_nil))) (fun _ _ => rfl)) (pv 5)) rfl))))
        (pss_one (ps_ret (pe_make M G_i hr (by rfl) L.g b_i .nil pass0 (pa_cons (pe_fld (pv 0) rfl) (pa_cons (pe_call G_e (hr.mono (by decide)) (by rfl) D_e.g D_e.F.kp D_e.b .nil pass0 (pa_cons (pv 2) pa_nil)) pa_nil)))))))), ?_⟩
    obtain ⟨dx, c, e, xs, ex, tx⟩ := hp
    obtain ⟨dy, d, e2, ys, ey, ty⟩ := ho
    refine ⟨_, rfl, p, C, dx, _, _, rfl, e, L.cl, L.nP, flds_pins _ _, _, rfl, o, C, dy, _, _, rfl, e2, L.cl, L.nP, flds_pins _ _, n, m, rfl, ⟨n0, n1⟩, ⟨m0, m1⟩, fun e => ?_, u⟩
    subst e
    replace q := q rfl
    replace bad := bad rfl
    refine ⟨_, rfl, p, C, dx, _, _, rfl, e, L.cl, L.nC, flds_cords _ _, c, rfl, ⟨xs, .inl (.inl ex)⟩, fun D hD => ?_⟩
    refine dc_it (walk_tup (K := K) (a := c) (xs := xs)) (fun i H2 => Same H H2 ∧ H2 D = some (.dT (dvs ((rs.take i).map pr) (cnt rs)))) ⟨same_upd hD, upd_same⟩ (fun i H2 _ pv => .inl (.inl (pv.1 _ _ ex))) (fun i x H2 H2' hi pv y => ?_) (fun H2 pv => ?_)
    · obtain ⟨rfl, hxi⟩ := y
      obtain ⟨s2, eD⟩ := pv
      obtain ⟨u, t, rfl, hti, hu2⟩ := (tx.same s2).at_ hxi
      refine ⟨u, _, rfl, .inl (.inl hu2), rfl, _, _, rfl, _, _, rfl, _, _, rfl, rfl, rfl, ?_⟩
      refine ⟨_, rfl, _, rfl, by show 2 ≤ sizeLine; decide, fun p1 np1 => ⟨_, rfl, _, kk (pr t), p1, rfl, (same_upd np1) _ _ eD, upd_same, ?_, ?_⟩⟩
      · rw [dvs_len, List.length_map, List.length_take]
        exact Nat.lt_of_le_of_lt (Nat.min_le_right _ _) (small1000 hl)
      · refine ⟨same_put (H1 := H) hD (s2.trans (same_upd np1)), ?_⟩
        rw [upd_same, List.take_add_one, hti]
        have hnew : pr t ∉ (rs.take i).map pr := fun m => by
          have hnd := srt_nodup gr_.srt
          rw [List.map_take] at m
          obtain ⟨j, hj, ej⟩ := List.mem_iff_getElem.mp m
          rw [List.length_take] at hj
          have hil : i < (rs.map pr).length := by rw [List.length_map]; exact (List.getElem?_eq_some_iff.mp hti).1
          have h1 : (rs.map pr)[j]? = (rs.map pr)[i]? := by
            rw [List.getElem_take] at ej
            rw [List.getElem?_eq_getElem (by omega), ej, List.getElem?_map, hti]
            rfl
          have h2 := (List.getElem?_inj (by omega) hnd).mp h1
          omega
        have hc := gr_.cnt (List.mem_of_getElem? hti)
        show some (HO.dT (putK _ (kk (pr t)) (.int t.2.2))) = some (HO.dT (dvs ((rs.take i ++ [t]).map pr) (cnt rs)))
        rw [← hc, dvs_new _ hnew, List.map_append]
        rfl
    · obtain ⟨s2, eD⟩ := pv
      have hxl : xs.length = rs.length := tx.1
      rw [hxl, List.take_length] at eD
      refine ⟨_, rfl, o, C, dy, _, _, rfl, s2 _ _ e2, L.cl, L.nC, flds_cords _ _, d, rfl, ⟨ys, .inl (.inl (s2 _ _ ey))⟩, for_tup (xs := ys) (fun i σ H3 => ∃ y3 y4 y5, σ = [some (.ref p), some (.ref o), some (.ref D), y3, y4, y5] ∧ Same H H3 ∧ H3 D = some (.dT (dvs (rs.map pr) fun z => cnt rs z - cnt (ds.take i) z)) ∧ ∀ (k : Nat) (t : Tr), k < i → ds[k]? = some t → t.2.2 ≤ cnt rs (pr t)) ⟨none, none, none, rfl, s2, ?_, fun k t hk => absurd hk (Nat.not_lt_zero k)⟩ (fun i σ H3 _ pv => by obtain ⟨_, _, _, _, s3, _⟩ := pv; exact .inl (.inl (s3 _ _ ey))) (fun i x σ H3 hxi pv => ?_) (fun σ H3 pv => ?_)⟩
      · rw [eD]
        congr 2
        refine congrArg _ ?_
        funext z
        show cnt rs z = cnt rs z - 0
        omega
      · obtain ⟨y3, y4, y5, rfl, s3, eD3, bef⟩ := pv
        obtain ⟨u, t, rfl, hti, hu3⟩ := (ty.same s3).at_ hxi
        have htm := List.mem_of_getElem? hti
        have hpos := gd.pos t htm
        have hz : cnt (ds.take i) (pr t) = 0 := cnt_out fun m => by
          have hnd := srt_nodup gd.srt
          rw [List.map_take] at m
          obtain ⟨j, hj, ej⟩ := List.mem_iff_getElem.mp m
          rw [List.length_take] at hj
          have hil : i < (ds.map pr).length := by rw [List.length_map]; exact (List.getElem?_eq_some_iff.mp hti).1
          have h1 : (ds.map pr)[j]? = (ds.map pr)[i]? := by
            rw [List.getElem_take] at ej
            rw [List.getElem?_eq_getElem (by omega), ej, List.getElem?_map, hti]
            rfl
          have h2 := (List.getElem?_inj (by omega) hnd).mp h1
          omega
        have hval : (valV (dvs (rs.map pr) fun z => cnt rs z - cnt (ds.take i) z) (kk (pr t))).getD (.int 0) = .int (cnt rs (pr t)) := by
          rw [dvs_val]
          by_cases hin : pr t ∈ rs.map pr
          · rw [if_pos hin]
            show V.int _ = _
            rw [hz, Int.sub_zero]
          · rw [if_neg hin, cnt_out hin]
            rfl
        refine ⟨u, _, rfl, .inl (.inl hu3), rfl, _, _, rfl, _, _, rfl, _, _, rfl, rfl, ?_⟩
        refine ⟨_, rfl, D, rfl, .inr ⟨_, .inl eD3⟩, _, rfl, _, rfl, by show 2 ≤ sizeLine; decide, fun p1 np1 => ⟨_, .inr ⟨_, kk (pr t), p1, .inl (same_upd np1 _ _ eD3), rfl, upd_same, rfl⟩, ?_⟩⟩
        rw [hval]
        refine ⟨_, rfl, _, _, rfl, rfl, _, rfl, ite2 (fun ec => ?_) (fun ec => ?_)⟩
        · have lt : cnt rs (pr t) < t.2.2 := of_decide_eq_true ec
          refine ⟨_, rfl, _, rfl, rfl, by decide, fun y hy => ?_, fun d nd => bad i t hti lt bef _ (s3.trans (same_upd np1)) d nd⟩
          have vt := gd.ord t htm
          simp only [List.mem_cons, List.not_mem_nil, or_false] at hy
          rcases hy with rfl | rfl
          · exact ShoV.int (by omega) (by omega)
          · exact ShoV.int (by omega) (by omega)
        have hle : t.2.2 ≤ cnt rs (pr t) := by
          have : ¬ cnt rs (pr t) < t.2.2 := fun w => ec (decide_eq_true w)
          omega
        have hin : pr t ∈ rs.map pr := (gr_.mem _).mpr (by omega)
        have get : ∀ {H4 : Hp} {b : Addr}, Same H3 H4 → H4 b = some (.tup [.int t.1, .int t.2.1]) → DGet H4 D (.ref b) (some (.int (cnt rs (pr t) - cnt (ds.take i) (pr t)))) := fun {H4 b} s4 eb => .inr ⟨_, kk (pr t), b, .inl (s4 _ _ eD3), rfl, eb, by rw [dvs_val, if_pos hin]⟩
        have s31 := same_upd (o := .tup [.int t.1, .int t.2.1]) np1
        refine ⟨_, rfl, _, rfl, _, rfl, by show 2 ≤ sizeLine; decide, fun p2 np2 => ⟨D, _, rfl, get (s31.trans (same_upd np2)) upd_same, ?_⟩⟩
        have s32 := s31.trans (same_upd (o := .tup [.int t.1, .int t.2.1]) np2)
        refine ⟨_, rfl, _, _, rfl, rfl, _, rfl, _, rfl, _, rfl, by show 2 ≤ sizeLine; decide, fun p3 np3 => ⟨D, _, rfl, DPut.t (k := kk (pr t)) ((s32.trans (same_upd np3)) _ _ eD3) upd_same ?_, ?_⟩⟩
        · rw [dvs_len, List.length_map]
          exact small1000 hl
        · have s33 := s32.trans (same_upd (o := .tup [.int t.1, .int t.2.1]) np3)
          refine ⟨_, _, _, rfl, same_put (H1 := H) hD (s3.trans s33), ?_, fun k t' hk ht' => ?_⟩
          rotate_right
          · by_cases hki : k = i
            · subst hki
              rw [hti] at ht'
              cases ht'
              exact hle
            · exact bef k t' (by omega) ht'
          rw [upd_same, dvs_set _ _ hin, List.take_add_one, hti]
          congr 2
          refine congrArg _ ?_
          funext z
          show (if z = pr t then _ else _) = cnt rs z - cnt (ds.take i ++ [t]) z
          rw [cnt_snoc]
          by_cases ez : z = pr t
          · subst ez
            rw [if_pos rfl, if_pos rfl]
            omega
          · rw [if_neg ez, if_neg fun w => ez w.symm]
            omega
      · obtain ⟨y3, y4, y5, rfl, s3, eD3, bef⟩ := pv
        have le : ∀ t ∈ ds, t.2.2 ≤ cnt rs (pr t) := fun t ht => by
          obtain ⟨k, hk, ek⟩ := List.mem_iff_getElem.mp ht
          exact bef k t (by rw [ty.1]; exact hk) (by rw [List.getElem?_eq_getElem hk, ek])
        rw [ty.1, List.take_length] at eD3
        refine ⟨_, rfl, p, C, dx, _, _, rfl, s3 _ _ e, L.cl, L.nP, flds_pins _ _, _, rfl, D, _, _, rfl, eD3, by rw [List.length_map]; exact hl, fun H4 a s4 na tL => ?_⟩
        obtain ⟨vs, hB, hx⟩ := tL.sq (K := K)
        refine rd_make n0 hB hx (fun t ht => (keep_ord gr_ t ht).1) (Nat.le_trans keep_len hl) fun H5 x r s5 hLt hN => ?_
        obtain ⟨g1, g2⟩ := sub_cnt gr_ gd le hN
        exact q le H5 x r ((s3.trans s4).trans s5) hLt g1 g2
end
end Own

namespace Own
open PySem PySem.Spec PyProof.Rows L2
/-! ### == by an own __eq__ -/
def rOwnEq (K : PySem.W.Frag) (C : Addr) (sp : Sp) : R2 := fun x y H Q => ∃ (a dx : Addr) (fs : List (Str × V)) (tb : Value), x = .ref a ∧ H a = some (.ins C dx fs) ∧ (TyX K H y tb ∨ ∃ (b dy : Addr) (gs : List (Str × V)), y = .ref b ∧ H b = some (.ins C dy gs) ∧ tb = .ref C) ∧ PySem.W.notFirst K C tb = true ∧
  sp [.ref a, y] H (fun v H' => ∃ c : Bool, v = .bl c ∧ Q (.bl c) H') E0
theorem op_ownEq {X : Cx} {C g : Addr} {k : Nat} {fd : FuncData} {ps : List Str} {sp : Sp} (hs : PySem.W.findIn X.K (.ref C) "__eq__" = some (some (.ref g))) (hf : PySem.W.isFn X.K (.ref g) = true) (F : FnOk X.prog X.w X.K X.mg X.base CX0 k g fd ps sp) (room : Room k X.A) (hb : Binds X.K fd ps []) :
    OpR X (compareOp .Eq) (rOwnEq X.K C sp) := by
  intro pins s σ H x y v u Q inv rx ry ask
  obtain ⟨a, dx, fs, tb, rfl, ha, ty, nf, q⟩ := ask
  cases (show v = Value.ref a from rx)
  obtain ⟨_, O, _, _, _, _⟩ := ins_get inv.hok ha
  obtain ⟨od, J, _⟩ := O.look
  obtain ⟨m, hF⟩ := inv.fr
  have look : PySem.W.Looks (model X.prog X.w) s.heap (typeOf u) tb := by
    rcases ty with ty | ⟨b, dy, gs, rfl, hb, rfl⟩
    · obtain ⟨Pp, kx, hp, _⟩ := kit_of inv ry ty
      exact kx.ty _ _ inv.kIn hp
    · cases (show u = Value.ref b from ry)
      obtain ⟨_, O2, _, _, _, _⟩ := ins_get inv.hok hb
      obtain ⟨od2, J2, _⟩ := O2.look
      exact J2.type
  show wpAny (model X.prog X.w) X.A (richCompare .Eq (.ref a) u) (EP X pins σ Q) X.xe s
  refine PySem.W.cmp_K (op := .Eq) (tb := tb) room.units0 hF inv.ok.mod.kin J look nf hs hf ?_
  refine wpAny_mono (run_fnS (E := fun _ => E0) (us := [.ref a, u]) (vs := [.ref a, y]) F room hb pass0A inv (.cons rfl (.cons ry .nil)) q) (fun w s' z => ?_) fun _ _ x => x
  obtain ⟨z', H', I', rz, c, rfl, qz⟩ := z
  cases (show w = Value.bool c from rz)
  exact ⟨.bl c, H', I', rfl, qz⟩

section
variable {X : Cx}
theorem op_eqDK {K : PySem.W.Frag} (hK : X.K = K) (hu : X.A.units + 64 < cLine) : OpR X (compareOp .Eq) (rEqD K) := by
  subst hK
  exact op_eqD hu
end
def td (t : Tr) : PyData := .tuple [.int t.1, .int t.2.1, .int t.2.2]
theorem td_dp {K : PySem.W.Frag} {H : Hp} {u : Addr} {t : Tr} (h : H u = some (.tup (tv t))) : Dp K H (.ref u) (td t) := .tup (.inl (.inl h)) (.cons (.int _) (.cons (.int _) (.cons (.int _) .nil)))
theorem td_eqv (p q : Tr) : PyData.eqv (td p) (td q) = decide (p = q) := by
  unfold td
  simp only [PyData.eqv, PyData.eqvAll, Bool.and_true]
  obtain ⟨a, b, c⟩ := p
  obtain ⟨d, e, f⟩ := q
  rw [Bool.eq_iff_iff]
  simp
theorem tds_eqv : ∀ (l r : List Tr), PyData.eqvAll (l.map td) (r.map td) = decide (l = r)
  | [], [] => by simp [PyData.eqvAll]
  | [], _ :: _ => by simp [PyData.eqvAll]
  | _ :: _, [] => by simp [PyData.eqvAll]
  | x :: l, y :: r => by
    rw [List.map_cons, List.map_cons, PyData.eqvAll, td_eqv, tds_eqv l r]
    rw [Bool.eq_iff_iff]
    simp
theorem lay_tds : ∀ ps : List Tr, PyData.canLayAll0 (ps.map td) = true ∧ PyData.depthAll (ps.map td) ≤ 1
  | [] => ⟨rfl, Nat.zero_le _⟩
  | p :: r => by
    obtain ⟨h1, h2⟩ := lay_tds r
    refine ⟨?_, ?_⟩
    · show (PyData.canLay0 (td p) && PyData.canLayAll0 (r.map td)) = true
      rw [h1]
      rfl
    · show max (PyData.depth (td p)) (PyData.depthAll (r.map td)) ≤ 1
      have : PyData.depth (td p) = 1 := rfl
      omega
theorem shaped_tds (ps : List Tr) : SeqAt.shaped (.tuple (ps.map td)) = true := by
  obtain ⟨h1, h2⟩ := lay_tds ps
  unfold SeqAt.shaped
  have e1 : PyData.canLay0 (.tuple (ps.map td)) = true := h1
  have e2 : PyData.depth (.tuple (ps.map td)) ≤ 64 := by
    show PyData.depthAll (ps.map td) + 1 ≤ 64
    omega
  rw [e1, decide_eq_true e2]
  rfl
theorem TrV.dp {K : PySem.W.Frag} {H : Hp} : ∀ (l : List Tr) (vs : List V), TrV H vs l → DpAll K H vs (l.map td)
  | [], vs, h => by
    have : vs = [] := List.length_eq_zero_iff.mp h.1
    subst this
    exact .nil
  | t :: r, [], h => absurd h.1 (by simp)
  | t :: r, v :: vs, h => by
    obtain ⟨b, e1, e2⟩ := h.2 0 t rfl
    cases Option.some.inj e1
    exact .cons (td_dp e2) (TrV.dp r vs ⟨Nat.succ.inj h.1, fun i u e => h.2 (i + 1) u e⟩)
theorem Trip.dp {K : PySem.W.Frag} {H : Hp} {a : Addr} {l : List Tr} (h : Trip H a l) : Dp K H (.ref a) (.tuple (l.map td)) := by
  obtain ⟨vs, e, t⟩ := h
  exact .tup (.inl (.inl e)) (t.dp l vs)
section
variable {P : Program} {w : World} {K : PySem.W.Frag} {mg : Str → Option Value} {base : Heap} {C : Addr}
def spEqL (K : PySem.W.Frag) (C : Addr) : Sp := fun vs H Q _ => ∃ (p : Addr) (y : V) (n : Int) (cs : List Tr), vs = [.ref p, y] ∧ LotAt C H p n cs ∧
  ((∃ (o : Addr) (m : Int) (ds : List Tr), y = .ref o ∧ LotAt C H o m ds ∧ Q (.bl (decide (n = m ∧ cs = ds))) H) ∨ (∃ t : Value, TyX K H y t ∧ PySem.W.kitOne K t (.ref C) = some false ∧ Q (.bl false) H))
theorem ok_eqL {f : Addr} {fd : FuncData} (F : Fun K "__eq__" "Lot.__eq__" s_Lot_eq f fd) (T : Bi mg) (L : LotC K mg C) (I : C8.InsC K C) : FnOk P w K mg base CX0 1 f fd ["self", "other"] (spEqL K C) := by
  refine F.ok sc_Lot_eq (fun vs H Q E h => ?_) (fun cdv A outer s H vs Q E hr h => ?_)
  · obtain ⟨p, y, n, cs, rfl, _⟩ := h
    rfl
  · obtain ⟨p, y, n, cs, rfl, hp, h⟩ := h
    have hu64 : (A.deeper (envOfC "Lot.__eq__" (defScope s_Lot_eq) s.heap.objs.size f cdv)).units + 64 < cLine := hr.units
    refine ⟨_, (pss_one (ps_ret (pe_and (pe_callB call_isi (by rfl) T.b_isinstance (by decide +kernel) (pa_cons (pv 1) (pa_cons (pe_glob (v := .ref C) (by rfl) L.g rfl) pa_nil))) (pe_and (pe_cmpR op_eq (pe_fld (pv 0) rfl) (pe_fld (pv 1) rfl) (nomark _)) (pe_one (pe_cmpR (op_eqDK (K := K) rfl hu64) (pe_fld (pv 0) rfl) (pe_fld (pv 1) rfl) (nomark _))))))), ?_⟩
    obtain ⟨dx, c, e, t⟩ := hp
    rcases h with ⟨o, m, ds, rfl, ho, q⟩ | ⟨t2, ty, kt, q⟩
    · obtain ⟨dy, c2, e2, t2⟩ := ho
      refine ⟨_, rfl, _, _, _, _, true, rfl, .own C, .base (.ins e2 I.cl I.ha I.hn I.htk I.hm), I.me, true, rfl, ?_⟩
      refine ⟨_, rfl, p, C, dx, _, _, rfl, e, L.cl, L.nP, flds_pins _ _, _, rfl, o, C, dy, _, _, rfl, e2, L.cl, L.nP, flds_pins _ _, rfl, ?_⟩
      refine ⟨_, rfl, ?_⟩
      by_cases en : n = m
      · subst en
        rw [show decide (V.int n = V.int n) = true from decide_eq_true rfl]
        refine ⟨_, rfl, p, C, dx, _, _, rfl, e, L.cl, L.nC, flds_cords _ _, _, rfl, o, C, dy, _, _, rfl, e2, L.cl, L.nC, flds_cords _ _, _, _, t.dp, t2.dp, shaped_tds _, shaped_tds _, ?_⟩
        rw [PyData.eqv, tds_eqv]
        by_cases ec : cs = ds
        · rw [decide_eq_true ec]
          rw [decide_eq_true (show n = n ∧ cs = ds from ⟨rfl, ec⟩)] at q
          exact q
        · rw [decide_eq_false ec]
          rw [decide_eq_false (show ¬ (n = n ∧ cs = ds) from fun z => ec z.2)] at q
          exact q
      · rw [decide_eq_false (show ¬ (n = m ∧ cs = ds) from fun z => en z.1)] at q
        rw [show decide (V.int n = V.int m) = false from decide_eq_false fun z => en (V.int.inj z)]
        exact q
    · exact ⟨_, rfl, _, _, _, _, false, rfl, .own C, ty, kt, false, rfl, q⟩
end
end Own

namespace Own
open PySem PySem.Spec PyProof.Rows L2
section
variable {P : Program} {w : World} {K : PySem.W.Frag} {mg : Str → Option Value} {base : Heap} {C : Addr}
def spLEnds (K : PySem.W.Frag) : Sp := fun vs H Q _ => ∃ (c : Addr) (xs : List V) (cs : List Tr) (x : Int), vs = [.ref c, .int x] ∧ SqB K H c xs ∧ TrV H xs cs ∧ Q (.int (endsOf cs x)) H
theorem ok_lends {f : Addr} {fd : FuncData} (F : Fun K "_law_ends" "_law_ends" s__law_ends f fd) : FnOk P w K mg base CX0 1 f fd ["_law_bunch", "_law_spot"] (spLEnds K) := by
  refine F.ok sc__law_ends (fun vs H Q E h => ?_) (fun cdv A outer s H vs Q E hr h => ?_)
  · obtain ⟨c, xs, cs, x, rfl, _⟩ := h
    rfl
  · obtain ⟨c, xs, cs, x, rfl, hB, tc, q⟩ := h
    refine ⟨_, (pss_cons (ps_set (i := 2) sc__law_ends.nd rfl (.inl rfl) pe_int)
        (pss_cons (ps_for PassesOwn.never rfl (pi_seq (pv 0)) (pg_name (i := 3) sc__law_ends.nd rfl (.inl rfl))
        (pss_one (ps_if (PW.pt (pw_or (pt_cmpR op_eq (pv 1) (pe_ix (r := rIxT K) ix_tup (pv 3) pe_int (fun _ _ => rfl)) (nomark _)) (pw_or1 (pt_cmpR op_eq (pv 1) (pe_ix (r := rIxT K) ix_tup (pv 3) pe_int (fun _ _ => rfl)) (nomark _))))) (pss_one (ps_set (i := 2) sc__law_ends.nd rfl (.inl rfl) (pe_op op_add (pv 2) (pe_ix (r := rIxT K) ix_tup (pv 3) pe_int (fun _ _ => rfl))))) pss_nil)))
        (pss_one (ps_ret (pv 2))))), ?_⟩
    refine ⟨_, rfl, c, rfl, for_same (Hb := H) hB (fun i σ H' => (∃ y3, σ = [some (.ref c), some (.int x), some (.int (endsOf (cs.take i) x)), y3]) ∧ H' = H) ⟨⟨_, rfl⟩, rfl⟩ (fun i σ H' p => by rw [p.2]; exact Same.refl H) (fun i y σ H' hxi p => ?_) (fun σ H' p => ?_)⟩
    · obtain ⟨⟨y3, rfl⟩, rfl⟩ := p
      obtain ⟨u, t, rfl, hti, hu⟩ := tc.at_ hxi
      have qu : SqT K H' u (tv t) := .inl (.inl hu)
      have a0 : atI (tv t) 0 = some (.int t.1) := atI_nat (j := 0) rfl
      have a1 : atI (tv t) 1 = some (.int t.2.1) := atI_nat (j := 1) rfl
      have a2 : atI (tv t) 2 = some (.int t.2.2) := atI_nat (j := 2) rfl
      have et : endsOf (cs.take (i + 1)) x = endsOf (cs.take i) x + (if t.1 = x ∨ t.2.1 = x then t.2.2 else 0) := by
        rw [List.take_add_one, hti]
        exact endsOf_snoc _ _ _
      refine ⟨_, rfl, _, rfl, u, _, 0, _, rfl, rfl, qu, a0, rfl, _, rfl, ite2 (fun e => ?_) (fun e => ?_)⟩
      · have e1 : x = t.1 := V.int.inj (of_decide_eq_true e)
        refine ⟨_, rfl, _, rfl, u, _, 2, _, rfl, rfl, qu, a2, _, _, rfl, rfl, ⟨some (.ref u), ?_⟩, rfl⟩
        rw [et, if_pos (.inl e1.symm)]
        rfl
      · have e1 : ¬ x = t.1 := fun z => e (decide_eq_true (congrArg V.int z))
        refine ⟨_, rfl, _, rfl, u, _, 1, _, rfl, rfl, qu, a1, rfl, _, rfl, ite2 (fun e => ?_) (fun e => ?_)⟩
        · have e2 : x = t.2.1 := V.int.inj (of_decide_eq_true e)
          refine ⟨_, rfl, _, rfl, u, _, 2, _, rfl, rfl, qu, a2, _, _, rfl, rfl, ⟨some (.ref u), ?_⟩, rfl⟩
          rw [et, if_pos (.inr e2.symm)]
          rfl
        · have e2 : ¬ x = t.2.1 := fun z => e (decide_eq_true (congrArg V.int z))
          refine ⟨⟨some (.ref u), ?_⟩, rfl⟩
          rw [et, if_neg (fun z => by rcases z with z | z; exact e1 z.symm; exact e2 z.symm), Int.add_zero]
          rfl
    · obtain ⟨⟨y3, rfl⟩, rfl⟩ := p
      rw [tc.1, List.take_length]
      exact ⟨_, rfl, q⟩
/-- the cords between two pins, in any order -/
def cntU (cs : List Tr) (x y : Int) : Int := bs (fun q => decide ((x = q.1 ∧ y = q.2) ∨ (x = q.2 ∧ y = q.1))) cs
theorem cntU_snoc (cs : List Tr) (t : Tr) (x y : Int) : cntU (cs ++ [t]) x y = cntU cs x y + (if (x = t.1 ∧ y = t.2.1) ∨ (x = t.2.1 ∧ y = t.1) then t.2.2 else 0) := by
  unfold cntU
  rw [bs_append]
  show _ + ((if decide ((x = t.1 ∧ y = t.2.1) ∨ (x = t.2.1 ∧ y = t.1)) = true then t.2.2 else 0) + 0) = _
  rw [Int.add_zero]
  by_cases h : (x = t.1 ∧ y = t.2.1) ∨ (x = t.2.1 ∧ y = t.1)
  · rw [if_pos h, if_pos (decide_eq_true h)]
  · rw [if_neg h, if_neg (by rw [decide_eq_true_iff]; exact h)]
def spLCount (K : PySem.W.Frag) : Sp := fun vs H Q _ => ∃ (c : Addr) (xs : List V) (cs : List Tr) (x y : Int), vs = [.ref c, .int x, .int y] ∧ SqB K H c xs ∧ TrV H xs cs ∧ Q (.int (cntU cs x y)) H
theorem ok_lcount {f : Addr} {fd : FuncData} (F : Fun K "_law_count" "_law_count" s__law_count f fd) : FnOk P w K mg base CX0 1 f fd ["_law_bunch", "_law_left", "_law_right"] (spLCount K) := by
  refine F.ok sc__law_count (fun vs H Q E h => ?_) (fun cdv A outer s H vs Q E hr h => ?_)
  · obtain ⟨c, xs, cs, x, y, rfl, _⟩ := h
    rfl
  · obtain ⟨c, xs, cs, x, y, rfl, hB, tc, q⟩ := h
    refine ⟨_, (pss_cons (ps_set (i := 3) sc__law_count.nd rfl (.inl rfl) pe_int)
        (pss_cons (ps_for PassesOwn.never rfl (pi_seq (pv 0)) (pg_name (i := 4) sc__law_count.nd rfl (.inl rfl))
        (pss_one (ps_if (PW.pt (pw_or (PW.pt (pw_and (pt_cmpR op_eq (pv 1) (pe_ix (r := rIxT K) ix_tup (pv 4) pe_int (fun _ _ => rfl)) (nomark _)) (pw_and1 (pt_cmpR op_eq (pv 2) (pe_ix (r := rIxT K) ix_tup (pv 4) pe_int (fun _ _ => rfl)) (nomark _))))) (pw_or1 (PW.pt (pw_and (pt_cmpR op_eq (pv 1) (pe_ix (r := rIxT K) ix_tup (pv 4) pe_int (fun _ _ => rfl)) (nomark _)) (pw_and1 (pt_cmpR op_eq (pv 2) (pe_ix (r := rIxT K) ix_tup (pv 4) pe_int (fun _ _ => rfl)) (nomark _)))))))) (pss_one (ps_set (i := 3) sc__law_count.nd rfl (.inl rfl) (pe_op op_add (pv 3) (pe_ix (r := rIxT K) ix_tup (pv 4) pe_int (fun _ _ => rfl))))) pss_nil)))
        (pss_one (ps_ret (pv 3))))), ?_⟩
    refine ⟨_, rfl, c, rfl, for_same (Hb := H) hB (fun i σ H' => (∃ y3, σ = [some (.ref c), some (.int x), some (.int y), some (.int (cntU (cs.take i) x y)), y3]) ∧ H' = H) ⟨⟨_, rfl⟩, rfl⟩ (fun i σ H' p => by rw [p.2]; exact Same.refl H) (fun i z σ H' hxi p => ?_) (fun σ H' p => ?_)⟩
    · obtain ⟨⟨y3, rfl⟩, rfl⟩ := p
      obtain ⟨u, t, rfl, hti, hu⟩ := tc.at_ hxi
      have qu : SqT K H' u (tv t) := .inl (.inl hu)
      have a0 : atI (tv t) 0 = some (.int t.1) := atI_nat (j := 0) rfl
      have a1 : atI (tv t) 1 = some (.int t.2.1) := atI_nat (j := 1) rfl
      have a2 : atI (tv t) 2 = some (.int t.2.2) := atI_nat (j := 2) rfl
      have et : cntU (cs.take (i + 1)) x y = cntU (cs.take i) x y + (if (x = t.1 ∧ y = t.2.1) ∨ (x = t.2.1 ∧ y = t.1) then t.2.2 else 0) := by
        rw [List.take_add_one, hti]
        exact cntU_snoc _ _ _ _
      have yes : ((x = t.1 ∧ y = t.2.1) ∨ (x = t.2.1 ∧ y = t.1)) → ∃ y3, [some (V.ref c), some (.int x), some (.int y), some (.int (cntU (cs.take i) x y + t.2.2)), some (.ref u)] = [some (.ref c), some (.int x), some (.int y), some (.int (cntU (cs.take (i + 1)) x y)), y3] := fun h => ⟨some (.ref u), by rw [et, if_pos h]⟩
      have no : ¬ ((x = t.1 ∧ y = t.2.1) ∨ (x = t.2.1 ∧ y = t.1)) → ∃ y3, [some (V.ref c), some (.int x), some (.int y), some (.int (cntU (cs.take i) x y)), some (.ref u)] = [some (.ref c), some (.int x), some (.int y), some (.int (cntU (cs.take (i + 1)) x y)), y3] := fun h => ⟨some (.ref u), by rw [et, if_neg h, Int.add_zero]⟩
      refine ⟨_, rfl, _, rfl, u, _, 0, _, rfl, rfl, qu, a0, rfl, _, rfl, ?_⟩
      by_cases e1 : x = t.1
      · rw [show decide (V.int x = V.int t.1) = true from decide_eq_true (congrArg V.int e1)]
        refine ⟨_, rfl, _, rfl, u, _, 1, _, rfl, rfl, qu, a1, rfl, _, rfl, ?_⟩
        by_cases e2 : y = t.2.1
        · rw [show decide (V.int y = V.int t.2.1) = true from decide_eq_true (congrArg V.int e2)]
          refine ⟨_, rfl, _, rfl, u, _, 2, _, rfl, rfl, qu, a2, _, _, rfl, rfl, yes (.inl ⟨e1, e2⟩), rfl⟩
        · rw [show decide (V.int y = V.int t.2.1) = false from decide_eq_false fun z => e2 (V.int.inj z)]
          refine ⟨_, rfl, _, rfl, u, _, 1, _, rfl, rfl, qu, a1, rfl, _, rfl, ?_⟩
          by_cases e3 : x = t.2.1
          · rw [show decide (V.int x = V.int t.2.1) = true from decide_eq_true (congrArg V.int e3)]
            refine ⟨_, rfl, _, rfl, u, _, 0, _, rfl, rfl, qu, a0, rfl, _, rfl, ?_⟩
            by_cases e4 : y = t.1
            · rw [show decide (V.int y = V.int t.1) = true from decide_eq_true (congrArg V.int e4)]
              refine ⟨_, rfl, _, rfl, u, _, 2, _, rfl, rfl, qu, a2, _, _, rfl, rfl, yes (.inr ⟨e3, e4⟩), rfl⟩
            · rw [show decide (V.int y = V.int t.1) = false from decide_eq_false fun z => e4 (V.int.inj z)]
              exact ⟨no fun z => by rcases z with z | z; exact e2 z.2; exact e4 z.2, rfl⟩
          · rw [show decide (V.int x = V.int t.2.1) = false from decide_eq_false fun z => e3 (V.int.inj z)]
            exact ⟨no fun z => by rcases z with z | z; exact e2 z.2; exact e3 z.1, rfl⟩
      · rw [show decide (V.int x = V.int t.1) = false from decide_eq_false fun z => e1 (V.int.inj z)]
        refine ⟨_, rfl, _, rfl, u, _, 1, _, rfl, rfl, qu, a1, rfl, _, rfl, ?_⟩
        by_cases e3 : x = t.2.1
        · rw [show decide (V.int x = V.int t.2.1) = true from decide_eq_true (congrArg V.int e3)]
          refine ⟨_, rfl, _, rfl, u, _, 0, _, rfl, rfl, qu, a0, rfl, _, rfl, ?_⟩
          by_cases e4 : y = t.1
          · rw [show decide (V.int y = V.int t.1) = true from decide_eq_true (congrArg V.int e4)]
            refine ⟨_, rfl, _, rfl, u, _, 2, _, rfl, rfl, qu, a2, _, _, rfl, rfl, yes (.inr ⟨e3, e4⟩), rfl⟩
          · rw [show decide (V.int y = V.int t.1) = false from decide_eq_false fun z => e4 (V.int.inj z)]
            exact ⟨no fun z => by rcases z with z | z; exact e1 z.1; exact e4 z.2, rfl⟩
        · rw [show decide (V.int x = V.int t.2.1) = false from decide_eq_false fun z => e3 (V.int.inj z)]
          exact ⟨no fun z => by rcases z with z | z; exact e1 z.1; exact e3 z.1, rfl⟩
    · obtain ⟨⟨y3, rfl⟩, rfl⟩ := p
      rw [tc.1, List.take_length]
      exact ⟨_, rfl, q⟩
/-- it is as the count at the key in order -/
theorem cntU_ord {n : Int} {cs : List Tr} (g : Good n cs) {x y : Int} (h : x < y) : cntU cs x y = cnt cs (x, y) ∧ cntU cs y x = cnt cs (x, y) := by
  have k : ∀ l : List Tr, (∀ t ∈ l, t.1 < t.2.1) → cntU l x y = cnt l (x, y) ∧ cntU l y x = cnt l (x, y) := by
    intro l
    induction l with
    | nil => exact fun _ => ⟨rfl, rfl⟩
    | cons t r ih =>
      intro hl
      obtain ⟨i1, i2⟩ := ih fun u hu => hl u (List.mem_cons_of_mem _ hu)
      have lt := hl t List.mem_cons_self
      unfold cntU cnt at *
      rw [bs, bs, bs, i1, i2]
      have e0 : (pr t = (x, y)) ↔ (t.1 = x ∧ t.2.1 = y) := by
        unfold pr
        rw [Prod.mk.injEq]
      have e1 : decide (x = (pr t).1 ∧ y = (pr t).2 ∨ x = (pr t).2 ∧ y = (pr t).1) = decide (pr t = (x, y)) := by
        rw [Bool.eq_iff_iff, decide_eq_true_iff, decide_eq_true_iff, e0]
        show (x = t.1 ∧ y = t.2.1 ∨ x = t.2.1 ∧ y = t.1) ↔ _
        omega
      have e2 : decide (y = (pr t).1 ∧ x = (pr t).2 ∨ y = (pr t).2 ∧ x = (pr t).1) = decide (pr t = (x, y)) := by
        rw [Bool.eq_iff_iff, decide_eq_true_iff, decide_eq_true_iff, e0]
        show (y = t.1 ∧ x = t.2.1 ∨ y = t.2.1 ∧ x = t.1) ↔ _
        omega
      simp only [e1, e2]
      exact ⟨trivial, trivial⟩
  exact k cs fun t ht => (g.ord t ht).2.1
/-! ### a lot as it is due -/
def spLotIs (K : PySem.W.Frag) (C : Addr) : Sp := fun vs H Q _ => ∃ (p : Addr) (n : Int) (c : Addr) (cs : List Tr), vs = [.ref p, .int n, .ref c] ∧ LotAt C H p n cs ∧ Trip H c cs ∧ cs.length ≤ 1000 ∧ Q (.bl true) H
theorem ok_lotis {f : Addr} {fd : FuncData} (F : Fun K "_law_lot_is" "_law_lot_is" s__law_lot_is f fd) (T : Bi mg) (L : LotC K mg C) (I : C8.InsC K C) {f_s : Addr} {d_s : FuncData} (D_s : Df K mg "_law_same" s__law_same ["_law_value", "_law_due"] f_s d_s) (G_s : FnOk P w K mg base CX0 4 f_s d_s ["_law_value", "_law_due"] (spSame 2)) : FnOk P w K mg base CX0 5 f fd ["_law_lot", "_law_pins_here", "_law_bunch"] (spLotIs K C) := by
  refine F.ok sc__law_lot_is (fun vs H Q E h => ?_) (fun cdv A outer s H vs Q E hr h => ?_)
  · obtain ⟨p, n, c, cs, rfl, _⟩ := h
    rfl
  · obtain ⟨p, n, c, cs, rfl, hL, hc, hl, q⟩ := h
    refine ⟨_, (pss_one (ps_ret (pe_and (pe_callB call_isi (by rfl) T.b_isinstance (by decide +kernel) (pa_cons (pv 0) (pa_cons (pe_glob (v := .ref C) (by rfl) L.g rfl) pa_nil))) (pe_and (pe_call G_s (hr.mono (by decide)) (by rfl) D_s.g D_s.F.kp D_s.b .nil pass0 (pa_cons (pe_fld (pv 0) rfl) (pa_cons (pv 1) pa_nil))) (pe_one (pe_call G_s (hr.mono (by decide)) (by rfl) D_s.g D_s.F.kp D_s.b .nil pass0 (pa_cons (pe_fld (pv 0) rfl) (pa_cons (pv 2) pa_nil)))))))), ?_⟩
    obtain ⟨dx, c2, e, t⟩ := hL
    refine ⟨_, rfl, _, _, _, _, true, rfl, .own C, .base (.ins e I.cl I.ha I.hn I.htk I.hm), I.me, true, rfl, ?_⟩
    refine ⟨_, rfl, p, C, dx, _, _, rfl, e, L.cl, L.nP, flds_pins _ _, _, rfl, _, _, rfl, EqV.int n, true, rfl, ?_⟩
    exact ⟨_, rfl, p, C, dx, _, _, rfl, e, L.cl, L.nC, flds_cords _ _, _, rfl, _, _, rfl, EqV.trip t hc hl, q⟩
end
end Own

namespace Own
open PySem PySem.Spec PyProof.Rows L2 L2H
section
variable {P : Program} {w : World} {K : PySem.W.Frag} {mg : Str → Option Value} {base : Heap} {C : Addr}
theorem okH_lwhole {f : Addr} {fd : FuncData} (F : Fun K "_law_whole" "_law_whole" s__law_whole f fd) (T : Bi mg) : L2H.FnH P w K mg base CX0 1 f fd ["_law_value"] spWhole := by
  refine okH F sc__law_whole (fun vs H Q E h => ?_) (fun cdv A outer s H vs Q E p hot hr h => ?_)
  · obtain ⟨i, rfl, _⟩ := h
    rfl
  · obtain ⟨i, rfl, q⟩ := h
    refine ⟨_, (pss_one (ps_ret (pe_and (pe_callB call_isi (by rfl) T.b_isinstance (by decide +kernel) (pa_cons (pv 0) (pa_cons (pe_bltn (v := .ty "int") (by rfl) T.b_int (by decide +kernel) rfl) pa_nil))) (pe_one (pe_not (pe_callB call_isi (by rfl) T.b_isinstance (by decide +kernel) (pa_cons (pv 0) (pa_cons (pe_bltn (v := .ty "bool") (by rfl) T.b_bool (by decide +kernel) rfl) pa_nil)))))))), ?_⟩
    refine ⟨_, rfl, _, _, _, _, true, rfl, .ty "int", .base (.int i), kit_ty (by decide +kernel), true, rfl, ?_⟩
    exact ⟨_, rfl, _, _, _, _, false, rfl, .ty "bool", .base (.int i), kit_ty (by decide +kernel), false, rfl, q⟩
theorem fnH_no {k : Nat} {f : Addr} {fd : FuncData} {ps : List Str} : L2H.FnH P w K mg base CX0 k f fd ps spNo := ⟨fun _ _ _ _ h => h.elim, fun _ _ _ _ _ _ _ _ _ _ _ _ _ _ _ _ h => h.elim⟩
/-- its body, with any promise for the call within -/
theorem sameH_body {f : Addr} {fd : FuncData} {k : Nat} {sp : Sp} {d : Nat} (D_s : Df K mg "_law_same" s__law_same ["_law_value", "_law_due"] f fd) (T : Bi mg) {f_w : Addr} {d_w : FuncData} (D_w : Df K mg "_law_whole" s__law_whole ["_law_value"] f_w d_w) (G_w : L2H.FnH P w K mg base CX0 1 f_w d_w ["_law_value"] spWhole)
    (G_s : L2H.FnH P w K mg base CX0 (k + 1) f fd ["_law_value", "_law_due"] sp) (hsp : ∀ e x y H Q, e + 1 ≤ d → EqV e H x y → Q (.bl true) H → sp [x, y] H Q E0) : L2H.FnH P w K mg base CX0 (k + 2) f fd ["_law_value", "_law_due"] (spSame d) := by
  refine okH D_s.F sc__law_same (fun vs H Q E h => ?_) (fun cdv A outer s H vs Q E p hot hr h => ?_)
  · obtain ⟨x, y, rfl, _⟩ := h
    rfl
  · obtain ⟨x, y, rfl, hxy, q⟩ := h
    refine ⟨_, (pss_cons (ps_if (pt_cmpR op_isN (pv 1) pe_non (nomark _)) (pss_one (ps_ret (pe_cmpR op_isN (pv 0) pe_non (nomark _)))) pss_nil)
        (pss_cons (ps_if (pt_val (pe_callB call_isi (by rfl) T.b_isinstance (by decide +kernel) (pa_cons (pv 1) (pa_cons (pe_bltn (v := .ty "bool") (by rfl) T.b_bool (by decide +kernel) rfl) pa_nil)))) (pss_one (ps_ret (pe_and (pe_callB call_isi (by rfl) T.b_isinstance (by decide +kernel) (pa_cons (pv 0) (pa_cons (pe_bltn (v := .ty "bool") (by rfl) T.b_bool (by decide +kernel) rfl) pa_nil))) (pe_one (pe_cmpR op_eq (pv 0) (pv 1) (nomark _)))))) pss_nil)
        (pss_cons (ps_if (pt_val (pe_callB call_isi (by rfl) T.b_isinstance (by decide +kernel) (pa_cons (pv 1) (pa_cons (pe_bltn (v := .ty "int") (by rfl) T.b_int (by decide +kernel) rfl) pa_nil)))) (pss_one (ps_ret (pe_and (pe_callH G_w (hr.mono (by omega)) hot (by rfl) D_w.g D_w.F.kp D_w.b (E := fun _ => E0) (fun _ => pass0A) (pa_cons (pv 0) pa_nil)) (pe_one (pe_cmpR op_eq (pv 0) (pv 1) (nomark _)))))) pss_nil)
        (pss_cons (ps_if (pt_val (pe_callB call_isi (by rfl) T.b_isinstance (by decide +kernel) (pa_cons (pv 1) (pa_cons (pe_bltn (v := .ty "str") (by rfl) T.b_str (by decide +kernel) rfl) pa_nil)))) (pss_one (ps_ret (pe_and (pe_callB call_isi (by rfl) T.b_isinstance (by decide +kernel) (pa_cons (pv 0) (pa_cons (pe_bltn (v := .ty "str") (by rfl) T.b_str (by decide +kernel) rfl) pa_nil))) (pe_one (pe_cmpR op_eq (pv 0) (pv 1) (nomark _)))))) pss_nil)
        (pss_cons (ps_if (PW.pt (pw_and (pt_val (pe_callB call_isi (by rfl) T.b_isinstance (by decide +kernel) (pa_cons (pv 1) (pa_cons (pe_bltn (v := .ty "list") (by rfl) T.b_list (by decide +kernel) rfl) pa_nil)))) (pw_and1 (pt_not (pt_val (pe_callB call_isi (by rfl) T.b_isinstance (by decide +kernel) (pa_cons (pv 0) (pa_cons (pe_bltn (v := .ty "list") (by rfl) T.b_list (by decide +kernel) rfl) pa_nil)))))))) (pss_one (ps_ret pe_bl)) pss_nil)
        (pss_cons (ps_if (PW.pt (pw_and (pt_val (pe_callB call_isi (by rfl) T.b_isinstance (by decide +kernel) (pa_cons (pv 1) (pa_cons (pe_bltn (v := .ty "tuple") (by rfl) T.b_tuple (by decide +kernel) rfl) pa_nil)))) (pw_and1 (pt_not (pt_val (pe_callB call_isi (by rfl) T.b_isinstance (by decide +kernel) (pa_cons (pv 0) (pa_cons (pe_bltn (v := .ty "tuple") (by rfl) T.b_tuple (by decide +kernel) rfl) pa_nil)))))))) (pss_one (ps_ret pe_bl)) pss_nil)
        (pss_cons (ps_if (pt_cmpR op_ne (pe_callB call_len_seq (by rfl) T.b_len PySem.boot_len (pa_cons (pv 0) pa_nil)) (pe_callB call_len_seq (by rfl) T.b_len PySem.boot_len (pa_cons (pv 1) pa_nil)) (nomark _)) (pss_one (ps_ret pe_bl)) pss_nil)
        (pss_cons (ps_forH PassesOwn.never hot (pi_range1H (by rfl) T.b_range (pa_cons (pe_callB call_len_seq (by rfl) T.b_len PySem.boot_len (pa_cons (pv 1) pa_nil)) pa_nil)) (pg_name (i := 2) sc__law_same.nd rfl (.inl rfl))
        (pss_one (ps_if (pt_not (pt_val (pe_callH G_s hr hot (by rfl) D_s.g D_s.F.kp D_s.b (E := fun _ => E0) (fun _ => pass0A) (pa_cons (pe_ix (r := rIxB K) ix_seqB (pv 0) (pv 2) (fun _ _ => rfl)) (pa_cons (pe_ix (r := rIxB K) ix_seqB (pv 1) (pv 2) (fun _ _ => rfl)) pa_nil))))) (pss_one (ps_ret pe_bl)) pss_nil)))
        (pss_one (ps_ret pe_bl)))))))))), ?_⟩
    rcases hxy.cases' with (⟨i, rfl, rfl⟩ | ⟨b, rfl, rfl⟩ | ⟨rfl, rfl⟩ | ⟨z, rfl, rfl⟩) | ⟨e, a, b, vs, us, hle, rfl, rfl, hab, hlen, hl, hel⟩
    · refine ⟨_, rfl, rfl, _, rfl, ?_⟩
      refine ⟨_, rfl, _, _, _, _, false, rfl, .ty "bool", .base (.int i), kit_ty (by decide +kernel), false, rfl, ?_⟩
      refine ⟨_, rfl, _, _, _, _, true, rfl, .ty "int", .base (.int i), kit_ty (by decide +kernel), true, rfl, ?_⟩
      refine ⟨_, rfl, i, rfl, true, rfl, ?_⟩
      refine ⟨_, rfl, _, rfl, rfl, ?_⟩
      rw [decide_eq_true rfl]
      exact q
    · refine ⟨_, rfl, rfl, _, rfl, ?_⟩
      refine ⟨_, rfl, _, _, _, _, true, rfl, .ty "bool", .base (.bl b), kit_ty (by decide +kernel), true, rfl, ?_⟩
      refine ⟨_, rfl, _, _, _, _, true, rfl, .ty "bool", .base (.bl b), kit_ty (by decide +kernel), true, rfl, ?_⟩
      refine ⟨_, rfl, _, rfl, rfl, ?_⟩
      rw [decide_eq_true rfl]
      exact q
    · refine ⟨_, rfl, rfl, _, rfl, ?_⟩
      exact ⟨_, rfl, rfl, q⟩
    · refine ⟨_, rfl, rfl, _, rfl, ?_⟩
      refine ⟨_, rfl, _, _, _, _, false, rfl, .ty "bool", .base (.str z), kit_ty (by decide +kernel), false, rfl, ?_⟩
      refine ⟨_, rfl, _, _, _, _, false, rfl, .ty "int", .base (.str z), kit_ty (by decide +kernel), false, rfl, ?_⟩
      refine ⟨_, rfl, _, _, _, _, true, rfl, .ty "str", .base (.str z), kit_ty (by decide +kernel), true, rfl, ?_⟩
      refine ⟨_, rfl, _, _, _, _, true, rfl, .ty "str", .base (.str z), kit_ty (by decide +kernel), true, rfl, ?_⟩
      refine ⟨_, rfl, _, rfl, rfl, ?_⟩
      rw [decide_eq_true rfl]
      exact q
    · rcases hab with ⟨ha, hb⟩ | ⟨ha, hb⟩
      · have tA : TyX K H (.ref a) (.type "tuple") := .base (.tup ha)
        have tB : TyX K H (.ref b) (.type "tuple") := .base (.tup hb)
        have qA : SqB K H a vs := .inr (.inl (.inl ha))
        have qB : SqB K H b us := .inr (.inl (.inl hb))
        refine ⟨_, rfl, rfl, _, rfl, ?_⟩
        refine ⟨_, rfl, _, _, _, _, false, rfl, .ty "bool", tB, kit_ty (by decide +kernel), false, rfl, ?_⟩
        refine ⟨_, rfl, _, _, _, _, false, rfl, .ty "int", tB, kit_ty (by decide +kernel), false, rfl, ?_⟩
        refine ⟨_, rfl, _, _, _, _, false, rfl, .ty "str", tB, kit_ty (by decide +kernel), false, rfl, ?_⟩
        refine ⟨_, rfl, _, _, _, _, false, rfl, .ty "list", tB, kit_ty (by decide +kernel), false, rfl, ?_⟩
        refine ⟨_, rfl, _, _, _, _, true, rfl, .ty "tuple", tB, kit_ty (by decide +kernel), true, rfl, ?_⟩
        refine ⟨_, rfl, _, _, _, _, true, rfl, .ty "tuple", tA, kit_ty (by decide +kernel), true, rfl, ?_⟩
        refine ⟨_, rfl, a, _, rfl, qA, _, rfl, b, _, rfl, qB, rfl, _, rfl, ?_⟩
        rw [hlen]
        refine iteNS rfl ?_
        refine ⟨_, rfl, b, _, rfl, qB, _, rfl, by omega, by omega, ?_⟩
        rw [show ((us.length : Int)).toNat = us.length by omega]
        refine for_range (lo := 0) (n := us.length) (fun i σ H' => (∃ y2, σ = [some (.ref a), some (.ref b), y2]) ∧ H' = H) ⟨⟨_, rfl⟩, rfl⟩ (fun i σ H' hi p => ?_) (fun σ H' p => ?_)
        · obtain ⟨⟨y2, rfl⟩, rfl⟩ := p
          have hv : vs[i]? = some vs[i] := List.getElem?_eq_getElem (by omega)
          have hu : us[i]? = some us[i] := List.getElem?_eq_getElem hi
          refine ⟨_, rfl, _, rfl, a, _, _, _, rfl, rfl, qA, at_of (j := i) (by omega) hv, _, rfl, _, rfl, b, _, _, _, rfl, rfl, qB, at_of (j := i) (by omega) hu, ?_⟩
          exact hsp e _ _ _ _ hle (hel i _ _ hv hu) ⟨true, rfl, ⟨_, rfl⟩, rfl⟩
        · obtain ⟨_, rfl⟩ := p
          exact q
      · have tA : TyX K H (.ref a) (.type "list") := .base (.lst ha)
        have tB : TyX K H (.ref b) (.type "list") := .base (.lst hb)
        have qA : SqB K H a vs := .inl (.inl (.inl ha))
        have qB : SqB K H b us := .inl (.inl (.inl hb))
        refine ⟨_, rfl, rfl, _, rfl, ?_⟩
        refine ⟨_, rfl, _, _, _, _, false, rfl, .ty "bool", tB, kit_ty (by decide +kernel), false, rfl, ?_⟩
        refine ⟨_, rfl, _, _, _, _, false, rfl, .ty "int", tB, kit_ty (by decide +kernel), false, rfl, ?_⟩
        refine ⟨_, rfl, _, _, _, _, false, rfl, .ty "str", tB, kit_ty (by decide +kernel), false, rfl, ?_⟩
        refine ⟨_, rfl, _, _, _, _, true, rfl, .ty "list", tB, kit_ty (by decide +kernel), true, rfl, ?_⟩
        refine ⟨_, rfl, _, _, _, _, true, rfl, .ty "list", tA, kit_ty (by decide +kernel), true, rfl, ?_⟩
        refine ⟨_, rfl, _, _, _, _, false, rfl, .ty "tuple", tB, kit_ty (by decide +kernel), false, rfl, ?_⟩
        refine ⟨_, rfl, a, _, rfl, qA, _, rfl, b, _, rfl, qB, rfl, _, rfl, ?_⟩
        rw [hlen]
        refine iteNS rfl ?_
        refine ⟨_, rfl, b, _, rfl, qB, _, rfl, by omega, by omega, ?_⟩
        rw [show ((us.length : Int)).toNat = us.length by omega]
        refine for_range (lo := 0) (n := us.length) (fun i σ H' => (∃ y2, σ = [some (.ref a), some (.ref b), y2]) ∧ H' = H) ⟨⟨_, rfl⟩, rfl⟩ (fun i σ H' hi p => ?_) (fun σ H' p => ?_)
        · obtain ⟨⟨y2, rfl⟩, rfl⟩ := p
          have hv : vs[i]? = some vs[i] := List.getElem?_eq_getElem (by omega)
          have hu : us[i]? = some us[i] := List.getElem?_eq_getElem hi
          refine ⟨_, rfl, _, rfl, a, _, _, _, rfl, rfl, qA, at_of (j := i) (by omega) hv, _, rfl, _, rfl, b, _, _, _, rfl, rfl, qB, at_of (j := i) (by omega) hu, ?_⟩
          exact hsp e _ _ _ _ hle (hel i _ _ hv hu) ⟨true, rfl, ⟨_, rfl⟩, rfl⟩
        · obtain ⟨_, rfl⟩ := p
          exact q
theorem okH_same {f : Addr} {fd : FuncData} (D_s : Df K mg "_law_same" s__law_same ["_law_value", "_law_due"] f fd) (T : Bi mg) {f_w : Addr} {d_w : FuncData} (D_w : Df K mg "_law_whole" s__law_whole ["_law_value"] f_w d_w) (G_w : L2H.FnH P w K mg base CX0 1 f_w d_w ["_law_value"] spWhole) :
    ∀ d : Nat, L2H.FnH P w K mg base CX0 (d + 2) f fd ["_law_value", "_law_due"] (spSame d)
  | 0 => sameH_body (k := 0) D_s T D_w G_w (sp := spNo) fnH_no fun e x y H Q h => absurd h (by omega)
  | d + 1 => sameH_body (k := d + 1) D_s T D_w G_w (okH_same D_s T D_w G_w d) fun e x y H Q h h1 q => ⟨x, y, rfl, h1.le (by omega), q⟩
end
end Own

/-! Operators of an own class whose error goes to a handler; the second operand may be any plain value. -/
namespace PySem.W
open PySem PySem.Spec PyProof.Rows
/-- a look at the second operand's class is all that is asked of it -/
theorem binLook {prog : Program} {w : World} {A : Around} {E : Value → Shared → Prop} {s : Shared} {K : Frag} {x C L f : Addr} {h₀ : Heap} {m : Str → Option Value} {ox : Obj} {od : Option Obj} {T : String} {op : Operator} {b : Value} {fo ro rc : Option Value} {Q : Value → Shared → Prop}
    (fr : Fr h₀ L s.heap m) (kin : K.In h₀) (inst : InstAt s.heap x ox C od) (look : Looks (model prog w) s.heap (typeOf b) (.type T)) (first : selfFirst K C = true) (slot : findIn K (.ref C) (PySem.dunder op.info.2) = some (some (.ref f))) (isf : isFn K (.ref f) = true)
    (back : findIn K (.ref C) (dunderR op.info.2) = some rc) (plain : rc = none ∨ ∃ g : Addr, rc = some (.ref g)) (t1 : findIn K (.type T) (PySem.dunder op.info.2) = some fo) (t2 : findIn K (.type T) (dunderR op.info.2) = some ro) (apart : subIn K (.type T) (.ref C) = some false)
    (then_ : wpAny (model prog w) A (call (.ref f) [.ref x, b]) (CmpBack Q) E s) : wpAny (model prog w) A (binaryOp op (.ref x) b) Q E s := by
  have now := kin.keeps fr.keep
  obtain ⟨cd, rest, at1, at2⟩ := ksp_first first
  rcases pair : op.info with ⟨sign, nm⟩
  rw [pair] at slot back t1 t2
  dsimp only at slot back t1 t2
  have go := ksp_try now inst slot isf then_
  obtain ⟨hh, g, d, tt, os⟩ := s
  have l8 : Looks (model prog w) hh (typeLookup (.type T) (dunderR nm)) ro := looks_findIn now t2
  have l7 : Looks (model prog w) hh (numberSlotInPython (.type T) nm) false := Looks.of_pure rfl
  have l6 : Looks (model prog w) hh (numberSlotInPython (.ref C) nm) true := ksp_inPy now slot back plain
  have l5 : Looks (model prog w) hh (isSubtype (.type T) (.ref C)) false := looks_subIn now apart
  have l4 := ksp_fillsT (M := model prog w) now t1 t2
  have l3 : Looks (model prog w) hh (fillsNumberSlot (.ref C) nm) true := fills_K now at1 at2 slot
  have l2 : Looks (model prog w) hh (typeOf b) (.type T) := look
  have l1 : Looks (model prog w) hh (typeOf (.ref x)) (.ref C) := inst.type
  have other : (Value.ref C == Value.type T) = false := by
    cases h : (Value.ref C == Value.type T) with
    | false => rfl
    | true => cases beq_iff_eq.mp h
  generalize ((fo.isSome && !isSeqSlot fo) || (ro.isSome && !isSeqSlot ro)) = c at l4
  simp only [binaryOp, pair]
  refine wpAny_holding (wpAny_bind ?_)
  unfold binaryOp1
  refine wpAny_bind (l1.at (wpAny_bind (l2.at (wpAny_bind (l3.at ?_)))))
  simp only [other, Bool.false_eq_true, if_false]
  cases c <;> (ksp_lk; refine wpAny_mono go (fun r s' z => ?_) fun _ _ z => z; obtain ⟨v, rfl, z⟩ := z; ksp_lk; exact z)
end PySem.W
namespace Own
open PySem PySem.Spec PyProof.Rows L2
section
variable {X : Cx} {CX : CXT} {k : Nat} {C g : Addr} {fd : FuncData} {ps : List Str} {sp : Sp} {E : L2.St → XK} {a b : Expr} {ta tb : TE} {pos : Pos}
/-- o op y, both of the class -/
def tOwnB (C : Addr) (sp : Sp) (E : L2.St → XK) (ta tb : TE) : TE := fun σ H Q => ta σ H fun x H1 => tb σ H1 fun y H2 => ∃ p dx fs o dy gs, x = .ref p ∧ y = .ref o ∧ H2 p = some (.ins C dx fs) ∧ H2 o = some (.ins C dy gs) ∧ sp [.ref p, .ref o] H2 Q (E σ)
theorem pe_ownB {op : Operator} (hc : PySem.W.selfFirst X.K C = true) (hs : PySem.W.findIn X.K (.ref C) (PySem.dunder op.info.2) = some (some (.ref g))) (hf : PySem.W.isFn X.K (.ref g) = true)
    (F : FnOk X.prog X.w X.K X.mg X.base CX k g fd ps sp) (hr : Room k X.A) (hb : Binds X.K fd ps []) (hx : ∀ σ, PassesAt CX X σ (E σ)) (ha : PE X a ta) (hb' : PE X b tb) : PE X (.BinOp a op b pos) (tOwnB C sp E ta tb) := by
  refine ⟨fun pins s σ H Q I h => ?_⟩
  refine wpAny_BinOp (binT (R := fun x y H2 => ∃ p dx fs o dy gs, x = .ref p ∧ y = .ref o ∧ H2 p = some (.ins C dx fs) ∧ H2 o = some (.ins C dy gs) ∧ sp [.ref p, .ref o] H2 Q (E σ)) ha hb' I h fun v u s2 x y H2 I2 rx ry q => ?_)
  obtain ⟨p, dx, fs, o, dy, gs, rfl, rfl, hp, ho, q⟩ := q
  cases (show v = Value.ref p from rx)
  cases (show u = Value.ref o from ry)
  obtain ⟨mA, O, _, _, _, _⟩ := ins_get I2.hok hp
  obtain ⟨od, J, _⟩ := O.look
  obtain ⟨mB, O', _, _, _, _⟩ := ins_get I2.hok ho
  obtain ⟨od', J', _⟩ := O'.look
  obtain ⟨m, hF⟩ := I2.fr
  refine PySem.W.binop_K hF I2.ok.mod.kin J J'.type hc hs hf ?_
  refine wpAny_mono (run_fnS (us := [.ref p, .ref o]) (vs := [.ref p, .ref o]) F hr hb (hx σ) I2 (.cons rfl (.cons rfl .nil)) q) (fun w s' z => ?_) fun _ _ x => x
  obtain ⟨z', H', I', rz, qz⟩ := z
  exact SlX.cmpback rz ⟨z', H', I', rz, qz⟩
/-- what the operator's rule asks of the other class -/
def OpT (K : PySem.W.Frag) (C : Addr) (op : Operator) (T : String) : Prop :=
  (∃ fo, PySem.W.findIn K (.type T) (PySem.dunder op.info.2) = some fo) ∧ (∃ ro, PySem.W.findIn K (.type T) (dunderR op.info.2) = some ro) ∧ PySem.W.subIn K (.type T) (.ref C) = some false
def tOwnV (K : PySem.W.Frag) (op : Operator) (C : Addr) (sp : Sp) (E : L2.St → XK) (ta tb : TE) : TE := fun σ H Q => ta σ H fun x H1 => tb σ H1 fun y H2 => ∃ p dx fs T, x = .ref p ∧ H2 p = some (.ins C dx fs) ∧ TyX K H2 y (.type T) ∧ OpT K C op T ∧ sp [.ref p, y] H2 Q (E σ)
theorem pe_ownV {op : Operator} {rc : Option Value} (hc : PySem.W.selfFirst X.K C = true) (hs : PySem.W.findIn X.K (.ref C) (PySem.dunder op.info.2) = some (some (.ref g))) (hf : PySem.W.isFn X.K (.ref g) = true)
    (hR : PySem.W.findIn X.K (.ref C) (dunderR op.info.2) = some rc) (hp : rc = none ∨ ∃ g : Addr, rc = some (.ref g))
    (F : FnOk X.prog X.w X.K X.mg X.base CX k g fd ps sp) (hr : Room k X.A) (hb : Binds X.K fd ps []) (hx : ∀ σ, PassesAt CX X σ (E σ)) (ha : PE X a ta) (hb' : PE X b tb) : PE X (.BinOp a op b pos) (tOwnV X.K op C sp E ta tb) := by
  refine ⟨fun pins s σ H Q I h => ?_⟩
  refine wpAny_BinOp (binT (R := fun x y H2 => ∃ p dx fs T, x = .ref p ∧ H2 p = some (.ins C dx fs) ∧ TyX X.K H2 y (.type T) ∧ OpT X.K C op T ∧ sp [.ref p, y] H2 Q (E σ)) ha hb' I h fun v u s2 x y H2 I2 rx ry q => ?_)
  obtain ⟨p, dx, fs, T, rfl, hp', ty, ⟨⟨fo, t1⟩, ⟨ro, t2⟩, t3⟩, q⟩ := q
  cases (show v = Value.ref p from rx)
  obtain ⟨mA, O, _, _, _, _⟩ := ins_get I2.hok hp'
  obtain ⟨od, J, _⟩ := O.look
  obtain ⟨Pp, kx, hpp, _⟩ := kit_of I2 ry ty
  have look : PySem.W.Looks (model X.prog X.w) s2.heap (typeOf u) (.type T) := kx.ty _ _ I2.kIn hpp
  obtain ⟨m, hF⟩ := I2.fr
  refine PySem.W.binLook hF I2.ok.mod.kin J look hc hs hf hR hp t1 t2 t3 ?_
  refine wpAny_mono (run_fnS (us := [.ref p, u]) (vs := [.ref p, y]) F hr hb (hx σ) I2 (.cons rfl (.cons ry .nil)) q) (fun w s' z => ?_) fun _ _ x => x
  obtain ⟨z', H', I', rz, qz⟩ := z
  exact SlX.cmpback rz ⟨z', H', I', rz, qz⟩
end
end Own

namespace Own
open PySem PySem.Spec PyProof.Rows L2
/-! ### the law's looks at errors -/
section
variable {X : Cx} {CX : CXT} {k : Nat} {C f : Addr} {fd : FuncData} {ps : List Str} {sp : Sp} {E : L2.St → XK} {o e : Expr} {es : List Expr} {m : Str} {apos pos : Pos} {ta : TE} {t : TA}
/-- a method whose error goes to a handler -/
theorem pe_methE {pl : Sem Bool} (he : PE X o ta) (c : Cls X.K C) (hm : Meth X.K C m f) (F : FnOk X.prog X.w X.K X.mg X.base CX k f fd ps sp) (room : Room k X.A) (hb : Binds X.K fd ps []) (hx : ∀ σ, PassesAt CX X σ (E σ)) (ha : PA X (e :: es) t)
    (st : starEach (e :: es) X.env = (false, eval e X.env) :: starEach es X.env := by rfl) (al : (backTo pos (starEach es X.env)).any (·.1) = false := by rfl)
    (as : eval (.Call (.Attribute o m apos) (e :: es) [] pos) X.env = (do let ov ← eval o X.env; standAt apos.atName; let (f, first) ← holding [ov] (getMethod ov m pl); callWith pos f first (backTo pos (starEach (e :: es) X.env)) (backToKw pos (keywordEach [] X.env))) := by rfl) :
    PE X (.Call (.Attribute o m apos) (e :: es) [] pos) (L2H.tMethH C m sp E ta t) := by
  constructor
  intro pins s σ H Q inv ask
  refine PySem.W.methodCall_KW (pl := pl) (thn (he.run pins s σ H _ inv ask) ?_) as
  rintro u s1 ⟨x, H1, inv1, rx, a, dx, fs, rfl, ea, no, q⟩
  cases (show u = Value.ref a from rx)
  apply getmeth_ok inv1 ea c hm no
  refine PySem.W.callWith_K (first := [.ref a]) (h₀ := X.base) inv.ok.mod.kin hm.kp (thn (ha.run pos pins s1 σ H1 _ inv1 q) ?_) st al
  rintro us s2 ⟨vs, H2, inv2, r, q2⟩
  exact ⟨inv2.kIn, run_fnS (us := .ref a :: us) (vs := .ref a :: vs) F room hb (hx σ) inv2 (.cons rfl r) q2⟩
end
def errs : List String := ["NotPart", "BadNumber", "BadPin", "BadCord", "BadPins", "UnlikePins", "RimError"]
/-- what the law knows of an error's class: it is none of these -/
structure XcE (K : PySem.W.Frag) (D : Addr) (c_ : String → Addr) (nm : List String) (not : List String) : Prop where
  c : ExcC K D
  x : XfC K D
  n : ∀ f ∈ nm, PySem.W.findIn K (.ref D) f = some none
  no : ∀ z ∈ not, PySem.W.kitOne K (.ref D) (.ref (c_ z)) = some false
  re : PySem.W.kitOne K (.ref D) (.ref (c_ "RimError")) = some true
  ve : PySem.W.kitOne K (.ref D) (.type "ValueError") = some true
  ex : PySem.W.exmOne K (.ref D) (.ref D) = some true
theorem sc_unl : FnScope ["_law_left", "_law_right", "_law_pins_here", "_law_far", "_law_minus", "_law_told_here", "e"] ["_law_left", "_law_right", "_law_pins_here", "_law_far", "_law_minus"] (defScope s__law_unlike) := ⟨rfl, rfl, rfl, by decide +kernel, rfl, by decide +kernel, by decide +kernel⟩
theorem sc_bf : FnScope ["_law_left", "_law_bad", "_law_told_here", "e"] ["_law_left", "_law_bad"] (defScope s__law_bad_factor) := ⟨rfl, rfl, rfl, by decide +kernel, rfl, by decide +kernel, by decide +kernel⟩
theorem sc_bp : FnScope ["_law_lot", "_law_pair", "_law_bad", "e"] ["_law_lot", "_law_pair", "_law_bad"] (defScope s__law_bad_pin) := ⟨rfl, rfl, rfl, by decide +kernel, rfl, by decide +kernel, by decide +kernel⟩
def sc_unl_s (K : PySem.W.Frag) (D : Addr) (c_ : String → Addr) (a : Addr) (cls : Value) (d : Option Addr) : TS := tSeq (tIfS (tOr (tB (tCB (rIsX K D a cls d) (tCons (tVar 6) (tCons (tC (.ref (c_ "NotPart"))) tNil)))) (tOr (tB (tCB (rIsX K D a cls d) (tCons (tVar 6) (tCons (tC (.ref (c_ "BadNumber"))) tNil)))) (tOr (tB (tCB (rIsX K D a cls d) (tCons (tVar 6) (tCons (tC (.ref (c_ "BadPin"))) tNil)))) (tB (tCB (rIsX K D a cls d) (tCons (tVar 6) (tCons (tC (.ref (c_ "BadCord"))) tNil))))))) (tRet (tC (.bl false))) tNext) (tSeq (tIfS (tOr (tB (tCB (rIsX K D a cls d) (tCons (tVar 6) (tCons (tC (.ref (c_ "BadPins"))) tNil)))) (tOr (tNot (tB (tCB (rIsX K D a cls d) (tCons (tVar 6) (tCons (tC (.ref (c_ "RimError"))) tNil))))) (tNot (tB (tCB (rIsX K D a cls d) (tCons (tVar 6) (tCons (tC (.ty "ValueError")) tNil))))))) (tRet (tC (.bl false))) tNext) (tRet (tCallS (spSame 2) (fun _ => E0) (tCons (tLst (tCons (tXf a cls d D "one" (tVar 6)) (tCons (tXf a cls d D "other" (tVar 6)) tNil))) (tCons (tLst (tCons (tVar 2) (tCons (tVar 3) tNil))) tNil)))))
def sc_bf_s (K : PySem.W.Frag) (D : Addr) (c_ : String → Addr) (a : Addr) (cls : Value) (d : Option Addr) : TS := tSeq (tIfS (tOr (tB (tCB (rIsX K D a cls d) (tCons (tVar 3) (tCons (tC (.ref (c_ "NotPart"))) tNil)))) (tOr (tB (tCB (rIsX K D a cls d) (tCons (tVar 3) (tCons (tC (.ref (c_ "UnlikePins"))) tNil)))) (tOr (tB (tCB (rIsX K D a cls d) (tCons (tVar 3) (tCons (tC (.ref (c_ "BadPin"))) tNil)))) (tB (tCB (rIsX K D a cls d) (tCons (tVar 3) (tCons (tC (.ref (c_ "BadCord"))) tNil))))))) (tRet (tC (.bl false))) tNext) (tSeq (tIfS (tOr (tB (tCB (rIsX K D a cls d) (tCons (tVar 3) (tCons (tC (.ref (c_ "BadPins"))) tNil)))) (tOr (tNot (tB (tCB (rIsX K D a cls d) (tCons (tVar 3) (tCons (tC (.ref (c_ "RimError"))) tNil))))) (tNot (tB (tCB (rIsX K D a cls d) (tCons (tVar 3) (tCons (tC (.ty "ValueError")) tNil))))))) (tRet (tC (.bl false))) tNext) (tRet (tCallS (spSame 2) (fun _ => E0) (tCons (tXf a cls d D "number" (tVar 3)) (tCons (tVar 1) tNil)))))
def sc_bp_s (K : PySem.W.Frag) (D : Addr) (c_ : String → Addr) (a : Addr) (cls : Value) (d : Option Addr) : TS := tSeq (tIfS (tOr (tB (tCB (rIsX K D a cls d) (tCons (tVar 3) (tCons (tC (.ref (c_ "NotPart"))) tNil)))) (tOr (tB (tCB (rIsX K D a cls d) (tCons (tVar 3) (tCons (tC (.ref (c_ "UnlikePins"))) tNil)))) (tOr (tB (tCB (rIsX K D a cls d) (tCons (tVar 3) (tCons (tC (.ref (c_ "BadNumber"))) tNil)))) (tB (tCB (rIsX K D a cls d) (tCons (tVar 3) (tCons (tC (.ref (c_ "BadCord"))) tNil))))))) (tRet (tC (.bl false))) tNext) (tSeq (tIfS (tOr (tB (tCB (rIsX K D a cls d) (tCons (tVar 3) (tCons (tC (.ref (c_ "BadPins"))) tNil)))) (tOr (tNot (tB (tCB (rIsX K D a cls d) (tCons (tVar 3) (tCons (tC (.ref (c_ "RimError"))) tNil))))) (tNot (tB (tCB (rIsX K D a cls d) (tCons (tVar 3) (tCons (tC (.ty "ValueError")) tNil))))))) (tRet (tC (.bl false))) tNext) (tRet (tCallS (spSame 2) (fun _ => E0) (tCons (tXf a cls d D "pin" (tVar 3)) (tCons (tVar 2) tNil)))))
section
variable {P : Program} {w : World} {K : PySem.W.Frag} {mg : Str → Option Value} {base : Heap} {C D D2 : Addr}
def spUnl (C : Addr) : Sp := fun vs H Q _ => ∃ (p o : Addr) (n m : Int) (b : Bool) (cs ds : List Tr), vs = [.ref p, .ref o, .int n, .int m, .bl b] ∧ LotAt C H p n cs ∧ LotAt C H o m ds ∧ (0 ≤ n ∧ n ≤ 1000) ∧ (0 ≤ m ∧ m ≤ 1000) ∧ Good n cs ∧ Good m ds ∧ cs.length + ds.length ≤ 1000 ∧ n ≠ m ∧ ∀ H', Same H H' → Q (.bl true) H'
theorem ok_unl {f : Addr} {fd : FuncData} (F : Fun K "_law_unlike" "_law_unlike" s__law_unlike f fd) (T : Bi mg) (U : mg "UnlikePins" = some (.ref D)) {c_ : String → Addr} (T_ve : mg "ValueError" = none) (N_ : ∀ n ∈ errs, mg n = some (.ref (c_ n))) (X_c : XcE K D c_ ["one", "other"] ["NotPart", "BadNumber", "BadPin", "BadCord", "BadPins"]) (s_c : PySem.W.selfFirst K C = true) {f_sub : Addr} {d_sub : FuncData} (i_sub : PySem.W.findIn K (.ref C) "__sub__" = some (some (.ref f_sub))) (n_sub : PySem.W.isFn K (.ref f_sub) = true) (b_sub : Binds K d_sub ["self", "other"] []) (G_sub : FnOk P w K mg base (L2N.CX P w) 7 f_sub d_sub ["self", "other"] (spSubX C D D2)) {f_add : Addr} {d_add : FuncData} (i_add : PySem.W.findIn K (.ref C) "__add__" = some (some (.ref f_add))) (n_add : PySem.W.isFn K (.ref f_add) = true) (b_add : Binds K d_add ["self", "other"] []) (G_add : FnOk P w K mg base (L2N.CX P w) 7 f_add d_add ["self", "other"] (spAddX C D)) {f_s : Addr} {d_s : FuncData} (D_s : Df K mg "_law_same" s__law_same ["_law_value", "_law_due"] f_s d_s) (H_s : L2H.FnH P w K mg base CX0 4 f_s d_s ["_law_value", "_law_due"] (spSame 2)) : FnOk P w K mg base CX0 8 f fd ["_law_left", "_law_right", "_law_pins_here", "_law_far", "_law_minus"] (spUnl C) := by
  refine F.ok sc_unl (fun vs H Q E h => ?_) (fun cdv A outer s H vs Q E hr h => ?_)
  · obtain ⟨_, _, _, _, _, _, _, rfl, _⟩ := h
    rfl
  · obtain ⟨p, o, n, m, b, cs, ds, rfl, hp, ho, hn, hm, gc, gd, hl, ne, q⟩ := h
    refine ⟨_, (pss_cons (L2N.ps_try_as (i := 6) (Wout := fun _ _ _ _ => False) rfl rfl sc_unl.nd rfl rfl ⟨by rfl, by decide, .inl U⟩ takesN
        (tb := fun W => tIfS (tB (tVar 4)) (tAsg (tOwnB C (spSubX C D D2) (WE W) (tVar 0) (tVar 1)) (gName 5)) (tAsg (tOwnB C (spAddX C D) (WE W) (tVar 0) (tVar 1)) (gName 5)))
        (ts := fun a cls d => sc_unl_s K D c_ a cls d)
        (fun W pn xe tk _ => (pss_one (ps_if (pt_val (pv 4)) (pss_one (ps_set (i := 5) sc_unl.nd rfl (.inl rfl) (by exact (pe_ownB s_c i_sub n_sub G_sub (hr.mono (by decide)) b_sub (fun σ => L2N.passAt tk σ) (pv 0) (pv 1))))) (pss_one (ps_set (i := 5) sc_unl.nd rfl (.inl rfl) (by exact (pe_ownB s_c i_add n_add G_add (hr.mono (by decide)) b_add (fun σ => L2N.passAt tk σ) (pv 0) (pv 1))))))))
        (fun a oe cls d pn hz hf => (pss_cons (ps_if (PW.pt (pw_or (pt_val (pe_callB (call_isX X_c.c hz.zc hf) (by rfl) T.b_isinstance (by decide +kernel) (pa_cons (pv 6) (pa_cons (pe_glob (v := .ref (c_ "NotPart")) (by rfl) (N_ "NotPart" (by decide +kernel)) rfl) pa_nil)))) (pw_or (pt_val (pe_callB (call_isX X_c.c hz.zc hf) (by rfl) T.b_isinstance (by decide +kernel) (pa_cons (pv 6) (pa_cons (pe_glob (v := .ref (c_ "BadNumber")) (by rfl) (N_ "BadNumber" (by decide +kernel)) rfl) pa_nil)))) (pw_or (pt_val (pe_callB (call_isX X_c.c hz.zc hf) (by rfl) T.b_isinstance (by decide +kernel) (pa_cons (pv 6) (pa_cons (pe_glob (v := .ref (c_ "BadPin")) (by rfl) (N_ "BadPin" (by decide +kernel)) rfl) pa_nil)))) (pw_or1 (pt_val (pe_callB (call_isX X_c.c hz.zc hf) (by rfl) T.b_isinstance (by decide +kernel) (pa_cons (pv 6) (pa_cons (pe_glob (v := .ref (c_ "BadCord")) (by rfl) (N_ "BadCord" (by decide +kernel)) rfl) pa_nil))))))))) (pss_one (ps_ret pe_bl)) pss_nil) (pss_cons (ps_if (PW.pt (pw_or (pt_val (pe_callB (call_isX X_c.c hz.zc hf) (by rfl) T.b_isinstance (by decide +kernel) (pa_cons (pv 6) (pa_cons (pe_glob (v := .ref (c_ "BadPins")) (by rfl) (N_ "BadPins" (by decide +kernel)) rfl) pa_nil)))) (pw_or (pt_not (pt_val (pe_callB (call_isX X_c.c hz.zc hf) (by rfl) T.b_isinstance (by decide +kernel) (pa_cons (pv 6) (pa_cons (pe_glob (v := .ref (c_ "RimError")) (by rfl) (N_ "RimError" (by decide +kernel)) rfl) pa_nil))))) (pw_or1 (pt_not (pt_val (pe_callB (call_isX X_c.c hz.zc hf) (by rfl) T.b_isinstance (by decide +kernel) (pa_cons (pv 6) (pa_cons (pe_bltn (v := .ty "ValueError") (by rfl) T_ve (by decide +kernel) rfl) pa_nil))))))))) (pss_one (ps_ret pe_bl)) pss_nil) (pss_one (ps_ret (L2H.pe_callH H_s ⟨(L2H.RoomH.mono (j := 4) (L2H.roomH_of hr) (by decide)).dp, (L2H.RoomH.mono (j := 4) (L2H.roomH_of hr) (by decide)).un⟩ (hotS hz hf) (by rfl) D_s.g D_s.F.kp D_s.b (E := fun _ => E0) (fun _ => pass0A) (pa_cons (pe_lst (pa_cons (pe_xf X_c.x (X_c.n "one" (by decide +kernel)) hz.zc hf (pv 6)) (pa_cons (pe_xf X_c.x (X_c.n "other" (by decide +kernel)) hz.zc hf (pv 6)) pa_nil))) (pa_cons (pe_lst (pa_cons (pv 2) (pa_cons (pv 3) pa_nil))) pa_nil)))))))))
        (pss_one (ps_ret pe_bl))), ?_⟩
    have fin : ∀ H1, Same H H1 → ∀ d, H1 d = none → (wAs K (.ref D) 6 (fun a cls d => sc_unl_s K D c_ a cls d) (fun _ _ _ _ => False) { nx := fun σ' H' => (tRet (tC (.bl false))) { nx := fun _ H' => Q .non H', rt := Q } σ' H', rt := Q }) (.ref D) (some d) [some (.ref p), some (.ref o), some (.int n), some (.int m), some (.bl b), none, none] (upd H1 d (.xd (flE ["one", "other"] [.int n, .int m]))) := fun H1 sH d nd => by
      refine ⟨true, X_c.ex, fun _ a na => ?_, fun z => by cases z⟩
      have sd := same_upd (o := .xd (flE ["one", "other"] [.int n, .int m])) nd
      have ed : upd H1 d (.xd (flE ["one", "other"] [.int n, .int m])) d = some (.xd (flE ["one", "other"] [.int n, .int m])) := upd_same
      refine ⟨_, rfl, rfl, d, .ref (c_ "NotPart"), .ref (c_ "NotPart"), false, _, rfl, rfl, ed, fun u h => h, X_c.no "NotPart" (by decide +kernel), false, rfl, ?_⟩
      refine ⟨_, rfl, rfl, d, .ref (c_ "BadNumber"), .ref (c_ "BadNumber"), false, _, rfl, rfl, ed, fun u h => h, X_c.no "BadNumber" (by decide +kernel), false, rfl, ?_⟩
      refine ⟨_, rfl, rfl, d, .ref (c_ "BadPin"), .ref (c_ "BadPin"), false, _, rfl, rfl, ed, fun u h => h, X_c.no "BadPin" (by decide +kernel), false, rfl, ?_⟩
      refine ⟨_, rfl, rfl, d, .ref (c_ "BadCord"), .ref (c_ "BadCord"), false, _, rfl, rfl, ed, fun u h => h, X_c.no "BadCord" (by decide +kernel), false, rfl, ?_⟩
      refine ⟨_, rfl, rfl, d, .ref (c_ "BadPins"), .ref (c_ "BadPins"), false, _, rfl, rfl, ed, fun u h => h, X_c.no "BadPins" (by decide +kernel), false, rfl, ?_⟩
      refine ⟨_, rfl, rfl, d, .ref (c_ "RimError"), .ref (c_ "RimError"), true, _, rfl, rfl, ed, fun u h => h, X_c.re , true, rfl, ?_⟩
      refine ⟨_, rfl, rfl, d, .ty "ValueError", .type "ValueError", true, _, rfl, rfl, ed, fun u h => h, X_c.ve, true, rfl, ?_⟩
      refine ⟨_, rfl, rfl, rfl, d, _, _, rfl, ed, rfl, _, rfl, rfl, rfl, d, _, _, rfl, ed, rfl, by show 2 ≤ sizeLine; decide, fun l1 n1 => ⟨_, rfl, _, rfl, by show 2 ≤ sizeLine; decide, fun l2 n2 => ?_⟩⟩
      have g1 := same_upd (o := .lst [.int n, .int m]) n1
      have g2 := same_upd (o := .lst [.int n, .int m]) n2
      refine ⟨_, _, rfl, EqV.le (d := 1) (.inr ⟨l1, l2, _, _, rfl, rfl, .inr ⟨g2 _ _ upd_same, upd_same⟩, rfl, by show 2 ≤ 1000; decide, fun i x y hx hy => ?_⟩) (by decide), q _ (((sH.trans sd).trans g1).trans g2)⟩
      rw [hx] at hy
      cases hy
      match i, hx with
      | 0, hx => cases hx; exact EqV.int _
      | 1, hx => cases hx; exact EqV.int _
    obtain ⟨dx, c, ep, tp⟩ := id hp
    obtain ⟨dy, c2, eo, to⟩ := id ho
    cases b with
    | true => exact ⟨_, rfl, _, rfl, _, rfl, _, rfl, p, dx, _, o, dy, _, rfl, rfl, ep, eo, p, o, n, m, cs, ds, rfl, hp, ho, hn, hm, gc, gd, by omega, fun z => absurd z ne, fun z => absurd z ne, fun _ d nd => fin H (Same.refl H) d nd⟩
    | false => exact ⟨_, rfl, _, rfl, _, rfl, _, rfl, p, dx, _, o, dy, _, rfl, rfl, ep, eo, p, o, n, m, cs, ds, rfl, hp, ho, hn, hm, gc.vld, gd.vld, hl, fun z => absurd z ne, fun _ d nd => fin H (Same.refl H) d nd⟩
end
end Own

namespace Own
open PySem PySem.Spec PyProof.Rows L2
theorem notW_eqv {K : PySem.W.Frag} {H H' : Hp} {v : V} (s : Same H H') (h : (∃ i : Int, v = .int i) ∨ NotW K H v) : EqV 2 H' v v := by
  have one : ∀ (p : Addr) (i : Int), (H p = some (.lst [.int i]) ∨ H p = some (.tup [.int i])) → EqV 2 H' (.ref p) (.ref p) := fun p i h => by
    refine EqV.le (d := 1) (.inr ⟨p, p, [.int i], [.int i], rfl, rfl, ?_, rfl, by show 1 ≤ 1000; decide, fun j x y hx hy => ?_⟩) (by decide)
    · rcases h with h | h
      · exact .inr ⟨s _ _ h, s _ _ h⟩
      · exact .inl ⟨s _ _ h, s _ _ h⟩
    · rw [hx] at hy
      cases hy
      match j, hx with
      | 0, hx => cases hx; exact EqV.int _
  rcases h with ⟨i, rfl⟩ | ⟨b, rfl⟩ | rfl | ⟨z, rfl⟩ | ⟨p, i, rfl, h⟩ | ⟨p, i, rfl, h⟩
  · exact EqV.int i
  · exact EqV.bl b
  · exact EqV.non
  · exact EqV.str z
  · exact one p i (.inl h)
  · exact one p i (.inr h)
/-- the class of such a value -/
theorem notW_ty {K : PySem.W.Frag} {H : Hp} {v : V} {R : String → Prop} (h : (∃ i : Int, v = .int i) ∨ NotW K H v) (r : ∀ T ∈ ["int", "bool", "NoneType", "str", "list", "tuple"], R T) : ∃ T, TyX K H v (.type T) ∧ R T := by
  rcases h with ⟨i, rfl⟩ | ⟨b, rfl⟩ | rfl | ⟨z, rfl⟩ | ⟨p, i, rfl, h⟩ | ⟨p, i, rfl, h⟩
  · exact ⟨"int", .base (.int i), r _ (by decide)⟩
  · exact ⟨"bool", .base (.bl b), r _ (by decide)⟩
  · exact ⟨"NoneType", .base .non, r _ (by decide)⟩
  · exact ⟨"str", .base (.str z), r _ (by decide)⟩
  · exact ⟨"list", .base (.lst h), r _ (by decide)⟩
  · exact ⟨"tuple", .base (.tup h), r _ (by decide)⟩
def rLenB (K : PySem.W.Frag) : List V → Hp → VK → Prop := fun xs H Q => ∃ p ys, xs = [.ref p] ∧ (SqL K H p ys ∨ SqT K H p ys) ∧ Q (.int ys.length) H
section
variable {P : Program} {w : World} {K : PySem.W.Frag} {mg : Str → Option Value} {base : Heap} {C D D2 : Addr}
def spBadF (K : PySem.W.Frag) (C : Addr) : Sp := fun vs H Q _ => ∃ (p : Addr) (v : V) (n : Int) (cs : List Tr), vs = [.ref p, v] ∧ LotAt C H p n cs ∧ 0 ≤ n ∧ (∀ t ∈ cs, Vld n t) ∧ cs.length ≤ 1000 ∧ ((∃ i : Int, v = .int i ∧ i < 0) ∨ NotW K H v) ∧ ShoV K H v ∧ ∀ H', Same H H' → Q (.bl true) H'
theorem ok_badf {f : Addr} {fd : FuncData} (F : Fun K "_law_bad_factor" "_law_bad_factor" s__law_bad_factor f fd) (T : Bi mg) (U : mg "BadNumber" = some (.ref D)) {c_ : String → Addr} (T_ve : mg "ValueError" = none) (N_ : ∀ n ∈ errs, mg n = some (.ref (c_ n))) (X_c : XcE K D c_ ["number"] ["NotPart", "UnlikePins", "BadPin", "BadCord", "BadPins"]) (s_c : PySem.W.selfFirst K C = true) {f_mul : Addr} {d_mul : FuncData} {rc : Option Value} (i_mul : PySem.W.findIn K (.ref C) "__mul__" = some (some (.ref f_mul))) (n_mul : PySem.W.isFn K (.ref f_mul) = true) (i_rmul : PySem.W.findIn K (.ref C) "__rmul__" = some rc) (p_rmul : rc = none ∨ ∃ g : Addr, rc = some (.ref g)) (b_mul : Binds K d_mul ["self", "number"] []) (G_mul : FnOk P w K mg base (L2N.CX P w) 7 f_mul d_mul ["self", "number"] (spMulX K C D)) (o_mul : ∀ T ∈ ["int", "bool", "NoneType", "str", "list", "tuple"], OpT K C .Mult T) {f_s : Addr} {d_s : FuncData} (D_s : Df K mg "_law_same" s__law_same ["_law_value", "_law_due"] f_s d_s) (H_s : L2H.FnH P w K mg base CX0 4 f_s d_s ["_law_value", "_law_due"] (spSame 2)) : FnOk P w K mg base CX0 8 f fd ["_law_left", "_law_bad"] (spBadF K C) := by
  refine F.ok sc_bf (fun vs H Q E h => ?_) (fun cdv A outer s H vs Q E hr h => ?_)
  · obtain ⟨_, _, _, _, rfl, _⟩ := h
    rfl
  · obtain ⟨p, v, n, cs, rfl, hp, n0, hv, hl, bad, sho, q⟩ := h
    refine ⟨_, (pss_cons (L2N.ps_try_as (i := 3) (Wout := fun _ _ _ _ => False) rfl rfl sc_bf.nd rfl rfl ⟨by rfl, by decide, .inl U⟩ takesN
        (tb := fun W => tAsg (tOwnV K .Mult C (spMulX K C D) (WE W) (tVar 0) (tVar 1)) (gName 2))
        (ts := fun a cls d => sc_bf_s K D c_ a cls d)
        (fun W pn xe tk _ => (pss_one (ps_set (i := 2) sc_bf.nd rfl (.inl rfl) (by exact (pe_ownV s_c i_mul n_mul i_rmul p_rmul G_mul (hr.mono (by decide)) b_mul (fun σ => L2N.passAt tk σ) (pv 0) (pv 1))))))
        (fun a oe cls d pn hz hf => (pss_cons (ps_if (PW.pt (pw_or (pt_val (pe_callB (call_isX X_c.c hz.zc hf) (by rfl) T.b_isinstance (by decide +kernel) (pa_cons (pv 3) (pa_cons (pe_glob (v := .ref (c_ "NotPart")) (by rfl) (N_ "NotPart" (by decide +kernel)) rfl) pa_nil)))) (pw_or (pt_val (pe_callB (call_isX X_c.c hz.zc hf) (by rfl) T.b_isinstance (by decide +kernel) (pa_cons (pv 3) (pa_cons (pe_glob (v := .ref (c_ "UnlikePins")) (by rfl) (N_ "UnlikePins" (by decide +kernel)) rfl) pa_nil)))) (pw_or (pt_val (pe_callB (call_isX X_c.c hz.zc hf) (by rfl) T.b_isinstance (by decide +kernel) (pa_cons (pv 3) (pa_cons (pe_glob (v := .ref (c_ "BadPin")) (by rfl) (N_ "BadPin" (by decide +kernel)) rfl) pa_nil)))) (pw_or1 (pt_val (pe_callB (call_isX X_c.c hz.zc hf) (by rfl) T.b_isinstance (by decide +kernel) (pa_cons (pv 3) (pa_cons (pe_glob (v := .ref (c_ "BadCord")) (by rfl) (N_ "BadCord" (by decide +kernel)) rfl) pa_nil))))))))) (pss_one (ps_ret pe_bl)) pss_nil) (pss_cons (ps_if (PW.pt (pw_or (pt_val (pe_callB (call_isX X_c.c hz.zc hf) (by rfl) T.b_isinstance (by decide +kernel) (pa_cons (pv 3) (pa_cons (pe_glob (v := .ref (c_ "BadPins")) (by rfl) (N_ "BadPins" (by decide +kernel)) rfl) pa_nil)))) (pw_or (pt_not (pt_val (pe_callB (call_isX X_c.c hz.zc hf) (by rfl) T.b_isinstance (by decide +kernel) (pa_cons (pv 3) (pa_cons (pe_glob (v := .ref (c_ "RimError")) (by rfl) (N_ "RimError" (by decide +kernel)) rfl) pa_nil))))) (pw_or1 (pt_not (pt_val (pe_callB (call_isX X_c.c hz.zc hf) (by rfl) T.b_isinstance (by decide +kernel) (pa_cons (pv 3) (pa_cons (pe_bltn (v := .ty "ValueError") (by rfl) T_ve (by decide +kernel) rfl) pa_nil))))))))) (pss_one (ps_ret pe_bl)) pss_nil) (pss_one (ps_ret (L2H.pe_callH H_s ⟨(L2H.RoomH.mono (j := 4) (L2H.roomH_of hr) (by decide)).dp, (L2H.RoomH.mono (j := 4) (L2H.roomH_of hr) (by decide)).un⟩ (hotS hz hf) (by rfl) D_s.g D_s.F.kp D_s.b (E := fun _ => E0) (fun _ => pass0A) (pa_cons (pe_xf X_c.x (X_c.n "number" (by decide +kernel)) hz.zc hf (pv 3)) (pa_cons (pv 1) pa_nil)))))))))
        (pss_one (ps_ret pe_bl))), ?_⟩
    have nw : (∃ i : Int, v = .int i) ∨ NotW K H v := by
      rcases bad with ⟨i, e, _⟩ | h
      · exact .inl ⟨i, e⟩
      · exact .inr h
    have fin : ∀ H1, Same H H1 → ∀ d, H1 d = none → (wAs K (.ref D) 3 (fun a cls d => sc_bf_s K D c_ a cls d) (fun _ _ _ _ => False) { nx := fun σ' H' => (tRet (tC (.bl false))) { nx := fun _ H' => Q .non H', rt := Q } σ' H', rt := Q }) (.ref D) (some d) [some (.ref p), some v, none, none] (upd H1 d (.xd (flE ["number"] [v]))) := fun H1 sH d nd => by
      refine ⟨true, X_c.ex, fun _ a na => ?_, fun z => by cases z⟩
      have sd := same_upd (o := .xd (flE ["number"] [v])) nd
      have ed : upd H1 d (.xd (flE ["number"] [v])) d = some (.xd (flE ["number"] [v])) := upd_same
      refine ⟨_, rfl, rfl, d, .ref (c_ "NotPart"), .ref (c_ "NotPart"), false, _, rfl, rfl, ed, fun u h => h, X_c.no "NotPart" (by decide +kernel), false, rfl, ?_⟩
      refine ⟨_, rfl, rfl, d, .ref (c_ "UnlikePins"), .ref (c_ "UnlikePins"), false, _, rfl, rfl, ed, fun u h => h, X_c.no "UnlikePins" (by decide +kernel), false, rfl, ?_⟩
      refine ⟨_, rfl, rfl, d, .ref (c_ "BadPin"), .ref (c_ "BadPin"), false, _, rfl, rfl, ed, fun u h => h, X_c.no "BadPin" (by decide +kernel), false, rfl, ?_⟩
      refine ⟨_, rfl, rfl, d, .ref (c_ "BadCord"), .ref (c_ "BadCord"), false, _, rfl, rfl, ed, fun u h => h, X_c.no "BadCord" (by decide +kernel), false, rfl, ?_⟩
      refine ⟨_, rfl, rfl, d, .ref (c_ "BadPins"), .ref (c_ "BadPins"), false, _, rfl, rfl, ed, fun u h => h, X_c.no "BadPins" (by decide +kernel), false, rfl, ?_⟩
      refine ⟨_, rfl, rfl, d, .ref (c_ "RimError"), .ref (c_ "RimError"), true, _, rfl, rfl, ed, fun u h => h, X_c.re , true, rfl, ?_⟩
      refine ⟨_, rfl, rfl, d, .ty "ValueError", .type "ValueError", true, _, rfl, rfl, ed, fun u h => h, X_c.ve, true, rfl, ?_⟩
      refine ⟨_, rfl, rfl, rfl, d, _, _, rfl, ed, rfl, _, rfl, _, _, rfl, notW_eqv (sH.trans sd) nw, q _ (sH.trans sd)⟩
    obtain ⟨dx, c, ep, tp⟩ := id hp
    obtain ⟨Ty, ty, ot⟩ := notW_ty nw o_mul
    exact ⟨_, rfl, _, rfl, p, dx, _, Ty, rfl, ep, ty, ot, p, v, n, cs, rfl, hp, n0, hv, hl, .inr ⟨bad, sho, fun d nd => fin H (Same.refl H) d nd⟩⟩
def spBadP (K : PySem.W.Frag) (C : Addr) : Sp := fun vs H Q _ => ∃ (p l : Addr) (v : V) (n : Int) (cs : List Tr), vs = [.ref p, .ref l, v] ∧ LotAt C H p n cs ∧ 0 ≤ n ∧ n ≤ 1000 ∧ Good n cs ∧ cs.length ≤ 1000 ∧ NotB K H n v ∧ ShoV K H v ∧
  (H l = some (.lst [v]) ∨ ∃ x y, H l = some (.lst [x, y]) ∧ (x = v ∨ ∃ i : Int, x = .int i ∧ 0 ≤ i ∧ i < n ∧ y = v)) ∧ ∀ H', Same H H' → Q (.bl true) H'
theorem ok_badp {f : Addr} {fd : FuncData} (F : Fun K "_law_bad_pin" "_law_bad_pin" s__law_bad_pin f fd) (T : Bi mg) (U : mg "BadPin" = some (.ref D)) {c_ : String → Addr} (T_ve : mg "ValueError" = none) (N_ : ∀ n ∈ errs, mg n = some (.ref (c_ n))) (X_c : XcE K D c_ ["pin"] ["NotPart", "UnlikePins", "BadNumber", "BadCord", "BadPins"]) {f_bt f_en : Addr} {d_bt d_en : FuncData} (c_c : Cls K C) (M_bt : Meth K C "between" f_bt) (b_bt : Binds K d_bt ["self", "one", "other"] []) (G_bt : FnOk P w K mg base (L2N.CX P w) 6 f_bt d_bt ["self", "one", "other"] (spBtw K C D)) (M_en : Meth K C "ends" f_en) (b_en : Binds K d_en ["self", "pin"] []) (G_en : FnOk P w K mg base (L2N.CX P w) 6 f_en d_en ["self", "pin"] (spEndsX K C D)) {f_s : Addr} {d_s : FuncData} (D_s : Df K mg "_law_same" s__law_same ["_law_value", "_law_due"] f_s d_s) (H_s : L2H.FnH P w K mg base CX0 4 f_s d_s ["_law_value", "_law_due"] (spSame 2)) : FnOk P w K mg base CX0 8 f fd ["_law_lot", "_law_pair", "_law_bad"] (spBadP K C) := by
  refine F.ok sc_bp (fun vs H Q E h => ?_) (fun cdv A outer s H vs Q E hr h => ?_)
  · obtain ⟨_, _, _, _, _, rfl, _⟩ := h
    rfl
  · obtain ⟨p, l, v, n, cs, rfl, hp, n0, n1, hg, hl, bad, sho, hli, q⟩ := h
    refine ⟨_, (pss_cons (L2N.ps_try_as (i := 3) (Wout := fun _ _ _ _ => False) rfl rfl sc_bp.nd rfl rfl ⟨by rfl, by decide, .inl U⟩ takesN
        (tb := fun W => tIfS (tTest (tOp rEq (tCB (rLenB K) (tCons (tVar 1) tNil)) (tC (.int 2)))) (tDrop (L2H.tMethH C "between" (spBtw K C D) (WE W) (tVar 0) (tCons (tOp (rIxL K) (tVar 1) (tC (.int 0))) (tCons (tOp (rIxL K) (tVar 1) (tC (.int 1))) tNil)))) (tDrop (L2H.tMethH C "ends" (spEndsX K C D) (WE W) (tVar 0) (tCons (tOp (rIxL K) (tVar 1) (tC (.int 0))) tNil))))
        (ts := fun a cls d => sc_bp_s K D c_ a cls d)
        (fun W pn xe tk _ => (pss_one (ps_if (pt_cmpR op_eq (pe_callB call_len_seq (by rfl) T.b_len PySem.boot_len (pa_cons (pv 1) pa_nil)) pe_int (nomark _)) (pss_one (ps_expr (pe_methE (pv 0) c_c M_bt G_bt (hr.mono (by decide)) b_bt (fun σ => L2N.passAt tk σ) (pa_cons (pe_ix (r := rIxL K) ix_list (pv 1) pe_int (fun _ _ => rfl)) (pa_cons (pe_ix (r := rIxL K) ix_list (pv 1) pe_int (fun _ _ => rfl)) pa_nil))))) (pss_one (ps_expr (pe_methE (pv 0) c_c M_en G_en (hr.mono (by decide)) b_en (fun σ => L2N.passAt tk σ) (pa_cons (pe_ix (r := rIxL K) ix_list (pv 1) pe_int (fun _ _ => rfl)) pa_nil)))))))
        (fun a oe cls d pn hz hf => (pss_cons (ps_if (PW.pt (pw_or (pt_val (pe_callB (call_isX X_c.c hz.zc hf) (by rfl) T.b_isinstance (by decide +kernel) (pa_cons (pv 3) (pa_cons (pe_glob (v := .ref (c_ "NotPart")) (by rfl) (N_ "NotPart" (by decide +kernel)) rfl) pa_nil)))) (pw_or (pt_val (pe_callB (call_isX X_c.c hz.zc hf) (by rfl) T.b_isinstance (by decide +kernel) (pa_cons (pv 3) (pa_cons (pe_glob (v := .ref (c_ "UnlikePins")) (by rfl) (N_ "UnlikePins" (by decide +kernel)) rfl) pa_nil)))) (pw_or (pt_val (pe_callB (call_isX X_c.c hz.zc hf) (by rfl) T.b_isinstance (by decide +kernel) (pa_cons (pv 3) (pa_cons (pe_glob (v := .ref (c_ "BadNumber")) (by rfl) (N_ "BadNumber" (by decide +kernel)) rfl) pa_nil)))) (pw_or1 (pt_val (pe_callB (call_isX X_c.c hz.zc hf) (by rfl) T.b_isinstance (by decide +kernel) (pa_cons (pv 3) (pa_cons (pe_glob (v := .ref (c_ "BadCord")) (by rfl) (N_ "BadCord" (by decide +kernel)) rfl) pa_nil))))))))) (pss_one (ps_ret pe_bl)) pss_nil) (pss_cons (ps_if (PW.pt (pw_or (pt_val (pe_callB (call_isX X_c.c hz.zc hf) (by rfl) T.b_isinstance (by decide +kernel) (pa_cons (pv 3) (pa_cons (pe_glob (v := .ref (c_ "BadPins")) (by rfl) (N_ "BadPins" (by decide +kernel)) rfl) pa_nil)))) (pw_or (pt_not (pt_val (pe_callB (call_isX X_c.c hz.zc hf) (by rfl) T.b_isinstance (by decide +kernel) (pa_cons (pv 3) (pa_cons (pe_glob (v := .ref (c_ "RimError")) (by rfl) (N_ "RimError" (by decide +kernel)) rfl) pa_nil))))) (pw_or1 (pt_not (pt_val (pe_callB (call_isX X_c.c hz.zc hf) (by rfl) T.b_isinstance (by decide +kernel) (pa_cons (pv 3) (pa_cons (pe_bltn (v := .ty "ValueError") (by rfl) T_ve (by decide +kernel) rfl) pa_nil))))))))) (pss_one (ps_ret pe_bl)) pss_nil) (pss_one (ps_ret (L2H.pe_callH H_s ⟨(L2H.RoomH.mono (j := 4) (L2H.roomH_of hr) (by decide)).dp, (L2H.RoomH.mono (j := 4) (L2H.roomH_of hr) (by decide)).un⟩ (hotS hz hf) (by rfl) D_s.g D_s.F.kp D_s.b (E := fun _ => E0) (fun _ => pass0A) (pa_cons (pe_xf X_c.x (X_c.n "pin" (by decide +kernel)) hz.zc hf (pv 3)) (pa_cons (pv 2) pa_nil)))))))))
        (pss_one (ps_ret pe_bl))), ?_⟩
    have nw : (∃ i : Int, v = .int i) ∨ NotW K H v := by
      rcases bad with ⟨i, e, _⟩ | h
      · exact .inl ⟨i, e⟩
      · exact .inr h
    have fin : ∀ H1, Same H H1 → ∀ d, H1 d = none → (wAs K (.ref D) 3 (fun a cls d => sc_bp_s K D c_ a cls d) (fun _ _ _ _ => False) { nx := fun σ' H' => (tRet (tC (.bl false))) { nx := fun _ H' => Q .non H', rt := Q } σ' H', rt := Q }) (.ref D) (some d) [some (.ref p), some (.ref l), some v, none] (upd H1 d (.xd (flE ["pin"] [v]))) := fun H1 sH d nd => by
      refine ⟨true, X_c.ex, fun _ a na => ?_, fun z => by cases z⟩
      have sd := same_upd (o := .xd (flE ["pin"] [v])) nd
      have ed : upd H1 d (.xd (flE ["pin"] [v])) d = some (.xd (flE ["pin"] [v])) := upd_same
      refine ⟨_, rfl, rfl, d, .ref (c_ "NotPart"), .ref (c_ "NotPart"), false, _, rfl, rfl, ed, fun u h => h, X_c.no "NotPart" (by decide +kernel), false, rfl, ?_⟩
      refine ⟨_, rfl, rfl, d, .ref (c_ "UnlikePins"), .ref (c_ "UnlikePins"), false, _, rfl, rfl, ed, fun u h => h, X_c.no "UnlikePins" (by decide +kernel), false, rfl, ?_⟩
      refine ⟨_, rfl, rfl, d, .ref (c_ "BadNumber"), .ref (c_ "BadNumber"), false, _, rfl, rfl, ed, fun u h => h, X_c.no "BadNumber" (by decide +kernel), false, rfl, ?_⟩
      refine ⟨_, rfl, rfl, d, .ref (c_ "BadCord"), .ref (c_ "BadCord"), false, _, rfl, rfl, ed, fun u h => h, X_c.no "BadCord" (by decide +kernel), false, rfl, ?_⟩
      refine ⟨_, rfl, rfl, d, .ref (c_ "BadPins"), .ref (c_ "BadPins"), false, _, rfl, rfl, ed, fun u h => h, X_c.no "BadPins" (by decide +kernel), false, rfl, ?_⟩
      refine ⟨_, rfl, rfl, d, .ref (c_ "RimError"), .ref (c_ "RimError"), true, _, rfl, rfl, ed, fun u h => h, X_c.re , true, rfl, ?_⟩
      refine ⟨_, rfl, rfl, d, .ty "ValueError", .type "ValueError", true, _, rfl, rfl, ed, fun u h => h, X_c.ve, true, rfl, ?_⟩
      refine ⟨_, rfl, rfl, rfl, d, _, _, rfl, ed, rfl, _, rfl, _, _, rfl, notW_eqv (sH.trans sd) nw, q _ (sH.trans sd)⟩
    obtain ⟨dx, c, ep, tp⟩ := id hp
    rcases hli with el | ⟨x, y, el, hxy⟩
    · refine ⟨_, rfl, l, _, rfl, .inl (.inl (.inl el)), rfl, _, rfl, ?_⟩
      refine ⟨_, rfl, p, dx, _, rfl, ep, flds_no _ _ (by decide +kernel) (by decide +kernel), _, rfl, l, _, 0, _, rfl, rfl, .inl (.inl el), atI_nat (j := 0) rfl, ?_⟩
      exact ⟨p, v, n, cs, rfl, hp, n0, n1, hg.vld, .inr ⟨bad, sho, fun d nd => fin H (Same.refl H) d nd⟩⟩
    · refine ⟨_, rfl, l, _, rfl, .inl (.inl (.inl el)), rfl, _, rfl, ?_⟩
      refine ⟨_, rfl, p, dx, _, rfl, ep, flds_no _ _ (by decide +kernel) (by decide +kernel), _, rfl, l, _, 0, _, rfl, rfl, .inl (.inl el), atI_nat (j := 0) rfl, _, rfl, l, _, 1, _, rfl, rfl, .inl (.inl el), atI_nat (j := 1) rfl, ?_⟩
      rcases hxy with rfl | ⟨i, rfl, i0, i1, rfl⟩
      · exact ⟨p, x, y, n, cs, rfl, hp, n0, n1, hg, hl, .inr (.inl ⟨bad, sho, fun d nd => fin H (Same.refl H) d nd⟩)⟩
      · exact ⟨p, _, y, n, cs, rfl, hp, n0, n1, hg, hl, .inr (.inr ⟨i, rfl, i0, i1, bad, sho, fun d nd => fin H (Same.refl H) d nd⟩)⟩
end
end Own

/-! An own __iter__ that gives the iterator of a tuple: the iterator is as young as the call. -/
namespace Own
open PySem PySem.Spec PyProof.Rows L2
/-! ### the same base, but longer -/
def padH (h : Heap) (n : Nat) : Heap := ⟨h.objs ++ Array.replicate (n - h.objs.size) ⟨.none, none, .freed, #[]⟩, h.life⟩
theorem padH_get (h : Heap) (n : Nat) (a : Addr) : (padH h n).get? a = h.get? a := by
  unfold padH Heap.get?
  simp only [Array.getElem?_append]
  by_cases lt : a < h.objs.size
  · rw [if_pos lt]
  · rw [if_neg lt, show h.objs[a]? = none from Array.getElem?_eq_none (Nat.not_lt.mp lt), Array.getElem?_replicate]
    by_cases l2 : a - h.objs.size < n - h.objs.size
    · rw [if_pos l2]
    · rw [if_neg l2]
theorem padH_size {h : Heap} {n : Nat} (le : h.objs.size ≤ n) : (padH h n).objs.size = n := by
  unfold padH
  simp only [Array.size_append, Array.size_replicate]
  omega
section
variable {P : Program} {w : World} {K : PySem.W.Frag} {mg : Str → Option Value} {base : Heap} {A : Around} {outer : List Env} {s : Shared} {H : Hp} {n : Nat}
theorem padH_mod (m : Mod K mg base) : Mod K mg (padH base n) := by
  have k : ∀ b o, base.get? b = some o → (padH base n).get? b = some o := fun b o e => by rw [padH_get]; exact e
  obtain ⟨kin, glob, ⟨mb, b1, b2⟩, lim⟩ := m
  exact ⟨kin.keeps k, glob.keeps k, ⟨mb, b1.keeps k, b2⟩, lim.keeps k⟩
theorem padH_frames {h : Heap} : ∀ {l : List Env}, h.FunFrames base l → h.FunFrames (padH base n) l
  | [], _ => True.intro
  | e :: l, x => by
    obtain ⟨x1, ⟨L, o, x2, x3, x4⟩, x5⟩ := x
    exact ⟨x1, ⟨L, o, x2, by rw [padH_get]; exact x3, x4⟩, padH_frames x5⟩
theorem env0_pad (e : Env0 P w K mg base A outer s H) (le : base.objs.size ≤ n) (le2 : n ≤ s.heap.objs.size) : Env0 P w K mg (padH base n) A outer s H :=
  ⟨e.frames, padH_mod e.mod, fun b o q => e.bs b o (by rw [padH_get] at q; exact q), by rw [padH_size le]; exact le2, padH_frames e.funs, e.frf, e.hok, e.bare⟩
end
/-! ### the iterator of a tuple -/
def ItT (l it : Addr) (i : Nat) : HO := .ext fun h => h.IsTupleIter it l i
theorem itT_ok {P : Program} {w : World} {H : Hp} {h : Heap} {l it : Addr} {i : Nat} (e : h.IsTupleIter it l i) : ObjOk P w H h it (ItT l it i) := by
  obtain ⟨o, e1, _⟩ := id e
  exact ⟨e, ⟨o, e1⟩, fun h1 h2 q k => q.at k⟩
section
variable {X : Cx} {pins : List (Addr × Obj)} {σ : L2.St} {H : Hp} {s : Shared}
theorem itT_get {l it : Addr} {i : Nat} (I : Inv X pins σ H s) (e : H it = some (ItT l it i)) : s.heap.IsTupleIter it l i := (I.hok it _ e).1
def rIterT (K : PySem.W.Frag) (n : Nat) : List V → Hp → VK → Prop := fun xs H Q => ∃ (l : Addr) (zs : List V), xs = [.ref l] ∧ SqT K H l zs ∧ ∀ it, H it = none → n ≤ it → Q (.ref it) (upd H it (ItT l it 0))
theorem call_iterT : CallR X (.builtin "iter") (rIterT X.K X.base.objs.size) := by
  intro pins s σ H xs us Q I r h
  obtain ⟨l, zs, rfl, hq, q⟩ := h
  obtain ⟨u, rfl, ru⟩ := vals1 r
  cases ru
  obtain ⟨its, rv, p, hz⟩ := I.tuple hq
  refine Calls.call_function_entry (by decide +kernel) (by decide +kernel) PySem.W.kdk_entry_iter (PySem.W.kdk_args_iter _) ?_
  unfold Builtin.«iter»
  refine wpAny_bind (m := someArgs "iter" 1 2 _) (wpAny_of_eq (a := [Value.ref l]) (by first | rfl | kernel_rfl!) ?_)
  show wpAny _ _ (pyIter (.ref l) >>= _) _ _ _
  refine wpAny_bind (wpAny_pyIter_tuple (show s.heap.IsTuple l its.toArray from p) (wpAny_pure ⟨_, rfl, ?_⟩))
  have st : (s.heap.push { cls := .type "tuple_iterator", data := .fields #[.ref l, .int 0 0] }).IsTupleIter s.heap.objs.size l 0 := ⟨_, Heap.get?_push_size _ rfl, rfl, rfl⟩
  exact ⟨.ref s.heap.objs.size, _, I.laid (t' := s.toks) (fun b u e => Heap.get?_push_of_some _ e) (Nat.le_refl _) (itT_ok st), rfl, q _ (I.hok.fresh (Nat.le_refl _)) I.env0.bsz⟩
/-! ### a call by a promise that knows how long the base is -/
theorem run_pad {k n : Nat} {f : Addr} {fd : FuncData} {ps : List Str} {spN : Nat → Sp} {Q : VK} {us : List Value} {vs : List V} {A : Around} (F : ∀ base, FnOk X.prog X.w X.K X.mg base CX0 k f fd ps (spN base.objs.size)) (hr : Room k A) (hA : A.frames = X.A.frames) (hb : Binds X.K fd ps [])
    (I : Inv X pins σ H s) (le : X.base.objs.size ≤ n) (le2 : n ≤ s.heap.objs.size) (r : Vals vs us) (h : spN n vs H Q E0) {E : Value → Shared → Prop} : wpAny (model X.prog X.w) A (call (.ref f) us) (EP X pins σ Q) E s := by
  have F1 := F (padH X.base n)
  rw [padH_size le] at F1
  have hl : us.length = ps.length := by rw [← r.length]; exact F1.len _ _ _ _ h
  have b := hb s us I.kIn (by rw [List.append_nil]; exact hl)
  rw [List.append_nil] at b
  have e1 := I.env0
  have e0 : Env0 X.prog X.w X.K X.mg X.base A X.stack s H := ⟨hA.trans e1.frames, e1.mod, e1.bs, e1.bsz, e1.funs, e1.frf, e1.hok, e1.bare⟩
  refine wpAny_call (codeAny_mono (F1.run A X.stack s H ⟨us, []⟩ us vs Q E0 hr (env0_pad e0 le le2) b r h) fun r s' hq => ?_)
  cases r with
  | error e => exact False.elim hq
  | ok fl =>
    cases fl with
    | ret u => exact I.after hq
    | next => exact False.elim hq
    | brk => exact False.elim hq
    | cont => exact False.elim hq
/-! ### for x in o -/
def iOwn (K : PySem.W.Frag) (C : Addr) (n : Nat) (spN : Nat → Sp) (ta : TE) : TI := fun σ H R => ta σ H fun x H1 => ∃ (p dx : Addr) (fs : List (Str × V)) (l : Addr) (xs : List V), x = .ref p ∧ H1 p = some (.ins C dx fs) ∧ SqT K H1 l xs ∧
  spN n [.ref p] H1 (fun v H2 => ∃ it, v = .ref it ∧ H1 it = none ∧ n ≤ it ∧ H2 = upd H1 it (ItT l it 0)) E0 ∧ R (Itt K l) H1
theorem pi_own {tg e : Expr} {ta : TE} {C g : Addr} {k : Nat} {fd : FuncData} {ps : List Str} {spN : Nat → Sp} (hs : PySem.W.findIn X.K (.ref C) "__iter__" = some (some (.ref g))) (hf : PySem.W.isFn X.K (.ref g) = true)
    (F : ∀ base, FnOk X.prog X.w X.K X.mg base CX0 k g fd ps (spN base.objs.size)) (hr : Room k X.A) (hb : Binds X.K fd ps []) (he : PE X e ta) : PI X tg e (iOwn X.K C X.s_0.heap.objs.size spN ta) := by
  refine ⟨fun pins s σ H R I h => thn (he.run pins s σ H _ I h) ?_⟩
  rintro v s1 ⟨x, H1, I1, r1, p, dx, fs, l, xs, rfl, hp, hl, q, r⟩
  obtain rfl : v = Value.ref p := r1
  obtain ⟨mA, O, _⟩ := ins_get I1.hok hp
  obtain ⟨od, J, _⟩ := O.look
  obtain ⟨m, hF⟩ := I1.fr
  refine PySem.W.owit_iter hF I1.ok.mod.kin J hs hf ?_
  refine wpAny_mono (run_pad (us := [.ref p]) (vs := [.ref p]) F hr rfl hb I1 I1.ok.bsz I1.sz (.cons rfl .nil) q) (fun w s2 z => ?_) fun _ _ z => z
  obtain ⟨z', H2, I2, rz, it, rfl, hn, hi, rfl⟩ := z
  cases (show w = Value.ref it from rz)
  have st : s2.heap.IsTupleIter it l 0 := itT_get I2 upd_same
  unfold PySem.W.OwitIt
  refine wpAny_specialOf (name := "__next__") st.typeIs PySem.F.slot_tuple_iterator_next.lookup ?_
  have fp := ItX.inv_fp I2 upd_same hi
  have I3 := ItX.inv_drop I2 (show upd H1 it (ItT l it 0) it = some (.ext fun h => h.IsTupleIter it l 0) from upd_same)
  rw [ItX.dropH_upd hn] at I3 fp
  exact ⟨it, [it], _, _, H1, rfl, I3, turn_tuple l it, st, fun b hb => by rw [List.mem_singleton.mp hb]; exact fp, r⟩
end
end Own

/-! list(o), o of an own class with an __iter__ that gives a tuple's iterator and with a __len__. -/
namespace Own
open PySem PySem.Spec PyProof.Rows L2
section
variable {X : Cx} {pins : List (Addr × Obj)} {σ : L2.St} {H : Hp} {s : Shared} {C a q l it gi gl : Addr} {A1 : Around}
/-- the walk: what is left of the tuple comes into the list at q -/
theorem lst_loop {Rs : Result → Shared → Prop} {zs : List V} (hh : A1.handled = none) (hq : H q = none) (hi : H it = none) (ne : it ≠ q) (fL : it ≠ X.env.locals) (fy : it ∈ X.ex ∨ X.s_0.heap.objs.size ≤ it) (fc : ∀ x c, X.env.cells.lookup x = some c → c ≠ it) (fp : ∀ p ∈ X.pn ++ pins, p.1 ≠ it)
    (hl : SqT X.K H l zs) (hz : zs.length ≤ sizeLine) (hdone : ∀ s, Inv X pins σ (upd H q (.lst zs)) s → Rs (.ok (.ret .none)) s) :
    ∀ (k i : Nat) (s : Shared), zs.length - i = k → i ≤ zs.length → Inv X pins σ (upd H q (.lst (zs.take i))) s → s.heap.IsTupleIter it l i → codeAny (model X.prog X.w) A1 (.builtin "list.extend.loop" ⟨[.ref q, .ref it, .none], []⟩) Rs s := by
  have hl2 : ∀ o, SqT X.K (upd H q o) l zs := fun o => by
    have nq : ∀ o', H l = some o' → l ≠ q := fun o' e z => by rw [z, hq] at e; cases e
    rcases hl with (h | ⟨o', h⟩) | h
    · exact .inl (.inl (by rw [upd_ne (nq _ h)]; exact h))
    · exact .inl (.inr ⟨o', by rw [upd_ne (nq _ h)]; exact h⟩)
    · exact .inr h
  have hi2 : ∀ o, (upd H q o) it = none := fun o => by rw [upd_ne ne]; exact hi
  intro k
  induction k with
  | zero =>
    intro i s e le I st
    have ei : i = zs.length := by omega
    subst ei
    rw [List.take_length] at I
    refine codeAny_builtin PySem.F.entry_extend_loop ?_
    rw [Around.under_plainId PySem.F.plain_extend_loop _]
    show wpAny _ A1.in1 (pyNext (.ref it) >>= _) _ _ s
    obtain ⟨its, rv, p, hz'⟩ := I.tuple (hl2 _)
    have hlen := rv.length
    refine wpAny_bind (wpAny_pyNext_tuple_end (A := A1.in1) hh st (show s.heap.IsTuple l its.toArray from p) (by simp; omega) fun h' eb => ?_)
    exact wpAny_pure (hdone _ (I.turned (t' := s.toks) (fun b o hb e => eb b o hb e) (hi2 _) fL fy fc fp))
  | succ k ih =>
    intro i s e le I st
    have lt : i < zs.length := by omega
    refine codeAny_builtin PySem.F.entry_extend_loop ?_
    rw [Around.under_plainId PySem.F.plain_extend_loop _]
    show wpAny _ A1.in1 (pyNext (.ref it) >>= _) _ _ s
    obtain ⟨its, rv, p, hz'⟩ := I.tuple (hl2 _)
    obtain ⟨u, hu, ru⟩ := rv.get (List.getElem?_eq_getElem lt)
    refine wpAny_bind (wpAny_pyNext_tuple_item st (show s.heap.IsTuple l its.toArray from p) (x := u) (by simpa using hu) fun h' st' sb => ?_)
    have I1 : Inv X pins σ (upd H q (.lst (zs.take i))) { s with heap := h' } := I.turned (t' := s.toks) (fun b o hb e => (sb.2 b hb).trans e) (hi2 _) fL fy fc fp
    show wpAny _ A1.in1 (updateSeq q (·.push u) >>= _) _ _ _
    obtain ⟨z, its2, k2, r2, hl3, e3⟩ := I1.lstM upd_same
    have tk : (zs.take i).length = i := by rw [List.length_take]; omega
    refine wpAny_bind (wpAny_updateSeq e3 rfl (wpAny_pure ⟨plainId_quiet PySem.F.plain_extend_loop _, ?_⟩) (by rw [List.size_toArray]; omega) (by show (its2.toArray.push u).size ≤ sizeLine + 1; rw [Array.size_push, List.size_toArray]; omega))
    have I2 := I1.lset (f := (·.push u)) (its' := its2 ++ [u]) (ys := zs.take (i + 1)) (t' := s.toks) upd_same e3 (by simp) (by rw [List.take_add_one, List.getElem?_eq_getElem lt]; exact r2.append (.cons ru .nil)) (by rw [List.length_take]; omega)
    rw [upd_upd] at I2
    refine ih (i + 1) _ (by omega) lt I2 ?_
    exact st'.at fun o eo => by
      show (h'.update q _).get? it = some o
      rw [Heap.get?_update_other _ _ (Ne.symm ne)]
      exact eo
/-- len(o) from within a built-in -/
theorem len_at {A : Around} {k : Nat} {fd : FuncData} {ps : List Str} {sp : Sp} {dx : Addr} {fs : List (Str × V)} {Q : Value → Shared → Prop} {E : Value → Shared → Prop} {n : Nat} (hm : Meth X.K C "__len__" gl) (F : FnOk X.prog X.w X.K X.mg X.base CX0 k gl fd ps sp) (hr : Room (k + 1) A) (hA : A.frames = X.A.frames) (hb : Binds X.K fd ps [])
    (I : Inv X pins σ H s) (ea : H a = some (.ins C dx fs)) (hn : n ≤ sizeLine) (q : sp [V.ref a] H (fun v H' => v = .int (n : Int) ∧ H' = H) E0) (hQ : ∀ t s', Inv X pins σ H s' → Q (.int (n : Int) t) s') : wpAny (model X.prog X.w) A (call (.builtin "len") [.ref a]) Q E s := by
  obtain ⟨mA, O, _, _, _, _⟩ := ins_get I.hok ea
  obtain ⟨od, J, _⟩ := O.look
  have hl : [Value.ref a].length = ps.length := (F.len _ _ _ _ q : _)
  apply Calls.call_function_entry kind_len plain_len entry_len (args_len1 _)
  show wpAny _ _ (Builtin.«len» _) _ _ _
  unfold Builtin.«len»
  apply wpAny_bind (m := oneArg "len" _)
  apply wpAny_pure
  apply wpAny_bind (m := callSpecial? (.ref a) (Str.ofString "__len__"))
  apply PySem.W.special_fn I.kIn J hm.at_ (beq_iff_eq.mp hm.fn)
  apply wpAny_call
  have e1 := I.env0
  have e0 : Env0 X.prog X.w X.K X.mg X.base A.in1 X.stack s H := ⟨hA.trans e1.frames, e1.mod, e1.bs, e1.bsz, e1.funs, e1.frf, e1.hok, e1.bare⟩
  refine codeAny_mono (F.run A.in1 X.stack s H ⟨[.ref a], []⟩ [.ref a] [V.ref a] _ E0 hr.in1 e0 (hb s [.ref a] I.kIn hl) (.cons rfl .nil) q) fun r s' hq => ?_
  rcases r with e | fl
  · exact False.elim hq
  · cases fl <;> first | exact False.elim hq | skip
    rename_i u
    obtain ⟨v, H', I3, rv, ev, eH⟩ := I.after hq
    subst ev
    rw [eH] at I3
    obtain ⟨t, et⟩ := rv
    subst et
    have h63 : sizeLine < 2 ^ 63 := by decide
    apply wpAny_bind
    apply wpAny_holding
    apply wpAny_pure
    apply wpAny_bind
    apply wpAny_letGo
    show wpAny _ _ (if (n : Int) < 0 then _ else _) _ _ _
    rw [if_neg (by omega)]
    show wpAny _ _ (if (n : Int) ≥ 2 ^ 63 then _ else _) _ _ _
    rw [if_neg (by omega)]
    apply wpAny_bind
    apply wpAny_mkInt
    exact wpAny_pure ⟨_, rfl, hQ _ _ (I3.tok _)⟩
/-- the room for a list, by its length -/
theorem hint_own {A : Around} {k : Nat} {fd : FuncData} {ps : List Str} {sp : Sp} {dx : Addr} {fs : List (Str × V)} {Q : Bool → Shared → Prop} {E : Value → Shared → Prop} {n : Nat} (hm : Meth X.K C "__len__" gl) (F : FnOk X.prog X.w X.K X.mg X.base CX0 k gl fd ps sp) (hr : Room (k + 1) A) (hA : A.frames = X.A.frames) (hb : Binds X.K fd ps [])
    (I : Inv X pins σ H s) (ea : H a = some (.ins C dx fs)) (hn : n ≤ sizeLine) (q : sp [V.ref a] H (fun v H' => v = .int (n : Int) ∧ H' = H) E0) (hQ : ∀ b s', Inv X pins σ H s' → Q b s') : wpAny (model X.prog X.w) A (Builtin.List.listLengthHint (.ref a)) Q E s := by
  obtain ⟨mA, O, _, _, _, _⟩ := ins_get I.hok ea
  obtain ⟨od, J, _⟩ := O.look
  unfold Builtin.List.listLengthHint
  refine wpAny_bind (wpAny_bind (J.type.here ((PySem.W.looks_findIn I.kIn hm.at_).here ?_)))
  refine PySem.W.KFB.if_not rfl ?_
  refine PySem.W.KFB.if_so rfl ?_
  refine wpAny_bind (wpAny_rule ?_)
  refine wpAny_bind (wpAny_attempt ?_)
  refine len_at hm F hr hA hb I ea hn q fun t s' I' => ?_
  refine wpAny_bind (wpAny_pure ?_)
  show wpAny _ _ (if Builtin.List.listTooLong ((n : Int).toNat) = true then _ else _) _ _ _
  rw [Int.toNat_natCast, notLongL hn]
  exact wpAny_pure (hQ _ _ I')
end
end Own

namespace Own
open PySem PySem.Spec PyProof.Rows L2
section
variable {X : Cx} {C gi gl : Addr}
/-- list(o): n is the entry's length of the heap -/
def rLstIt (K : PySem.W.Frag) (C : Addr) (n : Nat) (spN : Nat → Sp) (spL : Sp) : List V → Hp → VK → Prop := fun xs H Q => ∃ (a dx : Addr) (fs : List (Str × V)) (l : Addr) (zs : List V), xs = [.ref a] ∧ H a = some (.ins C dx fs) ∧ SqT K H l zs ∧ zs.length ≤ sizeLine ∧
  ∀ q, H q = none → spN n [.ref a] (upd H q (.lst [])) (fun v H2 => ∃ it, v = .ref it ∧ (upd H q (.lst [])) it = none ∧ n ≤ it ∧ H2 = upd (upd H q (.lst [])) it (ItT l it 0)) E0 ∧
    (∀ it, (upd H q (.lst [])) it = none → spL [.ref a] (upd (upd H q (.lst [])) it (ItT l it 0)) (fun v H' => v = .int (zs.length : Int) ∧ H' = upd (upd H q (.lst [])) it (ItT l it 0)) E0) ∧ Q (.ref q) (upd H q (.lst zs))
theorem call_listIt {ki kl : Nat} {fdI fdL : FuncData} {psI psL : List Str} {spN : Nat → Sp} {spL : Sp} (calm : X.calm = true) (hs : PySem.W.findIn X.K (.ref C) "__iter__" = some (some (.ref gi))) (hf : PySem.W.isFn X.K (.ref gi) = true)
    (FI : ∀ base, FnOk X.prog X.w X.K X.mg base CX0 ki gi fdI psI (spN base.objs.size)) (bI : Binds X.K fdI psI []) (hm : Meth X.K C "__len__" gl) (FL : FnOk X.prog X.w X.K X.mg X.base CX0 kl gl fdL psL spL) (bL : Binds X.K fdL psL [])
    (rI : Room (ki + 2) X.A) (rL : Room (kl + 3) X.A) : CallR X (.type "list") (rLstIt X.K C X.s_0.heap.objs.size spN spL) := by
  intro pins s σ H xs us Q I rv h
  obtain ⟨a, dx, fs, l, zs, rfl, ha, hl, hz, hq⟩ := h
  obtain ⟨u, rfl, ru⟩ := rv.one
  cases ru
  refine callType_codes (Q₁ := fun obj s₁ => obj = .ref s.heap.objs.size ∧ s₁ = { s with heap := s.heap.push { cls := .type "list", data := .seq #[] } }) PySem.F.called_list (PySem.F.typeCall_list_1 _) PySem.F.entry_list_init
    (code_list_new _ ⟨rfl, rfl⟩) fun obj s₁ h₁ => ?_
  obtain ⟨rfl, rfl⟩ := h₁
  have hS : (s.heap.push { cls := .type "list", data := .seq #[] }).get? s.heap.objs.size = some { cls := .type "list", data := .seq #[] } := Heap.get?_push_size _ rfl
  refine ⟨⟨_, hS, rfl⟩, PySem.F.args_list_init_2 _ _, ?_⟩
  have fr : H s.heap.objs.size = none := I.hok.fresh (Nat.le_refl _)
  obtain ⟨qI, qL, qQ⟩ := hq _ fr
  have I1 : Inv X pins σ (upd H s.heap.objs.size (.lst [])) { s with heap := s.heap.push { cls := .type "list", data := .seq #[] } } := I.lnew (its := []) (t' := s.toks) .nil (Nat.zero_le _)
  show wpAny _ _ (do let old ← Builtin.List.listItems (.ref s.heap.objs.size); Builtin.List.listUpdate (.ref s.heap.objs.size) (fun _ => #[]); letGo old.toList.reverse; Builtin.List.listExtendWith (.ref s.heap.objs.size) (.ref a) .none) _ _ _
  refine wpAny_bind ?_
  unfold Builtin.List.listItems
  refine wpAny_bind (wpAny_seqItems hS rfl (wpAny_pure ?_))
  show wpAny _ _ (updateSeq s.heap.objs.size (fun _ => #[]) >>= fun _ => letGo (#[] : Array Value).toList.reverse >>= fun _ => Builtin.List.listExtendWith (.ref s.heap.objs.size) (.ref a) .none) _ _ _
  refine wpAny_bind (wpAny_updateSeq hS rfl ?_)
  have I2 := I1.lset (f := fun _ => #[]) (its := []) (its' := []) (ys := []) (t' := s.toks) upd_same hS rfl .nil (Nat.zero_le _)
  rw [upd_upd] at I2
  refine wpAny_bind (wpAny_letGo ?_)
  have ha2 : upd H s.heap.objs.size (.lst []) a = some (.ins C dx fs) := by rw [upd_ne (ne_of_none ha fr)]; exact ha
  generalize hqd : s.heap.objs.size = q at *
  have ne : q ≠ a := fun z => by rw [z, ha] at fr; cases fr
  obtain ⟨mA, J, _⟩ := ins_get I2.hok ha2
  obtain ⟨od, J, _⟩ := J.look
  obtain ⟨m0, hF⟩ := I2.fr
  unfold Builtin.List.listExtendWith
  refine wpAny_bind (J.type.here ?_)
  have h1 : Builtin.List.listSameRef (.ref q) (.ref a) = false := by simp [Builtin.List.listSameRef, ne]
  have h2 : (Value.ref C == Value.type "list") = false := rfl
  have h3 : (Value.ref C == Value.type "tuple") = false := rfl
  simp only [h1, h2, h3, Bool.or_false, Bool.false_eq_true, if_false]
  refine wpAny_bind (PySem.W.owit_iter hF I2.ok.mod.kin J hs hf ?_)
  refine wpAny_mono (run_pad (us := [.ref a]) (vs := [.ref a]) FI rI.in1.in1 rfl bI I2 I2.ok.bsz I2.sz (.cons rfl .nil) qI) (fun w s2 z => ?_) fun _ _ z => z
  obtain ⟨z', H2, I3, rz, it, rfl, hn, hi, rfl⟩ := z
  cases (show w = Value.ref it from rz)
  have st : s2.heap.IsTupleIter it l 0 := itT_get I3 upd_same
  unfold PySem.W.OwitIt
  refine wpAny_specialOf (name := "__next__") st.typeIs PySem.F.slot_tuple_iterator_next.lookup ?_
  have nq : it ≠ q := fun z => by rw [z, upd_same] at hn; cases hn
  have hi0 : H it = none := by rw [upd_ne nq] at hn; exact hn
  have na : it ≠ a := fun z => by rw [z, ha2] at hn; cases hn
  have ha3 : upd (upd H q (.lst [])) it (ItT l it 0) a = some (.ins C dx fs) := by rw [upd_ne (Ne.symm na)]; exact ha2
  refine wpAny_bind (wpAny_holding (hint_own hm FL rL.in1.in1 rfl bL I3 ha3 hz (qL it hn) fun room s3 I6 => ?_))
  have st3 : s3.heap.IsTupleIter it l 0 := itT_get I6 upd_same
  have fp := ItX.inv_fp I6 upd_same hi
  have I4 := ItX.inv_drop I6 (show upd (upd H q (.lst [])) it (ItT l it 0) it = some (.ext fun h => h.IsTupleIter it l 0) from upd_same)
  rw [ItX.dropH_upd hn] at I4 fp
  obtain ⟨f0, f1, f2, f3, f4, f5⟩ := fp
  obtain ⟨z, its, k, r3, hl3, e3⟩ := I4.lstM upd_same
  cases r3
  have go := fun (s4 : Shared) (I7 : Inv X pins σ (upd H q (.lst [])) s4) (st4 : s4.heap.IsTupleIter it l 0) => lst_loop (A1 := X.A.in1) (Rs := wants (fun r s₂ => r = .none ∧ EP X pins σ Q (.ref q) s₂) X.xe) (show X.A.in1.handled = none from I7.ok.hd calm) fr hi0 nq f1 f3 f4 f5 hl hz (fun s5 I8 => ⟨rfl, .ref q, _, I8, rfl, qQ⟩) zs.length 0 s4 rfl (Nat.zero_le _) I7 st4
  refine wpAny_ite_split (fun _ => ?_) (fun _ => wpAny_pure ⟨plainId_quiet PySem.F.plain_extend_loop _, go s3 I4 st3⟩)
  refine wpAny_bind (wpAny_rule ?_)
  refine wpAny_bind ?_
  show wpAny _ _ (updateSeq q (·.push .none) >>= fun _ => updateSeq q (·.pop)) _ _ _
  refine wpAny_bind (wpAny_updateSeq e3 rfl ?_)
  have I7 := I4.lset (f := (·.push Value.none)) (its' := [Value.none]) (ys := [.non]) (t' := s3.toks) upd_same e3 (by simp) (.cons rfl .nil) (by rw [List.length_singleton, sizeLine_eq]; decide)
  obtain ⟨z4, its4, k4, r4, hl4, e4⟩ := I7.lstM upd_same
  obtain ⟨u4, rfl, ru4⟩ := r4.one
  refine wpAny_updateSeq e4 rfl ?_ (by show 1 ≤ sizeLine; rw [sizeLine_eq]; decide) (by show 0 ≤ sizeLine + 1; exact Nat.zero_le _)
  have I8 := I7.lset (f := (·.pop)) (its := [u4]) (its' := []) (ys := []) (t' := s3.toks) upd_same e4 (by rfl) .nil (Nat.zero_le _)
  rw [upd_upd, upd_upd] at I8
  refine wpAny_pure ⟨plainId_quiet PySem.F.plain_extend_loop _, go _ I8 ?_⟩
  exact st3.at fun o eo => by
    show ((s3.heap.update q _).update q _).get? it = some o
    rw [Heap.get?_update_other _ _ (Ne.symm nq), Heap.get?_update_other _ _ (Ne.symm nq)]
    exact eo
end
end Own

namespace Own
open PySem PySem.Spec PyProof.Rows L2
section
variable {P : Program} {w : World} {K : PySem.W.Frag} {mg : Str → Option Value} {base : Heap} {C : Addr}
def spIterT (C : Addr) (n : Nat) : Sp := fun vs H Q _ => ∃ (p dx c : Addr) (m : Int) (xs : List V), vs = [.ref p] ∧ H p = some (.ins C dx (flds m c)) ∧ H c = some (.tup xs) ∧ ∀ it, H it = none → n ≤ it → Q (.ref it) (upd H it (ItT c it 0))
theorem ok_iter {f : Addr} {fd : FuncData} (F : Fun K "__iter__" "Lot.__iter__" s_Lot_iter f fd) (T_it : mg "iter" = none) (L : LotC K mg C) : FnOk P w K mg base CX0 1 f fd ["self"] (spIterT C base.objs.size) := by
  refine F.ok sc_Lot_iter (fun vs H Q E h => ?_) (fun cdv A outer s H vs Q E hr h => ?_)
  · obtain ⟨_, _, _, _, _, rfl, _⟩ := h
    rfl
  · obtain ⟨p, dx, c, m, xs, rfl, e, ec, q⟩ := h
    refine ⟨_, pss_one (ps_ret (pe_callB call_iterT (by rfl) T_it (by decide +kernel) (pa_cons (pe_fld (pv 0) rfl) pa_nil))), ?_⟩
    exact ⟨_, rfl, p, C, dx, _, _, rfl, e, L.cl, L.nC, flds_cords _ _, c, xs, rfl, .inl (.inl ec), fun it hn hi => q it hn hi⟩
end
section
variable {K : PySem.W.Frag} {C : Addr}
/-- list(o) of a lot -/
theorem lst_of {n : Nat} {H : Hp} {Q : VK} {p dx c : Addr} {m : Int} {xs : List V} {cs : List Tr} (e : H p = some (.ins C dx (flds m c))) (ec : H c = some (.tup xs)) (tc : TrV H xs cs) (hl : cs.length ≤ 1000) (q : ∀ r, H r = none → Q (.ref r) (upd H r (.lst xs))) :
    rLstIt K C n (spIterT C) (spLen C) [.ref p] H Q := by
  refine ⟨p, dx, _, c, xs, rfl, e, .inl (.inl ec), by rw [tc.1, sizeLine_eq]; omega, fun r hr => ?_⟩
  have s1 := same_upd (o := .lst []) hr
  refine ⟨⟨p, dx, c, m, xs, rfl, s1 _ _ e, s1 _ _ ec, fun it hn hi => ⟨it, rfl, hn, hi, rfl⟩⟩, fun it hn => ?_, q r hr⟩
  have s2 := same_upd (o := ItT c it 0) hn
  refine ⟨p, m, cs, rfl, ⟨dx, c, s2 _ _ (s1 _ _ e), ⟨xs, s2 _ _ (s1 _ _ ec), (tc.same s1).same s2⟩⟩, ?_⟩
  rw [tc.1]
  exact ⟨rfl, rfl⟩
end
end Own

namespace Own
open PySem PySem.Spec PyProof.Rows L2
section
variable {X : Cx} {CX : CXT} {C f : Addr} {k : Nat} {fd : FuncData} {ps ks : List Str} {sp : Sp} {E : XK} {g : List Value → List Value → List Value} {gV : List V → List V → List V} {o : Expr} {kws : List Keyword} {m : Str} {apos pos : Pos} {ta : TE} {tk : TA}
/-- o.m(k = v, ..) -/
def tMethK (C : Addr) (m : Str) (sp : Sp) (gV : List V → List V → List V) (E : XK) (ta : TE) (tk : TA) : TE := fun σ H Q => ta σ H fun x H1 => ∃ a dx fs, x = .ref a ∧ H1 a = some (.ins C dx fs) ∧ fs.lookup m = none ∧ tk σ H1 fun zs H2 => sp (gV [x] zs) H2 Q E
theorem pe_methK {pl : Sem Bool} (he : PE X o ta) (c : Cls X.K C) (hm : Meth X.K C m f) (F : FnOk X.prog X.w X.K X.mg X.base CX k f fd ps sp) (room : Room k X.A) (hb : KBinds X.K fd ps ks g gV) (hx : Passes CX X E) (hkw : PK X kws tk)
    (hall : (backToKw pos (keywordEach kws X.env)).all (·.1.isSome) = true := by rfl) (hks : (backToKw pos (keywordEach kws X.env)).filterMap (·.1) = ks := by rfl) (al : ((backTo pos (starEach [] X.env)).any (·.1) || (backToKw pos (keywordEach kws X.env)).any (·.1.isNone)) = false := by rfl)
    (as : eval (.Call (.Attribute o m apos) [] kws pos) X.env = (do let ov ← eval o X.env; standAt apos.atName; let (f, first) ← holding [ov] (getMethod ov m pl); callWith pos f first (backTo pos (starEach [] X.env)) (backToKw pos (keywordEach kws X.env))) := by rfl) :
    PE X (.Call (.Attribute o m apos) [] kws pos) (tMethK C m sp gV E ta tk) := by
  constructor
  intro pins s σ H Q inv ask
  refine PySem.W.methodCall_KW (pl := pl) (thn (he.run pins s σ H _ inv ask) ?_) as
  rintro u s1 ⟨x, H1, inv1, rx, a, dx, fs, rfl, ea, no, q⟩
  cases (show u = Value.ref a from rx)
  apply getmeth_ok inv1 ea c hm no
  refine PySem.W.callWith_KW0 (first := [.ref a]) (h₀ := X.base) inv.ok.mod.kin hm.kp hall (thn (hkw.run pos pins s1 σ H1 _ inv1 q) ?_) al
  rintro ws s2 ⟨zs, H2, inv2, rz, q2⟩
  rw [hks]
  exact ⟨inv2.kIn, run_fnk (us := [.ref a]) (vs := [.ref a]) F room hb hx inv2 (.cons rfl .nil) rz q2⟩
end
end Own

namespace Own
open PySem PySem.Spec PyProof.Rows L2
def g1 {α : Type} (us ws : List α) : List α := match us, ws with
  | [x], [y] => [x, y]
  | _, _ => []
def g2 {α : Type} (us ws : List α) : List α := match us, ws with
  | [x], [y, z] => [x, z, y]
  | _, _ => []
theorem g1_rel {vs zs : List V} {us ws : List Value} (r : Vals vs us) (rz : Vals zs ws) : Vals (g1 vs zs) (g1 us ws) := by
  match vs, us, zs, ws, r, rz with
  | [], _, _, _, .nil, _ => exact .nil
  | [x], _, [], _, .cons a .nil, .nil => exact .nil
  | [x], _, [y], _, .cons a .nil, .cons b .nil => exact .cons a (.cons b .nil)
  | [x], _, y :: z :: r, _, .cons a .nil, .cons b (.cons c d) => exact .nil
  | x :: y :: r, _, _, _, .cons a (.cons b c), _ => exact .nil
theorem g2_rel {vs zs : List V} {us ws : List Value} (r : Vals vs us) (rz : Vals zs ws) : Vals (g2 vs zs) (g2 us ws) := by
  match vs, us, zs, ws, r, rz with
  | [], _, _, _, .nil, _ => exact .nil
  | [x], _, [], _, .cons a .nil, .nil => exact .nil
  | [x], _, [y], _, .cons a .nil, .cons b .nil => exact .nil
  | [x], _, [y, z], _, .cons a .nil, .cons b (.cons c .nil) => exact .cons a (.cons c (.cons b .nil))
  | [x], _, y :: z :: t :: r, _, .cons a .nil, .cons b (.cons c (.cons d e)) => exact .nil
  | x :: y :: r, _, _, _, .cons a (.cons b c), _ => exact .nil
theorem kb_ends {K : PySem.W.Frag} {f : Addr} {fd : FuncData} (F : Fun K "ends" "Lot.ends" s_Lot_ends f fd) : KBinds K fd ["self", "pin"] ["pin"] g1 g1 := by
  obtain ⟨oc, od, kV, doc, pm, an, cdv, ct, osl, rfl, lk, hcd⟩ := F.ex
  refine ⟨fun s us ws _ hl => ?_, g1_rel⟩
  match us, ws, hl with
  | [x], [y], _ => exact BindsTo.of_eq rfl
  | [], _, hl => simp [g1, g2] at hl
  | [x], [], hl => simp [g1, g2] at hl
  | [x], y :: z :: r, hl => simp [g1, g2] at hl
  | x :: y :: r, _, hl => simp [g1, g2] at hl
theorem kb_btw {K : PySem.W.Frag} {f : Addr} {fd : FuncData} (F : Fun K "between" "Lot.between" s_Lot_between f fd) : KBinds K fd ["self", "one", "other"] ["other", "one"] g2 g2 := by
  obtain ⟨oc, od, kV, doc, pm, an, cdv, ct, osl, rfl, lk, hcd⟩ := F.ex
  refine ⟨fun s us ws _ hl => ?_, g2_rel⟩
  match us, ws, hl with
  | [x], [y, z], _ => exact BindsTo.of_eq (by kernel_rfl)
  | [], _, hl => simp [g1, g2] at hl
  | [x], [], hl => simp [g1, g2] at hl
  | [x], [y], hl => simp [g1, g2] at hl
  | [x], y :: z :: t :: r, hl => simp [g1, g2] at hl
  | x :: y :: r, _, hl => simp [g1, g2] at hl
end Own

namespace Own
open PySem PySem.Spec PyProof.Rows L2
theorem EqV.tripL {H : Hp} {a b : Addr} {xs ys : List V} {l : List Tr} (ha : H a = some (.lst xs)) (hb : H b = some (.lst ys)) (ta : TrV H xs l) (tb : TrV H ys l) (hl : l.length ≤ 1000) : EqV 2 H (.ref a) (.ref b) := by
  refine .inr ⟨a, b, xs, ys, rfl, rfl, .inr ⟨ha, hb⟩, by rw [ta.1, tb.1], by rw [tb.1]; exact hl, fun i x y hx hy => ?_⟩
  obtain ⟨p, t, rfl, h1, h2⟩ := ta.at_ hx
  obtain ⟨q, u, rfl, h3, h4⟩ := tb.at_ hy
  rw [h1] at h3
  obtain rfl : t = u := Option.some.inj h3
  exact EqV.tr h2 h4
section
variable {P : Program} {w : World} {K : PySem.W.Frag} {mg : Str → Option Value} {base : Heap} {C D : Addr}
def spCounts (C : Addr) : Sp := fun vs H Q _ => ∃ (p : Addr) (n : Int) (c : Addr) (cs : List Tr), vs = [.ref p, .int n, .ref c] ∧ LotAt C H p n cs ∧ Trip H c cs ∧ cs.length ≤ 1000 ∧ Good n cs ∧ 0 ≤ n ∧ n ≤ 1000 ∧ ∀ H', Same H H' → Q (.bl true) H'
theorem ok_counts {f : Addr} {fd : FuncData} (F : Fun K "_law_counts" "_law_counts" s__law_counts f fd) (T : Bi mg) (L : LotC K mg C) {f_s : Addr} {d_s : FuncData} (D_s : Df K mg "_law_same" s__law_same ["_law_value", "_law_due"] f_s d_s) (G_s : FnOk P w K mg base CX0 4 f_s d_s ["_law_value", "_law_due"] (spSame 2)) {f_le : Addr} {d_le : FuncData} (D_le : Df K mg "_law_ends" s__law_ends ["_law_bunch", "_law_spot"] f_le d_le) (G_le : FnOk P w K mg base CX0 1 f_le d_le ["_law_bunch", "_law_spot"] (spLEnds K)) {f_e : Addr} {d_e : FuncData} (M_e : Mt K C "ends" "Lot.ends" s_Lot_ends ["self", "pin"] f_e d_e) (G_e : FnOk P w K mg base (L2N.CX P w) 6 f_e d_e ["self", "pin"] (spEndsX K C D)) {f_b : Addr} {d_b : FuncData} (M_b : Mt K C "between" "Lot.between" s_Lot_between ["self", "one", "other"] f_b d_b) (G_b : FnOk P w K mg base (L2N.CX P w) 6 f_b d_b ["self", "one", "other"] (spBtw K C D)) {f_t : Addr} {d_t : FuncData} (M_t : Mt K C "total" "Lot.total" s_Lot_total ["self"] f_t d_t) (G_t : FnOk P w K mg base CX0 1 f_t d_t ["self"] (spTotal C)) {f_l : Addr} {d_l : FuncData} (M_l : Mt K C "__len__" "Lot.__len__" s_Lot_len ["self"] f_l d_l) (G_l : FnOk P w K mg base CX0 1 f_l d_l ["self"] (spLen C)) {f_it : Addr} {d_it : FuncData} (i_it : PySem.W.findIn K (.ref C) "__iter__" = some (some (.ref f_it))) (n_it : PySem.W.isFn K (.ref f_it) = true) (b_it : Binds K d_it ["self"] []) (G_it : ∀ base, FnOk P w K mg base CX0 1 f_it d_it ["self"] (spIterT C base.objs.size)) : FnOk P w K mg base CX0 8 f fd ["_law_lot", "_law_pins_here", "_law_bunch"] (spCounts C) := by
  refine F.ok sc__law_counts (fun vs H Q E h => ?_) (fun cdv A outer s H vs Q E hr h => ?_)
  · obtain ⟨p, n, c, cs, rfl, _⟩ := h
    rfl
  · obtain ⟨p, n, c, cs, rfl, hL, hc, hl, hg, n0, n1, q⟩ := h
    refine ⟨_, (pss_cons (ps_for PassesOwn.never rfl (pi_range1 (by rfl) T.b_range (pa_cons (pv 1) pa_nil)) (pg_name (i := 3) sc__law_counts.nd rfl (.inl rfl))
        (pss_one (ps_if (pt_not (pt_val (pe_call G_s (hr.mono (by decide)) (by rfl) D_s.g D_s.F.kp D_s.b .nil pass0 (pa_cons (pe_meth (pv 0) L.cl M_e.m G_e (hr.mono (by decide)) M_e.b .nil passN (pa_cons (pv 3) pa_nil)) (pa_cons (pe_call G_le (hr.mono (by decide)) (by rfl) D_le.g D_le.F.kp D_le.b .nil pass0 (pa_cons (pv 2) (pa_cons (pv 3) pa_nil))) pa_nil))))) (pss_one (ps_ret pe_bl)) pss_nil)))
        (pss_cons (ps_for PassesOwn.never rfl (pi_tup (pv 2)) (pg_name (i := 4) sc__law_counts.nd rfl (.inl rfl))
        (pss_one (ps_if (pt_not (pt_val (pe_call G_s (hr.mono (by decide)) (by rfl) D_s.g D_s.F.kp D_s.b .nil pass0 (pa_cons (pe_meth (pv 0) L.cl M_b.m G_b (hr.mono (by decide)) M_b.b .nil passN (pa_cons (pe_ix (r := rIxT K) ix_tup (pv 4) pe_int (fun _ _ => rfl)) (pa_cons (pe_ix (r := rIxT K) ix_tup (pv 4) pe_int (fun _ _ => rfl)) pa_nil))) (pa_cons (pe_ix (r := rIxT K) ix_tup (pv 4) pe_int (fun _ _ => rfl)) pa_nil))))) (pss_one (ps_ret pe_bl)) pss_nil)))
        (pss_cons (ps_if (PW.pt (pw_or (pt_not (pt_val (pe_call G_s (hr.mono (by decide)) (by rfl) D_s.g D_s.F.kp D_s.b .nil pass0 (pa_cons (pe_callTy (call_listIt rfl i_it n_it G_it b_it M_l.m G_l M_l.b (hr.mono (by decide)) (hr.mono (by decide))) (by rfl) T.b_list (by decide +kernel) (pa_cons (pv 0) pa_nil)) (pa_cons (pe_callTy call_list_of (by rfl) T.b_list (by decide +kernel) (pa_cons (pv 2) pa_nil)) pa_nil))))) (pw_or1 (pt_cmpR op_ne (pe_callB (cr_lenOwn M_l.m G_l (hr.mono (by decide)) M_l.b pass0) (by rfl) T.b_len PySem.boot_len (pa_cons (pv 0) pa_nil)) (pe_callB call_len_seq (by rfl) T.b_len PySem.boot_len (pa_cons (pv 2) pa_nil)) (nomark _))))) (pss_one (ps_ret pe_bl)) pss_nil)
        (pss_one (ps_ret (pe_call G_s (hr.mono (by decide)) (by rfl) D_s.g D_s.F.kp D_s.b .nil pass0 (pa_cons (pe_meth0 (pv 0) L.cl M_t.m G_t (hr.mono (by decide)) M_t.b .nil pass0) (pa_cons (pe_callB (cr_sum rfl) (by rfl) T.b_sum (by decide +kernel) (pa_cons (pe_lc (own := [("_law_entry", 4)]) (g := gName 4) (tt := tYes) rfl sc__law_counts.nd (pi_tup (pv 2)) (blkOk_by (own := [("_law_entry", 4)]) (N := ["_law_lot", "_law_pins_here", "_law_bunch", "_law_spot", "_law_entry"]) (sc := defScope s__law_counts) (by decide +kernel)) (fun _ _ _ _ _ => (pg_name (i := 4) sc__law_counts.nd rfl (.inl rfl))) (fun _ _ _ _ _ => pts_nil) (fun _ _ _ _ _ => (pe_ix (r := rIxT K) ix_tup (pv 4) pe_int (fun _ _ => rfl)))) pa_nil)) pa_nil)))))))), ?_⟩
    obtain ⟨vs, ec, tc⟩ := id hc
    obtain ⟨dx, c2, eL, tL⟩ := id hL
    refine ⟨_, rfl, n, rfl, by omega, by omega, for_range (lo := 0) (n := n.toNat) (fun i σ H' => (∃ y3 y4, σ = [some (.ref p), some (.int n), some (.ref c), y3, y4]) ∧ Same H H') ⟨⟨_, _, rfl⟩, Same.refl H⟩ (fun i σ H' hi pv => ?_) (fun σ H' pv => ?_)⟩
    · obtain ⟨⟨y3, y4, rfl⟩, sm⟩ := pv
      refine ⟨_, rfl, p, dx, _, rfl, sm _ _ eL, flds_no _ _ (by decide +kernel) (by decide +kernel), _, rfl, p, _, n, cs, rfl, hL.same sm, n0, n1, hg.vld, .inl ⟨_, rfl, by omega, by omega, fun H1 s1 => ?_⟩⟩
      have sB := sm.trans s1
      refine ⟨_, rfl, _, rfl, c, vs, cs, _, rfl, .inr (.inl (.inl (sB _ _ ec))), tc.same sB, ?_⟩
      exact ⟨_, _, rfl, EqV.int _, true, rfl, ⟨_, _, rfl⟩, sB⟩
    · obtain ⟨⟨y3, y4, rfl⟩, sm⟩ := pv
      refine ⟨_, rfl, c, rfl, ⟨vs, .inl (.inl (sm _ _ ec))⟩, for_tup (xs := vs) (fun i σ H' => (∃ y3 y4, σ = [some (.ref p), some (.int n), some (.ref c), y3, y4]) ∧ Same H H') ⟨⟨_, _, rfl⟩, sm⟩ (fun i σ H' _ p => .inl (.inl (p.2 _ _ ec))) (fun i x σ H' hxi pv => ?_) (fun σ H' pv => ?_)⟩
      · obtain ⟨⟨y3, y4, rfl⟩, sm⟩ := pv
        obtain ⟨u, t, rfl, hti, hu⟩ := (tc.same sm).at_ hxi
        have tm := List.mem_of_getElem? hti
        obtain ⟨o1, o2, o3, o4⟩ := hg.ord t tm
        have qu : SqT K H' u (tv t) := .inl (.inl hu)
        have a0 : atI (tv t) 0 = some (.int t.1) := atI_nat (j := 0) rfl
        have a1 : atI (tv t) 1 = some (.int t.2.1) := atI_nat (j := 1) rfl
        have a2 : atI (tv t) 2 = some (.int t.2.2) := atI_nat (j := 2) rfl
        refine ⟨_, rfl, p, dx, _, rfl, sm _ _ eL, flds_no _ _ (by decide +kernel) (by decide +kernel), _, rfl, u, _, 1, _, rfl, rfl, qu, a1, _, rfl, u, _, 0, _, rfl, rfl, qu, a0, p, _, _, n, cs, rfl, hL.same sm, n0, n1, hg, hl, .inl ⟨_, _, rfl, rfl, by omega, by omega, by omega, by omega, fun H1 s1 => ?_⟩⟩
        refine ⟨_, rfl, u, _, 2, _, rfl, rfl, .inl (.inl (s1 _ _ hu)), a2, _, _, rfl, ?_, true, rfl, ⟨_, _, rfl⟩, sm.trans s1⟩
        have e : cnt cs (lo t.2.1 t.1, hi t.2.1 t.1) = t.2.2 := by
          rw [← hg.cnt tm]
          have e1 : lo t.2.1 t.1 = t.1 := by unfold lo; split <;> omega
          have e2 : hi t.2.1 t.1 = t.2.1 := by unfold hi; split <;> omega
          rw [e1, e2]
          rfl
        rw [e]
        exact EqV.int _
      · obtain ⟨⟨y3, y4, rfl⟩, sm⟩ := pv
        obtain ⟨xs, exs, txs⟩ := id tL
        refine ⟨_, rfl, ?_⟩
        dsimp only [tNil]
        refine lst_of (n := s.heap.objs.size) (K := K) (C := C) (p := p) (m := n) (xs := xs) (cs := cs) (sm _ _ eL) (sm _ _ exs) (txs.same sm) hl fun r hr => ?_
        have s1 := same_upd (o := .lst xs) hr
        refine ⟨_, rfl, c, vs, rfl, .inr (.inl (.inl (s1 _ _ (sm _ _ ec)))), fun r2 hr2 => ?_⟩
        have s2 := same_upd (o := .lst vs) hr2
        have sB := (sm.trans s1).trans s2
        refine ⟨_, _, rfl, EqV.tripL (s2 _ _ upd_same) upd_same (txs.same sB) (tc.same sB) hl, true, rfl, ?_⟩
        refine ⟨_, rfl, p, dx, _, rfl, sB _ _ eL, p, n, cs, rfl, hL.same sB, cs.length, rfl, by rw [sizeLine_eq]; omega, ?_⟩
        refine ⟨_, rfl, c, vs, rfl, .inr (.inl (.inl (sB _ _ ec))), rfl, _, rfl, ?_⟩
        rw [tc.1, decide_eq_true rfl]
        refine ⟨_, rfl, p, dx, _, rfl, sB _ _ eL, flds_no _ _ (by decide +kernel) (by decide +kernel), p, n, cs, rfl, hL.same sB, hl, fun HB s3 => ?_⟩
        have s4 := sB.trans s3
        have ecB := s4 _ _ ec
        have tcB := tc.same s4
        refine ⟨_, rfl, c, rfl, ⟨vs, .inl (.inl ecB)⟩, fun O hO => ?_⟩
        refine lc_tup (K := K) (a := c) (xs := vs) (fun i H2 => H2 = upd HB O (.lst (((cs.map fun t => t.2.2).take i).map V.int))) rfl (fun i H2 _ p => by subst p; exact .inl (.inl (same_upd hO _ _ ecB))) (fun i x H2 hxi p => ?_) (fun H2 p => ?_)
        · subst p
          obtain ⟨u, t, rfl, hti, hu⟩ := tcB.at_ hxi
          refine ⟨rfl, ?_⟩
          refine ⟨_, rfl, u, _, 2, _, rfl, rfl, .inl (.inl (same_upd hO _ _ hu)), atI_nat (j := 2) rfl, _, upd_same, ?_, ?_⟩
          · rw [List.length_map, List.length_take, List.length_map]
            exact Nat.lt_of_le_of_lt (Nat.min_le_right _ _) (small1000 hl)
          · rw [upd_upd, List.take_add_one, List.getElem?_map, hti, List.map_append]
            rfl
        · subst p
          rw [show vs.length = (cs.map fun t => t.2.2).length by rw [List.length_map]; exact tc.1, List.take_length]
          refine ⟨O, _, rfl, .inl (.inl upd_same), ?_⟩
          exact ⟨_, _, rfl, EqV.int _, q _ (s4.trans (same_upd hO))⟩
end
end Own

namespace Own
open PySem PySem.Spec PyProof.Rows L2
theorem cntU_all {n : Int} {cs : List Tr} (g : Good n cs) (x y : Int) : cntU cs x y = cnt cs (lo x y, hi x y) := by
  unfold cntU cnt
  refine bs_congr fun t ht => ?_
  have lt := (g.ord t ht).2.1
  rw [Bool.eq_iff_iff, decide_eq_true_iff, decide_eq_true_iff]
  unfold pr
  rw [Prod.mk.injEq]
  show (x = t.1 ∧ y = t.2.1 ∨ x = t.2.1 ∧ y = t.1) ↔ _
  rcases lo_hi x y with ⟨h, e1, e2⟩ | ⟨h, e1, e2⟩ <;> rw [e1, e2] <;> omega
theorem lo_comm (x y : Int) : lo x y = lo y x ∧ hi x y = hi y x := by
  rcases lo_hi x y with ⟨h, e1, e2⟩ | ⟨h, e1, e2⟩ <;> rcases lo_hi y x with ⟨h', f1, f2⟩ | ⟨h', f1, f2⟩ <;> rw [e1, e2, f1, f2] <;> omega
section
variable {P : Program} {w : World} {K : PySem.W.Frag} {mg : Str → Option Value} {base : Heap} {C D : Addr}
theorem ok_told {f : Addr} {fd : FuncData} (F : Fun K "_law_told" "_law_told" s__law_told f fd) (T : Bi mg) (L : LotC K mg C) {f_s : Addr} {d_s : FuncData} (D_s : Df K mg "_law_same" s__law_same ["_law_value", "_law_due"] f_s d_s) (G_s : FnOk P w K mg base CX0 4 f_s d_s ["_law_value", "_law_due"] (spSame 2)) {f_le : Addr} {d_le : FuncData} (D_le : Df K mg "_law_ends" s__law_ends ["_law_bunch", "_law_spot"] f_le d_le) (G_le : FnOk P w K mg base CX0 1 f_le d_le ["_law_bunch", "_law_spot"] (spLEnds K)) {f_lc : Addr} {d_lc : FuncData} (D_lc : Df K mg "_law_count" s__law_count ["_law_bunch", "_law_left", "_law_right"] f_lc d_lc) (G_lc : FnOk P w K mg base CX0 1 f_lc d_lc ["_law_bunch", "_law_left", "_law_right"] (spLCount K)) {f_e : Addr} {d_e : FuncData} (M_e : Mt K C "ends" "Lot.ends" s_Lot_ends ["self", "pin"] f_e d_e) (G_e : FnOk P w K mg base (L2N.CX P w) 6 f_e d_e ["self", "pin"] (spEndsX K C D)) {f_b : Addr} {d_b : FuncData} (M_b : Mt K C "between" "Lot.between" s_Lot_between ["self", "one", "other"] f_b d_b) (G_b : FnOk P w K mg base (L2N.CX P w) 6 f_b d_b ["self", "one", "other"] (spBtw K C D)) {f_t : Addr} {d_t : FuncData} (M_t : Mt K C "total" "Lot.total" s_Lot_total ["self"] f_t d_t) (G_t : FnOk P w K mg base CX0 1 f_t d_t ["self"] (spTotal C)) {f_l : Addr} {d_l : FuncData} (M_l : Mt K C "__len__" "Lot.__len__" s_Lot_len ["self"] f_l d_l) (G_l : FnOk P w K mg base CX0 1 f_l d_l ["self"] (spLen C)) {f_it : Addr} {d_it : FuncData} (i_it : PySem.W.findIn K (.ref C) "__iter__" = some (some (.ref f_it))) (n_it : PySem.W.isFn K (.ref f_it) = true) (b_it : Binds K d_it ["self"] []) (G_it : ∀ base, FnOk P w K mg base CX0 1 f_it d_it ["self"] (spIterT C base.objs.size)) : FnOk P w K mg base CX0 8 f fd ["_law_lot", "_law_pins_here", "_law_bunch"] (spCounts C) := by
  refine F.ok sc__law_told (fun vs H Q E h => ?_) (fun cdv A outer s H vs Q E hr h => ?_)
  · obtain ⟨p, n, c, cs, rfl, _⟩ := h
    rfl
  · obtain ⟨p, n, c, cs, rfl, hL, hc, hl, hg, n0, n1, q⟩ := h
    refine ⟨_, (pss_cons (ps_for PassesOwn.never rfl (pi_range1 (by rfl) T.b_range (pa_cons (pv 1) pa_nil)) (pg_name (i := 3) sc__law_told.nd rfl (.inl rfl))
        (pss_cons (ps_set (i := 4) sc__law_told.nd rfl (.inl rfl) (pe_call G_le (hr.mono (by decide)) (by rfl) D_le.g D_le.F.kp D_le.b .nil pass0 (pa_cons (pv 2) (pa_cons (pv 3) pa_nil))))
        (pss_cons (ps_if (PW.pt (pw_or (pt_not (pt_val (pe_call G_s (hr.mono (by decide)) (by rfl) D_s.g D_s.F.kp D_s.b .nil pass0 (pa_cons (pe_meth (pv 0) L.cl M_e.m G_e (hr.mono (by decide)) M_e.b .nil passN (pa_cons (pv 3) pa_nil)) (pa_cons (pv 4) pa_nil))))) (pw_or1 (pt_not (pt_val (pe_call G_s (hr.mono (by decide)) (by rfl) D_s.g D_s.F.kp D_s.b .nil pass0 (pa_cons (pe_methK (pv 0) L.cl M_e.m G_e (hr.mono (by decide)) (kb_ends M_e.F) passN (pk_cons (pv 3) pk_nil)) (pa_cons (pv 4) pa_nil)))))))) (pss_one (ps_ret pe_bl)) pss_nil)
        (pss_one (ps_for PassesOwn.never rfl (pi_range1 (by rfl) T.b_range (pa_cons (pv 1) pa_nil)) (pg_name (i := 5) sc__law_told.nd rfl (.inl rfl))
        (pss_cons (ps_set (i := 4) sc__law_told.nd rfl (.inl rfl) (pe_call G_lc (hr.mono (by decide)) (by rfl) D_lc.g D_lc.F.kp D_lc.b .nil pass0 (pa_cons (pv 2) (pa_cons (pv 3) (pa_cons (pv 5) pa_nil)))))
        (pss_one (ps_if (PW.pt (pw_or (pt_not (pt_val (pe_call G_s (hr.mono (by decide)) (by rfl) D_s.g D_s.F.kp D_s.b .nil pass0 (pa_cons (pe_meth (pv 0) L.cl M_b.m G_b (hr.mono (by decide)) M_b.b .nil passN (pa_cons (pv 3) (pa_cons (pv 5) pa_nil))) (pa_cons (pv 4) pa_nil))))) (pw_or1 (pt_not (pt_val (pe_call G_s (hr.mono (by decide)) (by rfl) D_s.g D_s.F.kp D_s.b .nil pass0 (pa_cons (pe_methK (pv 0) L.cl M_b.m G_b (hr.mono (by decide)) (kb_btw M_b.F) passN (pk_cons (pv 3) (pk_cons (pv 5) pk_nil))) (pa_cons (pv 4) pa_nil)))))))) (pss_one (ps_ret pe_bl)) pss_nil))))))))
        (pss_cons (ps_if (PW.pt (pw_or (pt_not (pt_val (pe_call G_s (hr.mono (by decide)) (by rfl) D_s.g D_s.F.kp D_s.b .nil pass0 (pa_cons (pe_meth0 (pv 0) L.cl M_t.m G_t (hr.mono (by decide)) M_t.b .nil pass0) (pa_cons (pe_callB (cr_sum rfl) (by rfl) T.b_sum (by decide +kernel) (pa_cons (pe_lc (own := [("_law_entry", 6)]) (g := gName 6) (tt := tYes) rfl sc__law_told.nd (pi_tup (pv 2)) (blkOk_by (own := [("_law_entry", 6)]) (N := ["_law_lot", "_law_pins_here", "_law_bunch", "_law_left", "_law_due", "_law_right", "_law_entry"]) (sc := defScope s__law_told) (by decide +kernel)) (fun _ _ _ _ _ => (pg_name (i := 6) sc__law_told.nd rfl (.inl rfl))) (fun _ _ _ _ _ => pts_nil) (fun _ _ _ _ _ => (pe_ix (r := rIxT K) ix_tup (pv 6) pe_int (fun _ _ => rfl)))) pa_nil)) pa_nil))))) (pw_or1 (pt_cmpR op_ne (pe_callB (cr_lenOwn M_l.m G_l (hr.mono (by decide)) M_l.b pass0) (by rfl) T.b_len PySem.boot_len (pa_cons (pv 0) pa_nil)) (pe_callB call_len_seq (by rfl) T.b_len PySem.boot_len (pa_cons (pv 2) pa_nil)) (nomark _))))) (pss_one (ps_ret pe_bl)) pss_nil)
        (pss_one (ps_ret (pe_and (pe_call G_s (hr.mono (by decide)) (by rfl) D_s.g D_s.F.kp D_s.b .nil pass0 (pa_cons (pe_callTy (call_listIt rfl i_it n_it G_it b_it M_l.m G_l M_l.b (hr.mono (by decide)) (hr.mono (by decide))) (by rfl) T.b_list (by decide +kernel) (pa_cons (pv 0) pa_nil)) (pa_cons (pe_callTy call_list_of (by rfl) T.b_list (by decide +kernel) (pa_cons (pv 2) pa_nil)) pa_nil))) (pe_one (pe_call G_s (hr.mono (by decide)) (by rfl) D_s.g D_s.F.kp D_s.b .nil pass0 (pa_cons (pe_lc (own := [("_law_entry", 6)]) (g := gName 6) (tt := tYes) rfl sc__law_told.nd (pi_own i_it n_it G_it (hr.mono (by decide)) b_it (pv 0)) (blkOk_by (own := [("_law_entry", 6)]) (N := ["_law_lot", "_law_pins_here", "_law_bunch", "_law_left", "_law_due", "_law_right", "_law_entry"]) (sc := defScope s__law_told) (by decide +kernel)) (fun _ _ _ _ _ => (pg_name (i := 6) sc__law_told.nd rfl (.inl rfl))) (fun _ _ _ _ _ => pts_nil) (fun _ _ _ _ _ => (pv 6))) (pa_cons (pe_callTy call_list_of (by rfl) T.b_list (by decide +kernel) (pa_cons (pv 2) pa_nil)) pa_nil))))))))), ?_⟩
    obtain ⟨vs, ec, tc⟩ := id hc
    obtain ⟨dx, c2, eL, tL⟩ := id hL
    refine ⟨_, rfl, n, rfl, by omega, by omega, for_range (lo := 0) (n := n.toNat) (fun i σ H' => (∃ y3 y4 y5 y6, σ = [some (.ref p), some (.int n), some (.ref c), y3, y4, y5, y6]) ∧ Same H H') ⟨⟨_, _, _, _, rfl⟩, Same.refl H⟩ (fun i σ H' hi pv => ?_) (fun σ H' pv => ?_)⟩
    · obtain ⟨⟨y3, y4, y5, y6, rfl⟩, sm⟩ := pv
      refine ⟨_, rfl, _, rfl, c, vs, cs, _, rfl, .inr (.inl (.inl (sm _ _ ec))), tc.same sm, ?_⟩
      refine ⟨_, rfl, p, dx, _, rfl, sm _ _ eL, flds_no _ _ (by decide +kernel) (by decide +kernel), _, rfl, p, _, n, cs, rfl, hL.same sm, n0, n1, hg.vld, .inl ⟨_, rfl, by omega, by omega, fun H1 s1 => ?_⟩⟩
      have sA := sm.trans s1
      refine ⟨_, rfl, _, _, rfl, EqV.int _, true, rfl, ?_⟩
      refine ⟨_, rfl, p, dx, _, rfl, sA _ _ eL, flds_no _ _ (by decide +kernel) (by decide +kernel), _, rfl, p, _, n, cs, rfl, hL.same sA, n0, n1, hg.vld, .inl ⟨_, rfl, by omega, by omega, fun H2 s2 => ?_⟩⟩
      have sB := sA.trans s2
      refine ⟨_, rfl, _, _, rfl, EqV.int _, true, rfl, ?_⟩
      refine ⟨_, rfl, n, rfl, by omega, by omega, for_range (lo := 0) (n := n.toNat) (fun j σ H' => (∃ y4 y5 y6, σ = [some (.ref p), some (.int n), some (.ref c), some (.int (0 + (i : Int))), y4, y5, y6]) ∧ Same H H') ⟨⟨_, _, _, rfl⟩, sB⟩ (fun j σ H' hj pv => ?_) (fun σ H' pv => ?_)⟩
      · obtain ⟨⟨y4, y5, y6, rfl⟩, sm⟩ := pv
        refine ⟨_, rfl, _, rfl, _, rfl, c, vs, cs, _, _, rfl, .inr (.inl (.inl (sm _ _ ec))), tc.same sm, ?_⟩
        refine ⟨_, rfl, p, dx, _, rfl, sm _ _ eL, flds_no _ _ (by decide +kernel) (by decide +kernel), _, rfl, _, rfl, p, _, _, n, cs, rfl, hL.same sm, n0, n1, hg, hl, .inl ⟨_, _, rfl, rfl, by omega, by omega, by omega, by omega, fun H1 s1 => ?_⟩⟩
        have sA := sm.trans s1
        rw [← cntU_all hg]
        refine ⟨_, rfl, _, _, rfl, EqV.int _, true, rfl, ?_⟩
        refine ⟨_, rfl, p, dx, _, rfl, sA _ _ eL, flds_no _ _ (by decide +kernel) (by decide +kernel), _, rfl, _, rfl, p, _, _, n, cs, rfl, hL.same sA, n0, n1, hg, hl, .inl ⟨_, _, rfl, rfl, by omega, by omega, by omega, by omega, fun H2 s2 => ?_⟩⟩
        rw [(lo_comm _ _).1, (lo_comm _ _).2, ← cntU_all hg]
        exact ⟨_, rfl, _, _, rfl, EqV.int _, true, rfl, ⟨_, _, _, rfl⟩, sA.trans s2⟩
      · obtain ⟨⟨y4, y5, y6, rfl⟩, sm⟩ := pv
        exact ⟨⟨_, _, _, _, rfl⟩, sm⟩
    · obtain ⟨⟨y3, y4, y5, y6, rfl⟩, sm⟩ := pv
      refine ⟨_, rfl, p, dx, _, rfl, sm _ _ eL, flds_no _ _ (by decide +kernel) (by decide +kernel), p, n, cs, rfl, hL.same sm, hl, fun HB s3 => ?_⟩
      have s4 := sm.trans s3
      have ecB := s4 _ _ ec
      have tcB := tc.same s4
      refine ⟨_, rfl, c, rfl, ⟨vs, .inl (.inl ecB)⟩, fun O hO => ?_⟩
      refine lc_tup (K := K) (a := c) (xs := vs) (fun i H2 => H2 = upd HB O (.lst (((cs.map fun t => t.2.2).take i).map V.int))) rfl (fun i H2 _ p => by subst p; exact .inl (.inl (same_upd hO _ _ ecB))) (fun i x H2 hxi p => ?_) (fun H2 p => ?_)
      · subst p
        obtain ⟨u, t, rfl, hti, hu⟩ := tcB.at_ hxi
        refine ⟨rfl, ?_⟩
        refine ⟨_, rfl, u, _, 2, _, rfl, rfl, .inl (.inl (same_upd hO _ _ hu)), atI_nat (j := 2) rfl, _, upd_same, ?_, ?_⟩
        · rw [List.length_map, List.length_take, List.length_map]
          exact Nat.lt_of_le_of_lt (Nat.min_le_right _ _) (small1000 hl)
        · rw [upd_upd, List.take_add_one, List.getElem?_map, hti, List.map_append]
          rfl
      · subst p
        rw [show vs.length = (cs.map fun t => t.2.2).length by rw [List.length_map]; exact tc.1, List.take_length]
        refine ⟨O, _, rfl, .inl (.inl upd_same), ?_⟩
        refine ⟨_, _, rfl, EqV.int _, true, rfl, ?_⟩
        have s5 := s4.trans (same_upd (o := .lst ((cs.map fun t => t.2.2).map V.int)) hO)
        refine ⟨_, rfl, p, dx, _, rfl, s5 _ _ eL, p, n, cs, rfl, hL.same s5, cs.length, rfl, by rw [sizeLine_eq]; omega, ?_⟩
        refine ⟨_, rfl, c, vs, rfl, .inr (.inl (.inl (s5 _ _ ec))), rfl, _, rfl, ?_⟩
        rw [tc.1, decide_eq_true rfl]
        obtain ⟨xs, exs, txs⟩ := id tL
        refine ⟨_, rfl, ?_⟩
        dsimp only [tNil]
        refine lst_of (n := s.heap.objs.size) (K := K) (C := C) (p := p) (m := n) (xs := xs) (cs := cs) (s5 _ _ eL) (s5 _ _ exs) (txs.same s5) hl fun r hr => ?_
        have s6 := same_upd (o := .lst xs) hr
        refine ⟨_, rfl, c, vs, rfl, .inr (.inl (.inl (s6 _ _ (s5 _ _ ec)))), fun r2 hr2 => ?_⟩
        have s7 := same_upd (o := .lst vs) hr2
        have sC := (s5.trans s6).trans s7
        refine ⟨_, _, rfl, EqV.tripL (s7 _ _ upd_same) upd_same (txs.same sC) (tc.same sC) hl, true, rfl, ?_⟩
        refine ⟨_, rfl, p, dx, _, c2, xs, rfl, sC _ _ eL, .inl (.inl (sC _ _ exs)), ⟨p, dx, c2, n, xs, rfl, sC _ _ eL, sC _ _ exs, fun it hn hi => ⟨it, rfl, hn, hi, rfl⟩⟩, fun M hM => ?_⟩
        have sM := fun (l : List V) => same_upd (o := .lst l) hM
        refine lc_tup (K := K) (a := c2) (xs := xs) (fun i H2 => H2 = upd (upd (upd (upd HB O (.lst ((cs.map fun t => t.2.2).map V.int))) r (.lst xs)) r2 (.lst vs)) M (.lst (xs.take i))) rfl (fun i H2 _ p => by subst p; exact .inl (.inl (sM _ _ _ (sC _ _ exs)))) (fun i x H2 hxi p => ?_) (fun H2 p => ?_)
        · subst p
          refine ⟨rfl, ?_⟩
          refine ⟨_, rfl, _, upd_same, ?_, ?_⟩
          · rw [List.length_take, txs.1]
            exact Nat.lt_of_le_of_lt (Nat.min_le_right _ _) (small1000 hl)
          · rw [upd_upd, List.take_add_one, hxi]
            rfl
        · subst p
          rw [List.take_length]
          have sD := sC.trans (sM xs)
          refine ⟨_, rfl, c, vs, rfl, .inr (.inl (.inl (sD _ _ ec))), fun r3 hr3 => ?_⟩
          have s8 := same_upd (o := .lst vs) hr3
          have sE := sD.trans s8
          exact ⟨_, _, rfl, EqV.tripL (s8 _ _ upd_same) upd_same (txs.same sE) (tc.same sE) hl, q _ sE⟩
end
end Own

namespace Own
open PySem PySem.Spec PyProof.Rows L2
def restE (rs ds : List Tr) : List Tr := rs.map fun e => (e.1, e.2.1, e.2.2 - cnt ds (pr e))
theorem good_uniq {n : Int} {r s : List Tr} (g : Good n r) (h : Good n s) (e : ∀ p, cnt r p = cnt s p) : r = s := by
  have kyr : ∀ l : List Tr, Good n l → l.map ky = l.map pr := fun l gl => List.map_congr_left fun t ht => ky_ord (gl.ord t ht).2.1
  have mem : ∀ p, p ∈ s.map pr ↔ p ∈ r.map ky := fun p => by rw [kyr r g, h.mem, g.mem, e p]
  refine norm_uniq g.self ⟨h.srt, mem, fun t ht => ?_⟩
  have m : pr t ∈ r.map pr := by rw [← kyr r g]; exact (mem _).mp (List.mem_map.mpr ⟨t, ht, rfl⟩)
  obtain ⟨u, hu, eu⟩ := List.mem_map.mp m
  have h1 := g.self.cnt u hu
  rw [← h.cnt ht, ← e, ← eu, g.cnt hu]
  exact h1
theorem tot_pos (f : Int × Int → Bool) : ∀ l : List Tr, (∀ t ∈ l, 0 ≤ t.2.2) → bk f (pos l) = bk f l
  | [], _ => rfl
  | t :: r, h => by
    have ih := tot_pos f r fun u hu => h u (List.mem_cons_of_mem _ hu)
    have h0 := h t List.mem_cons_self
    unfold pos at ih ⊢
    rw [List.filter_cons]
    by_cases h1 : 0 < t.2.2
    · rw [if_pos (decide_eq_true h1), bk, bk, ih]
    · have z : t.2.2 = 0 := by omega
      rw [if_neg (by rw [decide_eq_true_iff]; exact h1), bk, ih, z]
      simp
theorem gn_pos {l r : List Tr} (g : GN l r) (h : ∀ t ∈ l, 0 ≤ t.2.2) : IsNorm (pos l) r := ⟨g.srt, g.mem, fun e he => by
  rw [g.cnt e he]
  exact (tot_pos _ l h).symm⟩
theorem pos_rest (ds : List Tr) (v : Int × Int → Int) : ∀ l : List Tr, (∀ e ∈ l, e.2.2 - cnt ds (pr e) = v (pr e)) → pos (restE l ds) = keep (l.map pr) v
  | [], _ => rfl
  | t :: r, h => by
    have ih := pos_rest ds v r fun u hu => h u (List.mem_cons_of_mem _ hu)
    have h0 := h t List.mem_cons_self
    unfold pos restE keep at ih ⊢
    rw [List.map_cons, List.map_cons, List.filter_cons, List.filter_cons]
    by_cases h1 : 0 < v (pr t)
    · rw [if_pos (decide_eq_true (by show 0 < t.2.2 - cnt ds (pr t); rw [h0]; exact h1)), if_pos (decide_eq_true h1), List.map_cons, ih]
      show (t.1, t.2.1, t.2.2 - cnt ds (pr t)) :: _ = ((pr t).1, (pr t).2, v (pr t)) :: _
      rw [h0]
      rfl
    · rw [if_neg (by rw [decide_eq_true_iff]; show ¬ 0 < t.2.2 - cnt ds (pr t); rw [h0]; exact h1), if_neg (by rw [decide_eq_true_iff]; exact h1), ih]
theorem cnt_le {n : Int} {rs ds : List Tr} (g : Good n rs) (h : Good n ds) (le : ∀ t ∈ ds, t.2.2 ≤ cnt rs (pr t)) (p : Int × Int) : cnt ds p ≤ cnt rs p := by
  by_cases m : p ∈ ds.map pr
  · obtain ⟨t, ht, rfl⟩ := List.mem_map.mp m
    rw [h.cnt ht]
    exact le t ht
  · rw [cnt_out m]
    exact cnt_nn g.pos p
theorem rest_is {n : Int} {rs ds r s : List Tr} (g : Good n rs) (h : Good n ds) (le : ∀ t ∈ ds, t.2.2 ≤ cnt rs (pr t)) (gr : Good n r) (cr : ∀ p, cnt r p = cnt rs p - cnt ds p) (gs : GN (restE rs ds) s) : s = r := by
  have nn : ∀ t ∈ restE rs ds, 0 ≤ t.2.2 := fun t ht => by
    obtain ⟨e, he, rfl⟩ := List.mem_map.mp ht
    show 0 ≤ e.2.2 - cnt ds (pr e)
    have := cnt_le g h le (pr e)
    rw [g.cnt he] at this
    omega
  have i := gn_pos gs nn
  rw [pos_rest ds (fun p => cnt rs p - cnt ds p) rs fun e he => by show _ = cnt rs (pr e) - cnt ds (pr e); rw [g.cnt he]] at i
  obtain ⟨g1, g2⟩ := sub_cnt g h le i
  exact good_uniq g1 gr fun p => by rw [g2, cr]
theorem rest_len {n : Int} {rs ds s : List Tr} (g : Good n rs) (h : Good n ds) (le : ∀ t ∈ ds, t.2.2 ≤ cnt rs (pr t)) (gs : GN (restE rs ds) s) : s.length ≤ rs.length := by
  have nn : ∀ t ∈ restE rs ds, 0 ≤ t.2.2 := fun t ht => by
    obtain ⟨e, he, rfl⟩ := List.mem_map.mp ht
    show 0 ≤ e.2.2 - cnt ds (pr e)
    have := cnt_le g h le (pr e)
    rw [g.cnt he] at this
    omega
  have i := (gn_pos gs nn).len
  have j : (pos (restE rs ds)).length ≤ (restE rs ds).length := List.length_filter_le _ _
  have k : (restE rs ds).length = rs.length := List.length_map _
  omega
end Own

namespace Own
open PySem PySem.Spec PyProof.Rows L2
theorem sc_tk : FnScope ["_law_left", "_law_right", "_law_pins_here", "_law_held", "_law_gone", "_law_entry", "_law_rest", "_law_told_here", "e"] ["_law_left", "_law_right", "_law_pins_here", "_law_held", "_law_gone"] (defScope s__law_taken) := ⟨rfl, rfl, rfl, by decide +kernel, rfl, by decide +kernel, by decide +kernel⟩
def sc_tk_s (K : PySem.W.Frag) (D : Addr) (c_ : String → Addr) (a : Addr) (cls : Value) (d : Option Addr) : TS := tSeq (tIfS (tOr (tB (tCB (rIsX K D a cls d) (tCons (tVar 8) (tCons (tC (.ref (c_ "UnlikePins"))) tNil)))) (tOr (tB (tCB (rIsX K D a cls d) (tCons (tVar 8) (tCons (tC (.ref (c_ "BadNumber"))) tNil)))) (tB (tCB (rIsX K D a cls d) (tCons (tVar 8) (tCons (tC (.ref (c_ "BadPin"))) tNil)))))) (tRet (tC (.bl false))) tNext) (tSeq (tIfS (tOr (tB (tCB (rIsX K D a cls d) (tCons (tVar 8) (tCons (tC (.ref (c_ "BadCord"))) tNil)))) (tOr (tB (tCB (rIsX K D a cls d) (tCons (tVar 8) (tCons (tC (.ref (c_ "BadPins"))) tNil)))) (tNot (tB (tCB (rIsX K D a cls d) (tCons (tVar 8) (tCons (tC (.ref (c_ "RimError"))) tNil))))))) (tRet (tC (.bl false))) tNext) (tRet (tAndV (tCB (rIsX K D a cls d) (tCons (tVar 8) (tCons (tC (.ty "ValueError")) tNil))) (tCallS (spSame 2) (fun _ => E0) (tCons (tLst (tCons (tXf a cls d D "a" (tVar 8)) (tCons (tXf a cls d D "b" (tVar 8)) tNil))) (tCons (tLst (tCons (tOp (rIxT K) (tVar 5) (tC (.int 0))) (tCons (tOp (rIxT K) (tVar 5) (tC (.int 1))) tNil))) tNil))))))
section
variable {P : Program} {w : World} {K : PySem.W.Frag} {mg : Str → Option Value} {base : Heap} {C D D2 : Addr}
def spTaken (C : Addr) : Sp := fun vs H Q _ => ∃ (p o : Addr) (n : Int) (h g : Addr) (rs ds : List Tr), vs = [.ref p, .ref o, .int n, .ref h, .ref g] ∧ LotAt C H p n rs ∧ LotAt C H o n ds ∧ Trip H h rs ∧ Trip H g ds ∧ Good n rs ∧ Good n ds ∧ 0 ≤ n ∧ n ≤ 1000 ∧ rs.length ≤ 1000 ∧ ∀ H', Same H H' → Q (.bl true) H'
theorem ok_taken {f : Addr} {fd : FuncData} (F : Fun K "_law_taken" "_law_taken" s__law_taken f fd) (T : Bi mg) (U : mg "NotPart" = some (.ref D)) {c_ : String → Addr} (T_ve : mg "ValueError" = none) (N_ : ∀ n ∈ errs, mg n = some (.ref (c_ n))) (X_c : XcE K D c_ ["a", "b"] ["UnlikePins", "BadNumber", "BadPin", "BadCord", "BadPins"]) (s_c : PySem.W.selfFirst K C = true) {f_sub : Addr} {d_sub : FuncData} (i_sub : PySem.W.findIn K (.ref C) "__sub__" = some (some (.ref f_sub))) (n_sub : PySem.W.isFn K (.ref f_sub) = true) (b_sub : Binds K d_sub ["self", "other"] []) (G_sub : FnOk P w K mg base (L2N.CX P w) 7 f_sub d_sub ["self", "other"] (spSubX C D2 D)) {f_s : Addr} {d_s : FuncData} (D_s : Df K mg "_law_same" s__law_same ["_law_value", "_law_due"] f_s d_s) (H_s : L2H.FnH P w K mg base CX0 4 f_s d_s ["_law_value", "_law_due"] (spSame 2)) {f_lc : Addr} {d_lc : FuncData} (D_lc : Df K mg "_law_count" s__law_count ["_law_bunch", "_law_left", "_law_right"] f_lc d_lc) (G_lc : FnOk P w K mg base CX0 1 f_lc d_lc ["_law_bunch", "_law_left", "_law_right"] (spLCount K)) {f_n : Addr} {d_n : FuncData} (D_n : Df K mg "_law_norm" s__law_norm ["_law_triples"] f_n d_n) (G_n : FnOk P w K mg base CX0 1 f_n d_n ["_law_triples"] (spNorm K)) {f_li : Addr} {d_li : FuncData} (D_li : Df K mg "_law_lot_is" s__law_lot_is ["_law_lot", "_law_pins_here", "_law_bunch"] f_li d_li) (G_li : FnOk P w K mg base CX0 5 f_li d_li ["_law_lot", "_law_pins_here", "_law_bunch"] (spLotIs K C)) {f_co : Addr} {d_co : FuncData} (D_co : Df K mg "_law_counts" s__law_counts ["_law_lot", "_law_pins_here", "_law_bunch"] f_co d_co) (G_co : FnOk P w K mg base CX0 8 f_co d_co ["_law_lot", "_law_pins_here", "_law_bunch"] (spCounts C)) : FnOk P w K mg base CX0 9 f fd ["_law_left", "_law_right", "_law_pins_here", "_law_held", "_law_gone"] (spTaken C) := by
  refine F.ok sc_tk (fun vs H Q E h => ?_) (fun cdv A outer s H vs Q E hr h => ?_)
  · obtain ⟨_, _, _, _, _, _, _, rfl, _⟩ := h
    rfl
  · obtain ⟨p, o, n, h, g, rs, ds, rfl, hp, ho, hh, hg, gr, gd, n0, n1, hl, q⟩ := h
    refine ⟨_, (pss_cons (ps_for PassesOwn.never rfl (pi_tup (pv 4)) (pg_name (i := 5) sc_tk.nd rfl (.inl rfl)) (pss_one (ps_if (pt_cmpR op_gt (pe_ix (r := rIxT K) ix_tup (pv 5) (pe_int) (fun _ _ => rfl)) (pe_call G_lc (hr.mono (by decide)) (by rfl) D_lc.g D_lc.F.kp D_lc.b .nil pass0 (pa_cons (pv 3) (pa_cons (pe_ix (r := rIxT K) ix_tup (pv 5) (pe_int) (fun _ _ => rfl)) (pa_cons (pe_ix (r := rIxT K) ix_tup (pv 5) (pe_int) (fun _ _ => rfl)) pa_nil)))) (nomark _)) (pss_cons (L2N.ps_try_as (i := 8) (Wout := fun _ _ _ _ => False) rfl rfl sc_tk.nd rfl rfl ⟨by rfl, by decide, .inl U⟩ takesN
        (tb := fun W => tAsg (tOwnB C (spSubX C D2 D) (WE W) (tVar 0) (tVar 1)) (gName 7))
        (ts := fun a cls d => sc_tk_s K D c_ a cls d)
        (fun W pn xe tk _ => (pss_one (ps_set (i := 7) sc_tk.nd rfl (.inl rfl) (by exact (pe_ownB s_c i_sub n_sub G_sub (hr.mono (by decide)) b_sub (fun σ => L2N.passAt tk σ) (pv 0) (pv 1))))))
        (fun a oe cls d pn hz hf => (pss_cons (ps_if (PW.pt (pw_or (pt_val (pe_callB (call_isX X_c.c hz.zc hf) (by rfl) T.b_isinstance (by decide +kernel) (pa_cons (pv 8) (pa_cons (pe_glob (v := .ref (c_ "UnlikePins")) (by rfl) (N_ "UnlikePins" (by decide +kernel)) rfl) pa_nil)))) (pw_or (pt_val (pe_callB (call_isX X_c.c hz.zc hf) (by rfl) T.b_isinstance (by decide +kernel) (pa_cons (pv 8) (pa_cons (pe_glob (v := .ref (c_ "BadNumber")) (by rfl) (N_ "BadNumber" (by decide +kernel)) rfl) pa_nil)))) (pw_or1 (pt_val (pe_callB (call_isX X_c.c hz.zc hf) (by rfl) T.b_isinstance (by decide +kernel) (pa_cons (pv 8) (pa_cons (pe_glob (v := .ref (c_ "BadPin")) (by rfl) (N_ "BadPin" (by decide +kernel)) rfl) pa_nil)))))))) (pss_one (ps_ret pe_bl)) pss_nil) (pss_cons (ps_if (PW.pt (pw_or (pt_val (pe_callB (call_isX X_c.c hz.zc hf) (by rfl) T.b_isinstance (by decide +kernel) (pa_cons (pv 8) (pa_cons (pe_glob (v := .ref (c_ "BadCord")) (by rfl) (N_ "BadCord" (by decide +kernel)) rfl) pa_nil)))) (pw_or (pt_val (pe_callB (call_isX X_c.c hz.zc hf) (by rfl) T.b_isinstance (by decide +kernel) (pa_cons (pv 8) (pa_cons (pe_glob (v := .ref (c_ "BadPins")) (by rfl) (N_ "BadPins" (by decide +kernel)) rfl) pa_nil)))) (pw_or1 (pt_not (pt_val (pe_callB (call_isX X_c.c hz.zc hf) (by rfl) T.b_isinstance (by decide +kernel) (pa_cons (pv 8) (pa_cons (pe_glob (v := .ref (c_ "RimError")) (by rfl) (N_ "RimError" (by decide +kernel)) rfl) pa_nil))))))))) (pss_one (ps_ret pe_bl)) pss_nil) (pss_one (ps_ret (pe_and (pe_callB (call_isX X_c.c hz.zc hf) (by rfl) T.b_isinstance (by decide +kernel) (pa_cons (pv 8) (pa_cons (pe_bltn (v := .ty "ValueError") (by rfl) T_ve (by decide +kernel) rfl) pa_nil))) (pe_one (L2H.pe_callH H_s ⟨(L2H.RoomH.mono (j := 4) (L2H.roomH_of hr) (by decide)).dp, (L2H.RoomH.mono (j := 4) (L2H.roomH_of hr) (by decide)).un⟩ (hotS hz hf) (by rfl) D_s.g D_s.F.kp D_s.b (E := fun _ => E0) (fun _ => pass0A) (pa_cons (pe_lst (pa_cons (pe_xf X_c.x (X_c.n "a" (by decide +kernel)) hz.zc hf (pv 8)) (pa_cons (pe_xf X_c.x (X_c.n "b" (by decide +kernel)) hz.zc hf (pv 8)) pa_nil))) (pa_cons (pe_lst (pa_cons (pe_ix (r := rIxT K) ix_tup (pv 5) (pe_int) (fun _ _ => rfl)) (pa_cons (pe_ix (r := rIxT K) ix_tup (pv 5) (pe_int) (fun _ _ => rfl)) pa_nil))) pa_nil))))))))))) (pss_one (ps_ret pe_bl))) pss_nil))) (pss_cons (ps_set (i := 6) sc_tk.nd rfl (.inl rfl) (pe_call G_n (hr.mono (by decide)) (by rfl) D_n.g D_n.F.kp D_n.b .nil pass0 (pa_cons (pe_lc (own := [("_law_entry", 5)]) (g := gName 5) (tt := tYes) rfl sc_tk.nd (pi_tup (pv 3)) (blkOk_by (own := [("_law_entry", 5)]) (N := ["_law_left", "_law_right", "_law_pins_here", "_law_held", "_law_gone", "_law_entry", "_law_rest", "_law_told_here", "e"]) (sc := defScope s__law_taken) (by decide +kernel)) (fun _ _ _ _ _ => (pg_name (i := 5) sc_tk.nd rfl (.inl rfl))) (fun _ _ _ _ _ => pts_nil) (fun _ _ _ _ _ => (pe_tup (pa_cons (pe_ix (r := rIxT K) ix_tup (pv 5) (pe_int) (fun _ _ => rfl)) (pa_cons (pe_ix (r := rIxT K) ix_tup (pv 5) (pe_int) (fun _ _ => rfl)) (pa_cons (pe_op op_sub (pe_ix (r := rIxT K) ix_tup (pv 5) (pe_int) (fun _ _ => rfl)) (pe_call G_lc (hr.mono (by decide)) (by rfl) D_lc.g D_lc.F.kp D_lc.b .nil pass0 (pa_cons (pv 4) (pa_cons (pe_ix (r := rIxT K) ix_tup (pv 5) (pe_int) (fun _ _ => rfl)) (pa_cons (pe_ix (r := rIxT K) ix_tup (pv 5) (pe_int) (fun _ _ => rfl)) pa_nil))))) pa_nil)))))) pa_nil))) (pss_cons (ps_set (i := 7) sc_tk.nd rfl (.inl rfl) (pe_ownB s_c i_sub n_sub G_sub (hr.mono (by decide)) b_sub (E := fun _ => E0) (fun σ pins H s e s' I h => passN pins σ H s e s' I h) (pv 0) (pv 1))) (pss_one (ps_ret (pe_and (pe_call G_li (hr.mono (by decide)) (by rfl) D_li.g D_li.F.kp D_li.b .nil pass0 (pa_cons (pv 7) (pa_cons (pv 2) (pa_cons (pv 6) pa_nil)))) (pe_one (pe_call G_co (hr.mono (by decide)) (by rfl) D_co.g D_co.F.kp D_co.b .nil pass0 (pa_cons (pv 7) (pa_cons (pv 2) (pa_cons (pv 6) pa_nil))))))))))), ?_⟩
    have fin : ∀ (Dn : Ends) (u : Addr) (t : Tr), Dn.rt = Q → H u = some (.tup (tv t)) → ∀ H1, Same H H1 → ∀ d, H1 d = none → (wAs K (.ref D) 8 (fun a cls d => sc_tk_s K D c_ a cls d) (fun _ _ _ _ => False) Dn) (.ref D) (some d) [some (.ref p), some (.ref o), some (.int n), some (.ref h), some (.ref g), some (.ref u), none, none, none] (upd H1 d (.xd (flE ["a", "b"] [.int t.1, .int t.2.1]))) := fun Dn u t hD hu H1 sH d nd => by
      obtain ⟨n_, r_, b_, c_'⟩ := Dn
      cases (show r_ = Q from hD)
      refine ⟨true, X_c.ex, fun _ a na => ?_, fun z => by cases z⟩
      have sd := same_upd (o := .xd (flE ["a", "b"] [.int t.1, .int t.2.1])) nd
      have ed : upd H1 d (.xd (flE ["a", "b"] [.int t.1, .int t.2.1])) d = some (.xd (flE ["a", "b"] [.int t.1, .int t.2.1])) := upd_same
      refine ⟨_, rfl, rfl, d, .ref (c_ "UnlikePins"), .ref (c_ "UnlikePins"), false, _, rfl, rfl, ed, fun u h => h, X_c.no "UnlikePins" (by decide +kernel), false, rfl, ?_⟩
      refine ⟨_, rfl, rfl, d, .ref (c_ "BadNumber"), .ref (c_ "BadNumber"), false, _, rfl, rfl, ed, fun u h => h, X_c.no "BadNumber" (by decide +kernel), false, rfl, ?_⟩
      refine ⟨_, rfl, rfl, d, .ref (c_ "BadPin"), .ref (c_ "BadPin"), false, _, rfl, rfl, ed, fun u h => h, X_c.no "BadPin" (by decide +kernel), false, rfl, ?_⟩
      refine ⟨_, rfl, rfl, d, .ref (c_ "BadCord"), .ref (c_ "BadCord"), false, _, rfl, rfl, ed, fun u h => h, X_c.no "BadCord" (by decide +kernel), false, rfl, ?_⟩
      refine ⟨_, rfl, rfl, d, .ref (c_ "BadPins"), .ref (c_ "BadPins"), false, _, rfl, rfl, ed, fun u h => h, X_c.no "BadPins" (by decide +kernel), false, rfl, ?_⟩
      refine ⟨_, rfl, rfl, d, .ref (c_ "RimError"), .ref (c_ "RimError"), true, _, rfl, rfl, ed, fun u h => h, X_c.re , true, rfl, ?_⟩
      refine ⟨_, rfl, rfl, d, .ty "ValueError", .type "ValueError", true, _, rfl, rfl, ed, fun u h => h, X_c.ve, true, rfl, ?_⟩
      have a0 : atI (tv t) 0 = some (.int t.1) := atI_nat (j := 0) rfl
      have a1 : atI (tv t) 1 = some (.int t.2.1) := atI_nat (j := 1) rfl
      have hu2 := (sH.trans sd) _ _ hu
      refine ⟨_, rfl, rfl, rfl, d, _, _, rfl, ed, rfl, _, rfl, rfl, rfl, d, _, _, rfl, ed, rfl, by show 2 ≤ sizeLine; decide, fun l1 n1 => ?_⟩
      have g1 := same_upd (o := .lst [.int t.1, .int t.2.1]) n1
      refine ⟨_, rfl, u, _, 0, _, rfl, rfl, .inl (.inl (g1 _ _ hu2)), a0, _, rfl, u, _, 1, _, rfl, rfl, .inl (.inl (g1 _ _ hu2)), a1, by show 2 ≤ sizeLine; decide, fun l2 n2 => ?_⟩
      have g2 := same_upd (o := .lst [.int t.1, .int t.2.1]) n2
      refine ⟨_, _, rfl, EqV.le (d := 1) (.inr ⟨l1, l2, _, _, rfl, rfl, .inr ⟨g2 _ _ upd_same, upd_same⟩, rfl, by show 2 ≤ 1000; decide, fun i x y hx hy => ?_⟩) (by decide), q _ (((sH.trans sd).trans g1).trans g2)⟩
      rw [hx] at hy
      cases hy
      match i, hx with
      | 0, hx => cases hx; exact EqV.int _
      | 1, hx => cases hx; exact EqV.int _
    obtain ⟨dx, c, ep, tp⟩ := id hp
    obtain ⟨dy, c2, eo, to⟩ := id ho
    obtain ⟨hv, eh, th⟩ := id hh
    obtain ⟨gv, eg, tg⟩ := id hg
    have cu : ∀ (l : List Tr) (t : Tr), Good n l → t.1 < t.2.1 → cntU l t.1 t.2.1 = cnt l (pr t) := fun l t gl lt => by
      rw [cntU_all gl]
      have e1 : lo t.1 t.2.1 = t.1 := by unfold lo; split <;> omega
      have e2 : hi t.1 t.2.1 = t.2.1 := by unfold hi; split <;> omega
      rw [e1, e2]
      rfl
    refine ⟨_, rfl, g, rfl, ⟨gv, .inl (.inl eg)⟩, for_tup (xs := gv) (fun i σ H' => (∃ y5, σ = [some (.ref p), some (.ref o), some (.int n), some (.ref h), some (.ref g), y5, none, none, none]) ∧ H' = H ∧ ∀ (k : Nat) (u : Tr), k < i → ds[k]? = some u → u.2.2 ≤ cnt rs (pr u)) ⟨⟨_, rfl⟩, rfl, fun k u hk => absurd hk (Nat.not_lt_zero k)⟩ (fun i σ H' _ p => by rw [p.2.1]; exact .inl (.inl eg)) (fun i x σ H' hxi pv => ?_) (fun σ H' pv => ?_)⟩
    · obtain ⟨⟨y5, rfl⟩, rfl, bef⟩ := pv
      obtain ⟨u, t, rfl, hti, hu⟩ := tg.at_ hxi
      have lt := (gd.ord t (List.mem_of_getElem? hti)).2.1
      have qu : SqT K H' u (tv t) := .inl (.inl hu)
      have a0 : atI (tv t) 0 = some (.int t.1) := atI_nat (j := 0) rfl
      have a1 : atI (tv t) 1 = some (.int t.2.1) := atI_nat (j := 1) rfl
      have a2 : atI (tv t) 2 = some (.int t.2.2) := atI_nat (j := 2) rfl
      refine ⟨_, rfl, u, _, 2, _, rfl, rfl, qu, a2, _, rfl, _, rfl, u, _, 0, _, rfl, rfl, qu, a0, _, rfl, u, _, 1, _, rfl, rfl, qu, a1, h, hv, rs, _, _, rfl, .inr (.inl (.inl eh)), th, ?_⟩
      rw [cu rs t gr lt]
      refine ⟨_, _, rfl, rfl, _, rfl, ite2 (fun e => ?_) (fun e => ?_)⟩
      · have bad : cnt rs (pr t) < t.2.2 := of_decide_eq_true e
        refine ⟨_, rfl, _, rfl, p, dx, _, o, dy, _, rfl, rfl, ep, eo, p, o, n, n, rs, ds, rfl, hp, ho, ⟨n0, n1⟩, ⟨n0, n1⟩, gr, gd, hl, fun _ le => ?_, fun _ j t2 hj b2 bef2 H1 s1 => ?_, fun z => absurd rfl z⟩
        · exact absurd (le t (List.mem_of_getElem? hti)) (by omega)
        · have ij : i = j := by
            rcases Nat.lt_trichotomy i j with z | z | z
            · have := bef2 i t z hti
              omega
            · exact z
            · have := bef j t2 z hj
              omega
          subst ij
          rw [hti] at hj
          cases hj
          exact fun d nd => fin _ u t rfl hu H1 s1 d nd
      · have good : t.2.2 ≤ cnt rs (pr t) := by
          have : ¬ cnt rs (pr t) < t.2.2 := fun z => e (decide_eq_true z)
          omega
        refine ⟨⟨_, rfl⟩, rfl, fun k u2 hk hu2 => ?_⟩
        rcases Nat.lt_or_eq_of_le (Nat.le_of_lt_succ hk) with z | z
        · exact bef k u2 z hu2
        · subst z
          rw [hti] at hu2
          cases hu2
          exact good
    · obtain ⟨⟨y5, rfl⟩, rfl, bef⟩ := pv
      have le : ∀ t ∈ ds, t.2.2 ≤ cnt rs (pr t) := fun t ht => by
        obtain ⟨k, hk, ek⟩ := List.mem_iff_getElem.mp ht
        exact bef k t (by rw [tg.1]; exact hk) (by rw [List.getElem?_eq_getElem hk, ek])
      refine ⟨_, rfl, h, rfl, ⟨hv, .inl (.inl eh)⟩, fun O hO => ?_⟩
      refine lc_tup (K := K) (a := h) (xs := hv) (fun i H2 => Same H' H2 ∧ ∃ ys, H2 O = some (.lst ys) ∧ TrV H2 ys (restE (rs.take i) ds)) ⟨same_upd hO, [], upd_same, rfl, fun i t e => by cases e⟩ (fun i H2 _ pv => .inl (.inl (pv.1 _ _ eh))) (fun i x H2 hxi pv => ?_) (fun H2 pv => ?_)
      · obtain ⟨s2, ys, eO, tO⟩ := pv
        obtain ⟨u, t, rfl, hti, hu⟩ := (th.same s2).at_ hxi
        have lt := (gr.ord t (List.mem_of_getElem? hti)).2.1
        have qu : SqT K H2 u (tv t) := .inl (.inl hu)
        have a0 : atI (tv t) 0 = some (.int t.1) := atI_nat (j := 0) rfl
        have a1 : atI (tv t) 1 = some (.int t.2.1) := atI_nat (j := 1) rfl
        have a2 : atI (tv t) 2 = some (.int t.2.2) := atI_nat (j := 2) rfl
        refine ⟨rfl, ?_⟩
        refine ⟨_, rfl, u, _, 0, _, rfl, rfl, qu, a0, _, rfl, u, _, 1, _, rfl, rfl, qu, a1, _, rfl, u, _, 2, _, rfl, rfl, qu, a2, _, rfl, _, rfl, u, _, 0, _, rfl, rfl, qu, a0, _, rfl, u, _, 1, _, rfl, rfl, qu, a1, g, gv, ds, _, _, rfl, .inr (.inl (.inl (s2 _ _ eg))), tg.same s2, ?_⟩
        rw [cu ds t gd lt]
        refine ⟨_, _, rfl, rfl, by show 3 ≤ sizeLine; decide, fun z nz => ?_⟩
        have sz := same_upd (o := .tup [.int t.1, .int t.2.1, .int (t.2.2 - cnt ds (pr t))]) nz
        have zO : O ≠ z := fun w => by rw [← w, eO] at nz; cases nz
        refine ⟨_, sz _ _ eO, ?_, same_put (H1 := H') hO (s2.trans sz), ys ++ [.ref z], upd_same, ?_⟩
        · rw [tO.1, restE, List.length_map, List.length_take]
          exact Nat.lt_of_le_of_lt (Nat.min_le_right _ _) (small1000 hl)
        · rw [List.take_add_one, hti]
          show TrV _ _ (restE (rs.take i ++ [t]) ds)
          rw [restE, List.map_append]
          have sT : SameT H2 (upd (upd H2 z (.tup [.int t.1, .int t.2.1, .int (t.2.2 - cnt ds (pr t))])) O (.lst (ys ++ [.ref z]))) := fun a xs ha => by
            rw [upd_ne (fun w => by rw [w, eO] at ha; cases ha)]
            exact sz _ _ ha
          refine (tO.sameT sT).snoc ?_
          rw [upd_ne (Ne.symm zO)]
          exact upd_same
      · obtain ⟨s2, ys, eO, tO⟩ := pv
        rw [th.1, List.take_length] at tO
        refine ⟨O, ys, restE rs ds, rfl, .inl (.inl (.inl eO)), tO, by rw [restE, List.length_map]; exact hl, fun H3 c3 r3 s3 t3 gn => ?_⟩
        have s4 := s2.trans s3
        refine ⟨_, rfl, _, rfl, p, dx, _, o, dy, _, rfl, rfl, s4 _ _ ep, s4 _ _ eo, p, o, n, n, rs, ds, rfl, hp.same s4, ho.same s4, ⟨n0, n1⟩, ⟨n0, n1⟩, gr, gd, hl, fun _ _ H5 x r s5 hx gx cx => ?_, fun _ j t2 hj b2 _ => absurd (le t2 (List.mem_of_getElem? hj)) (by omega), fun z => absurd rfl z⟩
        obtain rfl : r3 = r := rest_is gr gd le gx cx gn
        have len : r3.length ≤ 1000 := Nat.le_trans (rest_len gr gd le gn) hl
        refine ⟨_, rfl, _, rfl, _, rfl, x, n, c3, r3, rfl, hx, t3.same s5, len, true, rfl, ?_⟩
        exact ⟨_, rfl, _, rfl, _, rfl, x, n, c3, r3, rfl, hx, t3.same s5, len, gx, n0, n1, fun H6 s6 => q _ ((s4.trans s5).trans s6)⟩
end
end Own

namespace Own
open PySem PySem.Spec PyProof.Rows L2
section
variable {P : Program} {w : World} {K : PySem.W.Frag} {mg : Str → Option Value} {base : Heap} {C : Addr}
def capd (l : List Tr) : List Tr := l.map fun t => (t.1, t.2.1, if 5 * 10 ^ Int.toNat 8 < t.2.2 then 5 * 10 ^ Int.toNat 8 else t.2.2)
theorem capd_good {n : Int} {l : List Tr} (g : Good n l) : Good n (capd l) := by
  refine ⟨?_, fun e he => ?_⟩
  · have : (capd l).map pr = l.map pr := by
      unfold capd
      rw [List.map_map]
      rfl
    rw [this]
    exact g.srt
  · obtain ⟨t, ht, rfl⟩ := List.mem_map.mp he
    obtain ⟨a, b, c, d⟩ := g.ord t ht
    refine ⟨a, b, c, ?_⟩
    show 1 ≤ if 5 * 10 ^ Int.toNat 8 < t.2.2 then 5 * 10 ^ Int.toNat 8 else t.2.2
    split
    · decide
    · exact d
theorem capd_le (l : List Tr) : ∀ t ∈ capd l, t.2.2 ≤ 500000000 := fun e he => by
  obtain ⟨t, _, rfl⟩ := List.mem_map.mp he
  show (if 5 * 10 ^ Int.toNat 8 < t.2.2 then 5 * 10 ^ Int.toNat 8 else t.2.2) ≤ 500000000
  have e8 : (5 * 10 ^ Int.toNat 8 : Int) = 500000000 := by decide
  rw [e8]
  split <;> omega
def spLLot (K : PySem.W.Frag) : Sp := fun vs H Q _ => ∃ (l : Addr) (ns : List Int) (st ct : Nat) (n : Int), vs = [.ref l, .int (st : Int), .int (ct : Int), .int n] ∧ SqL K H l (ns.map V.int) ∧ ns.length ≤ 1000 ∧ st ≤ 100 ∧ ct ≤ 100 ∧ 0 ≤ n ∧ n ≤ 1000 ∧ ∀ H' c r, Same H H' → Trip H' c r → Good n r → r.length ≤ ct → (∀ t ∈ r, t.2.2 ≤ 500000000) → Q (.ref c) H'
theorem digs4 {ds : List Int} {a b c d : Int} (h : Digs ds [a, b, c, d]) : ∃ w x y z, ds = [w, x, y, z] ∧ (0 ≤ w ∧ w < a) ∧ (0 ≤ x ∧ x < b) ∧ (0 ≤ y ∧ y < c) ∧ (0 ≤ z ∧ z < d) := by
  have hl := h.1
  match ds, hl with
  | [w, x, y, z], _ => exact ⟨w, x, y, z, rfl, h.2 0 w a rfl rfl, h.2 1 x b rfl rfl, h.2 2 y c rfl rfl, h.2 3 z d rfl rfl⟩
theorem ok_llot {f : Addr} {fd : FuncData} (F : Fun K "_law_entries" "_law_entries" s__law_entries f fd) (T : Bi mg) {f_d : Addr} {d_d : FuncData} (D_d : Df K mg "_law_digits" s__law_digits ["_law_cell_here", "_law_sizes"] f_d d_d) (G_d : FnOk P w K mg base CX0 1 f_d d_d ["_law_cell_here", "_law_sizes"] (spDigs K))
    {f_c : Addr} {d_c : FuncData} (D_c : Df K mg "_law_cell" s__law_cell ["_law_script", "_law_k"] f_c d_c) (G_c : FnOk P w K mg base CX0 1 f_c d_c ["_law_script", "_law_k"] (spCell K)) {f_n : Addr} {d_n : FuncData} (D_n : Df K mg "_law_norm" s__law_norm ["_law_triples"] f_n d_n) (G_n : FnOk P w K mg base CX0 1 f_n d_n ["_law_triples"] (spNorm K)) : FnOk P w K mg base CX0 2 f fd ["_law_script", "_law_start", "_law_many", "_law_pins_here"] (spLLot K) := by
  refine F.ok sc__law_entries (fun vs H Q E h => ?_) (fun cdv A outer s H vs Q E hr h => ?_)
  · obtain ⟨l, ns, st, ct, n, rfl, _⟩ := h
    rfl
  · obtain ⟨l, ns, st, ct, n, rfl, hs, hn, hst, hct, n0, n1, q⟩ := h
    refine ⟨_, (pss_cons (ps_set (i := 4) sc__law_entries.nd rfl (.inl rfl) (pe_lst pa_nil))
        (pss_cons (ps_for PassesOwn.never rfl (pi_range1 (by rfl) T.b_range (pa_cons (pv 2) pa_nil)) (pg_name (i := 5) sc__law_entries.nd rfl (.inl rfl))
        (pss_one (ps_if (pt_cmpR op_ge (pv 3) pe_int (nomark _)) (pss_cons (ps_set (i := 6) sc__law_entries.nd rfl (.inl rfl) (pe_call G_d (hr.mono (by decide)) (by rfl) D_d.g D_d.F.kp D_d.b .nil pass0 (pa_cons (pe_call G_c (hr.mono (by decide)) (by rfl) D_c.g D_c.F.kp D_c.b .nil pass0 (pa_cons (pv 0) (pa_cons (pe_op op_add (pv 1) (pv 5)) pa_nil))) (pa_cons (pe_lst (pa_cons (pv 3) (pa_cons (pe_op op_sub (pv 3) pe_int) (pa_cons pe_int (pa_cons (pe_op op_mul pe_int (pe_op op_pow pe_int pe_int)) pa_nil))))) pa_nil))))
        (pss_cons (ps_set (i := 7) sc__law_entries.nd rfl (.inl rfl) (pe_op op_modN (pe_callTy call_int1 (by rfl) T.b_int (by decide +kernel) (pa_cons (pe_op op_add (pe_op op_add (pe_ix (r := rIxL K) ix_list (pv 6) pe_int (fun _ _ => rfl)) pe_int) (pe_ix (r := rIxL K) ix_list (pv 6) pe_int (fun _ _ => rfl))) pa_nil)) (pv 3)))
        (pss_one (ps_expr (pe_bm PySem.F.plainAttrs_list PySem.F.slot_list_append PySem.F.type_list_append mt_append (pv 4) (pa_cons (pe_tup (pa_cons (pe_ix (r := rIxL K) ix_list (pv 6) pe_int (fun _ _ => rfl)) (pa_cons (pv 7) (pa_cons (pe_op op_add pe_int (pe_op op_modN (pe_callTy call_int1 (by rfl) T.b_int (by decide +kernel) (pa_cons (pe_ix (r := rIxL K) ix_list (pv 6) pe_int (fun _ _ => rfl)) pa_nil)) (pe_ix (r := rIxL K) ix_list (pe_lst (pa_cons pe_int (pa_cons pe_int (pa_cons pe_int (pa_cons pe_int (pa_cons pe_int (pa_cons (pe_op op_mul pe_int (pe_op op_pow pe_int pe_int)) pa_nil))))))) (pe_ix (r := rIxL K) ix_list (pv 6) pe_int (fun _ _ => rfl)) (fun _ _ => rfl)))) pa_nil)))) pa_nil)))))) pss_nil)))
        (pss_one (ps_ret (pe_callTy call_tuple_of (by rfl) T.b_tuple (by decide +kernel) (pa_cons (pe_lc (own := [("_law_c", 8)]) (g := gName 8) (tt := tYes) rfl sc__law_entries.nd (pi_tup (pe_call G_n hr (by rfl) D_n.g D_n.F.kp D_n.b .nil pass0 (pa_cons (pv 4) pa_nil))) (blkOk_by (own := [("_law_c", 8)]) (N := ["_law_script", "_law_start", "_law_many", "_law_pins_here", "_law_row", "_law_k", "_law_draw", "_law_right", "_law_c"]) (sc := defScope s__law_entries) (by decide +kernel)) (fun _ _ _ _ _ => (pg_name (i := 8) sc__law_entries.nd rfl (.inl rfl))) (fun _ _ _ _ _ => pts_nil) (fun _ _ _ _ _ => (pe_tup (pa_cons (pe_ix (r := rIxT K) ix_tup (pv 8) pe_int (fun _ _ => rfl)) (pa_cons (pe_ix (r := rIxT K) ix_tup (pv 8) pe_int (fun _ _ => rfl)) (pa_cons (pe_callB (call_min2 rfl) (by rfl) T.b_min (by decide +kernel) (pa_cons (pe_ix (r := rIxT K) ix_tup (pv 8) pe_int (fun _ _ => rfl)) (pa_cons (pe_op op_mul pe_int (pe_op op_pow pe_int pe_int)) pa_nil))) pa_nil)))))) pa_nil)))))), ?_⟩
    refine ⟨Nat.zero_le _, fun R hR => ?_⟩
    have sR : Same H (upd H R (.lst [])) := same_upd hR
    refine ⟨_, rfl, (ct : Int), rfl, by omega, by omega, for_range (lo := 0) (n := (ct : Int).toNat) (fun i σ H2 => ∃ (vs : List V) (tr : List Tr) (y3 y4 y5 y6 : Option V), σ = [some (.ref l), some (.int (st : Int)), some (.int (ct : Int)), some (.int n), some (.ref R), y3, y4, y5, y6] ∧ Same H H2 ∧ H2 R = some (.lst vs) ∧ TrV H2 vs tr ∧ (∀ t ∈ tr, Vld n t) ∧ tr.length ≤ i) ⟨[], [], none, none, none, none, rfl, sR, upd_same, TrV.nil, by simp, Nat.le_refl _⟩ (fun i σ H2 hi pv => ?_) (fun σ H2 pv => ?_)⟩
    · obtain ⟨vs, tr, y3, y4, y5, y6, rfl, s2, eR, tV, hV, hl2⟩ := pv
      refine ⟨_, rfl, n, 2, rfl, rfl, _, rfl, ite2 (fun e => ?_) (fun e => ?_)⟩
      · have n2 : 2 ≤ n := of_decide_eq_true e
        refine ⟨_, rfl, _, rfl, _, rfl, _, _, rfl, rfl, l, ns, st + i, ?_, s2.seq hs, by omega, hn, fun c2 => ?_⟩
        · show [V.ref l, V.int ((st : Int) + (0 + (i : Int)))] = _
          rw [show (st : Int) + (0 + (i : Int)) = ((st + i : Nat) : Int) by omega]
        refine ⟨_, rfl, _, rfl, n, 1, rfl, rfl, ?_⟩
        refine ⟨_, _, rfl, rfl, ⟨by decide, by decide, by decide⟩, _, _, rfl, rfl, .inl ⟨by decide, by decide⟩, by show 4 ≤ sizeLine; decide, fun b2 nb2 => ⟨c2, b2, [n, n - 1, 6, 5 * 10 ^ Int.toNat 8], rfl, .inl (.inl upd_same), by show 4 ≤ 1000; decide, fun x hx => ?_, fun H3 p3 ds3 s3 np3 ep3 dg3 => ?_⟩⟩
        · simp only [List.mem_cons, List.not_mem_nil, or_false] at hx
          have e8 : (5 * 10 ^ Int.toNat 8 : Int) = 500000000 := by decide
          rw [e8] at hx
          omega
        obtain ⟨d0, d1, d2, d3, rfl, h0, h1, h2, h3⟩ := digs4 dg3
        have s23 : Same H2 H3 := (same_upd nb2).trans s3
        have qp : SqL K H3 p3 [.int d0, .int d1, .int d2, .int d3] := .inl (.inl ep3)
        have a0 : atI [V.int d0, .int d1, .int d2, .int d3] 0 = some (.int d0) := atI_nat (j := 0) rfl
        have a1 : atI [V.int d0, .int d1, .int d2, .int d3] 1 = some (.int d1) := atI_nat (j := 1) rfl
        have a2 : atI [V.int d0, .int d1, .int d2, .int d3] 2 = some (.int d2) := atI_nat (j := 2) rfl
        have a3 : atI [V.int d0, .int d1, .int d2, .int d3] 3 = some (.int d3) := atI_nat (j := 3) rfl
        refine ⟨_, rfl, p3, _, 0, _, rfl, rfl, qp, a0, _, _, rfl, rfl, _, rfl, p3, _, 1, _, rfl, rfl, qp, a1, _, _, rfl, rfl, .inl ⟨_, rfl, _, rfl, _, _, rfl, rfl, by omega, ?_⟩⟩
        have eR3 := s23 _ _ eR
        have hoth : 0 ≤ (d0 + 1 + d1).fmod n ∧ (d0 + 1 + d1).fmod n < n ∧ d0 ≠ (d0 + 1 + d1).fmod n := by
          have hm := fmod_in (d0 + 1 + d1) (show 0 < n by omega)
          refine ⟨hm.1, hm.2, ?_⟩
          by_cases hx : d0 + 1 + d1 < n
          · rw [fmod_lo (by omega) hx]
            omega
          · rw [fmod_hi (by omega) (by omega)]
            omega
        obtain ⟨z, ez, zpos⟩ : ∃ z : Int, atI [V.int 3, .int 3, .int 3, .int 3, .int 1000, .int (5 * 10 ^ Int.toNat 8)] d2 = some (.int z) ∧ 0 < z := by
          have hd : d2 = ((0 : Nat) : Int) ∨ d2 = ((1 : Nat) : Int) ∨ d2 = ((2 : Nat) : Int) ∨ d2 = ((3 : Nat) : Int) ∨ d2 = ((4 : Nat) : Int) ∨ d2 = ((5 : Nat) : Int) := by omega
          rcases hd with e | e | e | e | e | e <;> rw [e] <;> exact ⟨_, atI_nat rfl, by decide⟩
        refine ⟨_, rfl, .inl ⟨rfl, _, .inl (.inl eR3)⟩, _, rfl, p3, _, 0, _, rfl, rfl, qp, a0, _, rfl, _, rfl, p3, _, 3, _, rfl, rfl, qp, a3, .inl ⟨_, rfl, ?_⟩⟩
        refine ⟨_, _, rfl, rfl, ⟨by decide, by decide, by decide⟩, _, _, rfl, rfl, .inl ⟨by decide, by decide⟩, by show 6 ≤ sizeLine; decide, fun g ng => ⟨_, rfl, p3, _, 2, _, rfl, rfl, (same_upd ng).seq qp, a2, g, _, d2, _, rfl, rfl, .inl (.inl upd_same), ez, _, _, rfl, rfl, by omega, ?_⟩⟩
        have hz := fmod_in d3 zpos
        refine ⟨_, _, rfl, rfl, by show 3 ≤ sizeLine; decide, fun v nv => ?_⟩
        have sg := (same_upd (o := .lst [.int 3, .int 3, .int 3, .int 3, .int 1000, .int (5 * 10 ^ Int.toNat 8)]) ng).trans (same_upd (o := .tup [.int d0, .int ((d0 + 1 + d1).fmod n), .int (1 + d3.fmod z)]) nv)
        have eR4 := sg _ _ eR3
        refine ⟨R, _, _, rfl, rfl, eR4, ?_, ?_⟩
        · rw [tV.1]
          exact small1000 (by omega)
        have nvR : v ≠ R := fun zz => by
          rw [zz] at nv
          exact nomatch ((same_upd ng _ _ eR3).symm.trans nv)
        refine ⟨vs ++ [.ref v], tr ++ [(d0, (d0 + 1 + d1).fmod n, 1 + d3.fmod z)], _, _, _, _, rfl, same_put (H1 := H) hR (s2.trans (s23.trans sg)), upd_same, ?_, fun t ht => ?_, ?_⟩
        · refine ((tV.same (s23.trans sg)).sameT (sameT_put eR4 (Same.refl _))).snoc ?_
          rw [upd_ne nvR, upd_same]
        · rcases List.mem_append.mp ht with ht | ht
          · exact hV t ht
          · rw [List.mem_singleton.mp ht]
            exact ⟨h0.1, h0.2, hoth.1, hoth.2.1, hoth.2.2, by show 1 ≤ 1 + d3.fmod z; omega⟩
        · rw [List.length_append]
          show tr.length + 1 ≤ i + 1
          omega
      · exact ⟨vs, tr, _, _, _, _, rfl, s2, eR, tV, hV, by omega⟩
    · obtain ⟨vs, tr, y3, y4, y5, y6, rfl, s2, eR, tV, hV, hl2⟩ := pv
      refine ⟨_, rfl, R, vs, tr, rfl, .inl (.inl (.inl eR)), tV, by omega, fun H3 c r s3 hc hi => ?_⟩
      have hi := hi.norm fun t ht => (hV t ht).2.2.2.2.2
      have hg := hi.good hV
      have hlr : r.length ≤ ct := Nat.le_trans hi.len (by omega)
      obtain ⟨xs, ec, tc⟩ := id hc
      have ha := s2.trans s3
      refine ⟨c, rfl, ⟨xs, .inl (.inl ec)⟩, fun D hD => ?_⟩
      refine lc_tup (K := K) (a := c) (xs := xs) (fun i H4 => Same H3 H4 ∧ ∃ ws, H4 D = some (.lst ws) ∧ TrV H4 ws ((capd r).take i)) ⟨same_upd hD, [], upd_same, TrV.nil⟩ (fun i H4 _ p => .inl (.inl (p.1 _ _ ec))) (fun i x H4 hxi pv => ?_) (fun H4 pv => ?_)
      · obtain ⟨s4, ws, eD, tW⟩ := pv
        obtain ⟨u, t, rfl, hti, hu⟩ := (tc.same s4).at_ hxi
        have qu : SqT K H4 u (tv t) := .inl (.inl hu)
        have a0 : atI (tv t) 0 = some (.int t.1) := atI_nat (j := 0) rfl
        have a1 : atI (tv t) 1 = some (.int t.2.1) := atI_nat (j := 1) rfl
        have a2 : atI (tv t) 2 = some (.int t.2.2) := atI_nat (j := 2) rfl
        refine ⟨rfl, ?_⟩
        refine ⟨_, rfl, u, _, 0, _, rfl, rfl, qu, a0, _, rfl, u, _, 1, _, rfl, rfl, qu, a1, _, rfl, u, _, 2, _, rfl, rfl, qu, a2, _, _, rfl, rfl, ⟨by decide, by decide, by decide⟩, _, _, rfl, rfl, .inl ⟨by decide, by decide⟩, _, _, rfl, by show 3 ≤ sizeLine; decide, fun v nv => ?_⟩
        have sv := same_upd (o := .tup [.int t.1, .int t.2.1, .int (if 5 * 10 ^ Int.toNat 8 < t.2.2 then 5 * 10 ^ Int.toNat 8 else t.2.2)]) nv
        have hri : (capd r)[i]? = some (t.1, t.2.1, if 5 * 10 ^ Int.toNat 8 < t.2.2 then 5 * 10 ^ Int.toNat 8 else t.2.2) := by
          unfold capd
          rw [List.getElem?_map, hti]
          rfl
        have nD : v ≠ D := fun z => by
          rw [z, eD] at nv
          cases nv
        refine ⟨ws, sv _ _ eD, ?_, same_put (H1 := H3) hD (s4.trans sv), _, upd_same, ?_⟩
        · rw [tW.1, List.length_take]
          have : (capd r).length = r.length := List.length_map _
          exact Nat.lt_of_le_of_lt (Nat.min_le_right _ _) (small1000 (by omega))
        · rw [List.take_add_one, hri]
          refine (tW.sameT (sameT_put eD sv)).snoc ?_
          rw [upd_ne nD, upd_same]
      · obtain ⟨s4, ws, eD, tW⟩ := pv
        have hlen : xs.length = (capd r).length := by
          rw [tc.1]
          exact (List.length_map _).symm
        rw [hlen, List.take_length] at tW
        refine ⟨D, ws, rfl, .inl ⟨.inl (.inl eD), fun c2 nc => ?_⟩⟩
        exact q _ c2 (capd r) ((ha.trans s4).trans (same_upd nc)) ⟨ws, upd_same, tW.same (same_upd nc)⟩ (capd_good hg) (by rw [show (capd r).length = r.length from List.length_map _]; exact hlr) (capd_le r)
end
end Own

namespace Own
open PySem PySem.Spec PyProof.Rows L2
/-- what is no pin of a rim of n pins -/
def BadC (H : Hp) (n : Int) (v : V) : Prop := (∃ i : Int, v = .int i ∧ (i < 0 ∨ n ≤ i) ∧ i.natAbs < 1000000) ∨ (∃ b : Bool, v = .bl b) ∨ v = .non ∨ (∃ z : Str, v = .str z ∧ (reprText z).length ≤ 1000) ∨ (∃ (p : Addr) (i : Int), v = .ref p ∧ H p = some (.lst [.int i]) ∧ i.natAbs < 1000000) ∨ (∃ (p : Addr) (i : Int), v = .ref p ∧ H p = some (.tup [.int i]) ∧ i.natAbs < 1000000)
theorem BadC.same {H H' : Hp} {n : Int} {v : V} (s : Same H H') (h : BadC H n v) : BadC H' n v := by
  rcases h with h | h | h | h | ⟨p, i, e, h, k⟩ | ⟨p, i, e, h, k⟩
  · exact .inl h
  · exact .inr (.inl h)
  · exact .inr (.inr (.inl h))
  · exact .inr (.inr (.inr (.inl h)))
  · exact .inr (.inr (.inr (.inr (.inl ⟨p, i, e, s _ _ h, k⟩))))
  · exact .inr (.inr (.inr (.inr (.inr ⟨p, i, e, s _ _ h, k⟩))))
theorem log_small {m : Nat} (h : m < 1000000) : m.log2 < 1000 := by
  by_cases z : m = 0
  · subst z
    decide
  · refine (Nat.log2_lt z).mpr (Nat.lt_of_lt_of_le h ?_)
    exact Nat.le_trans (show 1000000 ≤ 2 ^ 20 by decide) (Nat.pow_le_pow_right (by decide) (by decide))
theorem BadC.w {K : PySem.W.Frag} {H : Hp} {n : Int} {v : V} (h : BadC H n v) : NotB K H n v := by
  rcases h with ⟨i, e, h, _⟩ | h | h | ⟨z, e, _⟩ | ⟨p, i, e, h, k⟩ | ⟨p, i, e, h, k⟩
  · exact .inl ⟨i, e, h⟩
  · exact .inr (.inl h)
  · exact .inr (.inr (.inl h))
  · exact .inr (.inr (.inr (.inl ⟨z, e⟩)))
  · exact .inr (.inr (.inr (.inr (.inl ⟨p, i, e, h⟩))))
  · exact .inr (.inr (.inr (.inr (.inr ⟨p, i, e, h⟩))))
theorem BadC.sho {K : PySem.W.Frag} {H : Hp} {n : Int} {v : V} (h : BadC H n v) : ShoV K H v := by
  rcases h with ⟨i, e, _, k⟩ | h | h | ⟨z, e, k⟩ | ⟨p, i, e, h, k⟩ | ⟨p, i, e, h, k⟩
  · exact .inl ⟨i, e, log_small k⟩
  · exact .inr (.inl h)
  · exact .inr (.inr (.inl h))
  · exact .inr (.inr (.inr (.inl ⟨z, e, k⟩)))
  · exact .inr (.inr (.inr (.inr ⟨p, i, e, .inl (.inl (.inl h)), log_small k⟩)))
  · exact .inr (.inr (.inr (.inr ⟨p, i, e, .inr (.inl (.inl h)), log_small k⟩)))
theorem ten {x : Int} (h : 0 ≤ x ∧ x < 10) : ∃ j : Nat, x = (j : Int) ∧ j < 10 := ⟨x.toNat, by omega, by omega⟩
section
variable {P : Program} {w : World} {K : PySem.W.Frag} {mg : Str → Option Value} {base : Heap} {C D : Addr}
def spBadOnes (K : PySem.W.Frag) (C : Addr) : Sp := fun vs H Q _ => ∃ (p o l : Addr) (n : Int) (ns : List Int) (cs ds : List Tr), vs = [.ref p, .ref o, .int n, .ref l] ∧ LotAt C H p n cs ∧ LotAt C H o n ds ∧ Good n cs ∧ Good n ds ∧ cs.length ≤ 1000 ∧ ds.length ≤ 1000 ∧ 0 ≤ n ∧ n ≤ 1000 ∧ SqL K H l (ns.map V.int) ∧ ns.length ≤ 1000 ∧ ∀ H', Same H H' → Q (.bl true) H'
theorem ok_badones {f : Addr} {fd : FuncData} (F : Fun K "_law_bad_ones" "_law_bad_ones" s__law_bad_ones f fd) (T : Bi mg) {f_c : Addr} {d_c : FuncData} (D_c : Df K mg "_law_cell" s__law_cell ["_law_script", "_law_k"] f_c d_c) (G_c : FnOk P w K mg base CX0 1 f_c d_c ["_law_script", "_law_k"] (spCell K)) {f_bp : Addr} {d_bp : FuncData} (D_bp : Df K mg "_law_bad_pin" s__law_bad_pin ["_law_lot", "_law_pair", "_law_bad"] f_bp d_bp) (G_bp : FnOk P w K mg base CX0 8 f_bp d_bp ["_law_lot", "_law_pair", "_law_bad"] (spBadP K C)) {f_bf : Addr} {d_bf : FuncData} (D_bf : Df K mg "_law_bad_factor" s__law_bad_factor ["_law_left", "_law_bad"] f_bf d_bf) (G_bf : FnOk P w K mg base CX0 8 f_bf d_bf ["_law_left", "_law_bad"] (spBadF K C)) : FnOk P w K mg base CX0 9 f fd ["_law_lot", "_law_right", "_law_pins_here", "_law_script"] (spBadOnes K C) := by
  refine F.ok sc__law_bad_ones (fun vs H Q E h => ?_) (fun cdv A outer s H vs Q E hr h => ?_)
  · obtain ⟨_, _, _, _, _, _, _, rfl, _⟩ := h
    rfl
  · obtain ⟨p, o, l, n, ns, cs, ds, rfl, hp, ho, gc, gd, lc, ld, n0, n1, hs, hn, q⟩ := h
    refine ⟨_, (pss_cons (ps_set (i := 4) sc__law_bad_ones.nd rfl (.inl rfl) (pe_op op_mod (pe_op op_fdiv (pe_callTy call_int1 (by rfl) T.b_int (by decide +kernel) (pa_cons (pe_call G_c (hr.mono (by decide)) (by rfl) D_c.g D_c.F.kp D_c.b .nil pass0 (pa_cons (pv 3) (pa_cons pe_int pa_nil))) pa_nil)) pe_int) pe_int))
        (pss_cons (ps_set (i := 5) sc__law_bad_ones.nd rfl (.inl rfl) (pe_lst (pa_cons (pv 2) (pa_cons (pe_un un_neg pe_int) (pa_cons pe_bl (pa_cons pe_non (pa_cons pe_str (pa_cons (pe_tup (pa_cons pe_int pa_nil)) (pa_cons (pe_lst (pa_cons pe_int pa_nil)) (pa_cons pe_bl (pa_cons (pe_op op_add (pe_op op_add (pv 2) pe_int) (pv 4)) (pa_cons (pe_op op_sub (pe_un un_neg pe_int) (pv 4)) pa_nil))))))))))))
        (pss_cons (ps_set (i := 6) sc__law_bad_ones.nd rfl (.inl rfl) (pe_ix (r := rIxL K) ix_list (pv 5) (pe_op op_mod (pe_callTy call_int1 (by rfl) T.b_int (by decide +kernel) (pa_cons (pe_call G_c (hr.mono (by decide)) (by rfl) D_c.g D_c.F.kp D_c.b .nil pass0 (pa_cons (pv 3) (pa_cons pe_int pa_nil))) pa_nil)) pe_int) (fun _ _ => rfl)))
        (pss_cons (ps_set (i := 7) sc__law_bad_ones.nd rfl (.inl rfl) (pe_ix (r := rIxL K) ix_list (pv 5) (pe_op op_mod (pe_callTy call_int1 (by rfl) T.b_int (by decide +kernel) (pa_cons (pe_call G_c (hr.mono (by decide)) (by rfl) D_c.g D_c.F.kp D_c.b .nil pass0 (pa_cons (pv 3) (pa_cons pe_int pa_nil))) pa_nil)) pe_int) (fun _ _ => rfl)))
        (pss_cons (ps_if (PW.pt (pw_or (pt_not (pt_val (pe_call G_bp (hr.mono (by decide)) (by rfl) D_bp.g D_bp.F.kp D_bp.b .nil pass0 (pa_cons (pv 0) (pa_cons (pe_lst (pa_cons (pv 6) (pa_cons (pv 7) pa_nil))) (pa_cons (pv 6) pa_nil)))))) (pw_or1 (pt_not (pt_val (pe_call G_bp (hr.mono (by decide)) (by rfl) D_bp.g D_bp.F.kp D_bp.b .nil pass0 (pa_cons (pv 0) (pa_cons (pe_lst (pa_cons (pv 6) pa_nil)) (pa_cons (pv 6) pa_nil))))))))) (pss_one (ps_ret pe_bl)) pss_nil)
        (pss_cons (ps_if (pt_cmpR op_gt (pv 2) pe_int (nomark _)) (pss_cons (ps_set (i := 9) sc__law_bad_ones.nd rfl (.inl rfl) (pe_op op_modN (pe_callTy call_int1 (by rfl) T.b_int (by decide +kernel) (pa_cons (pe_call G_c (hr.mono (by decide)) (by rfl) D_c.g D_c.F.kp D_c.b .nil pass0 (pa_cons (pv 3) (pa_cons pe_int pa_nil))) pa_nil)) (pv 2)))
        (pss_cons (ps_if (PW.pt (pw_or (pt_not (pt_val (pe_call G_bp (hr.mono (by decide)) (by rfl) D_bp.g D_bp.F.kp D_bp.b .nil pass0 (pa_cons (pv 0) (pa_cons (pe_lst (pa_cons (pv 9) (pa_cons (pv 6) pa_nil))) (pa_cons (pv 6) pa_nil)))))) (pw_or1 (pt_not (pt_val (pe_call G_bp (hr.mono (by decide)) (by rfl) D_bp.g D_bp.F.kp D_bp.b .nil pass0 (pa_cons (pv 0) (pa_cons (pe_lst (pa_cons (pv 6) (pa_cons (pv 9) pa_nil))) (pa_cons (pv 6) pa_nil))))))))) (pss_one (ps_ret pe_bl)) pss_nil)
        (pss_one (ps_if (pt_not (pt_val (pe_call G_bp (hr.mono (by decide)) (by rfl) D_bp.g D_bp.F.kp D_bp.b .nil pass0 (pa_cons (pv 1) (pa_cons (pe_lst (pa_cons (pv 9) (pa_cons (pv 7) pa_nil))) (pa_cons (pv 7) pa_nil)))))) (pss_one (ps_ret pe_bl)) pss_nil)))) pss_nil)
        (pss_cons (ps_set (i := 8) sc__law_bad_ones.nd rfl (.inl rfl) (pe_ix (r := rIxL K) ix_list (pe_lst (pa_cons (pe_op op_sub (pe_un un_neg pe_int) (pv 4)) (pa_cons pe_bl (pa_cons pe_bl (pa_cons pe_non (pa_cons pe_str (pa_cons (pe_tup (pa_cons pe_int pa_nil)) (pa_cons (pe_lst (pa_cons pe_int pa_nil)) pa_nil)))))))) (pe_op op_mod (pe_callTy call_int1 (by rfl) T.b_int (by decide +kernel) (pa_cons (pe_call G_c (hr.mono (by decide)) (by rfl) D_c.g D_c.F.kp D_c.b .nil pass0 (pa_cons (pv 3) (pa_cons pe_int pa_nil))) pa_nil)) pe_int) (fun _ _ => rfl)))
        (pss_one (ps_ret (pe_and (pe_call G_bf (hr.mono (by decide)) (by rfl) D_bf.g D_bf.F.kp D_bf.b .nil pass0 (pa_cons (pv 0) (pa_cons (pv 8) pa_nil))) (pe_one (pe_call G_bf (hr.mono (by decide)) (by rfl) D_bf.g D_bf.F.kp D_bf.b .nil pass0 (pa_cons (pv 1) (pa_cons (pe_un un_neg pe_int) pa_nil)))))))))))))), ?_⟩
    refine ⟨_, rfl, l, ns, 4, rfl, hs, by decide, hn, fun c4 => ?_⟩
    have k0 : 0 ≤ c4 / 10 % 1000 ∧ c4 / 10 % 1000 < 1000 := ⟨Int.emod_nonneg _ (by decide), Int.emod_lt_of_pos _ (by decide)⟩
    refine .inl ⟨_, rfl, _, _, rfl, rfl, ⟨by decide, by decide⟩, _, _, rfl, rfl, by show (0 : Int) < 1000; decide, ?_⟩
    refine ⟨_, rfl, _, rfl, by show 1 ≤ sizeLine; decide, fun tp ntp => ⟨by show 1 ≤ sizeLine; decide, fun lq nlq => ?_⟩⟩
    have s1 := (same_upd (o := .tup [.int 0]) ntp).trans (same_upd (o := .lst [.int 0]) nlq)
    have etp := same_upd (o := .lst [.int 0]) nlq _ _ (show upd H tp (.tup [.int 0]) tp = some (.tup [.int 0]) from upd_same)
    have elq : (upd (upd H tp (.tup [.int 0])) lq (.lst [.int 0])) lq = some (.lst [.int 0]) := upd_same
    have pick : ∀ H', Same (upd (upd H tp (.tup [.int 0])) lq (.lst [.int 0])) H' → ∀ x : Int, ∃ v, atI [V.int n, .int (-1), .bl true, .non, .str ("0" : String), .ref tp, .ref lq, .bl false, .int (n + 1 + c4 / 10 % 1000), .int (-2 - c4 / 10 % 1000)] (x % 10) = some v ∧ BadC H' n v := fun H' s' x => by
      have hx : 0 ≤ x % 10 ∧ x % 10 < 10 := ⟨Int.emod_nonneg _ (by decide), Int.emod_lt_of_pos _ (by decide)⟩
      have hd : x % 10 = ((0 : Nat) : Int) ∨ x % 10 = ((1 : Nat) : Int) ∨ x % 10 = ((2 : Nat) : Int) ∨ x % 10 = ((3 : Nat) : Int) ∨ x % 10 = ((4 : Nat) : Int) ∨ x % 10 = ((5 : Nat) : Int) ∨ x % 10 = ((6 : Nat) : Int) ∨ x % 10 = ((7 : Nat) : Int) ∨ x % 10 = ((8 : Nat) : Int) ∨ x % 10 = ((9 : Nat) : Int) := by omega
      rcases hd with e | e | e | e | e | e | e | e | e | e <;> rw [e]
      · exact ⟨_, atI_nat rfl, .inl ⟨n, rfl, .inr (Int.le_refl _), by omega⟩⟩
      · exact ⟨_, atI_nat rfl, .inl ⟨-1, rfl, .inl (by decide), by decide⟩⟩
      · exact ⟨_, atI_nat rfl, .inr (.inl ⟨true, rfl⟩)⟩
      · exact ⟨_, atI_nat rfl, .inr (.inr (.inl rfl))⟩
      · exact ⟨_, atI_nat rfl, .inr (.inr (.inr (.inl ⟨_, rfl, by decide +kernel⟩)))⟩
      · exact ⟨_, atI_nat rfl, .inr (.inr (.inr (.inr (.inr ⟨tp, 0, rfl, s' _ _ etp, by decide⟩))))⟩
      · exact ⟨_, atI_nat rfl, .inr (.inr (.inr (.inr (.inl ⟨lq, 0, rfl, s' _ _ elq, by decide⟩))))⟩
      · exact ⟨_, atI_nat rfl, .inr (.inl ⟨false, rfl⟩)⟩
      · exact ⟨_, atI_nat rfl, .inl ⟨_, rfl, .inr (by omega), by omega⟩⟩
      · exact ⟨_, atI_nat rfl, .inl ⟨_, rfl, .inl (by omega), by omega⟩⟩
    refine ⟨_, rfl, _, _, rfl, rfl, _, rfl, _, _, rfl, rfl, _, rfl, _, rfl, _, _, rfl, rfl, by show 10 ≤ sizeLine; decide, fun B nB => ?_⟩
    have sB := fun L => same_upd (o := .lst L) nB
    refine ⟨_, rfl, _, rfl, l, ns, 4, rfl, (s1.trans (sB _)).seq hs, by decide, hn, fun x => ?_⟩
    obtain ⟨v, ev, bv⟩ := pick _ (sB _) x
    refine .inl ⟨_, rfl, _, _, rfl, rfl, by show (0 : Int) < 10; decide, B, _, _, v, rfl, rfl, .inl (.inl upd_same), ev, ?_⟩
    refine ⟨_, rfl, _, rfl, l, ns, 5, rfl, (s1.trans (sB _)).seq hs, by decide, hn, fun y => ?_⟩
    obtain ⟨w_, ew, bw⟩ := pick _ (sB _) y
    refine .inl ⟨_, rfl, _, _, rfl, rfl, by show (0 : Int) < 10; decide, B, _, _, w_, rfl, rfl, .inl (.inl upd_same), ew, ?_⟩
    have sA := s1.trans (sB [V.int n, .int (-1), .bl true, .non, .str ("0" : String), .ref tp, .ref lq, .bl false, .int (n + 1 + c4 / 10 % 1000), .int (-2 - c4 / 10 % 1000)])
    refine ⟨_, rfl, _, rfl, _, rfl, by show 2 ≤ sizeLine; decide, fun l1 n1_ => ?_⟩
    have g1 := same_upd (o := .lst [v, w_]) n1_
    refine ⟨_, rfl, p, l1, v, n, cs, rfl, hp.same (sA.trans g1), n0, n1, gc, lc, (bv.same g1).w, (bv.same g1).sho, .inr ⟨v, w_, upd_same, .inl rfl⟩, fun H4 s4 => ⟨true, rfl, ?_⟩⟩
    have g4 := g1.trans s4
    refine ⟨_, rfl, _, rfl, by show 1 ≤ sizeLine; decide, fun l2 n2_ => ?_⟩
    have g5 := g4.trans (same_upd (o := .lst [v]) n2_)
    refine ⟨_, rfl, p, l2, v, n, cs, rfl, hp.same (sA.trans g5), n0, n1, gc, lc, (bv.same g5).w, (bv.same g5).sho, .inl upd_same, fun H6 s6 => ⟨true, rfl, ?_⟩⟩
    have g6 := g5.trans s6
    refine ⟨_, rfl, n, 0, rfl, rfl, _, rfl, ite2 (fun e => ?_) (fun e => ?_)⟩
    · have np : 0 < n := of_decide_eq_true e
      refine ⟨_, rfl, l, ns, 6, rfl, (sA.trans g6).seq hs, by decide, hn, fun z => ?_⟩
      refine .inl ⟨_, rfl, _, rfl, _, _, rfl, rfl, by omega, ?_⟩
      have hz := fmod_in z np
      refine ⟨_, rfl, _, rfl, _, rfl, by show 2 ≤ sizeLine; decide, fun l3 n3_ => ?_⟩
      have g7 := g6.trans (same_upd (o := .lst [.int (z.fmod n), v]) n3_)
      refine ⟨_, rfl, p, l3, v, n, cs, rfl, hp.same (sA.trans g7), n0, n1, gc, lc, (bv.same g7).w, (bv.same g7).sho, .inr ⟨_, v, upd_same, .inr ⟨_, rfl, hz.1, hz.2, rfl⟩⟩, fun H8 s8 => ⟨true, rfl, ?_⟩⟩
      have g8 := g7.trans s8
      refine ⟨_, rfl, _, rfl, _, rfl, by show 2 ≤ sizeLine; decide, fun l4 n4_ => ?_⟩
      have g9 := g8.trans (same_upd (o := .lst [v, .int (z.fmod n)]) n4_)
      refine ⟨_, rfl, p, l4, v, n, cs, rfl, hp.same (sA.trans g9), n0, n1, gc, lc, (bv.same g9).w, (bv.same g9).sho, .inr ⟨v, _, upd_same, .inl rfl⟩, fun H10 s10 => ⟨true, rfl, ?_⟩⟩
      have g10 := g9.trans s10
      refine ⟨_, rfl, _, rfl, _, rfl, by show 2 ≤ sizeLine; decide, fun l5 n5_ => ?_⟩
      have g11 := g10.trans (same_upd (o := .lst [.int (z.fmod n), w_]) n5_)
      refine ⟨_, rfl, o, l5, w_, n, ds, rfl, ho.same (sA.trans g11), n0, n1, gd, ld, (bw.same g11).w, (bw.same g11).sho, .inr ⟨_, w_, upd_same, .inr ⟨_, rfl, hz.1, hz.2, rfl⟩⟩, fun H12 s12 => ⟨true, rfl, ?_⟩⟩
      have gE := sA.trans (g11.trans s12)
      refine ⟨_, rfl, _, rfl, _, _, rfl, rfl, by show 1 ≤ sizeLine; decide, fun t2 nt2 => ⟨by show 1 ≤ sizeLine; decide, fun l9 nl9 => ⟨by show 7 ≤ sizeLine; decide, fun W nW => ?_⟩⟩⟩
      have f1 := same_upd (o := .tup [.int 2]) nt2
      have f2 := same_upd (o := .lst [.int 2]) nl9
      have f3 := fun L => same_upd (o := .lst L) nW
      have et2 := fun L => f3 L _ _ (f2 _ _ upd_same)
      have el9 := fun L => f3 L _ _ upd_same
      have fE := fun L => (gE.trans (f1.trans f2)).trans (f3 L)
      refine ⟨_, rfl, l, ns, 7, rfl, (fE _).seq hs, by decide, hn, fun z7 => ?_⟩
      obtain ⟨u, eu, bu, su⟩ : ∃ u, atI [V.int (-1 - c4 / 10 % 1000), .bl true, .bl false, .non, .str ("2" : String), .ref t2, .ref l9] (z7 % 7) = some u ∧ ((∃ i : Int, u = .int i ∧ i < 0) ∨ NotW K (upd (upd (upd H12 t2 (.tup [.int 2])) l9 (.lst [.int 2])) W (.lst [V.int (-1 - c4 / 10 % 1000), .bl true, .bl false, .non, .str ("2" : String), .ref t2, .ref l9])) u) ∧ ShoV K (upd (upd (upd H12 t2 (.tup [.int 2])) l9 (.lst [.int 2])) W (.lst [V.int (-1 - c4 / 10 % 1000), .bl true, .bl false, .non, .str ("2" : String), .ref t2, .ref l9])) u := by
        have hx : 0 ≤ z7 % 7 ∧ z7 % 7 < 7 := ⟨Int.emod_nonneg _ (by decide), Int.emod_lt_of_pos _ (by decide)⟩
        have hd : z7 % 7 = ((0 : Nat) : Int) ∨ z7 % 7 = ((1 : Nat) : Int) ∨ z7 % 7 = ((2 : Nat) : Int) ∨ z7 % 7 = ((3 : Nat) : Int) ∨ z7 % 7 = ((4 : Nat) : Int) ∨ z7 % 7 = ((5 : Nat) : Int) ∨ z7 % 7 = ((6 : Nat) : Int) := by omega
        rcases hd with e | e | e | e | e | e | e <;> rw [e]
        · exact ⟨_, atI_nat rfl, .inl ⟨_, rfl, by omega⟩, .inl ⟨_, rfl, log_small (by omega)⟩⟩
        · exact ⟨_, atI_nat rfl, .inr (.inl ⟨true, rfl⟩), .inr (.inl ⟨true, rfl⟩)⟩
        · exact ⟨_, atI_nat rfl, .inr (.inl ⟨false, rfl⟩), .inr (.inl ⟨false, rfl⟩)⟩
        · exact ⟨_, atI_nat rfl, .inr (.inr (.inl rfl)), .inr (.inr (.inl rfl))⟩
        · exact ⟨_, atI_nat rfl, .inr (.inr (.inr (.inl ⟨_, rfl⟩))), .inr (.inr (.inr (.inl ⟨_, rfl, by decide +kernel⟩)))⟩
        · exact ⟨_, atI_nat rfl, .inr (.inr (.inr (.inr (.inr ⟨t2, 2, rfl, et2 _⟩)))), .inr (.inr (.inr (.inr ⟨t2, 2, rfl, .inr (.inl (.inl (et2 _))), by decide⟩)))⟩
        · exact ⟨_, atI_nat rfl, .inr (.inr (.inr (.inr (.inl ⟨l9, 2, rfl, el9 _⟩)))), .inr (.inr (.inr (.inr ⟨l9, 2, rfl, .inl (.inl (.inl (el9 _))), by decide⟩)))⟩
      refine .inl ⟨_, rfl, _, _, rfl, rfl, by show (0 : Int) < 7; decide, W, _, _, u, rfl, rfl, .inl (.inl upd_same), eu, ?_⟩
      refine ⟨_, rfl, _, rfl, p, u, n, cs, rfl, hp.same (fE _), n0, gc.vld, lc, bu, su, fun H20 s20 => ⟨true, rfl, ?_⟩⟩
      exact ⟨_, rfl, _, rfl, o, .int (-1), n, ds, rfl, ho.same ((fE _).trans s20), n0, gd.vld, ld, .inl ⟨-1, rfl, by decide⟩, .inl ⟨-1, rfl, by decide⟩, fun H21 s21 => q _ (((fE _).trans s20).trans s21)⟩
    · have gE := sA.trans g6
      refine ⟨_, rfl, _, rfl, _, _, rfl, rfl, by show 1 ≤ sizeLine; decide, fun t2 nt2 => ⟨by show 1 ≤ sizeLine; decide, fun l9 nl9 => ⟨by show 7 ≤ sizeLine; decide, fun W nW => ?_⟩⟩⟩
      have f1 := same_upd (o := .tup [.int 2]) nt2
      have f2 := same_upd (o := .lst [.int 2]) nl9
      have f3 := fun L => same_upd (o := .lst L) nW
      have et2 := fun L => f3 L _ _ (f2 _ _ upd_same)
      have el9 := fun L => f3 L _ _ upd_same
      have fE := fun L => (gE.trans (f1.trans f2)).trans (f3 L)
      refine ⟨_, rfl, l, ns, 7, rfl, (fE _).seq hs, by decide, hn, fun z7 => ?_⟩
      obtain ⟨u, eu, bu, su⟩ : ∃ u, atI [V.int (-1 - c4 / 10 % 1000), .bl true, .bl false, .non, .str ("2" : String), .ref t2, .ref l9] (z7 % 7) = some u ∧ ((∃ i : Int, u = .int i ∧ i < 0) ∨ NotW K (upd (upd (upd H6 t2 (.tup [.int 2])) l9 (.lst [.int 2])) W (.lst [V.int (-1 - c4 / 10 % 1000), .bl true, .bl false, .non, .str ("2" : String), .ref t2, .ref l9])) u) ∧ ShoV K (upd (upd (upd H6 t2 (.tup [.int 2])) l9 (.lst [.int 2])) W (.lst [V.int (-1 - c4 / 10 % 1000), .bl true, .bl false, .non, .str ("2" : String), .ref t2, .ref l9])) u := by
        have hx : 0 ≤ z7 % 7 ∧ z7 % 7 < 7 := ⟨Int.emod_nonneg _ (by decide), Int.emod_lt_of_pos _ (by decide)⟩
        have hd : z7 % 7 = ((0 : Nat) : Int) ∨ z7 % 7 = ((1 : Nat) : Int) ∨ z7 % 7 = ((2 : Nat) : Int) ∨ z7 % 7 = ((3 : Nat) : Int) ∨ z7 % 7 = ((4 : Nat) : Int) ∨ z7 % 7 = ((5 : Nat) : Int) ∨ z7 % 7 = ((6 : Nat) : Int) := by omega
        rcases hd with e | e | e | e | e | e | e <;> rw [e]
        · exact ⟨_, atI_nat rfl, .inl ⟨_, rfl, by omega⟩, .inl ⟨_, rfl, log_small (by omega)⟩⟩
        · exact ⟨_, atI_nat rfl, .inr (.inl ⟨true, rfl⟩), .inr (.inl ⟨true, rfl⟩)⟩
        · exact ⟨_, atI_nat rfl, .inr (.inl ⟨false, rfl⟩), .inr (.inl ⟨false, rfl⟩)⟩
        · exact ⟨_, atI_nat rfl, .inr (.inr (.inl rfl)), .inr (.inr (.inl rfl))⟩
        · exact ⟨_, atI_nat rfl, .inr (.inr (.inr (.inl ⟨_, rfl⟩))), .inr (.inr (.inr (.inl ⟨_, rfl, by decide +kernel⟩)))⟩
        · exact ⟨_, atI_nat rfl, .inr (.inr (.inr (.inr (.inr ⟨t2, 2, rfl, et2 _⟩)))), .inr (.inr (.inr (.inr ⟨t2, 2, rfl, .inr (.inl (.inl (et2 _))), by decide⟩)))⟩
        · exact ⟨_, atI_nat rfl, .inr (.inr (.inr (.inr (.inl ⟨l9, 2, rfl, el9 _⟩)))), .inr (.inr (.inr (.inr ⟨l9, 2, rfl, .inl (.inl (.inl (el9 _))), by decide⟩)))⟩
      refine .inl ⟨_, rfl, _, _, rfl, rfl, by show (0 : Int) < 7; decide, W, _, _, u, rfl, rfl, .inl (.inl upd_same), eu, ?_⟩
      refine ⟨_, rfl, _, rfl, p, u, n, cs, rfl, hp.same (fE _), n0, gc.vld, lc, bu, su, fun H20 s20 => ⟨true, rfl, ?_⟩⟩
      exact ⟨_, rfl, _, rfl, o, .int (-1), n, ds, rfl, ho.same ((fE _).trans s20), n0, gd.vld, ld, .inl ⟨-1, rfl, by decide⟩, .inl ⟨-1, rfl, by decide⟩, fun H21 s21 => q _ (((fE _).trans s20).trans s21)⟩
end
end Own

namespace Own
open PySem PySem.Spec PyProof.Rows L2
/-! The entries the other way round, their pins exchanged: the same lot. -/
def swp (t : Tr) : Tr := (t.2.1, t.1, t.2.2)
theorem ky_swp (t : Tr) : ky (swp t) = ky t := by
  unfold ky swp
  rw [(lo_comm t.2.1 t.1).1, (lo_comm t.2.1 t.1).2]
theorem bk_swp (f : Int × Int → Bool) : ∀ l : List Tr, bk f (l.map swp) = bk f l
  | [] => rfl
  | t :: r => by
    rw [List.map_cons, bk, bk, ky_swp, bk_swp f r]
    rfl
theorem bk_rev (f : Int × Int → Bool) : ∀ l : List Tr, bk f l.reverse = bk f l
  | [] => rfl
  | t :: r => by
    rw [List.reverse_cons, bk_append, bk_rev f r]
    show bk f r + ((if f (ky t) = true then t.2.2 else 0) + 0) = (if f (ky t) = true then t.2.2 else 0) + bk f r
    omega
theorem swp_norm {n : Int} {cs r : List Tr} (g : Good n cs) (h : IsNorm (cs.reverse.map swp) r) : r = cs := by
  refine norm_uniq h ⟨g.srt, fun p => ?_, fun e he => ?_⟩
  · rw [(g.self).mem p, List.map_map, show (ky ∘ swp) = ky from funext ky_swp, List.map_reverse, List.mem_reverse]
  · rw [g.self.cnt e he]
    unfold tot
    rw [bk_swp, bk_rev]
theorem swp_vld {n : Int} {cs : List Tr} (v : ∀ t ∈ cs, Vld n t) : ∀ t ∈ cs.reverse.map swp, Vld n t := fun t ht => by
  obtain ⟨u, hu, rfl⟩ := List.mem_map.mp ht
  obtain ⟨v0, v1, v2, v3, v4, v5⟩ := v u (List.mem_reverse.mp hu)
  exact ⟨v2, v3, v0, v1, fun z => v4 z.symm, v5⟩
section
variable {X : Cx} {K : PySem.W.Frag} {C g : Addr} {k : Nat} {fd : FuncData} {ps : List Str} {sp : Sp}
theorem op_ownEqK (hK : X.K = K) (hs : PySem.W.findIn K (.ref C) "__eq__" = some (some (.ref g))) (hf : PySem.W.isFn K (.ref g) = true) (F : FnOk X.prog X.w K X.mg X.base CX0 k g fd ps sp) (room : Room k X.A) (hb : Binds K fd ps []) : OpR X (compareOp .Eq) (rOwnEq K C sp) := by
  subst hK
  exact op_ownEq hs hf F room hb
end
end Own

namespace Own
open PySem PySem.Spec PyProof.Rows L2 RT
/-- a comprehension over a tuple from its end -/
theorem lc_revT {K : PySem.W.Frag} {a : Addr} {xs : List V} {g : TG} {tt : TT} {te : TE} {vs : List Nat} {σ : L2.St} {H1 : Hp} {D : Addr} {Qd : Hp → Prop} (Pv : Nat → Hp → Prop) (h0 : Pv 0 (upd H1 D (.lst []))) (hl : ∀ i H, i ≤ xs.length → Pv i H → SqT K H a xs)
    (hs : ∀ i x H, i < xs.length → xs[xs.length - 1 - i]? = some x → Pv i H → g x (wipe σ vs) H fun σ2 H2 => wipe σ2 vs = wipe σ vs ∧ tt σ2 H2 fun b H3 =>
      if b = true then te σ2 H3 fun y H4 => ∃ acc, H4 D = some (.lst acc) ∧ acc.length < sizeLine ∧ Pv (i + 1) (upd H4 D (.lst (acc ++ [y]))) else Pv (i + 1) H3) (hd : ∀ H, Pv xs.length H → Qd H) :
    ∃ W : Nat → Nat → Hp → Prop, (∃ m, W 0 m (upd H1 D (.lst []))) ∧ ∀ i m H, W i m H →
      ((ItvT K a xs.length).stop i H ∧ Qd H) ∨ ((ItvT K a xs.length).go i H ∧ ∃ Nx : Hp → Prop, (∀ H', Nx H' → ∃ m', m' < m ∧ W (i + 1) m' H') ∧ ∀ x H', (ItvT K a xs.length).yld i H x H' → g x (wipe σ vs) H' fun σ2 H2 => wipe σ2 vs = wipe σ vs ∧ tt σ2 H2 fun b H3 =>
        if b = true then te σ2 H3 fun y H4 => ∃ acc, H4 D = some (.lst acc) ∧ acc.length < sizeLine ∧ Nx (upd H4 D (.lst (acc ++ [y]))) else Nx H3) := by
  refine ⟨fun i m H => m = xs.length - i ∧ i ≤ xs.length ∧ Pv i H, ⟨xs.length, by simp, Nat.zero_le _, h0⟩, ?_⟩
  rintro i m H ⟨rfl, hi, p⟩
  have q := hl i H hi p
  by_cases lt : i < xs.length
  · have l2 : xs.length - 1 - i < xs.length := by omega
    refine .inr ⟨⟨lt, xs, xs[xs.length - 1 - i], q, List.getElem?_eq_getElem l2⟩, Pv (i + 1), fun H' p' => ⟨xs.length - (i + 1), by omega, rfl, lt, p'⟩, fun x H' y => ?_⟩
    obtain ⟨e, y⟩ := y
    subst e
    exact hs i x _ lt (y xs q) p
  · have e : i = xs.length := by omega
    refine .inl ⟨by show xs.length ≤ i; omega, hd H ?_⟩
    rw [← e]
    exact p
section
variable {P : Program} {w : World} {K : PySem.W.Frag} {mg : Str → Option Value} {base : Heap} {C : Addr}
theorem nfC : PySem.W.notFirst K C (.ref C) = true := by
  unfold PySem.W.notFirst
  rw [beq_self_eq_true]
  rfl
theorem eqLot {H : Hp} {Q : VK} {p o : Addr} {n m : Int} {cs ds : List Tr} (hp : LotAt C H p n cs) (ho : LotAt C H o m ds) (q : Q (.bl (decide (n = m ∧ cs = ds))) H) : rOwnEq K C (spEqL K C) (.ref p) (.ref o) H Q := by
  obtain ⟨dx, c, e, t⟩ := id hp
  obtain ⟨dy, c2, e2, t2⟩ := id ho
  exact ⟨p, dx, _, .ref C, rfl, e, .inr ⟨o, dy, _, rfl, e2, rfl⟩, nfC, p, _, n, cs, rfl, hp, .inl ⟨o, m, ds, rfl, ho, _, rfl, q⟩⟩
theorem eqTy {H : Hp} {Q : VK} {p : Addr} {y : V} {n : Int} {cs : List Tr} {T : String} (hp : LotAt C H p n cs) (ty : TyX K H y (.type T)) (t : PySem.W.notFirst K C (.type T) = true ∧ PySem.W.kitOne K (.type T) (.ref C) = some false) (q : Q (.bl false) H) : rOwnEq K C (spEqL K C) (.ref p) y H Q := by
  obtain ⟨dx, c, e, _⟩ := id hp
  exact ⟨p, dx, _, .type T, rfl, e, .inl ty, t.1, p, _, n, cs, rfl, hp, .inr ⟨_, ty, t.2, _, rfl, q⟩⟩
def spEqualL (C : Addr) : Sp := fun vs H Q _ => ∃ (p o h g : Addr) (n far : Int) (cs ds : List Tr), vs = [.ref p, .ref o, .int n, .ref h, .ref g, .int far] ∧ LotAt C H p n cs ∧ LotAt C H o n ds ∧ Trip H h cs ∧ Trip H g ds ∧ Good n cs ∧ Good n ds ∧ cs.length ≤ 1000 ∧ 0 ≤ n ∧ n ≤ 1000 ∧ ∀ H', Same H H' → Q (.bl true) H'
theorem ok_equal {f : Addr} {fd : FuncData} (F : Fun K "_law_equal" "_law_equal" s__law_equal f fd) (T : Bi mg) (T_rv : mg "reversed" = none) (L : LotC K mg C) {f_i : Addr} {d_i : FuncData} (M : Mk K C f_i) (b_i : Binds K d_i ["self", "pins", "cords"] []) (G_i : GI P w K mg base C f_i d_i) {f_eq : Addr} {d_eq : FuncData} (i_eq : PySem.W.findIn K (.ref C) "__eq__" = some (some (.ref f_eq))) (n_eq : PySem.W.isFn K (.ref f_eq) = true) (b_eq : Binds K d_eq ["self", "other"] []) (G_eq : FnOk P w K mg base CX0 1 f_eq d_eq ["self", "other"] (spEqL K C)) (t_eq : ∀ T ∈ ["int", "bool", "NoneType", "str", "list", "tuple"], PySem.W.notFirst K C (.type T) = true ∧ PySem.W.kitOne K (.type T) (.ref C) = some false) {f_s : Addr} {d_s : FuncData} (D_s : Df K mg "_law_same" s__law_same ["_law_value", "_law_due"] f_s d_s) (G_s : FnOk P w K mg base CX0 4 f_s d_s ["_law_value", "_law_due"] (spSame 2)) : FnOk P w K mg base CX0 8 f fd ["_law_lot", "_law_right", "_law_pins_here", "_law_held", "_law_wished", "_law_far"] (spEqualL C) := by
  refine F.ok sc__law_equal (fun vs H Q E h => ?_) (fun cdv A outer s H vs Q E hr h => ?_)
  · obtain ⟨_, _, _, _, _, _, _, _, rfl, _⟩ := h
    rfl
  · obtain ⟨p, o, h, g, n, far, cs, ds, rfl, hp, ho, hh, hg, gc, gd, hl, n0, n1, q⟩ := h
    have hu64 : (A.deeper (envOfC "_law_equal" (defScope s__law_equal) s.heap.objs.size f cdv)).units + 64 < cLine := hr.units
    refine ⟨_, (pss_cons (ps_set (i := 6) sc__law_equal.nd rfl (.inl rfl) (pe_make M G_i (hr.mono (by decide)) (by rfl) L.g b_i .nil pass0 (pa_cons (pv 2) (pa_cons (pe_lc (own := [("_law_entry", 8)]) (g := gName 8) (tt := tYes) rfl sc__law_equal.nd (pi_revA (by rfl) T_rv (pv 3)) (blkOk_by (own := [("_law_entry", 8)]) (N := ["_law_lot", "_law_right", "_law_pins_here", "_law_held", "_law_wished", "_law_far", "_law_same_here", "_law_thing", "_law_entry"]) (sc := defScope s__law_equal) (by decide +kernel)) (fun _ _ _ _ _ => (pg_name (i := 8) sc__law_equal.nd rfl (.inl rfl))) (fun _ _ _ _ _ => pts_nil) (fun _ _ _ _ _ => (pe_tup (pa_cons (pe_ix (r := rIxT K) ix_tup (pv 8) pe_int (fun _ _ => rfl)) (pa_cons (pe_ix (r := rIxT K) ix_tup (pv 8) pe_int (fun _ _ => rfl)) (pa_cons (pe_ix (r := rIxT K) ix_tup (pv 8) pe_int (fun _ _ => rfl)) pa_nil)))))) pa_nil))))
        (pss_cons (ps_if (PW.pt (pw_or (pt_not (pt_val (pe_call G_s (hr.mono (by decide)) (by rfl) D_s.g D_s.F.kp D_s.b .nil pass0 (pa_cons (pe_cmpR (by exact op_ownEqK rfl i_eq n_eq G_eq (hr.mono (by decide)) b_eq) (pv 0) (pv 6) (nomark _)) (pa_cons pe_bl pa_nil))))) (pw_or (pt_not (pt_val (pe_call G_s (hr.mono (by decide)) (by rfl) D_s.g D_s.F.kp D_s.b .nil pass0 (pa_cons (pe_cmpR (by exact op_ownEqK rfl i_eq n_eq G_eq (hr.mono (by decide)) b_eq) (pv 6) (pv 0) (nomark _)) (pa_cons pe_bl pa_nil))))) (pw_or1 (pt_not (pt_val (pe_call G_s (hr.mono (by decide)) (by rfl) D_s.g D_s.F.kp D_s.b .nil pass0 (pa_cons (pe_cmpR (by exact op_ownEqK rfl i_eq n_eq G_eq (hr.mono (by decide)) b_eq) (pv 0) (pv 0) (nomark _)) (pa_cons pe_bl pa_nil))))))))) (pss_one (ps_ret pe_bl)) pss_nil)
        (pss_cons (ps_if (PW.pt (pw_or (pt_not (pt_val (pe_call G_s (hr.mono (by decide)) (by rfl) D_s.g D_s.F.kp D_s.b .nil pass0 (pa_cons (pe_cmpR (by exact op_ownEqK rfl i_eq n_eq G_eq (hr.mono (by decide)) b_eq) (pv 0) (pv 1) (nomark _)) (pa_cons (pe_cmpR (by exact op_eqDK rfl hu64) (pv 3) (pv 4) (nomark _)) pa_nil))))) (pw_or1 (pt_not (pt_val (pe_call G_s (hr.mono (by decide)) (by rfl) D_s.g D_s.F.kp D_s.b .nil pass0 (pa_cons (pe_cmpR (by exact op_ownEqK rfl i_eq n_eq G_eq (hr.mono (by decide)) b_eq) (pv 1) (pv 0) (nomark _)) (pa_cons (pe_cmpR (by exact op_eqDK rfl hu64) (pv 3) (pv 4) (nomark _)) pa_nil)))))))) (pss_one (ps_ret pe_bl)) pss_nil)
        (pss_cons (ps_if (PW.pt (pw_and (pt_cmpR op_gt (pv 5) (pv 2) (nomark _)) (pw_and1 (pt_not (pt_val (pe_call G_s (hr.mono (by decide)) (by rfl) D_s.g D_s.F.kp D_s.b .nil pass0 (pa_cons (pe_cmpR (by exact op_ownEqK rfl i_eq n_eq G_eq (hr.mono (by decide)) b_eq) (pv 0) (pe_make M G_i (hr.mono (by decide)) (by rfl) L.g b_i .nil pass0 (pa_cons (pv 5) (pa_cons (pv 3) pa_nil))) (nomark _)) (pa_cons pe_bl pa_nil)))))))) (pss_one (ps_ret pe_bl)) pss_nil)
        (pss_cons (ps_for PassesOwn.never rfl (pi_list (pe_lst (pa_cons (pv 3) (pa_cons (pv 2) (pa_cons pe_str (pa_cons (pe_callTy call_list_of (by rfl) T.b_list (by decide +kernel) (pa_cons (pv 3) pa_nil)) (pa_cons (pe_tup (pa_cons (pv 2) (pa_cons (pv 3) pa_nil))) (pa_cons pe_non (pa_cons pe_bl pa_nil))))))))) (pg_name (i := 7) sc__law_equal.nd rfl (.inl rfl))
        (pss_one (ps_if (pt_not (pt_val (pe_call G_s (hr.mono (by decide)) (by rfl) D_s.g D_s.F.kp D_s.b .nil pass0 (pa_cons (pe_cmpR (by exact op_ownEqK rfl i_eq n_eq G_eq (hr.mono (by decide)) b_eq) (pv 0) (pv 7) (nomark _)) (pa_cons pe_bl pa_nil))))) (pss_one (ps_ret pe_bl)) pss_nil)))
        (pss_one (ps_ret pe_bl))))))), ?_⟩
    obtain ⟨hv, eh, th⟩ := id hh
    obtain ⟨gv, eg, tg⟩ := id hg
    refine ⟨_, rfl, _, rfl, h, hv, rfl, .inr ⟨.inl (.inl eh), fun O hO => ?_⟩⟩
    refine lc_revT (K := K) (a := h) (xs := hv) (fun i H2 => Same H H2 ∧ ∃ ys, H2 O = some (.lst ys) ∧ TrV H2 ys ((cs.reverse.map swp).take i)) ⟨same_upd hO, [], upd_same, rfl, fun i t e => by simp at e⟩ (fun i H2 _ pv => .inl (.inl (pv.1 _ _ eh))) (fun i x H2 hi hxi pv => ?_) (fun H2 pv => ?_)
    · obtain ⟨s2, ys, eO, tO⟩ := pv
      obtain ⟨u, t, rfl, hti, hu⟩ := (th.same s2).at_ hxi
      have hic : i < cs.length := by rw [← th.1]; exact hi
      have hti2 : (cs.reverse.map swp)[i]? = some (swp t) := by
        rw [List.getElem?_map, List.getElem?_reverse hic, ← th.1, hti]
        rfl
      have qu : SqT K H2 u (tv t) := .inl (.inl hu)
      have a0 : atI (tv t) 0 = some (.int t.1) := atI_nat (j := 0) rfl
      have a1 : atI (tv t) 1 = some (.int t.2.1) := atI_nat (j := 1) rfl
      have a2 : atI (tv t) 2 = some (.int t.2.2) := atI_nat (j := 2) rfl
      refine ⟨rfl, ?_⟩
      refine ⟨_, rfl, u, _, 1, _, rfl, rfl, qu, a1, _, rfl, u, _, 0, _, rfl, rfl, qu, a0, _, rfl, u, _, 2, _, rfl, rfl, qu, a2, by show 3 ≤ sizeLine; decide, fun z nz => ?_⟩
      have sz := same_upd (o := .tup [.int t.2.1, .int t.1, .int t.2.2]) nz
      have zO : O ≠ z := fun w => by rw [← w, eO] at nz; cases nz
      refine ⟨_, sz _ _ eO, ?_, same_put (H1 := H) hO (s2.trans sz), ys ++ [.ref z], upd_same, ?_⟩
      · rw [tO.1, List.length_take, List.length_map, List.length_reverse]
        exact Nat.lt_of_le_of_lt (Nat.min_le_right _ _) (small1000 hl)
      · rw [List.take_add_one, hti2]
        refine (tO.sameT (sameT_put eO sz)).snoc ?_
        rw [upd_ne (Ne.symm zO)]
        exact upd_same
    · obtain ⟨s2, ys, eO, tO⟩ := pv
      have hlen : hv.length = (cs.reverse.map swp).length := by rw [th.1, List.length_map, List.length_reverse]
      rw [hlen, List.take_length] at tO
      refine fun x dx nx nd ne => rd_make2 n0 (.inl (.inl (.inl eO))) tO (swp_vld gc.vld) (by rw [List.length_map, List.length_reverse]; exact hl) nx nd ne fun H3 r s3 hL hN => ?_
      obtain rfl := swp_norm gc hN
      have sC := s2.trans s3
      have dt : decide (n = n ∧ r = r) = true := decide_eq_true ⟨rfl, rfl⟩
      have d1 : decide (n = n ∧ r = ds) = decide (r = ds) := by simp
      have d2 : decide (n = n ∧ ds = r) = decide (r = ds) := by simp [eq_comm]
      refine ⟨rfl, ?_⟩
      refine ⟨_, rfl, _, rfl, eqLot (hp.same sC) hL ?_⟩
      rw [dt]
      refine ⟨_, _, rfl, EqV.bl _, true, rfl, ?_⟩
      refine ⟨_, rfl, _, rfl, eqLot hL (hp.same sC) ?_⟩
      rw [dt]
      refine ⟨_, _, rfl, EqV.bl _, true, rfl, ?_⟩
      refine ⟨_, rfl, _, rfl, eqLot (hp.same sC) (hp.same sC) ?_⟩
      rw [dt]
      refine ⟨_, _, rfl, EqV.bl _, true, rfl, ?_⟩
      refine ⟨_, rfl, _, rfl, eqLot (hp.same sC) (ho.same sC) ?_⟩
      refine ⟨_, rfl, _, rfl, _, _, (hh.same sC).dp, (hg.same sC).dp, shaped_tds _, shaped_tds _, ?_⟩
      rw [PyData.eqv, tds_eqv, d1]
      refine ⟨_, _, rfl, EqV.bl _, true, rfl, ?_⟩
      refine ⟨_, rfl, _, rfl, eqLot (ho.same sC) (hp.same sC) ?_⟩
      refine ⟨_, rfl, _, rfl, _, _, (hh.same sC).dp, (hg.same sC).dp, shaped_tds _, shaped_tds _, ?_⟩
      rw [PyData.eqv, tds_eqv, d2]
      refine ⟨_, _, rfl, EqV.bl _, true, rfl, ?_⟩
      refine ⟨_, rfl, _, rfl, _, _, rfl, rfl, _, rfl, ite2 (fun e => ?_) (fun e => ?_)⟩
      · have fn : n < far := of_decide_eq_true e
        refine ⟨_, rfl, _, rfl, _, rfl, ?_⟩
        refine fun x4 dx4 nx4 nd4 ne4 => rd_make2 (n := far) (show 0 ≤ far by omega) (.inr (.inl (.inl (sC _ _ eh)))) (th.same sC) (fun t ht => ?_) hl nx4 nd4 ne4 fun H4 r4 s4 hL4 hN4 => ?_
        · obtain ⟨v0, v1, v2, v3, v4, v5⟩ := gc.vld t ht
          exact ⟨v0, by omega, v2, by omega, v4, v5⟩
        · have sT := sC.trans s4
          refine ⟨rfl, ?_⟩
          refine eqLot (hp.same sT) hL4 ?_
          rw [show decide (n = far ∧ r = r4) = false from decide_eq_false fun z => by omega]
          refine ⟨_, _, rfl, EqV.bl _, true, rfl, ?_⟩
          refine ⟨_, rfl, _, rfl, _, rfl, h, hv, rfl, .inr (.inl (.inl (sT _ _ eh))), fun l5 n5 => ⟨_, rfl, _, rfl, by show 2 ≤ sizeLine; decide, fun z nz => ⟨by show 7 ≤ sizeLine; decide, fun B nB => ?_⟩⟩⟩
          have s5 := same_upd (o := .lst hv) n5
          have s6 := same_upd (o := .tup [.int n, .ref h]) nz
          have s7 := same_upd (o := .lst [.ref h, .int n, .str ("lot" : String), .ref l5, .ref z, .non, .bl true]) nB
          have sE := ((sT.trans s5).trans s6).trans s7
          refine ⟨B, rfl, ⟨_, .inl (.inl upd_same)⟩, for_list (xs := [.ref h, .int n, .str ("lot" : String), .ref l5, .ref z, .non, .bl true]) (fun i σ H' => (∃ y6 y7 y8, σ = [some (.ref p), some (.ref o), some (.int n), some (.ref h), some (.ref g), some (.int far), y6, y7, y8]) ∧ H' = (upd (upd (upd H4 l5 (.lst hv)) z (.tup [.int n, .ref h])) B (.lst [.ref h, .int n, .str ("lot" : String), .ref l5, .ref z, .non, .bl true]))) ⟨⟨_, _, _, rfl⟩, rfl⟩ (fun i σ H' _ pv => by rw [pv.2]; exact .inl (.inl upd_same)) (fun i y σ H' hiy pv => ?_) (fun σ H' pv => ?_)⟩
          · obtain ⟨⟨y6, y7, y8, rfl⟩, rfl⟩ := pv
            obtain ⟨Ty, my, ty⟩ : ∃ Ty ∈ ["int", "bool", "NoneType", "str", "list", "tuple"], TyX K (upd (upd (upd H4 l5 (.lst hv)) z (.tup [.int n, .ref h])) B (.lst [.ref h, .int n, .str ("lot" : String), .ref l5, .ref z, .non, .bl true])) y (.type Ty) := by
              match i, hiy with
              | 0, hiy => cases hiy; exact ⟨"tuple", by decide, .base (.tup (sE _ _ eh))⟩
              | 1, hiy => cases hiy; exact ⟨"int", by decide, .base (.int n)⟩
              | 2, hiy => cases hiy; exact ⟨"str", by decide, .base (.str _)⟩
              | 3, hiy => cases hiy; exact ⟨"list", by decide, .base (.lst (s7 _ _ (s6 _ _ upd_same)))⟩
              | 4, hiy => cases hiy; exact ⟨"tuple", by decide, .base (.tup (s7 _ _ upd_same))⟩
              | 5, hiy => cases hiy; exact ⟨"NoneType", by decide, .base .non⟩
              | 6, hiy => cases hiy; exact ⟨"bool", by decide, .base (.bl true)⟩
            exact ⟨_, rfl, _, rfl, eqTy (hp.same sE) ty (t_eq Ty my) ⟨_, _, rfl, EqV.bl _, true, rfl, ⟨_, _, _, rfl⟩, rfl⟩⟩
          · obtain ⟨⟨y6, y7, y8, rfl⟩, rfl⟩ := pv
            exact q _ sE
      · have sT := sC
        refine ⟨_, rfl, _, rfl, _, rfl, h, hv, rfl, .inr (.inl (.inl (sT _ _ eh))), fun l5 n5 => ⟨_, rfl, _, rfl, by show 2 ≤ sizeLine; decide, fun z nz => ⟨by show 7 ≤ sizeLine; decide, fun B nB => ?_⟩⟩⟩
        have s5 := same_upd (o := .lst hv) n5
        have s6 := same_upd (o := .tup [.int n, .ref h]) nz
        have s7 := same_upd (o := .lst [.ref h, .int n, .str ("lot" : String), .ref l5, .ref z, .non, .bl true]) nB
        have sE := ((sT.trans s5).trans s6).trans s7
        refine ⟨B, rfl, ⟨_, .inl (.inl upd_same)⟩, for_list (xs := [.ref h, .int n, .str ("lot" : String), .ref l5, .ref z, .non, .bl true]) (fun i σ H' => (∃ y6 y7 y8, σ = [some (.ref p), some (.ref o), some (.int n), some (.ref h), some (.ref g), some (.int far), y6, y7, y8]) ∧ H' = (upd (upd (upd H3 l5 (.lst hv)) z (.tup [.int n, .ref h])) B (.lst [.ref h, .int n, .str ("lot" : String), .ref l5, .ref z, .non, .bl true]))) ⟨⟨_, _, _, rfl⟩, rfl⟩ (fun i σ H' _ pv => by rw [pv.2]; exact .inl (.inl upd_same)) (fun i y σ H' hiy pv => ?_) (fun σ H' pv => ?_)⟩
        · obtain ⟨⟨y6, y7, y8, rfl⟩, rfl⟩ := pv
          obtain ⟨Ty, my, ty⟩ : ∃ Ty ∈ ["int", "bool", "NoneType", "str", "list", "tuple"], TyX K (upd (upd (upd H3 l5 (.lst hv)) z (.tup [.int n, .ref h])) B (.lst [.ref h, .int n, .str ("lot" : String), .ref l5, .ref z, .non, .bl true])) y (.type Ty) := by
            match i, hiy with
            | 0, hiy => cases hiy; exact ⟨"tuple", by decide, .base (.tup (sE _ _ eh))⟩
            | 1, hiy => cases hiy; exact ⟨"int", by decide, .base (.int n)⟩
            | 2, hiy => cases hiy; exact ⟨"str", by decide, .base (.str _)⟩
            | 3, hiy => cases hiy; exact ⟨"list", by decide, .base (.lst (s7 _ _ (s6 _ _ upd_same)))⟩
            | 4, hiy => cases hiy; exact ⟨"tuple", by decide, .base (.tup (s7 _ _ upd_same))⟩
            | 5, hiy => cases hiy; exact ⟨"NoneType", by decide, .base .non⟩
            | 6, hiy => cases hiy; exact ⟨"bool", by decide, .base (.bl true)⟩
          exact ⟨_, rfl, _, rfl, eqTy (hp.same sE) ty (t_eq Ty my) ⟨_, _, rfl, EqV.bl _, true, rfl, ⟨_, _, _, rfl⟩, rfl⟩⟩
        · obtain ⟨⟨y6, y7, y8, rfl⟩, rfl⟩ := pv
          exact q _ sE
end
end Own

namespace Own
open PySem PySem.Spec PyProof.Rows L2
/-! ### two tuples of entries joined; a part of one -/
section
variable {X : Cx}
def rCatTr : R2 := fun x y H Q => ∃ a b l m, x = .ref a ∧ y = .ref b ∧ Trip H a l ∧ Trip H b m ∧ l.length + m.length ≤ 1000 ∧ ∀ H' p, Same H H' → Trip H' p (l ++ m) → Q (.ref p) H'
theorem op_catTr : OpR X (binaryOp .Add) rCatTr := by
  intro pins s σ H x y v u Q I rx ry h
  obtain ⟨a, b, l, m, rfl, rfl, ⟨xs, ea, ta⟩, ⟨ys, eb, tb⟩, hl, q⟩ := h
  refine op_catA pins s σ H _ _ v u Q I rx ry ⟨a, b, xs, ys, rfl, rfl, .inl (.inl ea), .inl (.inl eb), ?_, fun hx => ?_, fun hx hy => ?_, fun hx hy p np => ?_⟩
  · rw [ta.1, tb.1]
    exact Nat.le_trans hl (by decide)
  · have : l = [] := List.eq_nil_of_length_eq_zero (by rw [← ta.1, hx]; rfl)
    subst this
    exact q H b (Same.refl H) ⟨ys, eb, tb⟩
  · have : m = [] := List.eq_nil_of_length_eq_zero (by rw [← tb.1, hy]; rfl)
    subst this
    rw [List.append_nil] at q
    exact q H a (Same.refl H) ⟨xs, ea, ta⟩
  · exact q _ p (same_upd np) ⟨xs ++ ys, upd_same, (ta.same (same_upd np)).app (tb.same (same_upd np))⟩
theorem TrV.cut {H : Hp} {vs : List V} {l : List Tr} (h : TrV H vs l) (i j : Nat) : TrV H ((vs.drop i).take j) ((l.drop i).take j) := by
  refine ⟨by rw [List.length_take, List.length_take, List.length_drop, List.length_drop, h.1], fun k t e => ?_⟩
  rw [List.getElem?_take] at e
  rw [List.getElem?_take]
  split at e
  · rw [List.getElem?_drop] at e
    rw [if_pos ‹_›, List.getElem?_drop]
    exact h.2 _ t e
  · cases e
/-- a part of a tuple of entries: some of them, in their order -/
def rSlTr (x : V) (lo hi : Option Int) (H : Hp) (Q : VK) : Prop := ∃ a l, x = .ref a ∧ Trip H a l ∧ ∀ H' p i j, Same H H' → Trip H' p ((l.drop i).take j) → Q (.ref p) H'
theorem sl_tr : SlR X rSlTr := by
  intro pins s σ H x v vl vu lo hi sl Q I rx hs pl pu h
  obtain ⟨a, l, rfl, ⟨xs, ea, ta⟩, q⟩ := h
  refine sl_tupA pins s σ H _ v vl vu lo hi sl Q I rx hs pl pu ⟨a, xs, rfl, .inl (.inl ea), fun hw => ?_, fun hw p np => ?_⟩
  · refine q H a 0 xs.length (Same.refl H) ⟨xs, ea, ?_⟩
    rw [ta.1, List.drop_zero, List.take_length]
    exact ta
  · exact q _ p _ _ (same_upd np) ⟨_, upd_same, (ta.same (same_upd np)).cut _ _⟩
end
theorem perm_erase : ∀ (l : List Int) (k : Nat) (h : k < l.length), (l[k] :: l.eraseIdx k).Perm l
  | x :: l, 0, _ => List.Perm.refl _
  | x :: l, k + 1, h => (List.Perm.swap x _ _).trans ((perm_erase l k (Nat.lt_of_succ_lt_succ h)).cons x)
theorem erase_map {α β : Type} (f : α → β) : ∀ (l : List α) (k : Nat), (l.map f).eraseIdx k = (l.eraseIdx k).map f
  | [], _ => rfl
  | x :: l, 0 => rfl
  | x :: l, k + 1 => by
    show f x :: (l.map f).eraseIdx k = f x :: (l.eraseIdx k).map f
    rw [erase_map f l k]
theorem mem_cut {l : List Tr} {i j : Nat} {t : Tr} (h : t ∈ (l.drop i).take j) : t ∈ l := List.mem_of_mem_drop (List.mem_of_mem_take h)
theorem len_cut (l : List Tr) (i j : Nat) : ((l.drop i).take j).length ≤ l.length := by
  rw [List.length_take, List.length_drop]
  omega
/-! ### a list of pairs of bunches -/
structure Bun (n : Int) (H : Hp) (a : Addr) (l : List Tr) : Prop where
  at_ : Trip H a l
  v : ∀ t ∈ l, Vld n t
  len : l.length ≤ 1000
theorem Trip.sameT {H H' : Hp} {a : Addr} {l : List Tr} (s : SameT H H') (h : Trip H a l) : Trip H' a l := by
  obtain ⟨vs, e, t⟩ := h
  exact ⟨vs, s _ _ e, t.sameT s⟩
def PairOk (n : Int) (L : Addr) (H : Hp) (v : V) : Prop := ∃ (q a b : Addr) (l m : List Tr), v = .ref q ∧ q ≠ L ∧ H q = some (.lst [.ref a, .ref b]) ∧ Bun n H a l ∧ Bun n H b m
theorem PairOk.same {n : Int} {L : Addr} {H H' : Hp} {v : V} (s : Same H H') (h : PairOk n L H v) : PairOk n L H' v := by
  obtain ⟨q, a, b, l, m, rfl, ne, e, x, y⟩ := h
  exact ⟨q, a, b, l, m, rfl, ne, s _ _ e, ⟨x.at_.same s, x.v, x.len⟩, ⟨y.at_.same s, y.v, y.len⟩⟩
theorem PairOk.put {n : Int} {L : Addr} {H : Hp} {v : V} {ws us : List V} (e : H L = some (.lst ws)) (h : PairOk n L H v) : PairOk n L (upd H L (.lst us)) v := by
  obtain ⟨q, a, b, l, m, rfl, ne, e2, x, y⟩ := h
  have s := sameT_put (ws := us) e (Same.refl H)
  exact ⟨q, a, b, l, m, rfl, ne, by rw [upd_ne ne]; exact e2, ⟨x.at_.sameT s, x.v, x.len⟩, ⟨y.at_.sameT s, y.v, y.len⟩⟩
structure NInv (n : Int) (Hb : Hp) (L : Addr) (k : Nat) (H : Hp) (vs : List V) : Prop where
  s : Same Hb H
  e : H L = some (.lst vs)
  l : vs.length ≤ k
  p : ∀ v ∈ vs, PairOk n L H v
theorem NInv.same {n : Int} {Hb H H' : Hp} {L : Addr} {k : Nat} {vs : List V} (s : Same H H') (I : NInv n Hb L k H vs) : NInv n Hb L k H' vs := ⟨I.s.trans s, s _ _ I.e, I.l, fun v hv => (I.p v hv).same s⟩
theorem NInv.add {n : Int} {Hb H : Hp} {L q a b : Addr} {k : Nat} {vs : List V} {l m : List Tr} (nL : Hb L = none) (I : NInv n Hb L k H vs) (nq : q ≠ L) (e : H q = some (.lst [.ref a, .ref b])) (x : Bun n H a l) (y : Bun n H b m) : NInv n Hb L (k + 1) (upd H L (.lst (vs ++ [.ref q]))) (vs ++ [.ref q]) := by
  refine ⟨same_put (H1 := Hb) nL I.s, upd_same, by rw [List.length_append]; exact Nat.succ_le_succ I.l, fun v hv => ?_⟩
  rcases List.mem_append.mp hv with hv | hv
  · exact (I.p v hv).put I.e
  · rw [List.mem_singleton.mp hv]
    exact PairOk.put I.e ⟨q, a, b, l, m, rfl, nq, e, x, y⟩
theorem NInv.le {n : Int} {Hb H : Hp} {L : Addr} {k j : Nat} {vs : List V} (I : NInv n Hb L k H vs) (h : k ≤ j) : NInv n Hb L j H vs := ⟨I.s, I.e, Nat.le_trans I.l h, I.p⟩
end Own

namespace Own
open PySem PySem.Spec PyProof.Rows L2
section
variable {P : Program} {w : World} {K : PySem.W.Frag} {mg : Str → Option Value} {base : Heap} {C : Addr}
def spNear : Sp := fun vs H Q _ => ∃ (h : Addr) (n c : Int) (cs : List Tr), vs = [.ref h, .int n, .int c] ∧ Trip H h cs ∧ Good n cs ∧ cs.length ≤ 500 ∧ 0 ≤ n ∧ n ≤ 1000 ∧ ∀ H' L vs, NInv n H L 4 H' vs → Q (.ref L) H'
theorem ok_near {f : Addr} {fd : FuncData} (F : Fun K "_law_near" "_law_near" s__law_near f fd) (T : Bi mg) {f_d : Addr} {d_d : FuncData} (D_d : Df K mg "_law_digits" s__law_digits ["_law_cell_here", "_law_sizes"] f_d d_d) (G_d : FnOk P w K mg base CX0 1 f_d d_d ["_law_cell_here", "_law_sizes"] (spDigs K)) : FnOk P w K mg base CX0 2 f fd ["_law_held", "_law_pins_here", "_law_cell_here"] spNear := by
  refine F.ok sc__law_near (fun vs H Q E h => ?_) (fun cdv A outer s H vs Q E hr h => ?_)
  · obtain ⟨_, _, _, _, rfl, _⟩ := h
    rfl
  · obtain ⟨h, n, c, cs, rfl, hh, gc, hl, n0, n1, q⟩ := h
    obtain ⟨hv, eh, th⟩ := id hh
    obtain ⟨tZ, hZ, qZ⟩ : ∃ tR, PSs (cxOf CX0 P w K mg base ["_law_held", "_law_pins_here", "_law_cell_here", "_law_pairs", "_law_first", "_law_last", "_law_draw", "_law_left", "_law_four", "_law_k", "_law_side", "_law_turned", "_law_p"] "_law_near" (defScope s__law_near) f cdv A outer s H E).nox ((defBody s__law_near).drop 2) tR ∧ ∀ (L : Addr) (ws : List V) (y4 y5 y11 : Option V) (H0 : Hp), H L = none → NInv n H L 3 H0 ws → tR { nx := fun _ H' => Q .non H', rt := Q } [some (.ref h), some (.int n), some (.int c), some (.ref L), y4, y5, none, none, none, none, none, y11, none] H0 := by
      refine ⟨_, (pss_cons (ps_if (pt_cmpR op_ge (pv 1) pe_int (nomark _)) (pss_cons (ps_set (i := 6) sc__law_near.nd rfl (.inl rfl) (pe_call G_d (hr.mono (by decide)) (by rfl) D_d.g D_d.F.kp D_d.b .nil pass0 (pa_cons (pv 2) (pa_cons (pe_lst (pa_cons (pv 1) (pa_cons (pe_op op_sub (pv 1) pe_int) (pa_cons (pe_op op_sub (pv 1) pe_int) (pa_cons (pe_op op_sub (pv 1) pe_int) pa_nil))))) pa_nil))))
        (pss_cons (ps_setLc (i := 7) (own := [("_law_p", 12)]) (g := gName 12) (tt := tYes) rfl sc__law_near.nd rfl rfl (sw_true rfl rfl rfl (by decide +kernel)) (pi_range1 (by rfl) T.b_range (pa_cons (pv 1) pa_nil)) (blkOk_by (own := [("_law_p", 12)]) (N := ["_law_held", "_law_pins_here", "_law_cell_here", "_law_pairs", "_law_first", "_law_last", "_law_draw", "_law_left", "_law_four", "_law_k", "_law_side", "_law_turned", "_law_p"]) (sc := defScope s__law_near) (by decide +kernel)) (fun _ _ _ _ _ => (pg_name (i := 12) sc__law_near.nd rfl (.inl rfl))) (fun _ _ _ _ _ => pts_nil) (fun _ _ _ _ _ => (pv 12)))
        (pss_cons (ps_set (i := 8) sc__law_near.nd rfl (.inl rfl) (pe_lst pa_nil))
        (pss_cons (ps_for PassesOwn.never rfl (pi_range1 (by rfl) T.b_range (pa_cons pe_int pa_nil)) (pg_name (i := 9) sc__law_near.nd rfl (.inl rfl))
        (pss_one (ps_expr (pe_bm PySem.F.plainAttrs_list PySem.F.slot_list_append PySem.F.type_list_append mt_append (pv 8) (pa_cons (pe_bm PySem.F.plainAttrs_list PySem.F.slot_list_pop PySem.F.type_list_pop mt_popAt (pv 7) (pa_cons (pe_ix (r := rIxL K) ix_list (pv 6) (pv 9) (fun _ _ => rfl)) pa_nil)) pa_nil)))))
        (pss_cons (ps_set (i := 10) sc__law_near.nd rfl (.inl rfl) (pe_op op_catTr (pv 0) (pe_tup (pa_cons (pe_tup (pa_cons (pe_ix (r := rIxL K) ix_list (pv 8) pe_int (fun _ _ => rfl)) (pa_cons (pe_ix (r := rIxL K) ix_list (pv 8) pe_int (fun _ _ => rfl)) (pa_cons pe_int pa_nil)))) (pa_cons (pe_tup (pa_cons (pe_ix (r := rIxL K) ix_list (pv 8) pe_int (fun _ _ => rfl)) (pa_cons (pe_ix (r := rIxL K) ix_list (pv 8) pe_int (fun _ _ => rfl)) (pa_cons pe_int pa_nil)))) pa_nil)))))
        (pss_one (ps_expr (pe_bm PySem.F.plainAttrs_list PySem.F.slot_list_append PySem.F.type_list_append mt_append (pv 3) (pa_cons (pe_lst (pa_cons (pv 10) (pa_cons (pe_op op_catTr (pv 0) (pe_tup (pa_cons (pe_tup (pa_cons (pe_ix (r := rIxL K) ix_list (pv 8) pe_int (fun _ _ => rfl)) (pa_cons (pe_ix (r := rIxL K) ix_list (pv 8) pe_int (fun _ _ => rfl)) (pa_cons pe_int pa_nil)))) (pa_cons (pe_tup (pa_cons (pe_ix (r := rIxL K) ix_list (pv 8) pe_int (fun _ _ => rfl)) (pa_cons (pe_ix (r := rIxL K) ix_list (pv 8) pe_int (fun _ _ => rfl)) (pa_cons pe_int pa_nil)))) pa_nil)))) pa_nil))) pa_nil))))))))) pss_nil)
        (pss_one (ps_ret (pv 3)))), ?_⟩
      intro L ws y4 y5 y11 H0 nL I
      refine ⟨_, rfl, n, 4, rfl, rfl, _, rfl, ite2 (fun e => ?_) (fun e => ?_)⟩
      · have n4 : 4 ≤ n := of_decide_eq_true e
        refine ⟨_, rfl, _, rfl, _, rfl, n, 1, rfl, rfl, _, rfl, n, 2, rfl, rfl, _, rfl, n, 3, rfl, rfl, by show 4 ≤ sizeLine; decide, fun b nb => ⟨c, b, [n, n - 1, n - 2, n - 3], rfl, .inl (.inl upd_same), by show 4 ≤ 1000; decide, fun x hx => ?_, fun H3 p3 ds s3 np3 ep3 dg3 => ?_⟩⟩
        · simp only [List.mem_cons, List.not_mem_nil, or_false] at hx
          omega
        obtain ⟨d0, d1, d2, d3, rfl, h0, h1, h2, h3⟩ := digs4 dg3
        replace I := I.same ((same_upd nb).trans s3)
        refine ⟨_, rfl, n, rfl, by omega, by omega, fun D nD => ?_⟩
        refine lc_range (lo := 0) (n := n.toNat) (fun i H' => Same H3 H' ∧ ∃ ls : List Int, H' D = some (.lst (ls.map V.int)) ∧ ls.length = i ∧ ls.Nodup ∧ ∀ x ∈ ls, 0 ≤ x ∧ x < (i : Int)) ⟨same_upd nD, [], upd_same, rfl, List.nodup_nil, by simp⟩ (fun i H' hi pv => ?_) (fun H' pv => ?_)
        · obtain ⟨s4, ls, eD, ll, nd, hx⟩ := pv
          refine ⟨rfl, ?_⟩
          refine ⟨_, rfl, _, eD, by rw [List.length_map, ll]; exact small1000 (by omega), same_put (H1 := H3) nD s4, ls ++ [(0 + (i : Int))], ?_, by rw [List.length_append, ll]; rfl, ?_, fun x hxm => ?_⟩
          · rw [List.map_append]
            exact upd_same
          · refine List.nodup_append.mpr ⟨nd, (by simp), fun a ha b hb => ?_⟩
            rw [List.mem_singleton.mp hb]
            have := hx a ha
            omega
          · rcases List.mem_append.mp hxm with hm | hm
            · have := hx x hm
              omega
            · rw [List.mem_singleton.mp hm]
              omega
        obtain ⟨s4, ls, eD, ll, nd, hx⟩ := pv
        refine ⟨Nat.zero_le _, fun Fo nF => ?_⟩
        have nF3 := s4.free nF
        have DF : D ≠ Fo := fun z => by rw [← z, eD] at nF; cases nF
        refine ⟨4, rfl, by decide, by decide, for_range (lo := 0) (n := 4) (fun i σ H2 => ∃ (ls fs : List Int) (y9 : Option V), σ = [some (.ref h), some (.int n), some (.int c), some (.ref L), y4, y5, some (.ref p3), some (.ref D), some (.ref Fo), y9, none, y11, none] ∧ Same H3 H2 ∧ H2 D = some (.lst (ls.map V.int)) ∧ H2 Fo = some (.lst (fs.map V.int)) ∧ fs.length = i ∧ ls.length + i = n.toNat ∧ (fs ++ ls).Nodup ∧ ∀ x ∈ fs ++ ls, 0 ≤ x ∧ x < n) ⟨ls, [], _, rfl, s4.trans (same_upd nF), by rw [upd_ne DF]; exact eD, upd_same, rfl, by omega, by simpa using nd, fun x hm => ?_⟩ (fun i σ H2 hi pv => ?_) (fun σ H2 pv => ?_)⟩
        · have := hx x (by simpa using hm)
          omega
        · obtain ⟨ls, fs, y9, rfl, s5, eD, eF, lf, ll, nd, hx⟩ := pv
          rw [Int.zero_add]
          obtain ⟨dk, ek, k0, k1⟩ : ∃ dk : Int, atI [V.int d0, .int d1, .int d2, .int d3] (i : Int) = some (.int dk) ∧ 0 ≤ dk ∧ dk < (ls.length : Int) := by
            match i, hi with
            | 0, _ => exact ⟨d0, atI_nat rfl, h0.1, by omega⟩
            | 1, _ => exact ⟨d1, atI_nat rfl, h1.1, by omega⟩
            | 2, _ => exact ⟨d2, atI_nat rfl, h2.1, by omega⟩
            | 3, _ => exact ⟨d3, atI_nat rfl, h3.1, by omega⟩
          have kl : dk.toNat < ls.length := by omega
          obtain ⟨ix1, ix2⟩ : ixN (ls.map V.int).length dk = some dk.toNat ∧ True := by
            refine ⟨?_, trivial⟩
            unfold ixN
            rw [if_pos k0, List.length_map, if_pos (by omega)]
          refine ⟨_, rfl, .inl ⟨rfl, _, .inl (.inl eF)⟩, _, rfl, .inl ⟨rfl, _, .inl (.inl eD)⟩, _, rfl, _, rfl, p3, _, _, _, rfl, rfl, .inl (.inl (s5 _ _ ep3)), ek, D, ls.map V.int, dk, dk.toNat, .int ls[dk.toNat], rfl, rfl, eD, by omega, by omega, (ixN_seq ix1).1, by rw [List.getElem?_map, List.getElem?_eq_getElem kl]; rfl, ?_⟩
          have pm : (fs ++ [ls[dk.toNat]] ++ ls.eraseIdx dk.toNat).Perm (fs ++ ls) := by
            rw [List.append_assoc]
            exact List.Perm.append_left fs (perm_erase ls _ kl)
          refine ⟨Fo, fs.map V.int, .int ls[dk.toNat], rfl, rfl, by rw [upd_ne (Ne.symm DF)]; exact eF, by rw [List.length_map]; exact small1000 (by omega), ?_⟩
          refine ⟨ls.eraseIdx dk.toNat, fs ++ [ls[dk.toNat]], _, rfl, same_put (H1 := H3) nF3 (same_put (H1 := H3) nD s5), ?_, ?_, by rw [List.length_append, lf]; rfl, by rw [List.length_eraseIdx_of_lt kl]; omega, pm.nodup_iff.mpr nd, fun x hm => hx x (pm.mem_iff.mp hm)⟩
          · rw [upd_ne DF, upd_same, erase_map]
          · rw [upd_same, List.map_append]
            rfl
        · obtain ⟨ls, fs, y9, rfl, s5, eD, eF, lf, ll, nd, hx⟩ := pv
          obtain ⟨a0, a1, a2, a3, rfl⟩ : ∃ a0 a1 a2 a3, fs = [a0, a1, a2, a3] := by
            match fs, lf with
            | [a0, a1, a2, a3], _ => exact ⟨_, _, _, _, rfl⟩
          have x0 := hx a0 (by simp)
          have x1 := hx a1 (by simp)
          have x2 := hx a2 (by simp)
          have x3 := hx a3 (by simp)
          have nd4 := (List.nodup_append.mp nd).1
          simp only [List.nodup_cons, List.mem_cons, List.not_mem_nil, or_false, not_or, List.nodup_nil, and_true, not_false_eq_true] at nd4
          obtain ⟨⟨n01, n02, n03⟩, ⟨n12, n13⟩, n23⟩ := nd4
          replace I := I.same s5
          have sB : Same H H2 := I.s
          have two : ∀ (u v w_ x : Int), (0 ≤ u ∧ u < n) → (0 ≤ v ∧ v < n) → (0 ≤ w_ ∧ w_ < n) → (0 ≤ x ∧ x < n) → u ≠ v → w_ ≠ x → (∀ t ∈ cs ++ [(u, v, 1), (w_, x, 1)], Vld n t) ∧ (cs ++ [(u, v, (1 : Int)), (w_, x, 1)]).length ≤ 1000 := fun u v w_ x hu hv hw hx e1 e2 => by
            refine ⟨fun t ht => ?_, by rw [List.length_append]; show cs.length + 2 ≤ 1000; omega⟩
            rcases List.mem_append.mp ht with ht | ht
            · exact gc.vld t ht
            · simp only [List.mem_cons, List.not_mem_nil, or_false] at ht
              rcases ht with rfl | rfl
              · exact ⟨hu.1, hu.2, hv.1, hv.2, e1, Int.le_refl _⟩
              · exact ⟨hw.1, hw.2, hx.1, hx.2, e2, Int.le_refl _⟩
          have at0 : atI [V.int a0, .int a1, .int a2, .int a3] 0 = some (.int a0) := atI_nat (j := 0) rfl
          have at1 : atI [V.int a0, .int a1, .int a2, .int a3] 1 = some (.int a1) := atI_nat (j := 1) rfl
          have at2 : atI [V.int a0, .int a1, .int a2, .int a3] 2 = some (.int a2) := atI_nat (j := 2) rfl
          have at3 : atI [V.int a0, .int a1, .int a2, .int a3] 3 = some (.int a3) := atI_nat (j := 3) rfl
          have qF : SqL K H2 Fo [V.int a0, .int a1, .int a2, .int a3] := .inl (.inl eF)
          refine ⟨_, rfl, _, rfl, Fo, _, 0, _, rfl, rfl, qF, at0, _, rfl, Fo, _, 1, _, rfl, rfl, qF, at1, by show 3 ≤ sizeLine; decide, fun t1 nt1 => ?_⟩
          have g1 := same_upd (o := .tup [.int a0, .int a1, .int 1]) nt1
          refine ⟨_, rfl, Fo, _, 2, _, rfl, rfl, g1.seq qF, at2, _, rfl, Fo, _, 3, _, rfl, rfl, g1.seq qF, at3, by show 3 ≤ sizeLine; decide, fun t2 nt2 => ⟨by show 2 ≤ sizeLine; decide, fun t3 nt3 => ?_⟩⟩
          have g2 := same_upd (o := .tup [.int a2, .int a3, .int 1]) nt2
          have g3 := same_upd (o := .tup [.ref t1, .ref t2]) nt3
          have gA := g1.trans (g2.trans g3)
          have w1 := two a0 a1 a2 a3 x0 x1 x2 x3 n01 n23
          refine ⟨h, t3, cs, [(a0, a1, 1), (a2, a3, 1)], rfl, rfl, hh.same (sB.trans gA), ⟨_, upd_same, rfl, fun i t e => ?_⟩, by show cs.length + 2 ≤ 1000; omega, fun H5 z5 s5 hz5 => ?_⟩
          · match i, e with
            | 0, e => cases e; exact ⟨t1, rfl, (g2.trans g3) _ _ upd_same⟩
            | 1, e => cases e; exact ⟨t2, rfl, g3 _ _ upd_same⟩
          have sA := gA.trans s5
          have qF5 : SqL K H5 Fo [V.int a0, .int a1, .int a2, .int a3] := sA.seq qF
          replace I := I.same sA
          refine ⟨_, rfl, .inl ⟨rfl, _, .inl (.inl I.e)⟩, _, rfl, _, rfl, _, rfl, Fo, _, 0, _, rfl, rfl, qF5, at0, _, rfl, Fo, _, 2, _, rfl, rfl, qF5, at2, by show 3 ≤ sizeLine; decide, fun t4 nt4 => ?_⟩
          have g4 := same_upd (o := .tup [.int a0, .int a2, .int 1]) nt4
          refine ⟨_, rfl, Fo, _, 1, _, rfl, rfl, g4.seq qF5, at1, _, rfl, Fo, _, 3, _, rfl, rfl, g4.seq qF5, at3, by show 3 ≤ sizeLine; decide, fun t5 nt5 => ⟨by show 2 ≤ sizeLine; decide, fun t6 nt6 => ?_⟩⟩
          have g5 := same_upd (o := .tup [.int a1, .int a3, .int 1]) nt5
          have g6 := same_upd (o := .tup [.ref t4, .ref t5]) nt6
          have gB := g4.trans (g5.trans g6)
          have w2 := two a0 a2 a1 a3 x0 x2 x1 x3 n02 n13
          refine ⟨h, t6, cs, [(a0, a2, 1), (a1, a3, 1)], rfl, rfl, hh.same (I.s.trans gB), ⟨_, upd_same, rfl, fun i t e => ?_⟩, by show cs.length + 2 ≤ 1000; omega, fun H7 z7 s7 hz7 => ⟨by show 2 ≤ sizeLine; decide, fun pq npq => ?_⟩⟩
          · match i, e with
            | 0, e => cases e; exact ⟨t4, rfl, (g5.trans g6) _ _ upd_same⟩
            | 1, e => cases e; exact ⟨t5, rfl, g6 _ _ upd_same⟩
          have g8 := same_upd (o := .lst [.ref z5, .ref z7]) npq
          have hz5' := hz5.same (gB.trans (s7.trans g8))
          have nqL : pq ≠ L := fun z => by
            have e8 := (gB.trans s7) _ _ I.e
            rw [← z, npq] at e8
            cases e8
          replace I := I.same (gB.trans (s7.trans g8))
          have IA := I.add nL nqL upd_same ⟨hz5', w1.1, w1.2⟩ ⟨hz7.same g8, w2.1, w2.2⟩
          exact ⟨L, ws, .ref pq, rfl, rfl, I.e, Nat.lt_of_le_of_lt I.l (by decide), _, rfl, q _ L _ IA⟩
      · exact ⟨_, rfl, q _ L ws (I.le (by decide))⟩
    refine ⟨_, (pss_cons (ps_set (i := 3) sc__law_near.nd rfl (.inl rfl) (pe_lst pa_nil))
        (pss_cons (ps_if (pt_cmpR op_gt (pe_callB call_len_seq (by rfl) T.b_len PySem.boot_len (pa_cons (pv 0) pa_nil)) pe_int (nomark _)) (pss_cons (ps_set (i := 4) sc__law_near.nd rfl (.inl rfl) (pe_ix (r := rIxT K) ix_tup (pv 0) pe_int (fun _ _ => rfl)))
        (pss_cons (ps_set (i := 5) sc__law_near.nd rfl (.inl rfl) (pe_ix (r := rIxT K) ix_tup (pv 0) (pe_op op_sub (pe_callB call_len_seq (by rfl) T.b_len PySem.boot_len (pa_cons (pv 0) pa_nil)) pe_int) (fun _ _ => rfl)))
        (pss_cons (ps_expr (pe_bm PySem.F.plainAttrs_list PySem.F.slot_list_append PySem.F.type_list_append mt_append (pv 3) (pa_cons (pe_lst (pa_cons (pv 0) (pa_cons (pe_slice sl_tr (pv 0) po_none (po_some (pe_op op_sub (pe_callB call_len_seq (by rfl) T.b_len PySem.boot_len (pa_cons (pv 0) pa_nil)) pe_int))) pa_nil))) pa_nil)))
        (pss_cons (ps_expr (pe_bm PySem.F.plainAttrs_list PySem.F.slot_list_append PySem.F.type_list_append mt_append (pv 3) (pa_cons (pe_lst (pa_cons (pv 0) (pa_cons (pe_op op_catTr (pv 0) (pe_tup (pa_cons (pe_tup (pa_cons (pe_ix (r := rIxT K) ix_tup (pv 5) pe_int (fun _ _ => rfl)) (pa_cons (pe_ix (r := rIxT K) ix_tup (pv 5) pe_int (fun _ _ => rfl)) (pa_cons pe_int pa_nil)))) pa_nil))) pa_nil))) pa_nil)))
        (pss_one (ps_if (pt_cmpR op_gt (pe_callB call_len_seq (by rfl) T.b_len PySem.boot_len (pa_cons (pv 0) pa_nil)) pe_int (nomark _)) (pss_cons (ps_set (i := 11) sc__law_near.nd rfl (.inl rfl) (pe_tup (pa_cons (pe_tup (pa_cons (pe_ix (r := rIxT K) ix_tup (pv 4) pe_int (fun _ _ => rfl)) (pa_cons (pe_ix (r := rIxT K) ix_tup (pv 4) pe_int (fun _ _ => rfl)) (pa_cons (pe_ix (r := rIxT K) ix_tup (pv 5) pe_int (fun _ _ => rfl)) pa_nil)))) (pa_cons (pe_tup (pa_cons (pe_ix (r := rIxT K) ix_tup (pv 5) pe_int (fun _ _ => rfl)) (pa_cons (pe_ix (r := rIxT K) ix_tup (pv 5) pe_int (fun _ _ => rfl)) (pa_cons (pe_ix (r := rIxT K) ix_tup (pv 4) pe_int (fun _ _ => rfl)) pa_nil)))) pa_nil))))
        (pss_one (ps_expr (pe_bm PySem.F.plainAttrs_list PySem.F.slot_list_append PySem.F.type_list_append mt_append (pv 3) (pa_cons (pe_lst (pa_cons (pv 0) (pa_cons (pe_op op_catTr (pe_slice sl_tr (pv 0) (po_some pe_int) (po_some (pe_op op_sub (pe_callB call_len_seq (by rfl) T.b_len PySem.boot_len (pa_cons (pv 0) pa_nil)) pe_int))) (pv 11)) pa_nil))) pa_nil))))) pss_nil)))))) pss_nil)
        hZ)), ?_⟩
    refine ⟨Nat.zero_le _, fun L nL => ?_⟩
    have I0 : NInv n H L 0 (upd H L (.lst [])) [] := ⟨same_upd nL, upd_same, Nat.le_refl _, by simp⟩
    refine ⟨_, rfl, h, hv, rfl, .inr (.inl (.inl (I0.s _ _ eh))), _, _, rfl, rfl, _, rfl, ite2 (fun e => ?_) (fun e => ?_)⟩
    · have lp : 0 < hv.length := by
        have := of_decide_eq_true e
        omega
      have lc : 0 < cs.length := by rw [← th.1]; exact lp
      obtain ⟨u0, t0, hu0, ht0, eu0⟩ := th.at_ (List.getElem?_eq_getElem lp)
      obtain ⟨ul, tl, hul, htl, eul⟩ := th.at_ (List.getElem?_eq_getElem (show hv.length - 1 < hv.length by omega))
      have i0 : atI hv 0 = some (.ref u0) := atI_nat (j := 0) (by rw [List.getElem?_eq_getElem lp, hu0])
      have il : atI hv ((hv.length : Int) - 1) = some (.ref ul) := by
        rw [show ((hv.length : Int) - 1) = ((hv.length - 1 : Nat) : Int) by omega]
        exact atI_nat (by rw [List.getElem?_eq_getElem (show hv.length - 1 < hv.length by omega), hul])
      have qh : ∀ H', Same H H' → SqT K H' h hv := fun H' s => .inl (.inl (s _ _ eh))
      refine ⟨_, rfl, h, _, 0, _, rfl, rfl, qh _ I0.s, i0, ?_⟩
      refine ⟨_, rfl, _, rfl, h, hv, rfl, .inr (qh _ I0.s), _, _, rfl, rfl, h, _, _, _, rfl, rfl, qh _ I0.s, il, ?_⟩
      have t0v := gc.vld t0 (List.mem_of_getElem? ht0)
      have tlv := gc.vld tl (List.mem_of_getElem? htl)
      have bun : ∀ (H' : Hp) (a : Addr) (l : List Tr), Trip H' a l → (∀ t ∈ l, Vld n t) → l.length ≤ 1000 → Bun n H' a l := fun _ _ _ x y z => ⟨x, y, z⟩
      have held : ∀ H', Same H H' → Bun n H' h cs := fun H' s => ⟨hh.same s, gc.vld, by omega⟩
      have new : ∀ {H' : Hp} {x : Addr} {o : HO}, H' L = some o → H' x = none → x ≠ L := fun e1 e2 z => by
        rw [z, e1] at e2
        cases e2
      refine ⟨_, rfl, .inl ⟨rfl, _, .inl (.inl I0.e)⟩, _, rfl, _, rfl, _, rfl, h, hv, rfl, .inr (qh _ I0.s), _, _, rfl, rfl, _, rfl, h, cs, rfl, hh.same I0.s, fun H1 x1 i1 j1 s1 hx1 => ⟨by show 2 ≤ sizeLine; decide, fun q1 nq1 => ?_⟩⟩
      have g1 := same_upd (o := .lst [.ref h, .ref x1]) nq1
      have I1 := I0.same (s1.trans g1)
      refine ⟨L, [], .ref q1, rfl, rfl, I1.e, by decide, ?_⟩
      replace I1 := I1.add nL (new (I0.same s1).e nq1) upd_same (held _ (I0.s.trans (s1.trans g1))) (bun _ x1 _ (hx1.same g1) (fun t ht => gc.vld t (mem_cut ht)) (Nat.le_trans (len_cut _ _ _) (by omega)))
      generalize upd (upd H1 q1 (.lst [.ref h, .ref x1])) L (.lst ([] ++ [.ref q1])) = G1 at I1 ⊢
      have qul : SqT K G1 ul (tv tl) := .inl (.inl (I1.s _ _ eul))
      have b0 : atI (tv tl) 0 = some (.int tl.1) := atI_nat (j := 0) rfl
      have b1 : atI (tv tl) 1 = some (.int tl.2.1) := atI_nat (j := 1) rfl
      have b2 : atI (tv tl) 2 = some (.int tl.2.2) := atI_nat (j := 2) rfl
      have a0 : atI (tv t0) 0 = some (.int t0.1) := atI_nat (j := 0) rfl
      have a1 : atI (tv t0) 1 = some (.int t0.2.1) := atI_nat (j := 1) rfl
      have a2 : atI (tv t0) 2 = some (.int t0.2.2) := atI_nat (j := 2) rfl
      refine ⟨_, rfl, .inl ⟨rfl, _, .inl (.inl I1.e)⟩, _, rfl, _, rfl, _, rfl, ul, _, 0, _, rfl, rfl, qul, b0, _, rfl, ul, _, 1, _, rfl, rfl, qul, b1, by show 3 ≤ sizeLine; decide, fun t1 nt1 => ⟨by show 1 ≤ sizeLine; decide, fun t2 nt2 => ?_⟩⟩
      have g2 := (same_upd (o := .tup [.int tl.1, .int tl.2.1, .int 1]) nt1).trans (same_upd (o := .tup [.ref t1]) nt2)
      have e1 := same_upd (o := .tup [.ref t1]) nt2 _ _ (show upd G1 t1 (.tup [.int tl.1, .int tl.2.1, .int 1]) t1 = some (.tup [.int tl.1, .int tl.2.1, .int 1]) from upd_same)
      refine ⟨h, t2, cs, [(tl.1, tl.2.1, 1)], rfl, rfl, hh.same (I1.s.trans g2), ⟨_, upd_same, rfl, fun i t e => ?_⟩, by show cs.length + 1 ≤ 1000; omega, fun H2 x2 s2 hx2 => ⟨by show 2 ≤ sizeLine; decide, fun q2 nq2 => ?_⟩⟩
      · match i, e with
        | 0, e => cases e; exact ⟨t1, rfl, e1⟩
      have g3 := same_upd (o := .lst [.ref h, .ref x2]) nq2
      have I2 := (I1.same g2).same (s2.trans g3)
      refine ⟨L, [] ++ [.ref q1], .ref q2, rfl, rfl, I2.e, by show 1 < sizeLine; decide, ?_⟩
      replace I2 := I2.add nL (new ((I1.same g2).same s2).e nq2) upd_same (held _ I2.s) (bun _ x2 _ (hx2.same g3) (fun t ht => ?_) (by rw [List.length_append]; show cs.length + 1 ≤ 1000; omega))
      rotate_left
      · rcases List.mem_append.mp ht with ht | ht
        · exact gc.vld t ht
        · rw [List.mem_singleton.mp ht]
          exact ⟨tlv.1, tlv.2.1, tlv.2.2.1, tlv.2.2.2.1, tlv.2.2.2.2.1, Int.le_refl _⟩
      generalize upd (upd H2 q2 (.lst [.ref h, .ref x2])) L (.lst ([] ++ [.ref q1] ++ [.ref q2])) = G2 at I2 ⊢
      refine ⟨_, rfl, h, hv, rfl, .inr (qh _ I2.s), _, _, rfl, rfl, _, rfl, ite2 (fun e => ?_) (fun e => ?_)⟩
      · have qu0 : SqT K G2 u0 (tv t0) := .inl (.inl (I2.s _ _ eu0))
        have qul : SqT K G2 ul (tv tl) := .inl (.inl (I2.s _ _ eul))
        refine ⟨_, rfl, u0, _, 0, _, rfl, rfl, qu0, a0, _, rfl, u0, _, 1, _, rfl, rfl, qu0, a1, _, rfl, ul, _, 2, _, rfl, rfl, qul, b2, by show 3 ≤ sizeLine; decide, fun t3 nt3 => ?_⟩
        have g4 := same_upd (o := .tup [.int t0.1, .int t0.2.1, .int tl.2.2]) nt3
        have qu0 : SqT K _ u0 (tv t0) := .inl (.inl (g4 _ _ (I2.s _ _ eu0)))
        have qul : SqT K _ ul (tv tl) := .inl (.inl (g4 _ _ (I2.s _ _ eul)))
        refine ⟨_, rfl, ul, _, 0, _, rfl, rfl, qul, b0, _, rfl, ul, _, 1, _, rfl, rfl, qul, b1, _, rfl, u0, _, 2, _, rfl, rfl, qu0, a2, by show 3 ≤ sizeLine; decide, fun t4 nt4 => ⟨by show 2 ≤ sizeLine; decide, fun t5 nt5 => ?_⟩⟩
        have g5 := same_upd (o := .tup [.int tl.1, .int tl.2.1, .int t0.2.2]) nt4
        have g6 := same_upd (o := .tup [.ref t3, .ref t4]) nt5
        have gA := g4.trans (g5.trans g6)
        have I3 := I2.same gA
        have e3 := (g5.trans g6) _ _ (show upd G2 t3 (.tup [.int t0.1, .int t0.2.1, .int tl.2.2]) t3 = some (.tup [.int t0.1, .int t0.2.1, .int tl.2.2]) from upd_same)
        have e4 := g6 _ _ (show upd (upd G2 t3 (.tup [.int t0.1, .int t0.2.1, .int tl.2.2])) t4 (.tup [.int tl.1, .int tl.2.1, .int t0.2.2]) t4 = some (.tup [.int tl.1, .int tl.2.1, .int t0.2.2]) from upd_same)
        refine ⟨_, rfl, .inl ⟨rfl, _, .inl (.inl I3.e)⟩, _, rfl, _, rfl, _, rfl, _, rfl, h, hv, rfl, .inr (qh _ I3.s), _, _, rfl, rfl, _, rfl, h, cs, rfl, hh.same I3.s, fun H4 x4 i4 j4 s4 hx4 => ?_⟩
        refine ⟨_, rfl, x4, t5, _, [(t0.1, t0.2.1, tl.2.2), (tl.1, tl.2.1, t0.2.2)], rfl, rfl, hx4, ⟨_, s4 _ _ upd_same, rfl, fun i t e => ?_⟩, ?_, fun H5 x5 s5 hx5 => ⟨by show 2 ≤ sizeLine; decide, fun q3 nq3 => ?_⟩⟩
        · match i, e with
          | 0, e => cases e; exact ⟨t3, rfl, s4 _ _ e3⟩
          | 1, e => cases e; exact ⟨t4, rfl, s4 _ _ e4⟩
        · have := len_cut cs i4 j4
          show _ + 2 ≤ 1000
          omega
        have g7 := same_upd (o := .lst [.ref h, .ref x5]) nq3
        have I4 := (I3.same s4).same (s5.trans g7)
        refine ⟨L, _, .ref q3, rfl, rfl, I4.e, by show 2 < sizeLine; decide, ?_⟩
        replace I4 := I4.add nL (new ((I3.same s4).same s5).e nq3) upd_same (held _ I4.s) (bun _ x5 _ (hx5.same g7) (fun t ht => ?_) (by rw [List.length_append]; have := len_cut cs i4 j4; show _ + 2 ≤ 1000; omega))
        · exact qZ L _ _ _ _ _ nL I4
        · rcases List.mem_append.mp ht with ht | ht
          · exact gc.vld t (mem_cut ht)
          · simp only [List.mem_cons, List.not_mem_nil, or_false] at ht
            rcases ht with rfl | rfl
            · exact ⟨t0v.1, t0v.2.1, t0v.2.2.1, t0v.2.2.2.1, t0v.2.2.2.2.1, tlv.2.2.2.2.2⟩
            · exact ⟨tlv.1, tlv.2.1, tlv.2.2.1, tlv.2.2.2.1, tlv.2.2.2.2.1, t0v.2.2.2.2.2⟩
      · exact qZ L _ _ _ _ _ nL (I2.le (by decide))
    · exact qZ L [] none none none _ nL (I0.le (by decide))
end
end Own

namespace Own
open PySem PySem.Spec PyProof.Rows L2 RT
section
variable {P : Program} {w : World} {K : PySem.W.Frag} {mg : Str → Option Value} {base : Heap} {C : Addr}
def spNearEq : Sp := fun vs H Q _ => ∃ (h : Addr) (n c : Int) (cs : List Tr), vs = [.ref h, .int n, .int c] ∧ Trip H h cs ∧ Good n cs ∧ cs.length ≤ 500 ∧ 0 ≤ n ∧ n ≤ 1000 ∧ ∀ H', Same H H' → Q (.bl true) H'
theorem ok_neareq {f : Addr} {fd : FuncData} (F : Fun K "_law_near_equal" "_law_near_equal" s__law_near_equal f fd) (T : Bi mg) (L : LotC K mg C) {f_i : Addr} {d_i : FuncData} (M : Mk K C f_i) (b_i : Binds K d_i ["self", "pins", "cords"] []) (G_i : GI P w K mg base C f_i d_i) {f_eq : Addr} {d_eq : FuncData} (i_eq : PySem.W.findIn K (.ref C) "__eq__" = some (some (.ref f_eq))) (n_eq : PySem.W.isFn K (.ref f_eq) = true) (b_eq : Binds K d_eq ["self", "other"] []) (G_eq : FnOk P w K mg base CX0 1 f_eq d_eq ["self", "other"] (spEqL K C)) {f_s : Addr} {d_s : FuncData} (D_s : Df K mg "_law_same" s__law_same ["_law_value", "_law_due"] f_s d_s) (G_s : FnOk P w K mg base CX0 4 f_s d_s ["_law_value", "_law_due"] (spSame 2)) {f_n : Addr} {d_n : FuncData} (D_n : Df K mg "_law_norm" s__law_norm ["_law_triples"] f_n d_n) (G_n : FnOk P w K mg base CX0 1 f_n d_n ["_law_triples"] (spNorm K)) {f_nr : Addr} {d_nr : FuncData} (D_nr : Df K mg "_law_near" s__law_near ["_law_held", "_law_pins_here", "_law_cell_here"] f_nr d_nr) (G_nr : FnOk P w K mg base CX0 2 f_nr d_nr ["_law_held", "_law_pins_here", "_law_cell_here"] spNear) : FnOk P w K mg base CX0 8 f fd ["_law_held", "_law_pins_here", "_law_cell_here"] spNearEq := by
  refine F.ok sc__law_near_equal (fun vs H Q E h => ?_) (fun cdv A outer s H vs Q E hr h => ?_)
  · obtain ⟨_, _, _, _, rfl, _⟩ := h
    rfl
  · obtain ⟨h, n, c, cs, rfl, hh, gc, hl, n0, n1, q⟩ := h
    have hu64 : (A.deeper (envOfC "_law_near_equal" (defScope s__law_near_equal) s.heap.objs.size f cdv)).units + 64 < cLine := hr.units
    refine ⟨_, (pss_cons (ps_for PassesOwn.never rfl (pi_list (pe_call G_nr (hr.mono (by decide)) (by rfl) D_nr.g D_nr.F.kp D_nr.b .nil pass0 (pa_cons (pv 0) (pa_cons (pv 1) (pa_cons (pv 2) pa_nil))))) (pg_name (i := 3) sc__law_near_equal.nd rfl (.inl rfl))
        (pss_cons (ps_set (i := 4) sc__law_near_equal.nd rfl (.inl rfl) (pe_cmpR (by exact op_eqDK rfl hu64) (pe_call G_n (hr.mono (by decide)) (by rfl) D_n.g D_n.F.kp D_n.b .nil pass0 (pa_cons (pe_ix (r := rIxL K) ix_list (pv 3) pe_int (fun _ _ => rfl)) pa_nil)) (pe_call G_n (hr.mono (by decide)) (by rfl) D_n.g D_n.F.kp D_n.b .nil pass0 (pa_cons (pe_ix (r := rIxL K) ix_list (pv 3) pe_int (fun _ _ => rfl)) pa_nil)) (nomark _)))
        (pss_cons (ps_set (i := 5) sc__law_near_equal.nd rfl (.inl rfl) (pe_make M G_i (hr.mono (by decide)) (by rfl) L.g b_i .nil pass0 (pa_cons (pv 1) (pa_cons (pe_ix (r := rIxL K) ix_list (pv 3) pe_int (fun _ _ => rfl)) pa_nil))))
        (pss_cons (ps_set (i := 6) sc__law_near_equal.nd rfl (.inl rfl) (pe_make M G_i (hr.mono (by decide)) (by rfl) L.g b_i .nil pass0 (pa_cons (pv 1) (pa_cons (pe_callTy call_list_of (by rfl) T.b_list (by decide +kernel) (pa_cons (pe_ix (r := rIxL K) ix_list (pv 3) pe_int (fun _ _ => rfl)) pa_nil)) pa_nil))))
        (pss_one (ps_if (PW.pt (pw_or (pt_not (pt_val (pe_call G_s (hr.mono (by decide)) (by rfl) D_s.g D_s.F.kp D_s.b .nil pass0 (pa_cons (pe_cmpR (by exact op_ownEqK rfl i_eq n_eq G_eq (hr.mono (by decide)) b_eq) (pv 5) (pv 6) (nomark _)) (pa_cons (pv 4) pa_nil))))) (pw_or1 (pt_not (pt_val (pe_call G_s (hr.mono (by decide)) (by rfl) D_s.g D_s.F.kp D_s.b .nil pass0 (pa_cons (pe_cmpR (by exact op_ownEqK rfl i_eq n_eq G_eq (hr.mono (by decide)) b_eq) (pv 6) (pv 5) (nomark _)) (pa_cons (pv 4) pa_nil)))))))) (pss_one (ps_ret pe_bl)) pss_nil))))))
        (pss_one (ps_ret pe_bl))), ?_⟩
    refine ⟨_, rfl, _, rfl, _, rfl, h, n, c, cs, rfl, hh, gc, hl, n0, n1, fun H1 B ws I => ?_⟩
    refine ⟨B, rfl, ⟨_, .inl (.inl I.e)⟩, for_list (xs := ws) (fun i σ H' => (∃ y3 y4 y5 y6, σ = [some (.ref h), some (.int n), some (.int c), y3, y4, y5, y6]) ∧ Same H1 H') ⟨⟨_, _, _, _, rfl⟩, Same.refl _⟩ (fun i σ H' _ pv => .inl (.inl (pv.2 _ _ I.e))) (fun i x σ H' hxi pv => ?_) (fun σ H' pv => ?_)⟩
    · obtain ⟨⟨y3, y4, y5, y6, rfl⟩, s1⟩ := pv
      obtain ⟨qq, a, b, l, m, rfl, _, eq, xa, xb⟩ := (I.p x (List.mem_of_getElem? hxi)).same s1
      have a0 : atI [V.ref a, .ref b] 0 = some (.ref a) := atI_nat (j := 0) rfl
      have a1 : atI [V.ref a, .ref b] 1 = some (.ref b) := atI_nat (j := 1) rfl
      have qq_ : ∀ H', Same _ H' → SqL K H' qq [V.ref a, .ref b] := fun H' s => .inl (.inl (s _ _ eq))
      obtain ⟨va, ea, ta⟩ := id xa.at_
      obtain ⟨vb, eb, tb⟩ := id xb.at_
      refine ⟨_, rfl, qq, _, 0, _, rfl, rfl, qq_ _ (Same.refl _), a0, a, va, l, rfl, .inr (.inl (.inl ea)), ta, xa.len, fun H2 c1 r1 s2 hc1 gn1 => ?_⟩
      refine ⟨_, rfl, qq, _, 1, _, rfl, rfl, qq_ _ s2, a1, b, vb, m, rfl, .inr (.inl (.inl (s2 _ _ eb))), tb.same s2, xb.len, fun H3 c2 r2 s3 hc2 gn2 => ?_⟩
      have in1 := gn1.norm fun t ht => (xa.v t ht).2.2.2.2.2
      have in2 := gn2.norm fun t ht => (xb.v t ht).2.2.2.2.2
      refine ⟨_, _, (hc1.same s3).dp, hc2.dp, shaped_tds _, shaped_tds _, ?_⟩
      rw [PyData.eqv, tds_eqv]
      have s23 := s2.trans s3
      refine ⟨_, rfl, _, rfl, qq, _, 0, _, rfl, rfl, qq_ _ s23, a0, ?_⟩
      refine fun x dx nx nd ne => rd_make2 n0 (.inr (.inl (.inl (s23 _ _ ea)))) (ta.same s23) xa.v xa.len nx nd ne fun H4 r s4 hL hN => ⟨rfl, ?_⟩
      obtain rfl := norm_uniq hN in1
      have s234 := s23.trans s4
      refine ⟨_, rfl, _, rfl, qq, _, 1, _, rfl, rfl, qq_ _ s234, a1, ?_⟩
      refine ⟨b, vb, rfl, .inr (.inl (.inl (s234 _ _ eb))), fun l5 n5 => ?_⟩
      have g5 := same_upd (o := .lst vb) n5
      refine fun x6 dx6 nx6 nd6 ne6 => rd_make2 n0 (.inl (.inl (.inl upd_same))) (tb.same (s234.trans g5)) xb.v xb.len nx6 nd6 ne6 fun H7 r7 s7 hL7 hN7 => ⟨rfl, ?_⟩
      obtain rfl := norm_uniq hN7 in2
      have sE := s1.trans (s234.trans (g5.trans s7))
      have hL' := hL.same (g5.trans s7)
      have d1 : decide (n = n ∧ r = r7) = decide (r = r7) := by simp
      have d2 : decide (n = n ∧ r7 = r) = decide (r = r7) := by simp [eq_comm]
      refine ⟨_, rfl, _, rfl, eqLot hL' hL7 ?_⟩
      rw [d1]
      refine ⟨_, rfl, _, _, rfl, EqV.bl _, true, rfl, ?_⟩
      refine ⟨_, rfl, _, rfl, eqLot hL7 hL' ?_⟩
      rw [d2]
      exact ⟨_, rfl, _, _, rfl, EqV.bl _, true, rfl, ⟨_, _, _, _, rfl⟩, sE⟩
    · obtain ⟨⟨y3, y4, y5, y6, rfl⟩, s1⟩ := pv
      exact q _ (I.s.trans s1)
end
end Own

namespace Own
open PySem PySem.Spec PyProof.Rows L2
/-! ### parts of a bunch -/
theorem norm_comm {l m r : List Tr} (h : IsNorm (l ++ m) r) : IsNorm (m ++ l) r := by
  refine ⟨h.srt, fun p => ?_, fun e he => ?_⟩
  · rw [h.mem, List.map_append, List.map_append, List.mem_append, List.mem_append, or_comm]
  · rw [h.cnt e he]
    unfold tot
    rw [bk_append, bk_append, Int.add_comm]
def Part : List Tr → List Tr → Prop
  | [], [] => True
  | t :: l, u :: m => (u.1 = t.1 ∧ u.2.1 = t.2.1 ∧ 0 ≤ u.2.2 ∧ u.2.2 ≤ t.2.2) ∧ Part l m
  | _, _ => False
theorem Part.snoc {t u : Tr} (h : u.1 = t.1 ∧ u.2.1 = t.2.1 ∧ 0 ≤ u.2.2 ∧ u.2.2 ≤ t.2.2) : ∀ {l m : List Tr}, Part l m → Part (l ++ [t]) (m ++ [u])
  | [], [], _ => ⟨h, trivial⟩
  | _ :: _, _ :: _, k => ⟨k.1, Part.snoc h k.2⟩
theorem Part.len : ∀ {l m : List Tr}, Part l m → m.length = l.length
  | [], [], _ => rfl
  | _ :: _, _ :: _, k => congrArg (· + 1) (Part.len k.2)
theorem Part.nn : ∀ {l m : List Tr}, Part l m → ∀ u ∈ m, 0 ≤ u.2.2
  | [], [], _, _, h => by cases h
  | t :: l, u :: m, k, e, h => by
    rcases List.mem_cons.mp h with rfl | h
    · exact k.1.2.2.1
    · exact Part.nn k.2 e h
theorem Part.vld {n : Int} : ∀ {l m : List Tr}, Part l m → (∀ t ∈ l, Vld n t) → ∀ u ∈ pos m, Vld n u ∧ (∀ t ∈ l, t.1 < t.2.1 → True)
  | [], [], _, _, _, h => by cases h
  | t :: l, u :: m, k, v, e, h => by
    refine ⟨?_, fun _ _ _ => trivial⟩
    rcases List.mem_filter.mp h with ⟨hm, hp⟩
    rcases List.mem_cons.mp hm with rfl | hm
    · obtain ⟨v0, v1, v2, v3, v4, v5⟩ := v t (by simp)
      have := of_decide_eq_true hp
      exact ⟨by rw [k.1.1]; exact v0, by rw [k.1.1]; exact v1, by rw [k.1.2.1]; exact v2, by rw [k.1.2.1]; exact v3, by rw [k.1.1, k.1.2.1]; exact v4, by omega⟩
    · exact (Part.vld k.2 (fun t ht => v t (List.mem_cons_of_mem _ ht)) e (List.mem_filter.mpr ⟨hm, hp⟩)).1
theorem Part.ord : ∀ {l m : List Tr}, Part l m → (∀ t ∈ l, t.1 < t.2.1) → ∀ u ∈ m, u.1 < u.2.1
  | [], [], _, _, _, h => by cases h
  | t :: l, u :: m, k, v, e, h => by
    rcases List.mem_cons.mp h with rfl | h
    · have := v t (by simp)
      rw [k.1.1, k.1.2.1]
      exact this
    · exact Part.ord k.2 (fun t ht => v t (List.mem_cons_of_mem _ ht)) e h
theorem Part.le (p : Int × Int) : ∀ {l m : List Tr}, Part l m → (∀ t ∈ l, 1 ≤ t.2.2) → cnt (pos m) p ≤ cnt l p
  | [], [], _, _ => Int.le_refl _
  | t :: l, u :: m, k, v => by
    have ih := Part.le p k.2 fun t ht => v t (List.mem_cons_of_mem _ ht)
    have tp := v t (by simp)
    have e : pr u = pr t := Prod.ext k.1.1 k.1.2.1
    rw [cnt_cons]
    by_cases z : 0 < u.2.2
    · rw [show pos (u :: m) = u :: pos m from List.filter_cons_of_pos (decide_eq_true z), cnt_cons, e]
      by_cases w : pr t = p
      · rw [if_pos w, if_pos w]
        have := k.1.2.2.2
        omega
      · rw [if_neg w, if_neg w]
        omega
    · rw [show pos (u :: m) = pos m from List.filter_cons_of_neg (by simpa using z)]
      by_cases w : pr t = p
      · rw [if_pos w]
        omega
      · rw [if_neg w]
        omega
theorem part_norm {n : Int} {cs m r : List Tr} (g : Good n cs) (h : Part cs m) (gn : GN m r) : Good n r ∧ r.length ≤ cs.length ∧ ∀ p, cnt r p ≤ cnt cs p := by
  have i := gn_pos gn h.nn
  have gr := i.good fun t ht => (h.vld g.vld t ht).1
  refine ⟨gr, ?_, fun p => ?_⟩
  · rw [← h.len]
    exact Nat.le_trans i.len (List.length_filter_le _ _)
  · rw [cnt_norm i (fun e he => h.ord g.lt e (List.mem_filter.mp he).1) p]
    exact h.le p g.pos
theorem self_norm {n : Int} {r x : List Tr} (g : Good n r) (h : IsNorm r x) : x = r := norm_uniq h g.self
theorem self_gn {n : Int} {r x : List Tr} (g : Good n r) (h : GN r x) : x = r := self_norm g (h.norm g.pos)
end Own

namespace Own
open PySem PySem.Spec PyProof.Rows L2 RT
section
variable {P : Program} {w : World} {K : PySem.W.Frag} {mg : Str → Option Value} {base : Heap} {C D : Addr}
theorem digs2 {ds : List Int} {a b : Int} (h : Digs ds [a, b]) : ∃ w x, ds = [w, x] ∧ (0 ≤ w ∧ w < a) ∧ (0 ≤ x ∧ x < b) := by
  have hl := h.1
  match ds, hl with
  | [w, x], _ => exact ⟨w, x, rfl, h.2 0 w a rfl rfl, h.2 1 x b rfl rfl⟩
def spDiff (K : PySem.W.Frag) (C : Addr) : Sp := fun vs H Q _ => ∃ (p o h g l : Addr) (n : Int) (ns : List Int) (cs ds : List Tr), vs = [.ref p, .ref o, .int n, .ref h, .ref g, .ref l] ∧ LotAt C H p n cs ∧ LotAt C H o n ds ∧ Trip H h cs ∧ Trip H g ds ∧ Good n cs ∧ Good n ds ∧ cs.length ≤ 400 ∧ ds.length ≤ 400 ∧ (∀ t ∈ cs, t.2.2 ≤ 500000000) ∧ 0 ≤ n ∧ n ≤ 1000 ∧ SqL K H l (ns.map V.int) ∧ ns.length ≤ 1000 ∧ ∀ H', Same H H' → Q (.bl true) H'
set_option maxHeartbeats 0 in
theorem ok_diff {f : Addr} {fd : FuncData} (F : Fun K "_law_differences" "_law_differences" s__law_differences f fd) (T : Bi mg) (L : LotC K mg C) (s_c : PySem.W.selfFirst K C = true) {f_i : Addr} {d_i : FuncData} (M : Mk K C f_i) (b_i : Binds K d_i ["self", "pins", "cords"] []) (G_i : GI P w K mg base C f_i d_i) {f_add : Addr} {d_add : FuncData} (i_add : PySem.W.findIn K (.ref C) "__add__" = some (some (.ref f_add))) (n_add : PySem.W.isFn K (.ref f_add) = true) (b_add : Binds K d_add ["self", "other"] []) (G_add : FnOk P w K mg base (L2N.CX P w) 7 f_add d_add ["self", "other"] (spAddX C D)) {f_n : Addr} {d_n : FuncData} (D_n : Df K mg "_law_norm" s__law_norm ["_law_triples"] f_n d_n) (G_n : FnOk P w K mg base CX0 1 f_n d_n ["_law_triples"] (spNorm K)) {f_c : Addr} {d_c : FuncData} (D_c : Df K mg "_law_cell" s__law_cell ["_law_script", "_law_k"] f_c d_c) (G_c : FnOk P w K mg base CX0 1 f_c d_c ["_law_script", "_law_k"] (spCell K)) {f_d : Addr} {d_d : FuncData} (D_d : Df K mg "_law_digits" s__law_digits ["_law_cell_here", "_law_sizes"] f_d d_d) (G_d : FnOk P w K mg base CX0 1 f_d d_d ["_law_cell_here", "_law_sizes"] (spDigs K)) {f_lc : Addr} {d_lc : FuncData} (D_lc : Df K mg "_law_count" s__law_count ["_law_bunch", "_law_left", "_law_right"] f_lc d_lc) (G_lc : FnOk P w K mg base CX0 1 f_lc d_lc ["_law_bunch", "_law_left", "_law_right"] (spLCount K)) {f_tk : Addr} {d_tk : FuncData} (D_tk : Df K mg "_law_taken" s__law_taken ["_law_left", "_law_right", "_law_pins_here", "_law_held", "_law_gone"] f_tk d_tk) (G_tk : FnOk P w K mg base CX0 9 f_tk d_tk ["_law_left", "_law_right", "_law_pins_here", "_law_held", "_law_gone"] (spTaken C)) : FnOk P w K mg base CX0 10 f fd ["_law_left", "_law_right", "_law_pins_here", "_law_held", "_law_wished", "_law_script"] (spDiff K C) := by
  refine F.ok sc__law_differences (fun vs H Q E h => ?_) (fun cdv A outer s H vs Q E hr h => ?_)
  · obtain ⟨_, _, _, _, _, _, _, _, _, rfl, _⟩ := h
    rfl
  · obtain ⟨p, o, h, g, l, n, ns, cs, ds, rfl, hp, ho, hh, hg, gc, gd, lc, ld, bc, n0, n1, hs, hn, q⟩ := h
    refine ⟨_, (pss_cons (ps_set (i := 6) sc__law_differences.nd rfl (.inl rfl) (pe_call G_n (hr.mono (by decide)) (by rfl) D_n.g D_n.F.kp D_n.b .nil pass0 (pa_cons (pe_op op_catTr (pv 3) (pv 4)) pa_nil)))
        (pss_cons (ps_if (PW.pt (pw_or (pt_not (pt_val (pe_call G_tk (hr.mono (by decide)) (by rfl) D_tk.g D_tk.F.kp D_tk.b .nil pass0 (pa_cons (pe_ownB s_c i_add n_add G_add (hr.mono (by decide)) b_add (E := fun _ => E0) (fun σ pins H s e s' I h => passN pins σ H s e s' I h) (pv 0) (pv 1)) (pa_cons (pv 1) (pa_cons (pv 2) (pa_cons (pv 6) (pa_cons (pv 4) pa_nil)))))))) (pw_or1 (pt_not (pt_val (pe_call G_tk (hr.mono (by decide)) (by rfl) D_tk.g D_tk.F.kp D_tk.b .nil pass0 (pa_cons (pe_ownB s_c i_add n_add G_add (hr.mono (by decide)) b_add (E := fun _ => E0) (fun σ pins H s e s' I h => passN pins σ H s e s' I h) (pv 1) (pv 0)) (pa_cons (pv 0) (pa_cons (pv 2) (pa_cons (pv 6) (pa_cons (pv 3) pa_nil))))))))))) (pss_one (ps_ret pe_bl)) pss_nil)
        (pss_cons (ps_if (PW.pt (pw_or (pt_not (pt_val (pe_call G_tk (hr.mono (by decide)) (by rfl) D_tk.g D_tk.F.kp D_tk.b .nil pass0 (pa_cons (pv 0) (pa_cons (pv 1) (pa_cons (pv 2) (pa_cons (pv 3) (pa_cons (pv 4) pa_nil)))))))) (pw_or1 (pt_not (pt_val (pe_call G_tk (hr.mono (by decide)) (by rfl) D_tk.g D_tk.F.kp D_tk.b .nil pass0 (pa_cons (pv 1) (pa_cons (pv 0) (pa_cons (pv 2) (pa_cons (pv 4) (pa_cons (pv 3) pa_nil))))))))))) (pss_one (ps_ret pe_bl)) pss_nil)
        (pss_cons (ps_set (i := 7) sc__law_differences.nd rfl (.inl rfl) (pe_lst pa_nil))
        (pss_cons (ps_for PassesOwn.never rfl (pi_range1 (by rfl) T.b_range (pa_cons (pe_callB call_len_seq (by rfl) T.b_len PySem.boot_len (pa_cons (pv 3) pa_nil)) pa_nil)) (pg_name (i := 8) sc__law_differences.nd rfl (.inl rfl))
        (pss_cons (ps_set (i := 9) sc__law_differences.nd rfl (.inl rfl) (pe_call G_d (hr.mono (by decide)) (by rfl) D_d.g D_d.F.kp D_d.b .nil pass0 (pa_cons (pe_call G_c (hr.mono (by decide)) (by rfl) D_c.g D_c.F.kp D_c.b .nil pass0 (pa_cons (pv 5) (pa_cons (pe_op op_add pe_int (pv 8)) pa_nil))) (pa_cons (pe_lst (pa_cons pe_int (pa_cons (pe_op op_mul pe_int (pe_op op_pow pe_int pe_int)) pa_nil))) pa_nil))))
        (pss_one (ps_expr (pe_bm PySem.F.plainAttrs_list PySem.F.slot_list_append PySem.F.type_list_append mt_append (pv 7) (pa_cons (pe_tup (pa_cons (pe_ix (r := rIxT K) ix_tup (pe_ix (r := rIxT K) ix_tup (pv 3) (pv 8) (fun _ _ => rfl)) pe_int (fun _ _ => rfl)) (pa_cons (pe_ix (r := rIxT K) ix_tup (pe_ix (r := rIxT K) ix_tup (pv 3) (pv 8) (fun _ _ => rfl)) pe_int (fun _ _ => rfl)) (pa_cons (pe_ix (r := rIxL K) ix_list (pe_lst (pa_cons (pe_ix (r := rIxT K) ix_tup (pe_ix (r := rIxT K) ix_tup (pv 3) (pv 8) (fun _ _ => rfl)) pe_int (fun _ _ => rfl)) (pa_cons pe_int (pa_cons (pe_op op_modN (pe_callTy call_int1 (by rfl) T.b_int (by decide +kernel) (pa_cons (pe_ix (r := rIxL K) ix_list (pv 9) pe_int (fun _ _ => rfl)) pa_nil)) (pe_op op_add (pe_ix (r := rIxT K) ix_tup (pe_ix (r := rIxT K) ix_tup (pv 3) (pv 8) (fun _ _ => rfl)) pe_int (fun _ _ => rfl)) pe_int)) pa_nil)))) (pe_ix (r := rIxL K) ix_list (pv 9) pe_int (fun _ _ => rfl)) (fun _ _ => rfl)) pa_nil)))) pa_nil))))))
        (pss_cons (ps_set (i := 7) sc__law_differences.nd rfl (.inl rfl) (pe_callTy call_list_of (by rfl) T.b_list (by decide +kernel) (pa_cons (pe_call G_n (hr.mono (by decide)) (by rfl) D_n.g D_n.F.kp D_n.b .nil pass0 (pa_cons (pv 7) pa_nil)) pa_nil)))
        (pss_cons (ps_if (pt_not (pt_val (pe_call G_tk (hr.mono (by decide)) (by rfl) D_tk.g D_tk.F.kp D_tk.b .nil pass0 (pa_cons (pv 0) (pa_cons (pe_make M G_i (hr.mono (by decide)) (by rfl) L.g b_i .nil pass0 (pa_cons (pv 2) (pa_cons (pv 7) pa_nil))) (pa_cons (pv 2) (pa_cons (pv 3) (pa_cons (pe_call G_n (hr.mono (by decide)) (by rfl) D_n.g D_n.F.kp D_n.b .nil pass0 (pa_cons (pv 7) pa_nil)) pa_nil)))))))) (pss_one (ps_ret pe_bl)) pss_nil)
        (pss_cons (ps_if (pt_cmpR op_ge (pv 2) pe_int (nomark _)) (pss_cons (ps_set (i := 9) sc__law_differences.nd rfl (.inl rfl) (pe_call G_d (hr.mono (by decide)) (by rfl) D_d.g D_d.F.kp D_d.b .nil pass0 (pa_cons (pe_call G_c (hr.mono (by decide)) (by rfl) D_c.g D_c.F.kp D_c.b .nil pass0 (pa_cons (pv 5) (pa_cons pe_int pa_nil))) (pa_cons (pe_lst (pa_cons (pv 2) (pa_cons (pe_op op_sub (pv 2) pe_int) pa_nil))) pa_nil))))
        (pss_cons (ps_set (i := 10) sc__law_differences.nd rfl (.inl rfl) (pe_ix (r := rIxL K) ix_list (pv 9) pe_int (fun _ _ => rfl)))
        (pss_cons (ps_set (i := 11) sc__law_differences.nd rfl (.inl rfl) (pe_op op_modN (pe_callTy call_int1 (by rfl) T.b_int (by decide +kernel) (pa_cons (pe_op op_add (pe_op op_add (pe_ix (r := rIxL K) ix_list (pv 9) pe_int (fun _ _ => rfl)) pe_int) (pe_ix (r := rIxL K) ix_list (pv 9) pe_int (fun _ _ => rfl))) pa_nil)) (pv 2)))
        (pss_cons (ps_set (i := 12) sc__law_differences.nd rfl (.inl rfl) (pe_op op_cat (pv 7) (pe_lst (pa_cons (pe_tup (pa_cons (pv 11) (pa_cons (pv 10) (pa_cons (pe_op op_sub (pe_op op_add pe_int (pe_call G_lc (hr.mono (by decide)) (by rfl) D_lc.g D_lc.F.kp D_lc.b .nil pass0 (pa_cons (pv 3) (pa_cons (pv 10) (pa_cons (pv 11) pa_nil))))) (pe_call G_lc (hr.mono (by decide)) (by rfl) D_lc.g D_lc.F.kp D_lc.b .nil pass0 (pa_cons (pv 7) (pa_cons (pv 10) (pa_cons (pv 11) pa_nil))))) pa_nil)))) pa_nil))))
        (pss_one (ps_ret (pe_call G_tk (hr.mono (by decide)) (by rfl) D_tk.g D_tk.F.kp D_tk.b .nil pass0 (pa_cons (pv 0) (pa_cons (pe_make M G_i (hr.mono (by decide)) (by rfl) L.g b_i .nil pass0 (pa_cons (pv 2) (pa_cons (pv 12) pa_nil))) (pa_cons (pv 2) (pa_cons (pv 3) (pa_cons (pe_call G_n (hr.mono (by decide)) (by rfl) D_n.g D_n.F.kp D_n.b .nil pass0 (pa_cons (pv 12) pa_nil)) pa_nil)))))))))))) pss_nil)
        (pss_one (ps_ret pe_bl)))))))))), ?_⟩
    obtain ⟨dx, c_, ep, tp⟩ := id hp
    obtain ⟨dy, c2_, eo, to⟩ := id ho
    obtain ⟨hv, eh, th⟩ := id hh
    obtain ⟨gv, eg, tg⟩ := id hg
    refine ⟨_, rfl, _, rfl, h, g, cs, ds, rfl, rfl, hh, hg, by omega, fun H1 x1 s1 hx1 => ?_⟩
    obtain ⟨xv, ex, tx⟩ := id hx1
    refine ⟨x1, xv, cs ++ ds, rfl, .inr (.inl (.inl ex)), tx, by rw [List.length_append]; omega, fun H2 bth rb s2 hb gnb => ?_⟩
    have vb : ∀ t ∈ cs ++ ds, Vld n t := fun t ht => by
      rcases List.mem_append.mp ht with ht | ht
      · exact gc.vld t ht
      · exact gd.vld t ht
    have ib := gnb.norm fun t ht => (vb t ht).2.2.2.2.2
    have gb := ib.good vb
    have lb : rb.length ≤ 1000 := Nat.le_trans ib.len (by rw [List.length_append]; omega)
    have sA := s1.trans s2
    refine ⟨_, rfl, _, rfl, p, dx, _, o, dy, _, rfl, rfl, sA _ _ ep, sA _ _ eo, p, o, n, n, cs, ds, rfl, hp.same sA, ho.same sA, ⟨n0, n1⟩, ⟨n0, n1⟩, gc.vld, gd.vld, by omega, fun _ H3 x3 r3 s3 hx3 hN3 => ?_, fun z => absurd rfl z⟩
    obtain rfl := norm_uniq hN3 ib
    have sB := sA.trans s3
    refine ⟨_, rfl, _, rfl, _, rfl, _, rfl, x3, o, n, bth, g, r3, ds, rfl, hx3, ho.same sB, hb.same s3, hg.same sB, gb, gd, n0, n1, lb, fun H4 s4 => ⟨true, rfl, ?_⟩⟩
    have sC := sB.trans s4
    refine ⟨_, rfl, _, rfl, o, dy, _, p, dx, _, rfl, rfl, sC _ _ eo, sC _ _ ep, o, p, n, n, ds, cs, rfl, ho.same sC, hp.same sC, ⟨n0, n1⟩, ⟨n0, n1⟩, gd.vld, gc.vld, by omega, fun _ H5 x5 r5 s5 hx5 hN5 => ?_, fun z => absurd rfl z⟩
    obtain rfl := norm_uniq (norm_comm hN5) ib
    have sD := sC.trans s5
    refine ⟨_, rfl, _, rfl, _, rfl, _, rfl, x5, p, n, bth, h, r5, cs, rfl, hx5, hp.same sD, ((hb.same s3).same s4).same s5, hh.same sD, gb, gc, n0, n1, lb, fun H6 s6 => ⟨true, rfl, ?_⟩⟩
    have sE := sD.trans s6
    refine ⟨_, rfl, _, rfl, _, rfl, _, rfl, _, rfl, p, o, n, h, g, cs, ds, rfl, hp.same sE, ho.same sE, hh.same sE, hg.same sE, gc, gd, n0, n1, by omega, fun H7 s7 => ⟨true, rfl, ?_⟩⟩
    have sF := sE.trans s7
    refine ⟨_, rfl, _, rfl, _, rfl, _, rfl, _, rfl, o, p, n, g, h, ds, cs, rfl, ho.same sF, hp.same sF, hg.same sF, hh.same sF, gd, gc, n0, n1, by omega, fun H8 s8 => ⟨true, rfl, ?_⟩⟩
    have sG := sF.trans s8
    clear s1 s2 s3 s4 s5 s6 s7 s8 sA sB sC sD sE sF
    refine ⟨Nat.zero_le _, fun R hR => ?_⟩
    have sR := sG.trans (same_upd (o := .lst []) hR)
    have nR := sG.free hR
    refine ⟨_, rfl, h, hv, rfl, .inr (.inl (.inl (sR _ _ eh))), (hv.length : Int), rfl, by omega, by have := th.1; omega, for_range (lo := 0) (n := hv.length) (fun i σ H2 => ∃ (vs : List V) (tr : List Tr) (y8 y9 : Option V), σ = [some (.ref p), some (.ref o), some (.int n), some (.ref h), some (.ref g), some (.ref l), some (.ref bth), some (.ref R), y8, y9, none, none, none] ∧ Same H H2 ∧ H2 R = some (.lst vs) ∧ TrV H2 vs tr ∧ Part (cs.take i) tr) ⟨[], [], none, none, rfl, sR, upd_same, TrV.nil, trivial⟩ (fun i σ H2 hi pv => ?_) (fun σ H2 pv => ?_)⟩
    · obtain ⟨vs, tr, y8, y9, rfl, s2, eR, tV, pt⟩ := pv
      rw [Int.zero_add]
      obtain ⟨u, t, hu_, hti, hu⟩ := (th.same s2).at_ (List.getElem?_eq_getElem hi)
      have hih : atI hv (i : Int) = some (.ref u) := atI_nat (by rw [List.getElem?_eq_getElem hi, hu_])
      have tv_ := gc.vld t (List.mem_of_getElem? hti)
      have tb_ := bc t (List.mem_of_getElem? hti)
      have tp1 : 1 ≤ t.2.2 := tv_.2.2.2.2.2
      refine ⟨_, rfl, _, rfl, _, _, rfl, rfl, l, ns, 25 + i, rfl, s2.seq hs, by have := th.1; omega, hn, fun c2 => ?_⟩
      refine ⟨_, _, rfl, rfl, ⟨by decide, by decide, by decide⟩, _, _, rfl, rfl, .inl ⟨by decide, by decide⟩, by show 2 ≤ sizeLine; decide, fun b2 nb2 => ⟨c2, b2, [3, 5 * 10 ^ Int.toNat 8], rfl, .inl (.inl upd_same), by show 2 ≤ 1000; decide, fun x hx => ?_, fun H3 p3 ds3 s3 np3 ep3 dg3 => ?_⟩⟩
      · simp only [List.mem_cons, List.not_mem_nil, or_false] at hx
        have e8 : (5 * 10 ^ Int.toNat 8 : Int) = 500000000 := by decide
        rw [e8] at hx
        omega
      obtain ⟨d0, d1, rfl, h0, h1⟩ := digs2 dg3
      have s23 : Same H2 H3 := (same_upd nb2).trans s3
      have qp : SqL K H3 p3 [.int d0, .int d1] := .inl (.inl ep3)
      have a0 : atI [V.int d0, .int d1] 0 = some (.int d0) := atI_nat (j := 0) rfl
      have a1 : atI [V.int d0, .int d1] 1 = some (.int d1) := atI_nat (j := 1) rfl
      have b0 : atI (tv t) 0 = some (.int t.1) := atI_nat (j := 0) rfl
      have b1 : atI (tv t) 1 = some (.int t.2.1) := atI_nat (j := 1) rfl
      have b2 : atI (tv t) 2 = some (.int t.2.2) := atI_nat (j := 2) rfl
      have eR3 := s23 _ _ eR
      have qh : SqT K H3 h hv := .inl (.inl ((s2.trans s23) _ _ eh))
      have qu : SqT K H3 u (tv t) := .inl (.inl (s23 _ _ hu))
      have m1 : 0 ≤ d1.fmod (t.2.2 + 1) ∧ d1.fmod (t.2.2 + 1) < t.2.2 + 1 := fmod_in d1 (by omega)
      obtain ⟨z, ez, z0, z1⟩ : ∃ z : Int, atI [V.int t.2.2, .int 0, .int (d1.fmod (t.2.2 + 1))] d0 = some (.int z) ∧ 0 ≤ z ∧ z ≤ t.2.2 := by
        have hd : d0 = ((0 : Nat) : Int) ∨ d0 = ((1 : Nat) : Int) ∨ d0 = ((2 : Nat) : Int) := by omega
        rcases hd with e | e | e <;> rw [e]
        · exact ⟨_, atI_nat rfl, by omega, by omega⟩
        · exact ⟨_, atI_nat rfl, by omega, by omega⟩
        · exact ⟨_, atI_nat rfl, by omega, by omega⟩
      refine ⟨_, rfl, .inl ⟨rfl, _, .inl (.inl eR3)⟩, _, rfl, _, rfl, h, hv, _, _, rfl, rfl, qh, hih, u, _, 0, _, rfl, rfl, qu, b0, _, rfl, _, rfl, h, hv, _, _, rfl, rfl, qh, hih, u, _, 1, _, rfl, rfl, qu, b1, _, rfl, _, rfl, h, hv, _, _, rfl, rfl, qh, hih, u, _, 2, _, rfl, rfl, qu, b2, _, rfl, p3, _, 1, _, rfl, rfl, qp, a1, .inl ⟨_, rfl, _, rfl, _, rfl, h, hv, _, _, rfl, rfl, qh, hih, u, _, 2, _, rfl, rfl, qu, b2, _, _, rfl, rfl, _, _, rfl, rfl, by omega, by show 3 ≤ sizeLine; decide, fun gl_ ngl => ?_⟩⟩
      have sg := same_upd (o := .lst [.int t.2.2, .int 0, .int (d1.fmod (t.2.2 + 1))]) ngl
      refine ⟨_, rfl, p3, _, 0, _, rfl, rfl, sg.seq qp, a0, gl_, _, d0, _, rfl, rfl, .inl (.inl upd_same), ez, by show 3 ≤ sizeLine; decide, fun v nv => ?_⟩
      have sv := sg.trans (same_upd (o := .tup [.int t.1, .int t.2.1, .int z]) nv)
      have eR4 := sv _ _ eR3
      have nvR : v ≠ R := fun zz => by
        rw [zz, sg _ _ eR3] at nv
        cases nv
      refine ⟨R, vs, .ref v, rfl, rfl, eR4, ?_, ?_⟩
      · rw [tV.1, pt.len, List.length_take]
        exact Nat.lt_of_le_of_lt (Nat.min_le_right _ _) (small1000 (by omega))
      · refine ⟨vs ++ [.ref v], tr ++ [(t.1, t.2.1, z)], _, _, rfl, same_put (H1 := H) nR (s2.trans (s23.trans sv)), upd_same, ?_, ?_⟩
        · refine ((tV.same (s23.trans sv)).sameT (sameT_put eR4 (Same.refl _))).snoc ?_
          rw [upd_ne nvR, upd_same]
        · rw [List.take_add_one, hti]
          exact Part.snoc (t := t) (u := (t.1, t.2.1, z)) ⟨rfl, rfl, z0, z1⟩ pt
    · obtain ⟨vs, tr, y8, y9, rfl, s2, eR, tV, pt⟩ := pv
      rw [th.1, List.take_length] at pt
      obtain ⟨vs_, er_, tr_⟩ : ∃ vs, H2 R = some (.lst vs) ∧ TrV H2 vs tr := ⟨vs, eR, tV⟩
      refine ⟨_, rfl, R, vs, tr, rfl, .inl (.inl (.inl eR)), tV, by rw [pt.len]; omega, fun H3 c3 r s3 hc3 gn => ?_⟩
      obtain ⟨gr, lr, cr⟩ := part_norm gc pt gn
      obtain ⟨xs, ec3, tc3⟩ := id hc3
      refine ⟨c3, xs, rfl, .inr (.inl (.inl ec3)), fun R2 nR2 => ?_⟩
      have sA := (s2.trans s3).trans (same_upd (o := .lst xs) nR2)
      have tR : TrV (upd H3 R2 (.lst xs)) xs r := tc3.same (same_upd nR2)
      have eR2 : upd H3 R2 (.lst xs) R2 = some (.lst xs) := upd_same
      generalize upd H3 R2 (.lst xs) = G at sA tR eR2 ⊢
      have lr1 : r.length ≤ 1000 := by omega
      refine ⟨_, rfl, _, rfl, _, rfl, ?_⟩
      refine fun x dx_ nx nd ne => rd_make2 n0 (.inl (.inl (.inl eR2))) tR gr.vld lr1 nx nd ne fun H4 x4 s4 hL4 hN4 => ⟨rfl, ?_⟩
      obtain rfl := self_norm gr hN4
      refine ⟨_, rfl, _, rfl, _, rfl, R2, xs, x4, rfl, .inl (.inl (.inl (s4 _ _ eR2))), tR.same s4, lr1, fun H5 c5 r5_ s5 hc5 gn5 => ?_⟩
      obtain rfl := self_gn gr gn5
      have sB := sA.trans (s4.trans s5)
      refine ⟨p, x, n, h, c5, cs, r5_, rfl, hp.same sB, hL4.same s5, hh.same sB, hc5, gc, gr, n0, n1, by omega, fun H6 s6 => ⟨true, rfl, ?_⟩⟩
      have sC := sB.trans s6
      have eR6 := s6 _ _ (s5 _ _ (s4 _ _ eR2))
      have tR6 := (tR.same (s4.trans s5)).same s6
      refine ⟨_, rfl, n, 2, rfl, rfl, _, rfl, ite2 (fun e => ?_) (fun e => ?_)⟩
      · have n2 : 2 ≤ n := of_decide_eq_true e
        refine ⟨_, rfl, l, ns, 33, rfl, sC.seq hs, by decide, hn, fun c33 => ?_⟩
        refine ⟨_, rfl, _, rfl, n, 1, rfl, rfl, by show 2 ≤ sizeLine; decide, fun b2 nb2 => ⟨c33, b2, [n, n - 1], rfl, .inl (.inl upd_same), by show 2 ≤ 1000; decide, fun x hx => ?_, fun H7 p3 ds3 s7 np3 ep3 dg3 => ?_⟩⟩
        · simp only [List.mem_cons, List.not_mem_nil, or_false] at hx
          omega
        obtain ⟨d0, d1, rfl, h0, h1⟩ := digs2 dg3
        have s67 : Same H6 H7 := (same_upd nb2).trans s7
        have sD := sC.trans s67
        have qp : SqL K H7 p3 [.int d0, .int d1] := .inl (.inl ep3)
        have a0 : atI [V.int d0, .int d1] 0 = some (.int d0) := atI_nat (j := 0) rfl
        have a1 : atI [V.int d0, .int d1] 1 = some (.int d1) := atI_nat (j := 1) rfl
        have hoth : 0 ≤ (d0 + 1 + d1).fmod n ∧ (d0 + 1 + d1).fmod n < n ∧ d0 ≠ (d0 + 1 + d1).fmod n := by
          have hm := fmod_in (d0 + 1 + d1) (show 0 < n by omega)
          refine ⟨hm.1, hm.2, ?_⟩
          by_cases hx : d0 + 1 + d1 < n
          · rw [fmod_lo (by omega) hx]
            omega
          · rw [fmod_hi (by omega) (by omega)]
            omega
        refine ⟨_, rfl, p3, _, 0, _, rfl, rfl, qp, a0, ?_⟩
        refine ⟨_, rfl, p3, _, 0, _, rfl, rfl, qp, a0, _, _, rfl, rfl, _, rfl, p3, _, 1, _, rfl, rfl, qp, a1, _, _, rfl, rfl, .inl ⟨_, rfl, _, rfl, _, _, rfl, rfl, by omega, ?_⟩⟩
        have eR7 := s67 _ _ eR6
        have tR7 := tR6.same s67
        refine ⟨_, rfl, _, rfl, _, rfl, _, rfl, _, rfl, _, rfl, h, hv, cs, _, _, rfl, .inr (.inl (.inl (sD _ _ eh))), th.same sD, ?_⟩
        refine ⟨_, _, rfl, rfl, _, rfl, _, rfl, _, rfl, R2, xs, r5_, _, _, rfl, .inl (.inl (.inl eR7)), tR7, ?_⟩
        refine ⟨_, _, rfl, rfl, by show 3 ≤ sizeLine; decide, fun v nv => ⟨by show 1 ≤ sizeLine; decide, fun l2 nl2 => ?_⟩⟩
        have ge : 1 ≤ 1 + cntU cs d0 ((d0 + 1 + d1).fmod n) - cntU r5_ d0 ((d0 + 1 + d1).fmod n) := by
          rw [cntU_all gc, cntU_all gr]
          have := cr (lo d0 ((d0 + 1 + d1).fmod n), hi d0 ((d0 + 1 + d1).fmod n))
          omega
        have g1 := same_upd (o := .tup [.int ((d0 + 1 + d1).fmod n), .int d0, .int (1 + cntU cs d0 ((d0 + 1 + d1).fmod n) - cntU r5_ d0 ((d0 + 1 + d1).fmod n))]) nv
        have g2 := same_upd (o := .lst [.ref v]) nl2
        have l2R : R2 ≠ l2 := fun z => by
          rw [← z] at nl2
          exact nomatch (g1 _ _ eR7).symm.trans nl2
        refine ⟨R2, l2, xs, [.ref v], rfl, rfl, (g1.trans g2) _ _ eR7, upd_same, ?_, fun R3 nR3 => ?_⟩
        · rw [tR.1]
          show _ + 1 ≤ sizeLine
          exact Nat.le_trans (show _ + 1 ≤ 1001 by omega) (by decide)
        have g3 := same_upd (o := .lst (xs ++ [.ref v])) nR3
        have gE := g1.trans (g2.trans g3)
        have tM := (tR7.same gE).snoc ((g2.trans g3) _ _ (show upd H7 v (.tup [.int ((d0 + 1 + d1).fmod n), .int d0, .int (1 + cntU cs d0 ((d0 + 1 + d1).fmod n) - cntU r5_ d0 ((d0 + 1 + d1).fmod n))]) v = some (.tup (tv (((d0 + 1 + d1).fmod n), d0, (1 + cntU cs d0 ((d0 + 1 + d1).fmod n) - cntU r5_ d0 ((d0 + 1 + d1).fmod n))))) from upd_same))
        have eM := upd_same (H := upd (upd H7 v (.tup [.int ((d0 + 1 + d1).fmod n), .int d0, .int (1 + cntU cs d0 ((d0 + 1 + d1).fmod n) - cntU r5_ d0 ((d0 + 1 + d1).fmod n))])) l2 (.lst [.ref v])) (a := R3) (o := .lst (xs ++ [.ref v]))
        have sM := sD.trans gE
        have vM : ∀ t ∈ r5_ ++ [(((d0 + 1 + d1).fmod n), d0, (1 + cntU cs d0 ((d0 + 1 + d1).fmod n) - cntU r5_ d0 ((d0 + 1 + d1).fmod n)))], Vld n t := fun t ht => by
          rcases List.mem_append.mp ht with ht | ht
          · exact gr.vld t ht
          · rw [List.mem_singleton.mp ht]
            exact ⟨hoth.1, hoth.2.1, h0.1, h0.2, Ne.symm hoth.2.2, ge⟩
        have lM : (r5_ ++ [(((d0 + 1 + d1).fmod n), d0, (1 + cntU cs d0 ((d0 + 1 + d1).fmod n) - cntU r5_ d0 ((d0 + 1 + d1).fmod n)))]).length ≤ 1000 := by
          rw [List.length_append]
          show _ + 1 ≤ 1000
          omega
        refine ⟨_, rfl, _, rfl, _, rfl, ?_⟩
        refine fun x9 dx9 nx9 nd9 ne9 => rd_make2 n0 (.inl (.inl (.inl eM))) tM vM lM nx9 nd9 ne9 fun H9 x4 s9 hL9 hN9 => ⟨rfl, ?_⟩
        refine ⟨_, rfl, _, rfl, _, rfl, R3, _, _, rfl, .inl (.inl (.inl (s9 _ _ eM))), tM.same s9, lM, fun H10 c10 r10 s10 hc10 gn10 => ?_⟩
        obtain rfl := norm_uniq hN9 (gn10.norm fun t ht => (vM t ht).2.2.2.2.2)
        have sF := sM.trans (s9.trans s10)
        exact ⟨p, x9, n, h, c10, cs, x4, rfl, hp.same sF, hL9.same s10, hh.same sF, hc10, gc, hN9.good vM, n0, n1, by omega, fun H11 s11 => q _ (sF.trans s11)⟩
      · exact q _ sC
end
end Own

namespace Own
open PySem PySem.Spec PyProof.Rows L2 RT
/-! ### the law -/
structure LW (K : PySem.W.Frag) (C l : Addr) (ns : List Int) (n : Int) (cs ds rb : List Tr) (h g p o b : Addr) (H : Hp) : Prop where
  hs : SqL K H l (ns.map V.int)
  hh : Trip H h cs
  hg : Trip H g ds
  hp : LotAt C H p n cs
  ho : LotAt C H o n ds
  hb : Trip H b rb
theorem LW.same {K : PySem.W.Frag} {C l : Addr} {ns : List Int} {n : Int} {cs ds rb : List Tr} {h g p o b : Addr} {H H' : Hp} (s : Same H H') (W : LW K C l ns n cs ds rb h g p o b H) : LW K C l ns n cs ds rb h g p o b H' :=
  ⟨s.seq W.hs, W.hh.same s, W.hg.same s, W.hp.same s, W.ho.same s, W.hb.same s⟩
structure LB (n : Int) (cs ds rb : List Tr) : Prop where
  n0 : 0 ≤ n
  n1 : n ≤ 40
  gc : Good n cs
  gd : Good n ds
  lc : cs.length ≤ 8
  ld : ds.length ≤ 8
  mc : ∀ t ∈ cs, t.2.2 ≤ 500000000
  ib : IsNorm (cs ++ ds) rb
theorem app_vld {n : Int} {cs ds : List Tr} (g : Good n cs) (h : Good n ds) : ∀ t ∈ cs ++ ds, Vld n t := fun t ht => by
  rcases List.mem_append.mp ht with ht | ht
  · exact g.vld t ht
  · exact h.vld t ht
theorem LB.gb {n : Int} {cs ds rb : List Tr} (B : LB n cs ds rb) : Good n rb := B.ib.good (app_vld B.gc B.gd)
theorem LB.lb {n : Int} {cs ds rb : List Tr} (B : LB n cs ds rb) : rb.length ≤ 16 := Nat.le_trans B.ib.len (by have := B.lc; have := B.ld; rw [List.length_append]; omega)
theorem digs1 {ds : List Int} {a : Int} (h : Digs ds [a]) : ∃ w, ds = [w] ∧ 0 ≤ w ∧ w < a := by
  have hl := h.1
  match ds, hl with
  | [w], _ => exact ⟨w, rfl, h.2 0 w a rfl rfl⟩
theorem gn_mul {n k : Int} {cs r s : List Tr} (g : Good n cs) (k0 : 0 ≤ k) (h : GN (tms k cs) s) (i : IsNorm (mulE k cs) r) : s = r := by
  have nn : ∀ t ∈ tms k cs, 0 ≤ t.2.2 := fun t ht => by
    obtain ⟨u, hu, rfl⟩ := List.mem_map.mp ht
    exact Int.mul_nonneg (by have := g.pos u hu; omega) k0
  have ip := gn_pos h nn
  have e : pos (tms k cs) = mulE k cs := by
    unfold mulE
    by_cases z : k = 0
    · rw [if_pos z]
      subst z
      refine List.filter_eq_nil_iff.mpr fun t ht => ?_
      obtain ⟨u, hu, rfl⟩ := List.mem_map.mp ht
      simp
    · rw [if_neg z]
      refine pos_all fun t ht => ?_
      have := mulE_vld g k0 t (by rw [mulE, if_neg z]; exact ht)
      exact this.2.2.2.2.2
  rw [e] at ip
  exact norm_uniq ip i
section
variable {P : Program} {w : World} {K : PySem.W.Frag} {mg : Str → Option Value} {base : Heap} {C D D2 D3 : Addr}
def spLaw (K : PySem.W.Frag) : Sp := fun vs H Q _ => ∃ (l : Addr) (ns : List Int), vs = [.ref l] ∧ SqL K H l (ns.map V.int) ∧ ns.length ≤ 1000 ∧ ∀ H', Q (.bl true) H'
set_option maxHeartbeats 0 in
theorem ok_law {f : Addr} {fd : FuncData} (F : Fun K "law" "law" s_law f fd) (T : Bi mg) (L : LotC K mg C) (s_c : PySem.W.selfFirst K C = true) 
    {f_c : Addr} {d_c : FuncData} (D_c : Df K mg "_law_cell" s__law_cell ["_law_script", "_law_k"] f_c d_c) (G_c : FnOk P w K mg base CX0 1 f_c d_c ["_law_script", "_law_k"] (spCell K)) 
    {f_p : Addr} {d_p : FuncData} (D_p : Df K mg "_law_pins" s__law_pins ["_law_cell_here"] f_p d_p) (G_p : FnOk P w K mg base CX0 2 f_p d_p ["_law_cell_here"] (spPins K)) 
    {f_d : Addr} {d_d : FuncData} (D_d : Df K mg "_law_digits" s__law_digits ["_law_cell_here", "_law_sizes"] f_d d_d) (G_d : FnOk P w K mg base CX0 1 f_d d_d ["_law_cell_here", "_law_sizes"] (spDigs K)) 
    {f_l : Addr} {d_l : FuncData} (D_l : Df K mg "_law_entries" s__law_entries ["_law_script", "_law_start", "_law_many", "_law_pins_here"] f_l d_l) (G_l : FnOk P w K mg base CX0 2 f_l d_l ["_law_script", "_law_start", "_law_many", "_law_pins_here"] (spLLot K)) 
    {f_n : Addr} {d_n : FuncData} (D_n : Df K mg "_law_norm" s__law_norm ["_law_triples"] f_n d_n) (G_n : FnOk P w K mg base CX0 1 f_n d_n ["_law_triples"] (spNorm K)) 
    {f_li : Addr} {d_li : FuncData} (D_li : Df K mg "_law_lot_is" s__law_lot_is ["_law_lot", "_law_pins_here", "_law_bunch"] f_li d_li) (G_li : FnOk P w K mg base CX0 5 f_li d_li ["_law_lot", "_law_pins_here", "_law_bunch"] (spLotIs K C)) 
    {f_to : Addr} {d_to : FuncData} (D_to : Df K mg "_law_told" s__law_told ["_law_lot", "_law_pins_here", "_law_bunch"] f_to d_to) (G_to : FnOk P w K mg base CX0 8 f_to d_to ["_law_lot", "_law_pins_here", "_law_bunch"] (spCounts C)) 
    {f_co : Addr} {d_co : FuncData} (D_co : Df K mg "_law_counts" s__law_counts ["_law_lot", "_law_pins_here", "_law_bunch"] f_co d_co) (G_co : FnOk P w K mg base CX0 8 f_co d_co ["_law_lot", "_law_pins_here", "_law_bunch"] (spCounts C)) 
    {f_df : Addr} {d_df : FuncData} (D_df : Df K mg "_law_differences" s__law_differences ["_law_left", "_law_right", "_law_pins_here", "_law_held", "_law_wished", "_law_script"] f_df d_df) (G_df : FnOk P w K mg base CX0 10 f_df d_df ["_law_left", "_law_right", "_law_pins_here", "_law_held", "_law_wished", "_law_script"] (spDiff K C)) 
    {f_eq : Addr} {d_eq : FuncData} (D_eq : Df K mg "_law_equal" s__law_equal ["_law_lot", "_law_right", "_law_pins_here", "_law_held", "_law_wished", "_law_far"] f_eq d_eq) (G_eq : FnOk P w K mg base CX0 8 f_eq d_eq ["_law_lot", "_law_right", "_law_pins_here", "_law_held", "_law_wished", "_law_far"] (spEqualL C)) 
    {f_ne : Addr} {d_ne : FuncData} (D_ne : Df K mg "_law_near_equal" s__law_near_equal ["_law_held", "_law_pins_here", "_law_cell_here"] f_ne d_ne) (G_ne : FnOk P w K mg base CX0 8 f_ne d_ne ["_law_held", "_law_pins_here", "_law_cell_here"] spNearEq) 
    {f_lc : Addr} {d_lc : FuncData} (D_lc : Df K mg "_law_count" s__law_count ["_law_bunch", "_law_left", "_law_right"] f_lc d_lc) (G_lc : FnOk P w K mg base CX0 1 f_lc d_lc ["_law_bunch", "_law_left", "_law_right"] (spLCount K)) 
    {f_un : Addr} {d_un : FuncData} (D_un : Df K mg "_law_unlike" s__law_unlike ["_law_left", "_law_right", "_law_pins_here", "_law_far", "_law_minus"] f_un d_un) (G_un : FnOk P w K mg base CX0 8 f_un d_un ["_law_left", "_law_right", "_law_pins_here", "_law_far", "_law_minus"] (spUnl C)) 
    {f_bo : Addr} {d_bo : FuncData} (D_bo : Df K mg "_law_bad_ones" s__law_bad_ones ["_law_lot", "_law_right", "_law_pins_here", "_law_script"] f_bo d_bo) (G_bo : FnOk P w K mg base CX0 9 f_bo d_bo ["_law_lot", "_law_right", "_law_pins_here", "_law_script"] (spBadOnes K C)) 
    {z f_i : Addr} {d_i : FuncData} (M_i : Mk K C f_i) (b_i : Binds K d_i ["self", "pins", "cords"] []) (b_1 : Binds K d_i ["self", "pins", "cords"] [.ref z]) (hz : ∀ H, SqT K H z []) (G_i : GI P w K mg base C f_i d_i)
    {f_add : Addr} {d_add : FuncData} (i_add : PySem.W.findIn K (.ref C) "__add__" = some (some (.ref f_add))) (n_add : PySem.W.isFn K (.ref f_add) = true) (b_add : Binds K d_add ["self", "other"] []) (G_add : FnOk P w K mg base (L2N.CX P w) 7 f_add d_add ["self", "other"] (spAddX C D)) 
    {f_sub : Addr} {d_sub : FuncData} (i_sub : PySem.W.findIn K (.ref C) "__sub__" = some (some (.ref f_sub))) (n_sub : PySem.W.isFn K (.ref f_sub) = true) (b_sub : Binds K d_sub ["self", "other"] []) (G_sub : FnOk P w K mg base (L2N.CX P w) 7 f_sub d_sub ["self", "other"] (spSubX C D D2)) 
    {f_mul : Addr} {d_mul : FuncData} {rc : Option Value} (i_mul : PySem.W.findIn K (.ref C) "__mul__" = some (some (.ref f_mul))) (n_mul : PySem.W.isFn K (.ref f_mul) = true) (i_rmul : PySem.W.findIn K (.ref C) "__rmul__" = some rc) (p_rmul : rc = none ∨ ∃ g : Addr, rc = some (.ref g)) (b_mul : Binds K d_mul ["self", "number"] []) (G_mul : FnOk P w K mg base (L2N.CX P w) 7 f_mul d_mul ["self", "number"] (spMulX K C D3)) (o_mul : ∀ T ∈ ["int", "bool", "NoneType", "str", "list", "tuple"], OpT K C .Mult T)  : FnOk P w K mg base CX0 11 f fd ["_law_script"] (spLaw K) := by
  refine F.ok sc_law (fun vs H Q E h => ?_) (fun cdv A outer s H vs Q E hr h => ?_)
  · obtain ⟨l, ns, rfl, _⟩ := h
    rfl
  · obtain ⟨l, ns, rfl, hs, hn, q⟩ := h
    obtain ⟨tG, hG, qG⟩ : ∃ tR, PSs (cxOf CX0 P w K mg base ["_law_script", "_law_pins_here", "_law_held", "_law_wished", "_law_left", "_law_right", "_law_both", "_law_draw", "_law_factor", "_law_due", "_law_far", "_law_strange", "_law_entry"] "law" (defScope s_law) f cdv A outer s H E).nox ((defBody s_law).drop 18) tR ∧ ∀ (n : Int) (cs ds rb : List Tr) (h g p o b : Addr) (y7 y8 y9 : Option V) (far : Int) (x : Addr) (es : List Tr) (H0 : Hp), LW K C l ns n cs ds rb h g p o b H0 → LB n cs ds rb → LotAt C H0 x far es → Good far es → 0 ≤ far → far ≤ 40 → es.length ≤ 1 → n ≠ far → tR { nx := fun _ H' => Q .non H', rt := Q } [some (.ref l), some (.int n), some (.ref h), some (.ref g), some (.ref p), some (.ref o), some (.ref b), y7, y8, y9, some (.int far), some (.ref x), none] H0 := by
      refine ⟨_, (pss_cons (ps_if (PW.pt (pw_or (pt_not (pt_val (pe_call G_un (hr.mono (by decide)) (by rfl) D_un.g D_un.F.kp D_un.b .nil pass0 (pa_cons (pv 4) (pa_cons (pv 11) (pa_cons (pv 1) (pa_cons (pv 10) (pa_cons pe_bl pa_nil)))))))) (pw_or1 (pt_not (pt_val (pe_call G_un (hr.mono (by decide)) (by rfl) D_un.g D_un.F.kp D_un.b .nil pass0 (pa_cons (pv 4) (pa_cons (pv 11) (pa_cons (pv 1) (pa_cons (pv 10) (pa_cons pe_bl pa_nil))))))))))) (pss_one (ps_ret pe_bl)) pss_nil)
        (pss_cons (ps_if (PW.pt (pw_or (pt_not (pt_val (pe_call G_un (hr.mono (by decide)) (by rfl) D_un.g D_un.F.kp D_un.b .nil pass0 (pa_cons (pv 11) (pa_cons (pv 4) (pa_cons (pv 10) (pa_cons (pv 1) (pa_cons pe_bl pa_nil)))))))) (pw_or1 (pt_not (pt_val (pe_call G_un (hr.mono (by decide)) (by rfl) D_un.g D_un.F.kp D_un.b .nil pass0 (pa_cons (pv 11) (pa_cons (pv 5) (pa_cons (pv 10) (pa_cons (pv 1) (pa_cons pe_bl pa_nil))))))))))) (pss_one (ps_ret pe_bl)) pss_nil)
        (pss_cons (ps_if (PW.pt (pw_or (pt_not (pt_val (pe_call G_un (hr.mono (by decide)) (by rfl) D_un.g D_un.F.kp D_un.b .nil pass0 (pa_cons (pe_make M_i G_i (hr.mono (by decide)) (by rfl) L.g b_1 (show Vals [V.ref z] [Value.ref z] from .cons rfl .nil) pass0 (pa_cons (pv 1) pa_nil)) (pa_cons (pe_make M_i G_i (hr.mono (by decide)) (by rfl) L.g b_1 (show Vals [V.ref z] [Value.ref z] from .cons rfl .nil) pass0 (pa_cons (pv 10) pa_nil)) (pa_cons (pv 1) (pa_cons (pv 10) (pa_cons pe_bl pa_nil)))))))) (pw_or1 (pt_not (pt_val (pe_call G_un (hr.mono (by decide)) (by rfl) D_un.g D_un.F.kp D_un.b .nil pass0 (pa_cons (pe_make M_i G_i (hr.mono (by decide)) (by rfl) L.g b_1 (show Vals [V.ref z] [Value.ref z] from .cons rfl .nil) pass0 (pa_cons (pv 10) pa_nil)) (pa_cons (pe_make M_i G_i (hr.mono (by decide)) (by rfl) L.g b_1 (show Vals [V.ref z] [Value.ref z] from .cons rfl .nil) pass0 (pa_cons (pv 1) pa_nil)) (pa_cons (pv 10) (pa_cons (pv 1) (pa_cons pe_bl pa_nil))))))))))) (pss_one (ps_ret pe_bl)) pss_nil)
        (pss_cons (ps_if (pt_not (pt_val (pe_call G_bo (hr.mono (by decide)) (by rfl) D_bo.g D_bo.F.kp D_bo.b .nil pass0 (pa_cons (pv 4) (pa_cons (pv 5) (pa_cons (pv 1) (pa_cons (pv 0) pa_nil))))))) (pss_one (ps_ret pe_bl)) pss_nil)
        (pss_cons (ps_if (PW.pt (pw_or (pt_not (pt_val (pe_call G_li (hr.mono (by decide)) (by rfl) D_li.g D_li.F.kp D_li.b .nil pass0 (pa_cons (pv 4) (pa_cons (pv 1) (pa_cons (pv 2) pa_nil)))))) (pw_or1 (pt_not (pt_val (pe_call G_li (hr.mono (by decide)) (by rfl) D_li.g D_li.F.kp D_li.b .nil pass0 (pa_cons (pv 5) (pa_cons (pv 1) (pa_cons (pv 3) pa_nil))))))))) (pss_one (ps_ret pe_bl)) pss_nil)
        (pss_one (ps_ret (pe_and (pe_call G_li (hr.mono (by decide)) (by rfl) D_li.g D_li.F.kp D_li.b .nil pass0 (pa_cons (pe_ownB s_c i_add n_add G_add (hr.mono (by decide)) b_add (E := fun _ => E0) (fun σ pins H s e s' I h => passN pins σ H s e s' I h) (pv 4) (pv 5)) (pa_cons (pv 1) (pa_cons (pv 6) pa_nil)))) (pe_one (pe_call G_to (hr.mono (by decide)) (by rfl) D_to.g D_to.F.kp D_to.b .nil pass0 (pa_cons (pv 5) (pa_cons (pv 1) (pa_cons (pv 3) pa_nil))))))))))))), ?_⟩
      intro n cs ds rb h g p o b y7 y8 y9 far x es H0 W B hx ge f0 f1 le fne
      have n0 := B.n0
      have n1 := B.n1
      have lc := B.lc
      have ld := B.ld
      refine ⟨_, rfl, _, rfl, _, rfl, _, rfl, p, x, n, far, true, cs, es, rfl, W.hp, hx, ⟨n0, by omega⟩, ⟨f0, by omega⟩, B.gc, ge, by omega, fne, fun H1 s1 => ⟨true, rfl, ?_⟩⟩
      replace W := W.same s1
      replace hx := hx.same s1
      refine ⟨_, rfl, _, rfl, _, rfl, _, rfl, p, x, n, far, false, cs, es, rfl, W.hp, hx, ⟨n0, by omega⟩, ⟨f0, by omega⟩, B.gc, ge, by omega, fne, fun H2 s2 => ⟨true, rfl, ?_⟩⟩
      replace W := W.same s2
      replace hx := hx.same s2
      refine ⟨_, rfl, _, rfl, _, rfl, _, rfl, x, p, far, n, true, es, cs, rfl, hx, W.hp, ⟨f0, by omega⟩, ⟨n0, by omega⟩, ge, B.gc, by omega, Ne.symm fne, fun H3 s3 => ⟨true, rfl, ?_⟩⟩
      replace W := W.same s3
      replace hx := hx.same s3
      refine ⟨_, rfl, _, rfl, _, rfl, _, rfl, x, o, far, n, false, es, ds, rfl, hx, W.ho, ⟨f0, by omega⟩, ⟨n0, by omega⟩, ge, B.gd, by omega, Ne.symm fne, fun H4 s4 => ⟨true, rfl, ?_⟩⟩
      replace W := W.same s4
      clear hx
      refine ⟨_, rfl, ?_⟩
      refine fun u du nu ndu neu => rd_make2 (C := C) (l := []) (xs := []) n0 (.inr (hz _)) TrV.nil (by simp) (Nat.zero_le _) nu ndu neu fun H5 r5 s5 hu hN5 => ⟨rfl, ?_⟩
      obtain rfl : r5 = [] := norm_nil hN5
      replace W := W.same s5
      refine ⟨_, rfl, ?_⟩
      refine fun v dv nv ndv nev => rd_make2 (C := C) (l := []) (xs := []) f0 (.inr (hz _)) TrV.nil (by simp) (Nat.zero_le _) nv ndv nev fun H6 r6 s6 hv hN6 => ⟨rfl, ?_⟩
      obtain rfl : r6 = [] := norm_nil hN6
      replace W := W.same s6
      refine ⟨_, rfl, _, rfl, u, v, n, far, true, [], [], rfl, hu.same s6, hv, ⟨n0, by omega⟩, ⟨f0, by omega⟩, good_nil n, good_nil far, by decide, fne, fun H7 s7 => ⟨true, rfl, ?_⟩⟩
      replace W := W.same s7
      clear hu hv hN5 hN6
      refine ⟨_, rfl, ?_⟩
      refine fun u du nu ndu neu => rd_make2 (C := C) (l := []) (xs := []) f0 (.inr (hz _)) TrV.nil (by simp) (Nat.zero_le _) nu ndu neu fun H8 r5 s8 hu hN5 => ⟨rfl, ?_⟩
      obtain rfl : r5 = [] := norm_nil hN5
      replace W := W.same s8
      refine ⟨_, rfl, ?_⟩
      refine fun v dv nv ndv nev => rd_make2 (C := C) (l := []) (xs := []) n0 (.inr (hz _)) TrV.nil (by simp) (Nat.zero_le _) nv ndv nev fun H9 r6 s9 hv hN6 => ⟨rfl, ?_⟩
      obtain rfl : r6 = [] := norm_nil hN6
      replace W := W.same s9
      refine ⟨_, rfl, _, rfl, u, v, far, n, false, [], [], rfl, hu.same s9, hv, ⟨f0, by omega⟩, ⟨n0, by omega⟩, good_nil far, good_nil n, by decide, Ne.symm fne, fun H10 s10 => ⟨true, rfl, ?_⟩⟩
      replace W := W.same s10
      clear hu hv hN5 hN6
      refine ⟨_, rfl, _, rfl, _, rfl, _, rfl, p, o, l, n, ns, cs, ds, rfl, W.hp, W.ho, B.gc, B.gd, by omega, by omega, n0, by omega, W.hs, hn, fun H11 s11 => ⟨true, rfl, ?_⟩⟩
      replace W := W.same s11
      refine ⟨_, rfl, _, rfl, _, rfl, p, n, h, cs, rfl, W.hp, W.hh, by omega, true, rfl, ?_⟩
      refine ⟨_, rfl, _, rfl, _, rfl, o, n, g, ds, rfl, W.ho, W.hg, by omega, true, rfl, ?_⟩
      obtain ⟨dx1, e1c, e1, _⟩ := id W.hp
      obtain ⟨dx2, e2c, e2, _⟩ := id W.ho
      refine ⟨_, rfl, _, rfl, p, dx1, _, o, dx2, _, rfl, rfl, e1, e2, p, o, n, n, cs, ds, rfl, W.hp, W.ho, ⟨n0, by omega⟩, ⟨n0, by omega⟩, B.gc.vld, B.gd.vld, by omega, fun _ H12 x r s12 hx hN => ?_, fun z => absurd rfl z⟩
      obtain rfl := norm_uniq hN B.ib
      replace W := W.same s12
      have lb := B.lb
      refine ⟨_, rfl, _, rfl, x, n, b, r, rfl, hx, W.hb, by omega, true, rfl, ?_⟩
      exact ⟨_, rfl, _, rfl, _, rfl, o, n, g, ds, rfl, W.ho, W.hg, by omega, B.gd, n0, by omega, fun H13 s13 => q _⟩
    obtain ⟨tF, hF, qF⟩ : ∃ tR, PSs (cxOf CX0 P w K mg base ["_law_script", "_law_pins_here", "_law_held", "_law_wished", "_law_left", "_law_right", "_law_both", "_law_draw", "_law_factor", "_law_due", "_law_far", "_law_strange", "_law_entry"] "law" (defScope s_law) f cdv A outer s H E).nox ((defBody s_law).drop 16) tR ∧ ∀ (n : Int) (cs ds rb : List Tr) (h g p o b : Addr) (y7 y8 y9 y11 : Option V) (far : Int) (H0 : Hp), LW K C l ns n cs ds rb h g p o b H0 → LB n cs ds rb → 0 ≤ far → far ≤ 40 → n ≠ far → tR { nx := fun _ H' => Q .non H', rt := Q } [some (.ref l), some (.int n), some (.ref h), some (.ref g), some (.ref p), some (.ref o), some (.ref b), y7, y8, y9, some (.int far), y11, none] H0 := by
      refine ⟨_, (pss_cons (ps_if (PW.pt (pw_or (pt_not (pt_val (pe_call G_eq (hr.mono (by decide)) (by rfl) D_eq.g D_eq.F.kp D_eq.b .nil pass0 (pa_cons (pv 4) (pa_cons (pv 5) (pa_cons (pv 1) (pa_cons (pv 2) (pa_cons (pv 3) (pa_cons (pv 10) pa_nil))))))))) (pw_or1 (pt_not (pt_val (pe_call G_ne (hr.mono (by decide)) (by rfl) D_ne.g D_ne.F.kp D_ne.b .nil pass0 (pa_cons (pv 2) (pa_cons (pv 1) (pa_cons (pe_call G_c (hr.mono (by decide)) (by rfl) D_c.g D_c.F.kp D_c.b .nil pass0 (pa_cons (pv 0) (pa_cons pe_int pa_nil))) pa_nil))))))))) (pss_one (ps_ret pe_bl)) pss_nil)
        (pss_cons (ps_set (i := 11) sc_law.nd rfl (.inl rfl) (pe_make M_i G_i (hr.mono (by decide)) (by rfl) L.g b_i .nil pass0 (pa_cons (pv 10) (pa_cons (pe_slice sl_list (pe_lst (pa_cons (pe_tup (pa_cons pe_int (pa_cons pe_int (pa_cons (pe_op op_add pe_int (pe_call G_lc (hr.mono (by decide)) (by rfl) D_lc.g D_lc.F.kp D_lc.b .nil pass0 (pa_cons (pv 2) (pa_cons pe_int (pa_cons pe_int pa_nil))))) pa_nil)))) pa_nil)) po_none (po_some (pe_callTy call_int1 (by rfl) T.b_int (by decide +kernel) (pa_cons (pe_cmpR op_ge (pv 10) pe_int (nomark _)) pa_nil)))) pa_nil))))
        hG)), ?_⟩
      intro n cs ds rb h g p o b y7 y8 y9 y11 far H0 W B f0 f1 fne
      have n0 := B.n0
      have n1 := B.n1
      have lc := B.lc
      have ld := B.ld
      refine ⟨_, rfl, _, rfl, _, rfl, _, rfl, _, rfl, _, rfl, p, o, h, g, n, far, cs, ds, rfl, W.hp, W.ho, W.hh, W.hg, B.gc, B.gd, by omega, n0, by omega, fun H1 s1 => ⟨true, rfl, ?_⟩⟩
      replace W := W.same s1
      refine ⟨_, rfl, _, rfl, _, rfl, l, ns, 34, rfl, W.hs, by decide, hn, fun c34 => ⟨h, n, c34, cs, rfl, W.hh, B.gc, by omega, n0, by omega, fun H2 s2 => ⟨true, rfl, ?_⟩⟩⟩
      replace W := W.same s2
      obtain ⟨hv, eh, th⟩ := id W.hh
      have cp : 1 ≤ 1 + cntU cs 0 1 := by
        rw [cntU_all B.gc]
        have := cnt_nn B.gc.pos (lo 0 1, hi 0 1)
        omega
      refine ⟨_, rfl, _, rfl, h, hv, cs, 0, 1, rfl, .inr (.inl (.inl eh)), th, ?_⟩
      refine ⟨_, _, rfl, rfl, by show 3 ≤ sizeLine; decide, fun t1 nt1 => ⟨by show 1 ≤ sizeLine; decide, fun l1 nl1 => ?_⟩⟩
      have g1 := same_upd (o := .tup [.int 0, .int 1, .int (1 + cntU cs 0 1)]) nt1
      have g2 := same_upd (o := .lst [.ref t1]) nl1
      refine ⟨_, rfl, far, 2, rfl, rfl, .inr ⟨decide (far ≥ 2), rfl, _, rfl, l1, [.ref t1], rfl, .inl (.inl upd_same), fun l2 nl2 => ?_⟩⟩
      have g3 := fun L => same_upd (o := .lst L) nl2
      obtain ⟨vs, es, ev, tv_, vv, lv⟩ : ∃ (vs : List V) (es : List Tr), cutV [V.ref t1] none (some (if decide (far ≥ 2) = true then 1 else 0)) = vs ∧ TrV (upd (upd (upd H2 t1 (.tup [.int 0, .int 1, .int (1 + cntU cs 0 1)])) l1 (.lst [.ref t1])) l2 (.lst vs)) vs es ∧ (∀ t ∈ es, Vld far t) ∧ es.length ≤ 1 := by
        by_cases hf : far ≥ 2
        · rw [decide_eq_true hf]
          refine ⟨[.ref t1], [(0, 1, 1 + cntU cs 0 1)], rfl, ⟨rfl, fun i t e => ?_⟩, fun t ht => ?_, Nat.le_refl _⟩
          · match i, e with
            | 0, e => cases e; exact ⟨t1, rfl, (g2.trans (g3 _)) _ _ upd_same⟩
          · rw [List.mem_singleton.mp ht]
            exact ⟨by show (0 : Int) ≤ 0; decide, by show (0 : Int) < far; omega, by show (0 : Int) ≤ 1; decide, by show (1 : Int) < far; omega, by show (0 : Int) ≠ 1; decide, cp⟩
        · rw [decide_eq_false hf]
          exact ⟨[], [], rfl, TrV.nil, by simp, by decide⟩
      rw [ev]
      replace W := W.same (g1.trans (g2.trans (g3 vs)))
      refine fun x dx nx nd ne => rd_make2 (C := C) f0 (.inl (.inl (.inl upd_same))) tv_ vv (by omega) nx nd ne fun H3 r s3 hL hN => ⟨rfl, ?_⟩
      exact qG n cs ds rb h g p o b _ _ _ far x r H3 (W.same s3) B hL (hN.good vv) f0 f1 (Nat.le_trans hN.len lv) fne
    obtain ⟨tE, hE, qE⟩ : ∃ tR, PSs (cxOf CX0 P w K mg base ["_law_script", "_law_pins_here", "_law_held", "_law_wished", "_law_left", "_law_right", "_law_both", "_law_draw", "_law_factor", "_law_due", "_law_far", "_law_strange", "_law_entry"] "law" (defScope s_law) f cdv A outer s H E).nox ((defBody s_law).drop 13) tR ∧ ∀ (n : Int) (cs ds rb : List Tr) (h g p o b : Addr) (y7 y9 y10 y11 : Option V) (k : Int) (H0 : Hp), LW K C l ns n cs ds rb h g p o b H0 → LB n cs ds rb → 0 ≤ k → k ≤ 1000000000 → tR { nx := fun _ H' => Q .non H', rt := Q } [some (.ref l), some (.int n), some (.ref h), some (.ref g), some (.ref p), some (.ref o), some (.ref b), y7, some (.int k), y9, y10, y11, none] H0 := by
      refine ⟨_, (pss_cons (ps_set (i := 9) sc_law.nd rfl (.inl rfl) (pe_call G_n (hr.mono (by decide)) (by rfl) D_n.g D_n.F.kp D_n.b .nil pass0 (pa_cons (pe_lc (own := [("_law_entry", 12)]) (g := gName 12) (tt := tYes) rfl sc_law.nd (pi_tup (pv 2)) (blkOk_by (own := [("_law_entry", 12)]) (N := ["_law_script", "_law_pins_here", "_law_held", "_law_wished", "_law_left", "_law_right", "_law_both", "_law_draw", "_law_factor", "_law_due", "_law_far", "_law_strange", "_law_entry"]) (sc := defScope s_law) (by decide +kernel)) (fun _ _ _ _ _ => (pg_name (i := 12) sc_law.nd rfl (.inl rfl))) (fun _ _ _ _ _ => pts_nil) (fun _ _ _ _ _ => (pe_tup (pa_cons (pe_ix (r := rIxT K) ix_tup (pv 12) pe_int (fun _ _ => rfl)) (pa_cons (pe_ix (r := rIxT K) ix_tup (pv 12) pe_int (fun _ _ => rfl)) (pa_cons (pe_op op_mul (pe_ix (r := rIxT K) ix_tup (pv 12) pe_int (fun _ _ => rfl)) (pv 8)) pa_nil)))))) pa_nil)))
        (pss_cons (ps_if (PW.pt (pw_or (pt_not (pt_val (pe_call G_li (hr.mono (by decide)) (by rfl) D_li.g D_li.F.kp D_li.b .nil pass0 (pa_cons (by exact (pe_ownV s_c i_mul n_mul i_rmul p_rmul G_mul (hr.mono (by decide)) b_mul (E := fun _ => E0) (fun σ pins H s e s' I h => passN pins σ H s e s' I h) (pv 4) (pv 8))) (pa_cons (pv 1) (pa_cons (pv 9) pa_nil)))))) (pw_or1 (pt_not (pt_val (pe_call G_co (hr.mono (by decide)) (by rfl) D_co.g D_co.F.kp D_co.b .nil pass0 (pa_cons (by exact (pe_ownV s_c i_mul n_mul i_rmul p_rmul G_mul (hr.mono (by decide)) b_mul (E := fun _ => E0) (fun σ pins H s e s' I h => passN pins σ H s e s' I h) (pv 4) (pv 8))) (pa_cons (pv 1) (pa_cons (pv 9) pa_nil))))))))) (pss_one (ps_ret pe_bl)) pss_nil)
        (pss_cons (ps_set (i := 10) sc_law.nd rfl (.inl rfl) (pe_op op_mod (pe_callTy call_int1 (by rfl) T.b_int (by decide +kernel) (pa_cons (pe_op op_add (pe_op op_add (pv 1) pe_int) (pe_op op_mod (pe_callTy call_int1 (by rfl) T.b_int (by decide +kernel) (pa_cons (pe_call G_c (hr.mono (by decide)) (by rfl) D_c.g D_c.F.kp D_c.b .nil pass0 (pa_cons (pv 0) (pa_cons pe_int pa_nil))) pa_nil)) pe_int)) pa_nil)) pe_int))
        hF))), ?_⟩
      intro n cs ds rb h g p o b y7 y9 y10 y11 k H0 W B k0 k1
      have n0 := B.n0
      have n1 := B.n1
      have lc := B.lc
      have ld := B.ld
      obtain ⟨hv, eh, th⟩ := id W.hh
      refine ⟨_, rfl, h, rfl, ⟨hv, .inl (.inl eh)⟩, fun O hO => ?_⟩
      refine lc_tup (K := K) (a := h) (xs := hv) (fun i H2 => Same H0 H2 ∧ ∃ ws, H2 O = some (.lst ws) ∧ TrV H2 ws ((tms k cs).take i)) ⟨same_upd hO, [], upd_same, TrV.nil⟩ (fun i H2 _ pv => .inl (.inl (pv.1 _ _ eh))) (fun i x H2 hxi pv => ?_) (fun H2 pv => ?_)
      · obtain ⟨s2, ws, eO, tW⟩ := pv
        obtain ⟨u, t, rfl, hti, hu⟩ := (th.same s2).at_ hxi
        have mt_ := B.mc t (List.mem_of_getElem? hti)
        have pt_ := B.gc.pos t (List.mem_of_getElem? hti)
        have qu : SqT K H2 u (tv t) := .inl (.inl hu)
        have a0 : atI (tv t) 0 = some (.int t.1) := atI_nat (j := 0) rfl
        have a1 : atI (tv t) 1 = some (.int t.2.1) := atI_nat (j := 1) rfl
        have a2 : atI (tv t) 2 = some (.int t.2.2) := atI_nat (j := 2) rfl
        refine ⟨rfl, ?_⟩
        refine ⟨_, rfl, u, _, 0, _, rfl, rfl, qu, a0, _, rfl, u, _, 1, _, rfl, rfl, qu, a1, _, rfl, u, _, 2, _, rfl, rfl, qu, a2, _, rfl, _, _, rfl, rfl, .inl ⟨by omega, by omega⟩, by show 3 ≤ sizeLine; decide, fun v nv => ?_⟩
        have sv := same_upd (o := .tup [.int t.1, .int t.2.1, .int (t.2.2 * k)]) nv
        have hri : (tms k cs)[i]? = some (t.1, t.2.1, t.2.2 * k) := by
          unfold tms
          rw [List.getElem?_map, hti]
          rfl
        have nO : v ≠ O := fun z => by
          rw [z, eO] at nv
          cases nv
        refine ⟨ws, sv _ _ eO, ?_, same_put (H1 := H0) hO (s2.trans sv), _, upd_same, ?_⟩
        · rw [tW.1, List.length_take]
          have : (tms k cs).length = cs.length := List.length_map _
          exact Nat.lt_of_le_of_lt (Nat.min_le_right _ _) (small1000 (by omega))
        · rw [List.take_add_one, hri]
          refine (tW.sameT (sameT_put eO sv)).snoc ?_
          rw [upd_ne nO, upd_same]
      obtain ⟨s2, ws, eO, tW⟩ := pv
      have lt : (tms k cs).length = cs.length := List.length_map _
      rw [th.1, ← lt, List.take_length] at tW
      replace W := W.same s2
      refine ⟨O, ws, tms k cs, rfl, .inl (.inl (.inl eO)), tW, by omega, fun H3 c3 r3 s3 hc3 gn3 => ?_⟩
      replace W := W.same s3
      obtain ⟨dx1, e1c, e1, _⟩ := id W.hp
      refine ⟨_, rfl, _, rfl, p, dx1, _, "int", rfl, e1, .base (.int k), o_mul _ (by decide), p, .int k, n, cs, rfl, W.hp, n0, B.gc.vld, by omega, .inl ⟨k, rfl, k0, fun t _ => .inr ⟨by omega, by omega⟩, fun H4 x r s4 hx hN => ?_⟩⟩
      obtain rfl := gn_mul B.gc k0 gn3 hN
      have gr := hN.good (mulE_vld B.gc k0)
      have lr : r3.length ≤ 8 := Nat.le_trans hN.len (by unfold mulE; split; exact Nat.zero_le _; rw [lt]; exact lc)
      replace W := W.same s4
      refine ⟨_, rfl, _, rfl, x, n, c3, r3, rfl, hx, hc3.same s4, by omega, true, rfl, ?_⟩
      obtain ⟨dx2, e2c, e2, _⟩ := id W.hp
      refine ⟨_, rfl, _, rfl, p, dx2, _, "int", rfl, e2, .base (.int k), o_mul _ (by decide), p, .int k, n, cs, rfl, W.hp, n0, B.gc.vld, by omega, .inl ⟨k, rfl, k0, fun t _ => .inr ⟨by omega, by omega⟩, fun H5 x5 r5 s5 hx5 hN5 => ?_⟩⟩
      obtain rfl := norm_uniq hN5 hN
      replace W := W.same s5
      refine ⟨_, rfl, _, rfl, x5, n, c3, _, rfl, hx5, (hc3.same s4).same s5, by omega, gr, n0, by omega, fun H6 s6 => ⟨true, rfl, ?_⟩⟩
      replace W := W.same s6
      have f0 : 0 ≤ (n + 1 + 0) := by omega
      refine ⟨_, rfl, _, _, rfl, rfl, _, rfl, l, ns, 8, rfl, W.hs, by decide, hn, fun c8 => .inl ⟨_, rfl, _, _, rfl, rfl, by show (0 : Int) < 40; decide, _, _, rfl, rfl, .inl ⟨_, rfl, _, _, rfl, rfl, by show (0 : Int) < 41; decide, ?_⟩⟩⟩
      exact qF n cs ds rb h g p o b _ _ _ _ _ _ W B (by omega) (by omega) (by omega)
    obtain ⟨tC, hC, qC⟩ : ∃ tR, PSs (cxOf CX0 P w K mg base ["_law_script", "_law_pins_here", "_law_held", "_law_wished", "_law_left", "_law_right", "_law_both", "_law_draw", "_law_factor", "_law_due", "_law_far", "_law_strange", "_law_entry"] "law" (defScope s_law) f cdv A outer s H E).nox ((defBody s_law).drop 10) tR ∧ ∀ (n : Int) (cs ds rb : List Tr) (h g p o b : Addr) (y9 y10 y11 : Option V) (H0 : Hp), LW K C l ns n cs ds rb h g p o b H0 → LB n cs ds rb → tR { nx := fun _ H' => Q .non H', rt := Q } [some (.ref l), some (.int n), some (.ref h), some (.ref g), some (.ref p), some (.ref o), some (.ref b), none, none, y9, y10, y11, none] H0 := by
      refine ⟨_, (pss_cons (ps_set (i := 7) sc_law.nd rfl (.inl rfl) (pe_call G_d (hr.mono (by decide)) (by rfl) D_d.g D_d.F.kp D_d.b .nil pass0 (pa_cons (pe_call G_c (hr.mono (by decide)) (by rfl) D_c.g D_c.F.kp D_c.b .nil pass0 (pa_cons (pv 0) (pa_cons pe_int pa_nil))) (pa_cons (pe_lst (pa_cons pe_int (pa_cons pe_int pa_nil))) pa_nil))))
        (pss_cons (ps_set (i := 8) sc_law.nd rfl (.inr rfl) (pe_ix (r := rIxL K) ix_list (pv 7) pe_int (fun _ _ => rfl)))
        (pss_cons (ps_if (pt_cmpR op_lt (pe_ix (r := rIxL K) ix_list (pv 7) pe_int (fun _ _ => rfl)) pe_int (nomark _)) (pss_one (ps_set (i := 8) sc_law.nd rfl (.inr rfl) (pe_ix (r := rIxL K) ix_list (pe_lst (pa_cons pe_int (pa_cons pe_int (pa_cons pe_int (pa_cons (pe_op op_modN (pe_callTy call_int1 (by rfl) T.b_int (by decide +kernel) (pa_cons (pv 8) pa_nil)) (pe_op op_add (pe_op op_fdivN (pe_op op_pow pe_int pe_int) (pe_callB (cr_max rfl) (by rfl) T.b_max (by decide +kernel) (pa_cons (pe_op op_cat (pe_lc (own := [("_law_entry", 12)]) (g := gName 12) (tt := tYes) rfl sc_law.nd (pi_tup (pv 2)) (blkOk_by (own := [("_law_entry", 12)]) (N := ["_law_script", "_law_pins_here", "_law_held", "_law_wished", "_law_left", "_law_right", "_law_both", "_law_draw", "_law_factor", "_law_due", "_law_far", "_law_strange", "_law_entry"]) (sc := defScope s_law) (by decide +kernel)) (fun _ _ _ _ _ => (pg_name (i := 12) sc_law.nd rfl (.inl rfl))) (fun _ _ _ _ _ => pts_nil) (fun _ _ _ _ _ => (pe_ix (r := rIxT K) ix_tup (pv 12) pe_int (fun _ _ => rfl)))) (pe_lst (pa_cons pe_int pa_nil))) pa_nil))) pe_int)) pa_nil))))) (pe_ix (r := rIxL K) ix_list (pv 7) pe_int (fun _ _ => rfl)) (fun _ _ => rfl)))) pss_nil)
        hE))), ?_⟩
      intro n cs ds rb h g p o b y9 y10 y11 H0 W B
      have lc := B.lc
      refine ⟨_, rfl, l, ns, 3, rfl, W.hs, by decide, hn, fun c3 => ⟨by show 2 ≤ sizeLine; decide, fun bb nb => ⟨c3, bb, [5, 1000000001], rfl, .inl (.inl upd_same), by decide, by decide, fun H1 a dgs s1 na ea dg => ?_⟩⟩⟩
      obtain ⟨w0, w1, rfl, h0, h1⟩ := digs2 dg
      have sa := (same_upd (o := .lst [.int 5, .int 1000000001]) nb).trans s1
      replace W := W.same sa
      clear s1 sa
      have qa : SqL K H1 a [.int w0, .int w1] := .inl (.inl ea)
      have a0 : atI [V.int w0, .int w1] 0 = some (.int w0) := atI_nat (j := 0) rfl
      have a1 : atI [V.int w0, .int w1] 1 = some (.int w1) := atI_nat (j := 1) rfl
      refine ⟨_, rfl, a, _, 1, _, rfl, rfl, qa, a1, ?_⟩
      refine ⟨_, rfl, a, _, 0, _, rfl, rfl, qa, a0, _, _, rfl, rfl, _, rfl, ite2 (fun e => ?_) (fun e => ?_)⟩
      · have w4 : w0 < 4 := of_decide_eq_true e
        refine ⟨_, rfl, .inl ⟨_, rfl, ?_⟩⟩
        refine ⟨_, _, rfl, rfl, ⟨by decide, by decide, by decide⟩, ?_⟩
        obtain ⟨vs, ec, tc⟩ := id W.hh
        refine ⟨_, rfl, h, rfl, ⟨vs, .inl (.inl ec)⟩, fun O hO => ?_⟩
        refine lc_tup (K := K) (a := h) (xs := vs) (fun i H2 => H2 = upd H1 O (.lst (((cs.map fun t => t.2.2).take i).map V.int))) rfl (fun i H2 _ p => by subst p; exact .inl (.inl (same_upd hO _ _ ec))) (fun i x H2 hxi p => ?_) (fun H2 p => ?_)
        · subst p
          obtain ⟨w, t, rfl, hti, hw⟩ := tc.at_ hxi
          refine ⟨rfl, ?_⟩
          refine ⟨_, rfl, w, _, 2, _, rfl, rfl, .inl (.inl (same_upd hO _ _ hw)), atI_nat (j := 2) rfl, _, upd_same, ?_, ?_⟩
          · rw [List.length_map, List.length_take, List.length_map]
            exact Nat.lt_of_le_of_lt (Nat.min_le_right _ _) (small1000 (show cs.length ≤ 1000 by omega))
          · rw [upd_upd, List.take_add_one, List.getElem?_map, hti, List.map_append]
            rfl
        · subst p
          rw [show vs.length = (cs.map fun t => t.2.2).length by rw [List.length_map]; exact tc.1, List.take_length]
          have sO : Same H1 (upd H1 O (.lst ((cs.map fun t => t.2.2).map V.int))) := same_upd hO
          refine ⟨by show 1 ≤ sizeLine; decide, fun O2 hO2 => ?_⟩
          have nO : O ≠ O2 := fun z => by
            rw [← z, upd_same] at hO2
            cases hO2
          refine ⟨O, O2, _, _, rfl, rfl, by rw [upd_ne nO, upd_same], upd_same, ?_, fun O3 hO3 => ?_⟩
          · rw [List.length_map, List.length_map]
            exact Nat.le_of_lt (small1000 (show cs.length + 1 ≤ 1000 by have := B.lc; omega))
          have sO3 := (sO.trans (same_upd (o := .lst [.int 1]) hO2)).trans (same_upd (o := .lst ((cs.map fun t => t.2.2).map V.int ++ [.int 1])) hO3)
          refine ⟨O3, (cs.map fun t => t.2.2) ++ [1], rfl, .inl (.inl ?_), by simp, fun m hm hmx => ?_⟩
          · rw [upd_same, List.map_append]
            rfl
          have m1 : 1 ≤ m := hmx 1 (by simp)
          have m2 : m ≤ 500000000 := by
            rcases List.mem_append.mp hm with h | h
            · obtain ⟨t, ht, rfl⟩ := List.mem_map.mp h
              exact B.mc t ht
            · rw [List.mem_singleton.mp h]
              decide
          refine ⟨_, _, rfl, rfl, ⟨by omega, by omega⟩, _, _, rfl, rfl, ?_⟩
          have q0 : 0 ≤ Int.fdiv (10 ^ Int.toNat 9) m := by
            rw [Int.fdiv_eq_ediv_of_nonneg _ (by omega)]
            exact Int.ediv_nonneg (by decide) (by omega)
          have q1 : Int.fdiv (10 ^ Int.toNat 9) m ≤ 1000000000 := by
            rw [Int.fdiv_eq_ediv_of_nonneg _ (by omega)]
            exact Int.ediv_le_self _ (by decide)
          generalize Int.fdiv (10 ^ Int.toNat 9) m = qq at q0 q1 ⊢
          have hm := fmod_in w1 (show 0 < qq + 1 by omega)
          refine ⟨_, _, rfl, rfl, by omega, ?_⟩
          refine ⟨by show 4 ≤ sizeLine; decide, fun O4 hO4 => ?_⟩
          have s4 := sO3.trans (same_upd (o := .lst [.int 0, .int 1, .int 2, .int (w1.fmod (qq + 1))]) hO4)
          obtain ⟨kk_, ek, k0, k1⟩ : ∃ y, atI [V.int 0, .int 1, .int 2, .int (w1.fmod (qq + 1))] w0 = some (.int y) ∧ 0 ≤ y ∧ y ≤ 1000000000 := by
            have : w0 = 0 ∨ w0 = 1 ∨ w0 = 2 ∨ w0 = 3 := by omega
            rcases this with e | e | e | e <;> rw [e]
            · exact ⟨_, atI_nat (j := 0) rfl, by decide, by decide⟩
            · exact ⟨_, atI_nat (j := 1) rfl, by decide, by decide⟩
            · exact ⟨_, atI_nat (j := 2) rfl, by decide, by decide⟩
            · exact ⟨_, atI_nat (j := 3) rfl, by omega, by omega⟩
          have ea4 := s4 _ _ ea
          refine ⟨_, rfl, a, _, 0, _, rfl, rfl, .inl (.inl ea4), a0, O4, _, _, _, rfl, rfl, .inl (.inl upd_same), ek, ?_⟩
          exact qE n cs ds rb h g p o b _ _ _ _ kk_ _ (W.same s4) B k0 k1
      · exact qE n cs ds rb h g p o b _ _ _ _ w1 _ W B h1.1 (by omega)
    obtain ⟨tB, hB, qB⟩ : ∃ tR, PSs (cxOf CX0 P w K mg base ["_law_script", "_law_pins_here", "_law_held", "_law_wished", "_law_left", "_law_right", "_law_both", "_law_draw", "_law_factor", "_law_due", "_law_far", "_law_strange", "_law_entry"] "law" (defScope s_law) f cdv A outer s H E).nox ((defBody s_law).drop 6) tR ∧ ∀ (n : Int) (cs ds rb : List Tr) (h g p o b : Addr) (H0 : Hp), LW K C l ns n cs ds rb h g p o b H0 → LB n cs ds rb → tR { nx := fun _ H' => Q .non H', rt := Q } [some (.ref l), some (.int n), some (.ref h), some (.ref g), some (.ref p), some (.ref o), some (.ref b), none, none, none, none, none, none] H0 := by
      refine ⟨_, (pss_cons (ps_if (PW.pt (pw_or (pt_not (pt_val (pe_call G_li (hr.mono (by decide)) (by rfl) D_li.g D_li.F.kp D_li.b .nil pass0 (pa_cons (pe_ownB s_c i_add n_add G_add (hr.mono (by decide)) b_add (E := fun _ => E0) (fun σ pins H s e s' I h => passN pins σ H s e s' I h) (pv 4) (pv 5)) (pa_cons (pv 1) (pa_cons (pv 6) pa_nil)))))) (pw_or1 (pt_not (pt_val (pe_call G_li (hr.mono (by decide)) (by rfl) D_li.g D_li.F.kp D_li.b .nil pass0 (pa_cons (pe_ownB s_c i_add n_add G_add (hr.mono (by decide)) b_add (E := fun _ => E0) (fun σ pins H s e s' I h => passN pins σ H s e s' I h) (pv 5) (pv 4)) (pa_cons (pv 1) (pa_cons (pv 6) pa_nil))))))))) (pss_one (ps_ret pe_bl)) pss_nil)
        (pss_cons (ps_if (PW.pt (pw_or (pt_not (pt_val (pe_call G_to (hr.mono (by decide)) (by rfl) D_to.g D_to.F.kp D_to.b .nil pass0 (pa_cons (pv 4) (pa_cons (pv 1) (pa_cons (pv 2) pa_nil)))))) (pw_or1 (pt_not (pt_val (pe_call G_to (hr.mono (by decide)) (by rfl) D_to.g D_to.F.kp D_to.b .nil pass0 (pa_cons (pe_ownB s_c i_add n_add G_add (hr.mono (by decide)) b_add (E := fun _ => E0) (fun σ pins H s e s' I h => passN pins σ H s e s' I h) (pv 4) (pv 5)) (pa_cons (pv 1) (pa_cons (pv 6) pa_nil))))))))) (pss_one (ps_ret pe_bl)) pss_nil)
        (pss_cons (ps_if (PW.pt (pw_or (pt_not (pt_val (pe_call G_li (hr.mono (by decide)) (by rfl) D_li.g D_li.F.kp D_li.b .nil pass0 (pa_cons (pe_ownB s_c i_add n_add G_add (hr.mono (by decide)) b_add (E := fun _ => E0) (fun σ pins H s e s' I h => passN pins σ H s e s' I h) (pv 4) (pv 4)) (pa_cons (pv 1) (pa_cons (pe_call G_n (hr.mono (by decide)) (by rfl) D_n.g D_n.F.kp D_n.b .nil pass0 (pa_cons (pe_op op_catTr (pv 2) (pv 2)) pa_nil)) pa_nil)))))) (pw_or1 (pt_not (pt_val (pe_call G_li (hr.mono (by decide)) (by rfl) D_li.g D_li.F.kp D_li.b .nil pass0 (pa_cons (pe_ownB s_c i_sub n_sub G_sub (hr.mono (by decide)) b_sub (E := fun _ => E0) (fun σ pins H s e s' I h => passN pins σ H s e s' I h) (pv 4) (pv 4)) (pa_cons (pv 1) (pa_cons (pe_tup pa_nil) pa_nil))))))))) (pss_one (ps_ret pe_bl)) pss_nil)
        (pss_cons (ps_if (pt_not (pt_val (pe_call G_df (hr.mono (by decide)) (by rfl) D_df.g D_df.F.kp D_df.b .nil pass0 (pa_cons (pv 4) (pa_cons (pv 5) (pa_cons (pv 1) (pa_cons (pv 2) (pa_cons (pv 3) (pa_cons (pv 0) pa_nil))))))))) (pss_one (ps_ret pe_bl)) pss_nil)
        hC)))), ?_⟩
      intro n cs ds rb h g p o b H0 W B
      have n0 := B.n0
      have n1 := B.n1
      have lc := B.lc
      have ld := B.ld
      have lb := B.lb
      obtain ⟨dx1, e1c, e1, _⟩ := id W.hp
      obtain ⟨dx2, e2c, e2, _⟩ := id W.ho
      refine ⟨_, rfl, _, rfl, p, dx1, _, o, dx2, _, rfl, rfl, e1, e2, p, o, n, n, cs, ds, rfl, W.hp, W.ho, ⟨n0, by omega⟩, ⟨n0, by omega⟩, B.gc.vld, B.gd.vld, by omega, fun _ H1 x r s1 hx hN => ?_, fun z => absurd rfl z⟩
      obtain rfl := norm_uniq hN B.ib
      replace W := W.same s1
      refine ⟨_, rfl, _, rfl, x, n, b, r, rfl, hx, W.hb, by omega, true, rfl, ?_⟩
      clear hx e1 e2
      obtain ⟨dx1, e1c, e1, _⟩ := id W.hp
      obtain ⟨dx2, e2c, e2, _⟩ := id W.ho
      refine ⟨_, rfl, _, rfl, o, dx2, _, p, dx1, _, rfl, rfl, e2, e1, o, p, n, n, ds, cs, rfl, W.ho, W.hp, ⟨n0, by omega⟩, ⟨n0, by omega⟩, B.gd.vld, B.gc.vld, by omega, fun _ H2 x r2 s2 hx hN2 => ?_, fun z => absurd rfl z⟩
      obtain rfl := norm_uniq (norm_comm hN2) hN
      replace W := W.same s2
      refine ⟨_, rfl, _, rfl, x, n, b, _, rfl, hx, W.hb, by omega, true, rfl, ?_⟩
      clear hx e1 e2
      refine ⟨_, rfl, _, rfl, _, rfl, p, n, h, cs, rfl, W.hp, W.hh, by omega, B.gc, n0, by omega, fun H3 s3 => ⟨true, rfl, ?_⟩⟩
      replace W := W.same s3
      obtain ⟨dx1, e1c, e1, _⟩ := id W.hp
      obtain ⟨dx2, e2c, e2, _⟩ := id W.ho
      refine ⟨_, rfl, _, rfl, p, dx1, _, o, dx2, _, rfl, rfl, e1, e2, p, o, n, n, cs, ds, rfl, W.hp, W.ho, ⟨n0, by omega⟩, ⟨n0, by omega⟩, B.gc.vld, B.gd.vld, by omega, fun _ H4 x r3 s4 hx hN3 => ?_, fun z => absurd rfl z⟩
      obtain rfl := norm_uniq hN3 hN
      replace W := W.same s4
      refine ⟨_, rfl, _, rfl, x, n, b, _, rfl, hx, W.hb, by omega, B.gb, n0, by omega, fun H5 s5 => ⟨true, rfl, ?_⟩⟩
      replace W := W.same s5
      clear hx e1 e2
      obtain ⟨dx1, e1c, e1, _⟩ := id W.hp
      refine ⟨_, rfl, _, rfl, p, dx1, _, p, dx1, _, rfl, rfl, e1, e1, p, p, n, n, cs, cs, rfl, W.hp, W.hp, ⟨n0, by omega⟩, ⟨n0, by omega⟩, B.gc.vld, B.gc.vld, by omega, fun _ H6 x r4 s6 hx hN4 => ?_, fun z => absurd rfl z⟩
      replace W := W.same s6
      refine ⟨_, rfl, _, rfl, _, rfl, h, h, cs, cs, rfl, rfl, W.hh, W.hh, by omega, fun H7 x7 s7 hx7 => ?_⟩
      obtain ⟨xv, ex, tx⟩ := id hx7
      replace W := W.same s7
      refine ⟨x7, xv, cs ++ cs, rfl, .inr (.inl (.inl ex)), tx, by rw [List.length_append]; omega, fun H8 c8 r8 s8 hc8 gn8 => ?_⟩
      obtain rfl := norm_uniq (gn8.norm fun t ht => (app_vld B.gc B.gc t ht).2.2.2.2.2) hN4
      replace W := W.same s8
      have l8 : r8.length ≤ 16 := Nat.le_trans hN4.len (by rw [List.length_append]; omega)
      refine ⟨x, n, c8, r8, rfl, (hx.same s7).same s8, hc8, by omega, true, rfl, ?_⟩
      clear hx hx7 e1
      obtain ⟨dx1, e1c, e1, _⟩ := id W.hp
      refine ⟨_, rfl, _, rfl, p, dx1, _, p, dx1, _, rfl, rfl, e1, e1, p, p, n, n, cs, cs, rfl, W.hp, W.hp, ⟨n0, by omega⟩, ⟨n0, by omega⟩, B.gc, B.gc, by omega, fun _ _ H9 x r9 s9 hx g9 c9 => ?_, fun _ j t hj bad _ => ?_, fun z => absurd rfl z⟩
      · obtain rfl : r9 = [] := good_ext g9 (good_nil n) fun q => by rw [c9]; show _ = 0; omega
        replace W := W.same s9
        refine ⟨_, rfl, Nat.zero_le _, fun z nz => ?_⟩
        have sz := same_upd (o := .tup []) nz
        replace W := W.same sz
        refine ⟨x, n, z, [], rfl, hx.same sz, ⟨[], upd_same, TrV.nil⟩, Nat.zero_le _, true, rfl, ?_⟩
        refine ⟨_, rfl, _, rfl, _, rfl, _, rfl, _, rfl, _, rfl, p, o, h, g, l, n, ns, cs, ds, rfl, W.hp, W.ho, W.hh, W.hg, B.gc, B.gd, by omega, by omega, B.mc, n0, by omega, W.hs, hn, fun H10 s10 => ⟨true, rfl, ?_⟩⟩
        exact qC n cs ds _ h g p o b _ _ _ H10 (W.same s10) B
      · have := B.gc.cnt (List.mem_of_getElem? hj)
        omega
    refine ⟨_, (pss_cons (ps_set (i := 1) sc_law.nd rfl (.inl rfl) (pe_call G_p (hr.mono (by decide)) (by rfl) D_p.g D_p.F.kp D_p.b .nil pass0 (pa_cons (pe_call G_c (hr.mono (by decide)) (by rfl) D_c.g D_c.F.kp D_c.b .nil pass0 (pa_cons (pv 0) (pa_cons pe_int pa_nil))) pa_nil)))
        (pss_cons (ps_set (i := 2) sc_law.nd rfl (.inl rfl) (pe_call G_l (hr.mono (by decide)) (by rfl) D_l.g D_l.F.kp D_l.b .nil pass0 (pa_cons (pv 0) (pa_cons pe_int (pa_cons (pe_ix (r := rIxL K) ix_list (pe_call G_d (hr.mono (by decide)) (by rfl) D_d.g D_d.F.kp D_d.b .nil pass0 (pa_cons (pe_call G_c (hr.mono (by decide)) (by rfl) D_c.g D_c.F.kp D_c.b .nil pass0 (pa_cons (pv 0) (pa_cons pe_int pa_nil))) (pa_cons (pe_lst (pa_cons pe_int pa_nil)) pa_nil))) pe_int (fun _ _ => rfl)) (pa_cons (pv 1) pa_nil))))))
        (pss_cons (ps_set (i := 3) sc_law.nd rfl (.inl rfl) (pe_call G_l (hr.mono (by decide)) (by rfl) D_l.g D_l.F.kp D_l.b .nil pass0 (pa_cons (pv 0) (pa_cons pe_int (pa_cons (pe_ix (r := rIxL K) ix_list (pe_call G_d (hr.mono (by decide)) (by rfl) D_d.g D_d.F.kp D_d.b .nil pass0 (pa_cons (pe_call G_c (hr.mono (by decide)) (by rfl) D_c.g D_c.F.kp D_c.b .nil pass0 (pa_cons (pv 0) (pa_cons pe_int pa_nil))) (pa_cons (pe_lst (pa_cons pe_int pa_nil)) pa_nil))) pe_int (fun _ _ => rfl)) (pa_cons (pv 1) pa_nil))))))
        (pss_cons (ps_set (i := 4) sc_law.nd rfl (.inl rfl) (pe_make M_i G_i (hr.mono (by decide)) (by rfl) L.g b_i .nil pass0 (pa_cons (pv 1) (pa_cons (pv 2) pa_nil))))
        (pss_cons (ps_set (i := 5) sc_law.nd rfl (.inl rfl) (pe_make M_i G_i (hr.mono (by decide)) (by rfl) L.g b_i .nil pass0 (pa_cons (pv 1) (pa_cons (pe_callTy call_list_of (by rfl) T.b_list (by decide +kernel) (pa_cons (pv 3) pa_nil)) pa_nil))))
        (pss_cons (ps_set (i := 6) sc_law.nd rfl (.inl rfl) (pe_call G_n (hr.mono (by decide)) (by rfl) D_n.g D_n.F.kp D_n.b .nil pass0 (pa_cons (pe_op op_catTr (pv 2) (pv 3)) pa_nil)))
        hB)))))), ?_⟩
    refine ⟨_, rfl, l, ns, 0, rfl, hs, by decide, hn, fun c0 => ⟨c0, rfl, fun H1 n s1 n0 n40 => ?_⟩⟩
    replace hs := s1.seq hs
    refine ⟨_, rfl, _, rfl, l, ns, 1, rfl, hs, by decide, hn, fun c1 => ⟨by show 1 ≤ sizeLine; decide, fun bb nb => ⟨c1, bb, [9], rfl, .inl (.inl upd_same), by decide, by decide, fun H2 a dgs s2 na ea dg => ?_⟩⟩⟩
    obtain ⟨w0, rfl, h0⟩ := digs1 dg
    refine ⟨a, _, 0, _, rfl, rfl, .inl (.inl ea), atI_nat (j := 0) rfl, _, rfl, ?_⟩
    replace hs := ((same_upd (o := .lst [.int 9]) nb).trans s2).seq hs
    refine ⟨l, ns, 9, w0.toNat, n, by rw [show ((w0.toNat : Nat) : Int) = w0 by omega]; rfl, hs, hn, by decide, by omega, n0, by omega, fun H3 h cs s3 hh gc lc mc => ?_⟩
    replace hs := s3.seq hs
    clear na ea dg nb s2
    refine ⟨_, rfl, _, rfl, l, ns, 2, rfl, hs, by decide, hn, fun c2 => ⟨by show 1 ≤ sizeLine; decide, fun b2 nb2 => ⟨c2, b2, [9], rfl, .inl (.inl upd_same), by decide, by decide, fun H4 a2 dgs2 s4 na2 ea2 dg2 => ?_⟩⟩⟩
    obtain ⟨w1, rfl, h1⟩ := digs1 dg2
    refine ⟨a2, _, 0, _, rfl, rfl, .inl (.inl ea2), atI_nat (j := 0) rfl, _, rfl, ?_⟩
    have s24 := (same_upd (o := .lst [.int 9]) nb2).trans s4
    replace hs := s24.seq hs
    refine ⟨l, ns, 17, w1.toNat, n, by rw [show ((w1.toNat : Nat) : Int) = w1 by omega]; rfl, hs, hn, by decide, by omega, n0, by omega, fun H5 g ds s5 hg gd ld md => ?_⟩
    replace hs := s5.seq hs
    replace hh := (hh.same s24).same s5
    clear na2 ea2 dg2 nb2 s4 s24 s5 s3
    obtain ⟨xs, hB_, hx⟩ := hh.sq (K := K)
    refine ⟨_, rfl, _, rfl, ?_⟩
    refine fun p dx nx nd ne => rd_make2 (C := C) n0 hB_ hx gc.vld (by omega) nx nd ne fun H6 r s6 hp hN1 => ⟨rfl, ?_⟩
    obtain rfl : r = cs := norm_uniq hN1 gc.self
    replace hs := s6.seq hs
    replace hh := hh.same s6
    replace hg := hg.same s6
    clear hB_ hx
    obtain ⟨gv, eg, tg⟩ := id hg
    refine ⟨_, rfl, _, rfl, g, gv, rfl, .inr (.inl (.inl eg)), fun l5 n5 => ?_⟩
    have s5 := same_upd (o := .lst gv) n5
    refine fun o dx2 nx2 nd2 ne2 => rd_make2 (C := C) n0 (.inl (.inl (.inl upd_same))) (tg.same s5) gd.vld (by omega) nx2 nd2 ne2 fun H7 r2 s7 ho hN2 => ⟨rfl, ?_⟩
    obtain rfl : r2 = ds := norm_uniq hN2 gd.self
    have s57 := s5.trans s7
    replace hs := s57.seq hs
    replace hh := hh.same s57
    replace hg := hg.same s57
    replace hp := hp.same s57
    refine ⟨_, rfl, _, rfl, h, g, r, r2, rfl, rfl, hh, hg, by omega, fun H8 x8 s8 hx8 => ?_⟩
    obtain ⟨xv, ex, tx⟩ := id hx8
    refine ⟨x8, xv, r ++ r2, rfl, .inr (.inl (.inl ex)), tx, by rw [List.length_append]; omega, fun H9 b rb s9 hb gn => ?_⟩
    have s89 := s8.trans s9
    exact qB n r r2 rb h g p o b H9 ⟨s89.seq hs, hh.same s89, hg.same s89, hp.same s89, ho.same s89, hb⟩ ⟨n0, n40, gc, gd, by omega, by omega, mc, gn.norm fun t ht => (app_vld gc gd t ht).2.2.2.2.2⟩
end
end Own

namespace Own
open PySem PySem.Spec PyProof.Rows L2
/-! ### an own error's class and its base -/
theorem sup_of {K : PySem.W.Frag} {D R N M : Addr} {n1 n2 n3 n4 : Str} {b1 b2 s1 s2 bm : List Value} {h1 h2 a1 a2 : Bool} {l1 l2 : List Str} {c1 c2 : Option Bool} {d1 d2 : Option Addr} {k0 k1 k2 k3 k5 j0 j1 j2 j3 j5 : Option Value} {i1 i2 : String} {v : Option Value}
    (lD : K.lookup D = some (excClassObj n1 n2 D N b1 (.ref R :: bm) h1 l1 s1 a1 c1 d1 k0 k1 k2 k3 k5 i1)) (lR : K.lookup R = some (excClassObj n3 n4 R M b2 bm h2 l2 s2 a2 c2 d2 j0 j1 j2 j3 j5 i2)) (iR : PySem.W.findIn K (.ref R) "__init__" = some v) : PySem.W.ks_superIn K D D "__init__" = some v := by
  have iR : (match K.lookup R with
      | some ⟨_, _, .cls cd, _⟩ => PySem.W.alongIn K "__init__" cd.mro
      | _ => none) = some v := iR
  rw [lR] at iR
  unfold PySem.W.ks_superIn PySem.W.clsIn
  rw [lD]
  have e : ((Value.ref D :: .ref R :: bm).dropWhile (· != .ref D)).drop 1 = .ref R :: bm := by simp [List.dropWhile]
  show PySem.W.alongIn K "__init__" (((Value.ref D :: .ref R :: bm).dropWhile (· != .ref D)).drop 1) = some v
  rw [e]
  exact iR
theorem kit_ref {K : PySem.W.Frag} {D c : Addr} {b : Bool} (hd : PySem.W.subIn K (.ref D) (.ref D) = some true) (h1 : PySem.W.isClsIn K c = true) (h2 : PySem.W.typeIn K (.ref c) = some (.type "type")) (h3 : PySem.W.subIn K (.ref D) (.ref c) = some b) : PySem.W.kitOne K (.ref D) (.ref c) = some b := by
  unfold PySem.W.kitOne
  by_cases h : (Value.ref D == Value.ref c) = true
  · rw [if_pos h]
    have e : D = c := Value.ref.inj (beq_iff_eq.mp h)
    subst e
    exact hd.symm.trans h3
  · rw [if_neg h]
    show (if ((PySem.W.clsIn K c).isSome && PySem.W.typeIn K (.ref c) == some (.type "type")) = true then PySem.W.subIn K (.ref D) (.ref c) else none) = some b
    have e : ((PySem.W.clsIn K c).isSome && PySem.W.typeIn K (.ref c) == some (.type "type")) = true := by
      have h1 : (PySem.W.clsIn K c).isSome = true := h1
      rw [h1, h2]
      rfl
    rw [if_pos e]
    exact h3
theorem kit_ve {K : PySem.W.Frag} {D : Addr} {b : Bool} (h : PySem.W.subIn K (.ref D) (.type "ValueError") = some b) : PySem.W.kitOne K (.ref D) (.type "ValueError") = some b := by
  unfold PySem.W.kitOne
  rw [if_neg fun z : (Value.ref D == Value.type "ValueError") = true => by cases beq_iff_eq.mp z]
  show (if PySem.W.kitMeta "ValueError" = true then PySem.W.subIn K (.ref D) (.type "ValueError") else none) = some b
  rw [if_pos (by decide +kernel)]
  exact h
def cOf (a b c d e f g : Addr) : String → Addr := fun n => if n = "NotPart" then a else if n = "BadNumber" then b else if n = "BadPin" then c else if n = "BadCord" then d else if n = "BadPins" then e else if n = "UnlikePins" then f else g
theorem cOf0 {a b c d e f g : Addr} : cOf a b c d e f g "NotPart" = a := by simp [cOf]
theorem cOf1 {a b c d e f g : Addr} : cOf a b c d e f g "BadNumber" = b := by simp [cOf]
theorem cOf2 {a b c d e f g : Addr} : cOf a b c d e f g "BadPin" = c := by simp [cOf]
theorem cOf3 {a b c d e f g : Addr} : cOf a b c d e f g "BadCord" = d := by simp [cOf]
theorem cOf4 {a b c d e f g : Addr} : cOf a b c d e f g "BadPins" = e := by simp [cOf]
theorem cOf5 {a b c d e f g : Addr} : cOf a b c d e f g "UnlikePins" = f := by simp [cOf]
theorem cOf6 {a b c d e f g : Addr} : cOf a b c d e f g "RimError" = g := by simp [cOf]
theorem not_first {K : PySem.W.Frag} {C : Addr} {T : String} (h : PySem.W.subIn K (.type T) (.ref C) = some false) : PySem.W.notFirst K C (.type T) = true := by
  unfold PySem.W.notFirst
  rw [h]
  simp
theorem kit_tyref {K : PySem.W.Frag} {c : Addr} {T : String} {b : Bool} (h1 : PySem.W.isClsIn K c = true) (h2 : PySem.W.typeIn K (.ref c) = some (.type "type")) (h3 : PySem.W.subIn K (.type T) (.ref c) = some b) : PySem.W.kitOne K (.type T) (.ref c) = some b := by
  unfold PySem.W.kitOne
  rw [if_neg fun z : (Value.type T == Value.ref c) = true => by cases beq_iff_eq.mp z]
  show (if ((PySem.W.clsIn K c).isSome && PySem.W.typeIn K (.ref c) == some (.type "type")) = true then PySem.W.subIn K (.type T) (.ref c) else none) = some b
  have e : ((PySem.W.clsIn K c).isSome && PySem.W.typeIn K (.ref c) == some (.type "type")) = true := by
    have h1 : (PySem.W.clsIn K c).isSome = true := h1
    rw [h1, h2]
    rfl
  rw [if_pos e]
  exact h3
/-! ### what the top has left -/
theorem df_mk {K : PySem.W.Frag} {mg : Str → Option Value} {x : Str} {st : Stmt} {ps : List Str} {h : Heap} {f : Addr} {oc : Value} {od an : Option Addr} {osl : Array (Option Value)} {kV doc pm cdv ct : Value} (X : K.In h) (G : h.Ns mainGlobals mg)
    (a : PySem.W.nsIn K mainGlobals x = some (some (.ref f))) (l : K.lookup f = some ⟨oc, od, .func (PySem.W.fnOf x x (defArgs st) (defBody st) (defScope st) .none kV doc pm an cdv ct), osl⟩) (c : PySem.W.codeIn K cdv x = true) (k : PySem.W.keepIn K (.ref f) = true)
    (b : ∀ (kV doc pm : Value) (an : Option Addr) (cdv ct : Value) (us : List Value), us.length = ps.length → bindArgs (PySem.W.fnOf x x (defArgs st) (defBody st) (defScope st) .none kV doc pm an cdv ct) ⟨us, []⟩ = pure (ps.zip us)) :
    Df K mg x st ps f (PySem.W.fnOf x x (defArgs st) (defBody st) (defScope st) .none kV doc pm an cdv ct) :=
  ⟨fun_mk l c k, PySem.W.mg_of X G a, (fun_mk l c k).binds b⟩
set_option maxHeartbeats 0 in
theorem all_mk {lw : PySem.W.OpenLaw} {w : World} {K : PySem.W.Frag} {h : Heap} {mg : Str → Option Value} {fa C  z T_d f1 f2 f3 f4 f5 f6 f7 f8 f9 f10 f11 f12 f13 f14 f15 f16 f17 f18 f19 f20 f21 f22 f23 f24 f25 f26 f27 f28 f29 f30 f31 f32 f33 f34 f35 f36 f37 f38 f39 f40 f41 f42 f43 f44 DU ccU cdaU fuU NU DN ccN cdaN fuN NN DB ccB cdaB fuB NB DP ccP cdaP fuP NP c_bc c_bps c_re NR : Addr} {nmR qR : Str} {niR : String} {bsR subR : List Value} {snR : List Str} {abR hdR : Bool} {colR : Option Bool} {ddR : Option Addr} {m0r m1r m2r m3r m5r : Option Value} {nmU qU fileU : Str} {bsU subU : List Value} {snU : List Str} {abU : Bool} {colU : Option Bool} {ddU odU anU cldU cddU : Option Addr} {m0U m1U m2U m3U m5U : Option Value} {ocU kVU dcU pmU ctU clU cclU : Value} {slU cslU ccsU : Array (Option Value)} {vsU : Array Value} {tfU : Tok} {nmN qN fileN : Str} {bsN subN : List Value} {snN : List Str} {abN : Bool} {colN : Option Bool} {ddN odN anN cldN cddN : Option Addr} {m0N m1N m2N m3N m5N : Option Value} {ocN kVN dcN pmN ctN clN cclN : Value} {slN cslN ccsN : Array (Option Value)} {vsN : Array Value} {tfN : Tok} {nmB qB fileB : Str} {bsB subB : List Value} {snB : List Str} {abB : Bool} {colB : Option Bool} {ddB odB anB cldB cddB : Option Addr} {m0B m1B m2B m3B m5B : Option Value} {ocB kVB dcB pmB ctB clB cclB : Value} {slB cslB ccsB : Array (Option Value)} {vsB : Array Value} {tfB : Tok} {nmP qP fileP : Str} {bsP subP : List Value} {snP : List Str} {abP : Bool} {colP : Option Bool} {ddP odP anP cldP cddP : Option Addr} {m0P m1P m2P m3P m5P : Option Value} {ocP kVP dcP pmP ctP clP cclP : Value} {slP cslP ccsP : Array (Option Value)} {vsP : Array Value} {tfP : Tok} {fo0 ro0 fo1 ro1 fo2 ro2 fo3 ro3 fo4 ro4 fo5 ro5 : Option Value} (X : K.In h) (G : h.Ns mainGlobals mg) (hfa : mg "law" = some (.ref fa))
    {odT odz od1 an1 od2 an2 od3 an3 od4 an4 od5 an5 od6 an6 od7 an7 od8 an8 od9 an9 od10 an10 od11 an11 od12 an12 od13 an13 od14 an14 od15 an15 od16 an16 od17 an17 od18 an18 od19 an19 od20 an20 od21 an21 od22 an22 od23 an23 od24 an24 od25 an25 od26 an26 od27 an27 od28 an28 od29 an29 od30 an30 od31 an31 od32 an32 od33 an33 od34 an34 od35 an35 od36 an36 od37 an37 od38 an38 od39 an39 od40 an40 od41 an41 od42 an42 od43 an43 od44 an44 : Option Addr} {slT slz sl1 sl2 sl3 sl4 sl5 sl6 sl7 sl8 sl9 sl10 sl11 sl12 sl13 sl14 sl15 sl16 sl17 sl18 sl19 sl20 sl21 sl22 sl23 sl24 sl25 sl26 sl27 sl28 sl29 sl30 sl31 sl32 sl33 sl34 sl35 sl36 sl37 sl38 sl39 sl40 sl41 sl42 sl43 sl44 : Array (Option Value)} {ocT oc1 kV1 dc1 pm1 cd1 ct1 oc2 kV2 dc2 pm2 cd2 ct2 oc3 kV3 dc3 pm3 cd3 ct3 oc4 kV4 dc4 pm4 cd4 ct4 oc5 kV5 dc5 pm5 cd5 ct5 oc6 kV6 dc6 pm6 cd6 ct6 oc7 kV7 dc7 pm7 cd7 ct7 oc8 kV8 dc8 pm8 cd8 ct8 oc9 kV9 dc9 pm9 cd9 ct9 oc10 kV10 dc10 pm10 cd10 ct10 oc11 kV11 dc11 pm11 cd11 ct11 oc12 kV12 dc12 pm12 cd12 ct12 oc13 kV13 dc13 pm13 cd13 ct13 oc14 kV14 dc14 pm14 cd14 ct14 oc15 kV15 dc15 pm15 cd15 ct15 oc16 kV16 dc16 pm16 cd16 ct16 oc17 kV17 dc17 pm17 cd17 ct17 oc18 kV18 dc18 pm18 cd18 ct18 oc19 kV19 dc19 pm19 cd19 ct19 oc20 kV20 dc20 pm20 cd20 ct20 oc21 kV21 dc21 pm21 cd21 ct21 oc22 kV22 dc22 pm22 cd22 ct22 oc23 kV23 dc23 pm23 cd23 ct23 oc24 kV24 dc24 pm24 cd24 ct24 oc25 kV25 dc25 pm25 cd25 ct25 oc26 kV26 dc26 pm26 cd26 ct26 oc27 kV27 dc27 pm27 cd27 ct27 oc28 kV28 dc28 pm28 cd28 ct28 oc29 kV29 dc29 pm29 cd29 ct29 oc30 kV30 dc30 pm30 cd30 ct30 oc31 kV31 dc31 pm31 cd31 ct31 oc32 kV32 dc32 pm32 cd32 ct32 oc33 kV33 dc33 pm33 cd33 ct33 oc34 kV34 dc34 pm34 cd34 ct34 oc35 kV35 dc35 pm35 cd35 ct35 oc36 kV36 dc36 pm36 cd36 ct36 oc37 kV37 dc37 pm37 cd37 ct37 oc38 kV38 dc38 pm38 cd38 ct38 oc39 kV39 dc39 pm39 cd39 ct39 oc40 kV40 dc40 pm40 cd40 ct40 oc41 kV41 dc41 pm41 cd41 ct41 oc42 kV42 dc42 pm42 cd42 ct42 oc43 kV43 dc43 pm43 cd43 ct43 oc44 kV44 dc44 pm44 cd44 ct44 : Value} {nT nz : Nat}
    (a1 : PySem.W.nsIn K mainGlobals "is_whole" = some (some (.ref f1)))
    (l1 : K.lookup f1 = some ⟨oc1, od1, .func (PySem.W.fnOf "is_whole" "is_whole" (defArgs s_is_whole) (defBody s_is_whole) (defScope s_is_whole) .none kV1 dc1 pm1 an1 cd1 ct1), sl1⟩)
    (c1 : PySem.W.codeIn K cd1 "is_whole" = true)
    (k1 : PySem.W.keepIn K (.ref f1) = true)
    (a2 : PySem.W.nsIn K mainGlobals "is_sequence" = some (some (.ref f2)))
    (l2 : K.lookup f2 = some ⟨oc2, od2, .func (PySem.W.fnOf "is_sequence" "is_sequence" (defArgs s_is_sequence) (defBody s_is_sequence) (defScope s_is_sequence) .none kV2 dc2 pm2 an2 cd2 ct2), sl2⟩)
    (c2 : PySem.W.codeIn K cd2 "is_sequence" = true)
    (k2 : PySem.W.keepIn K (.ref f2) = true)
    (a3 : PySem.W.nsIn K mainGlobals "is_below" = some (some (.ref f3)))
    (l3 : K.lookup f3 = some ⟨oc3, od3, .func (PySem.W.fnOf "is_below" "is_below" (defArgs s_is_below) (defBody s_is_below) (defScope s_is_below) .none kV3 dc3 pm3 an3 cd3 ct3), sl3⟩)
    (c3 : PySem.W.codeIn K cd3 "is_below" = true)
    (k3 : PySem.W.keepIn K (.ref f3) = true)
    (a4 : PySem.W.nsIn K mainGlobals "check_pins" = some (some (.ref f4)))
    (l4 : K.lookup f4 = some ⟨oc4, od4, .func (PySem.W.fnOf "check_pins" "check_pins" (defArgs s_check_pins) (defBody s_check_pins) (defScope s_check_pins) .none kV4 dc4 pm4 an4 cd4 ct4), sl4⟩)
    (c4 : PySem.W.codeIn K cd4 "check_pins" = true)
    (k4 : PySem.W.keepIn K (.ref f4) = true)
    (a5 : PySem.W.nsIn K mainGlobals "check_pin" = some (some (.ref f5)))
    (l5 : K.lookup f5 = some ⟨oc5, od5, .func (PySem.W.fnOf "check_pin" "check_pin" (defArgs s_check_pin) (defBody s_check_pin) (defScope s_check_pin) .none kV5 dc5 pm5 an5 cd5 ct5), sl5⟩)
    (c5 : PySem.W.codeIn K cd5 "check_pin" = true)
    (k5 : PySem.W.keepIn K (.ref f5) = true)
    (a6 : PySem.W.nsIn K mainGlobals "check_like" = some (some (.ref f6)))
    (l6 : K.lookup f6 = some ⟨oc6, od6, .func (PySem.W.fnOf "check_like" "check_like" (defArgs s_check_like) (defBody s_check_like) (defScope s_check_like) .none kV6 dc6 pm6 an6 cd6 ct6), sl6⟩)
    (c6 : PySem.W.codeIn K cd6 "check_like" = true)
    (k6 : PySem.W.keepIn K (.ref f6) = true)
    (a7 : PySem.W.nsIn K mainGlobals "check_number" = some (some (.ref f7)))
    (l7 : K.lookup f7 = some ⟨oc7, od7, .func (PySem.W.fnOf "check_number" "check_number" (defArgs s_check_number) (defBody s_check_number) (defScope s_check_number) .none kV7 dc7 pm7 an7 cd7 ct7), sl7⟩)
    (c7 : PySem.W.codeIn K cd7 "check_number" = true)
    (k7 : PySem.W.keepIn K (.ref f7) = true)
    (a8 : PySem.W.nsIn K mainGlobals "is_entry" = some (some (.ref f8)))
    (l8 : K.lookup f8 = some ⟨oc8, od8, .func (PySem.W.fnOf "is_entry" "is_entry" (defArgs s_is_entry) (defBody s_is_entry) (defScope s_is_entry) .none kV8 dc8 pm8 an8 cd8 ct8), sl8⟩)
    (c8 : PySem.W.codeIn K cd8 "is_entry" = true)
    (k8 : PySem.W.keepIn K (.ref f8) = true)
    (a9 : PySem.W.nsIn K mainGlobals "gathered" = some (some (.ref f9)))
    (l9 : K.lookup f9 = some ⟨oc9, od9, .func (PySem.W.fnOf "gathered" "gathered" (defArgs s_gathered) (defBody s_gathered) (defScope s_gathered) .none kV9 dc9 pm9 an9 cd9 ct9), sl9⟩)
    (c9 : PySem.W.codeIn K cd9 "gathered" = true)
    (k9 : PySem.W.keepIn K (.ref f9) = true)
    (a10 : PySem.W.nsIn K mainGlobals "by_pair" = some (some (.ref f10)))
    (l10 : K.lookup f10 = some ⟨oc10, od10, .func (PySem.W.fnOf "by_pair" "by_pair" (defArgs s_by_pair) (defBody s_by_pair) (defScope s_by_pair) .none kV10 dc10 pm10 an10 cd10 ct10), sl10⟩)
    (c10 : PySem.W.codeIn K cd10 "by_pair" = true)
    (k10 : PySem.W.keepIn K (.ref f10) = true)
    (a11 : PySem.W.nsIn K mainGlobals "entries_of" = some (some (.ref f11)))
    (l11 : K.lookup f11 = some ⟨oc11, od11, .func (PySem.W.fnOf "entries_of" "entries_of" (defArgs s_entries_of) (defBody s_entries_of) (defScope s_entries_of) .none kV11 dc11 pm11 an11 cd11 ct11), sl11⟩)
    (c11 : PySem.W.codeIn K cd11 "entries_of" = true)
    (k11 : PySem.W.keepIn K (.ref f11) = true)
    (a12 : PySem.W.nsIn K mainGlobals "ends_at_pins" = some (some (.ref f12)))
    (l12 : K.lookup f12 = some ⟨oc12, od12, .func (PySem.W.fnOf "ends_at_pins" "ends_at_pins" (defArgs s_ends_at_pins) (defBody s_ends_at_pins) (defScope s_ends_at_pins) .none kV12 dc12 pm12 an12 cd12 ct12), sl12⟩)
    (c12 : PySem.W.codeIn K cd12 "ends_at_pins" = true)
    (k12 : PySem.W.keepIn K (.ref f12) = true)
    (a13 : PySem.W.nsIn K mainGlobals "_law_whole" = some (some (.ref f13)))
    (l13 : K.lookup f13 = some ⟨oc13, od13, .func (PySem.W.fnOf "_law_whole" "_law_whole" (defArgs s__law_whole) (defBody s__law_whole) (defScope s__law_whole) .none kV13 dc13 pm13 an13 cd13 ct13), sl13⟩)
    (c13 : PySem.W.codeIn K cd13 "_law_whole" = true)
    (k13 : PySem.W.keepIn K (.ref f13) = true)
    (a14 : PySem.W.nsIn K mainGlobals "_law_cell" = some (some (.ref f14)))
    (l14 : K.lookup f14 = some ⟨oc14, od14, .func (PySem.W.fnOf "_law_cell" "_law_cell" (defArgs s__law_cell) (defBody s__law_cell) (defScope s__law_cell) .none kV14 dc14 pm14 an14 cd14 ct14), sl14⟩)
    (c14 : PySem.W.codeIn K cd14 "_law_cell" = true)
    (k14 : PySem.W.keepIn K (.ref f14) = true)
    (a15 : PySem.W.nsIn K mainGlobals "_law_digits" = some (some (.ref f15)))
    (l15 : K.lookup f15 = some ⟨oc15, od15, .func (PySem.W.fnOf "_law_digits" "_law_digits" (defArgs s__law_digits) (defBody s__law_digits) (defScope s__law_digits) .none kV15 dc15 pm15 an15 cd15 ct15), sl15⟩)
    (c15 : PySem.W.codeIn K cd15 "_law_digits" = true)
    (k15 : PySem.W.keepIn K (.ref f15) = true)
    (a16 : PySem.W.nsIn K mainGlobals "_law_same" = some (some (.ref f16)))
    (l16 : K.lookup f16 = some ⟨oc16, od16, .func (PySem.W.fnOf "_law_same" "_law_same" (defArgs s__law_same) (defBody s__law_same) (defScope s__law_same) .none kV16 dc16 pm16 an16 cd16 ct16), sl16⟩)
    (c16 : PySem.W.codeIn K cd16 "_law_same" = true)
    (k16 : PySem.W.keepIn K (.ref f16) = true)
    (a17 : PySem.W.nsIn K mainGlobals "_law_norm" = some (some (.ref f17)))
    (l17 : K.lookup f17 = some ⟨oc17, od17, .func (PySem.W.fnOf "_law_norm" "_law_norm" (defArgs s__law_norm) (defBody s__law_norm) (defScope s__law_norm) .none kV17 dc17 pm17 an17 cd17 ct17), sl17⟩)
    (c17 : PySem.W.codeIn K cd17 "_law_norm" = true)
    (k17 : PySem.W.keepIn K (.ref f17) = true)
    (a18 : PySem.W.nsIn K mainGlobals "_law_pins" = some (some (.ref f18)))
    (l18 : K.lookup f18 = some ⟨oc18, od18, .func (PySem.W.fnOf "_law_pins" "_law_pins" (defArgs s__law_pins) (defBody s__law_pins) (defScope s__law_pins) .none kV18 dc18 pm18 an18 cd18 ct18), sl18⟩)
    (c18 : PySem.W.codeIn K cd18 "_law_pins" = true)
    (k18 : PySem.W.keepIn K (.ref f18) = true)
    (a19 : PySem.W.nsIn K mainGlobals "_law_entries" = some (some (.ref f19)))
    (l19 : K.lookup f19 = some ⟨oc19, od19, .func (PySem.W.fnOf "_law_entries" "_law_entries" (defArgs s__law_entries) (defBody s__law_entries) (defScope s__law_entries) .none kV19 dc19 pm19 an19 cd19 ct19), sl19⟩)
    (c19 : PySem.W.codeIn K cd19 "_law_entries" = true)
    (k19 : PySem.W.keepIn K (.ref f19) = true)
    (a20 : PySem.W.nsIn K mainGlobals "_law_count" = some (some (.ref f20)))
    (l20 : K.lookup f20 = some ⟨oc20, od20, .func (PySem.W.fnOf "_law_count" "_law_count" (defArgs s__law_count) (defBody s__law_count) (defScope s__law_count) .none kV20 dc20 pm20 an20 cd20 ct20), sl20⟩)
    (c20 : PySem.W.codeIn K cd20 "_law_count" = true)
    (k20 : PySem.W.keepIn K (.ref f20) = true)
    (a21 : PySem.W.nsIn K mainGlobals "_law_ends" = some (some (.ref f21)))
    (l21 : K.lookup f21 = some ⟨oc21, od21, .func (PySem.W.fnOf "_law_ends" "_law_ends" (defArgs s__law_ends) (defBody s__law_ends) (defScope s__law_ends) .none kV21 dc21 pm21 an21 cd21 ct21), sl21⟩)
    (c21 : PySem.W.codeIn K cd21 "_law_ends" = true)
    (k21 : PySem.W.keepIn K (.ref f21) = true)
    (a22 : PySem.W.nsIn K mainGlobals "_law_lot_is" = some (some (.ref f22)))
    (l22 : K.lookup f22 = some ⟨oc22, od22, .func (PySem.W.fnOf "_law_lot_is" "_law_lot_is" (defArgs s__law_lot_is) (defBody s__law_lot_is) (defScope s__law_lot_is) .none kV22 dc22 pm22 an22 cd22 ct22), sl22⟩)
    (c22 : PySem.W.codeIn K cd22 "_law_lot_is" = true)
    (k22 : PySem.W.keepIn K (.ref f22) = true)
    (a23 : PySem.W.nsIn K mainGlobals "_law_counts" = some (some (.ref f23)))
    (l23 : K.lookup f23 = some ⟨oc23, od23, .func (PySem.W.fnOf "_law_counts" "_law_counts" (defArgs s__law_counts) (defBody s__law_counts) (defScope s__law_counts) .none kV23 dc23 pm23 an23 cd23 ct23), sl23⟩)
    (c23 : PySem.W.codeIn K cd23 "_law_counts" = true)
    (k23 : PySem.W.keepIn K (.ref f23) = true)
    (a24 : PySem.W.nsIn K mainGlobals "_law_taken" = some (some (.ref f24)))
    (l24 : K.lookup f24 = some ⟨oc24, od24, .func (PySem.W.fnOf "_law_taken" "_law_taken" (defArgs s__law_taken) (defBody s__law_taken) (defScope s__law_taken) .none kV24 dc24 pm24 an24 cd24 ct24), sl24⟩)
    (c24 : PySem.W.codeIn K cd24 "_law_taken" = true)
    (k24 : PySem.W.keepIn K (.ref f24) = true)
    (a25 : PySem.W.nsIn K mainGlobals "_law_unlike" = some (some (.ref f25)))
    (l25 : K.lookup f25 = some ⟨oc25, od25, .func (PySem.W.fnOf "_law_unlike" "_law_unlike" (defArgs s__law_unlike) (defBody s__law_unlike) (defScope s__law_unlike) .none kV25 dc25 pm25 an25 cd25 ct25), sl25⟩)
    (c25 : PySem.W.codeIn K cd25 "_law_unlike" = true)
    (k25 : PySem.W.keepIn K (.ref f25) = true)
    (a26 : PySem.W.nsIn K mainGlobals "_law_bad_factor" = some (some (.ref f26)))
    (l26 : K.lookup f26 = some ⟨oc26, od26, .func (PySem.W.fnOf "_law_bad_factor" "_law_bad_factor" (defArgs s__law_bad_factor) (defBody s__law_bad_factor) (defScope s__law_bad_factor) .none kV26 dc26 pm26 an26 cd26 ct26), sl26⟩)
    (c26 : PySem.W.codeIn K cd26 "_law_bad_factor" = true)
    (k26 : PySem.W.keepIn K (.ref f26) = true)
    (a27 : PySem.W.nsIn K mainGlobals "_law_bad_pin" = some (some (.ref f27)))
    (l27 : K.lookup f27 = some ⟨oc27, od27, .func (PySem.W.fnOf "_law_bad_pin" "_law_bad_pin" (defArgs s__law_bad_pin) (defBody s__law_bad_pin) (defScope s__law_bad_pin) .none kV27 dc27 pm27 an27 cd27 ct27), sl27⟩)
    (c27 : PySem.W.codeIn K cd27 "_law_bad_pin" = true)
    (k27 : PySem.W.keepIn K (.ref f27) = true)
    (a28 : PySem.W.nsIn K mainGlobals "_law_told" = some (some (.ref f28)))
    (l28 : K.lookup f28 = some ⟨oc28, od28, .func (PySem.W.fnOf "_law_told" "_law_told" (defArgs s__law_told) (defBody s__law_told) (defScope s__law_told) .none kV28 dc28 pm28 an28 cd28 ct28), sl28⟩)
    (c28 : PySem.W.codeIn K cd28 "_law_told" = true)
    (k28 : PySem.W.keepIn K (.ref f28) = true)
    (a29 : PySem.W.nsIn K mainGlobals "_law_equal" = some (some (.ref f29)))
    (l29 : K.lookup f29 = some ⟨oc29, od29, .func (PySem.W.fnOf "_law_equal" "_law_equal" (defArgs s__law_equal) (defBody s__law_equal) (defScope s__law_equal) .none kV29 dc29 pm29 an29 cd29 ct29), sl29⟩)
    (c29 : PySem.W.codeIn K cd29 "_law_equal" = true)
    (k29 : PySem.W.keepIn K (.ref f29) = true)
    (a30 : PySem.W.nsIn K mainGlobals "_law_near" = some (some (.ref f30)))
    (l30 : K.lookup f30 = some ⟨oc30, od30, .func (PySem.W.fnOf "_law_near" "_law_near" (defArgs s__law_near) (defBody s__law_near) (defScope s__law_near) .none kV30 dc30 pm30 an30 cd30 ct30), sl30⟩)
    (c30 : PySem.W.codeIn K cd30 "_law_near" = true)
    (k30 : PySem.W.keepIn K (.ref f30) = true)
    (a31 : PySem.W.nsIn K mainGlobals "_law_near_equal" = some (some (.ref f31)))
    (l31 : K.lookup f31 = some ⟨oc31, od31, .func (PySem.W.fnOf "_law_near_equal" "_law_near_equal" (defArgs s__law_near_equal) (defBody s__law_near_equal) (defScope s__law_near_equal) .none kV31 dc31 pm31 an31 cd31 ct31), sl31⟩)
    (c31 : PySem.W.codeIn K cd31 "_law_near_equal" = true)
    (k31 : PySem.W.keepIn K (.ref f31) = true)
    (a32 : PySem.W.nsIn K mainGlobals "_law_bad_ones" = some (some (.ref f32)))
    (l32 : K.lookup f32 = some ⟨oc32, od32, .func (PySem.W.fnOf "_law_bad_ones" "_law_bad_ones" (defArgs s__law_bad_ones) (defBody s__law_bad_ones) (defScope s__law_bad_ones) .none kV32 dc32 pm32 an32 cd32 ct32), sl32⟩)
    (c32 : PySem.W.codeIn K cd32 "_law_bad_ones" = true)
    (k32 : PySem.W.keepIn K (.ref f32) = true)
    (a33 : PySem.W.nsIn K mainGlobals "_law_differences" = some (some (.ref f33)))
    (l33 : K.lookup f33 = some ⟨oc33, od33, .func (PySem.W.fnOf "_law_differences" "_law_differences" (defArgs s__law_differences) (defBody s__law_differences) (defScope s__law_differences) .none kV33 dc33 pm33 an33 cd33 ct33), sl33⟩)
    (c33 : PySem.W.codeIn K cd33 "_law_differences" = true)
    (k33 : PySem.W.keepIn K (.ref f33) = true)
    (a34 : PySem.W.nsIn K mainGlobals "law" = some (some (.ref f34)))
    (l34 : K.lookup f34 = some ⟨oc34, od34, .func (PySem.W.fnOf "law" "law" (defArgs s_law) (defBody s_law) (defScope s_law) .none kV34 dc34 pm34 an34 cd34 ct34), sl34⟩)
    (c34 : PySem.W.codeIn K cd34 "law" = true)
    (k34 : PySem.W.keepIn K (.ref f34) = true)
    (aC : PySem.W.nsIn K mainGlobals "Lot" = some (some (.ref C)))
    (i35 : PySem.W.findIn K (.ref C) "between" = some (some (.ref f35)))
    (n35 : PySem.W.isFn K (.ref f35) = true)
    (l35 : K.lookup f35 = some ⟨oc35, od35, .func (PySem.W.fnOf "between" "Lot.between" (defArgs s_Lot_between) (defBody s_Lot_between) (defScope s_Lot_between) .none kV35 dc35 pm35 an35 cd35 ct35), sl35⟩)
    (c35 : PySem.W.codeIn K cd35 "Lot.between" = true)
    (k35 : PySem.W.keepIn K (.ref f35) = true)
    (i36 : PySem.W.findIn K (.ref C) "ends" = some (some (.ref f36)))
    (n36 : PySem.W.isFn K (.ref f36) = true)
    (l36 : K.lookup f36 = some ⟨oc36, od36, .func (PySem.W.fnOf "ends" "Lot.ends" (defArgs s_Lot_ends) (defBody s_Lot_ends) (defScope s_Lot_ends) .none kV36 dc36 pm36 an36 cd36 ct36), sl36⟩)
    (c36 : PySem.W.codeIn K cd36 "Lot.ends" = true)
    (k36 : PySem.W.keepIn K (.ref f36) = true)
    (i37 : PySem.W.findIn K (.ref C) "total" = some (some (.ref f37)))
    (n37 : PySem.W.isFn K (.ref f37) = true)
    (l37 : K.lookup f37 = some ⟨oc37, od37, .func (PySem.W.fnOf "total" "Lot.total" (defArgs s_Lot_total) (defBody s_Lot_total) (defScope s_Lot_total) .none kV37 dc37 pm37 an37 cd37 ct37), sl37⟩)
    (c37 : PySem.W.codeIn K cd37 "Lot.total" = true)
    (k37 : PySem.W.keepIn K (.ref f37) = true)
    (i38 : PySem.W.findIn K (.ref C) "__len__" = some (some (.ref f38)))
    (n38 : PySem.W.isFn K (.ref f38) = true)
    (l38 : K.lookup f38 = some ⟨oc38, od38, .func (PySem.W.fnOf "__len__" "Lot.__len__" (defArgs s_Lot_len) (defBody s_Lot_len) (defScope s_Lot_len) .none kV38 dc38 pm38 an38 cd38 ct38), sl38⟩)
    (c38 : PySem.W.codeIn K cd38 "Lot.__len__" = true)
    (k38 : PySem.W.keepIn K (.ref f38) = true)
    (i39 : PySem.W.findIn K (.ref C) "__iter__" = some (some (.ref f39)))
    (n39 : PySem.W.isFn K (.ref f39) = true)
    (l39 : K.lookup f39 = some ⟨oc39, od39, .func (PySem.W.fnOf "__iter__" "Lot.__iter__" (defArgs s_Lot_iter) (defBody s_Lot_iter) (defScope s_Lot_iter) .none kV39 dc39 pm39 an39 cd39 ct39), sl39⟩)
    (c39 : PySem.W.codeIn K cd39 "Lot.__iter__" = true)
    (k39 : PySem.W.keepIn K (.ref f39) = true)
    (i40 : PySem.W.findIn K (.ref C) "__eq__" = some (some (.ref f40)))
    (n40 : PySem.W.isFn K (.ref f40) = true)
    (l40 : K.lookup f40 = some ⟨oc40, od40, .func (PySem.W.fnOf "__eq__" "Lot.__eq__" (defArgs s_Lot_eq) (defBody s_Lot_eq) (defScope s_Lot_eq) .none kV40 dc40 pm40 an40 cd40 ct40), sl40⟩)
    (c40 : PySem.W.codeIn K cd40 "Lot.__eq__" = true)
    (k40 : PySem.W.keepIn K (.ref f40) = true)
    (i41 : PySem.W.findIn K (.ref C) "__add__" = some (some (.ref f41)))
    (n41 : PySem.W.isFn K (.ref f41) = true)
    (l41 : K.lookup f41 = some ⟨oc41, od41, .func (PySem.W.fnOf "__add__" "Lot.__add__" (defArgs s_Lot_add) (defBody s_Lot_add) (defScope s_Lot_add) .none kV41 dc41 pm41 an41 cd41 ct41), sl41⟩)
    (c41 : PySem.W.codeIn K cd41 "Lot.__add__" = true)
    (k41 : PySem.W.keepIn K (.ref f41) = true)
    (i42 : PySem.W.findIn K (.ref C) "__sub__" = some (some (.ref f42)))
    (n42 : PySem.W.isFn K (.ref f42) = true)
    (l42 : K.lookup f42 = some ⟨oc42, od42, .func (PySem.W.fnOf "__sub__" "Lot.__sub__" (defArgs s_Lot_sub) (defBody s_Lot_sub) (defScope s_Lot_sub) .none kV42 dc42 pm42 an42 cd42 ct42), sl42⟩)
    (c42 : PySem.W.codeIn K cd42 "Lot.__sub__" = true)
    (k42 : PySem.W.keepIn K (.ref f42) = true)
    (i43 : PySem.W.findIn K (.ref C) "__mul__" = some (some (.ref f43)))
    (n43 : PySem.W.isFn K (.ref f43) = true)
    (l43 : K.lookup f43 = some ⟨oc43, od43, .func (PySem.W.fnOf "__mul__" "Lot.__mul__" (defArgs s_Lot_mul) (defBody s_Lot_mul) (defScope s_Lot_mul) .none kV43 dc43 pm43 an43 cd43 ct43), sl43⟩)
    (c43 : PySem.W.codeIn K cd43 "Lot.__mul__" = true)
    (k43 : PySem.W.keepIn K (.ref f43) = true)
    (i44 : PySem.W.findIn K (.ref C) "__init__" = some (some (.ref f44)))
    (n44 : PySem.W.isFn K (.ref f44) = true)
    (l44 : K.lookup f44 = some ⟨oc44, od44, .func (PySem.W.fnOf "__init__" "Lot.__init__" (defArgs s_Lot_init) (defBody s_Lot_init) (defScope s_Lot_init) (.ref T_d) kV44 dc44 pm44 an44 cd44 ct44), sl44⟩)
    (c44 : PySem.W.codeIn K cd44 "Lot.__init__" = true)
    (k44 : PySem.W.keepIn K (.ref f44) = true)
    (lT : K.lookup T_d = some ⟨ocT, odT, .seq #[.ref z] nT, slT⟩)
    (lz : K.lookup z = some ⟨.type "tuple", odz, .seq #[] nz, slz⟩)
    (pg : PySem.W.plainGet K C Str.empty = true)
    (hd : PySem.W.hasDictIn K C = true)
    (po : PySem.W.plainOver K C = true)
    (sa : PySem.W.findIn K (.ref C) "__setattr__" = some (some (.builtin "object.__setattr__")))
    (mk : PySem.W.makesIn K C = true)
    (kc : PySem.W.keepIn K (.ref C) = true)
    (nP : PySem.W.findIn K (.ref C) "pins" = some none)
    (nC : PySem.W.findIn K (.ref C) "cords" = some none)
    (iA : PySem.W.findIn K (.ref C) "__class__" = some (some (.builtin "object.__class__")))
    (iN : PySem.W.specialIn K (.builtin "object.__class__") "__get__" = some (some (.builtin "getset_descriptor.__get__")))
    (iT : PySem.W.takesIn K (.builtin "object.__class__") = some true)
    (iM : PySem.W.mroIn K C (.type "object") = some true)
    (sf : PySem.W.selfFirst K C = true)
    (aU : PySem.W.nsIn K mainGlobals "UnlikePins" = some (some (.ref DU)))
    (aN : PySem.W.nsIn K mainGlobals "NotPart" = some (some (.ref DN)))
    (aB : PySem.W.nsIn K mainGlobals "BadNumber" = some (some (.ref DB)))
    (aP : PySem.W.nsIn K mainGlobals "BadPin" = some (some (.ref DP)))
    (a_c_bc : PySem.W.nsIn K mainGlobals "BadCord" = some (some (.ref c_bc)))
    (a_c_bps : PySem.W.nsIn K mainGlobals "BadPins" = some (some (.ref c_bps)))
    (a_c_re : PySem.W.nsIn K mainGlobals "RimError" = some (some (.ref c_re)))
    (lU : K.lookup DU = some (excClassObj nmU qU DU NU bsU [.ref c_re, .type "ValueError", .type "Exception", .type "BaseException", .type "object"] true snU subU abU colU ddU m0U m1U m2U m3U m5U "ValueError.__new__"))
    (saU : PySem.W.findIn K (.ref DU) "__setattr__" = some (some (.builtin "object.__setattr__")))
    (eU : PySem.W.subIn K (.ref DU) (.type "BaseException") = some true)
    (tU : PySem.W.typeIn K (.ref DU) = some (.type "type"))
    (kU : PySem.W.keepIn K (.ref DU) = true)
    (iuU : PySem.W.findIn K (.ref DU) "__init__" = some (some (.ref fuU)))
    (tuU : PySem.W.typeIn K (.ref fuU) = some (.type "function"))
    (luU : K.lookup fuU = some ⟨ocU, odU, .func (PySem.W.fnX "__init__" "UnlikePins.__init__" (defArgs s_UnlikePins_init) (defBody s_UnlikePins_init) (defScope s_UnlikePins_init) [("__class__", ccU)] .none kVU dcU pmU anU (.ref cdaU) ctU), slU⟩)
    (cuU : PySem.W.codeIn K (.ref cdaU) "UnlikePins.__init__" = true)
    (lcU : K.lookup ccU = some ⟨clU, cldU, .cell (some (.ref DU)), cslU⟩)
    (ldU : K.lookup cdaU = some ⟨cclU, cddU, .fields vsU, ccsU⟩)
    (cvU : vsU[2]? = some (.str fileU tfU))
    (cfU : ((lw.prog.main.file : Str) == fileU) = true)
    (veU : PySem.W.subIn K (.ref DU) (.type "ValueError") = some true)
    (meU : PySem.W.mroIn K DU (.ref DU) = some true)
    (gaU : PySem.W.findIn K (.ref DU) "__getattribute__" = some (some (.builtin "BaseException.__getattribute__")))
    (ggU : PySem.W.findIn K (.ref DU) "__getattr__" = some none)
    (hU : PySem.W.hasDictIn K DU = true)
    (caU : PySem.W.findIn K (.ref DU) "__class__" = some (some (.builtin "object.__class__")))
    (moU : PySem.W.mroIn K DU (.type "object") = some true)
    (sdU : PySem.W.subIn K (.ref DU) (.ref DU) = some true)
    (n0U : PySem.W.findIn K (.ref DU) "one" = some none)
    (n1U : PySem.W.findIn K (.ref DU) "other" = some none)
    (qUDN : PySem.W.subIn K (.ref DU) (.ref DN) = some false)
    (qUDB : PySem.W.subIn K (.ref DU) (.ref DB) = some false)
    (qUDP : PySem.W.subIn K (.ref DU) (.ref DP) = some false)
    (qUc_bc : PySem.W.subIn K (.ref DU) (.ref c_bc) = some false)
    (qUc_bps : PySem.W.subIn K (.ref DU) (.ref c_bps) = some false)
    (qUc_re : PySem.W.subIn K (.ref DU) (.ref c_re) = some true)
    (lN : K.lookup DN = some (excClassObj nmN qN DN NN bsN [.ref c_re, .type "ValueError", .type "Exception", .type "BaseException", .type "object"] true snN subN abN colN ddN m0N m1N m2N m3N m5N "ValueError.__new__"))
    (saN : PySem.W.findIn K (.ref DN) "__setattr__" = some (some (.builtin "object.__setattr__")))
    (eN : PySem.W.subIn K (.ref DN) (.type "BaseException") = some true)
    (tN : PySem.W.typeIn K (.ref DN) = some (.type "type"))
    (kN : PySem.W.keepIn K (.ref DN) = true)
    (iuN : PySem.W.findIn K (.ref DN) "__init__" = some (some (.ref fuN)))
    (tuN : PySem.W.typeIn K (.ref fuN) = some (.type "function"))
    (luN : K.lookup fuN = some ⟨ocN, odN, .func (PySem.W.fnX "__init__" "NotPart.__init__" (defArgs s_NotPart_init) (defBody s_NotPart_init) (defScope s_NotPart_init) [("__class__", ccN)] .none kVN dcN pmN anN (.ref cdaN) ctN), slN⟩)
    (cuN : PySem.W.codeIn K (.ref cdaN) "NotPart.__init__" = true)
    (lcN : K.lookup ccN = some ⟨clN, cldN, .cell (some (.ref DN)), cslN⟩)
    (ldN : K.lookup cdaN = some ⟨cclN, cddN, .fields vsN, ccsN⟩)
    (cvN : vsN[2]? = some (.str fileN tfN))
    (cfN : ((lw.prog.main.file : Str) == fileN) = true)
    (veN : PySem.W.subIn K (.ref DN) (.type "ValueError") = some true)
    (meN : PySem.W.mroIn K DN (.ref DN) = some true)
    (gaN : PySem.W.findIn K (.ref DN) "__getattribute__" = some (some (.builtin "BaseException.__getattribute__")))
    (ggN : PySem.W.findIn K (.ref DN) "__getattr__" = some none)
    (hN : PySem.W.hasDictIn K DN = true)
    (caN : PySem.W.findIn K (.ref DN) "__class__" = some (some (.builtin "object.__class__")))
    (moN : PySem.W.mroIn K DN (.type "object") = some true)
    (sdN : PySem.W.subIn K (.ref DN) (.ref DN) = some true)
    (n0N : PySem.W.findIn K (.ref DN) "a" = some none)
    (n1N : PySem.W.findIn K (.ref DN) "b" = some none)
    (qNDB : PySem.W.subIn K (.ref DN) (.ref DB) = some false)
    (qNDP : PySem.W.subIn K (.ref DN) (.ref DP) = some false)
    (qNc_bc : PySem.W.subIn K (.ref DN) (.ref c_bc) = some false)
    (qNc_bps : PySem.W.subIn K (.ref DN) (.ref c_bps) = some false)
    (qNDU : PySem.W.subIn K (.ref DN) (.ref DU) = some false)
    (qNc_re : PySem.W.subIn K (.ref DN) (.ref c_re) = some true)
    (lB : K.lookup DB = some (excClassObj nmB qB DB NB bsB [.ref c_re, .type "ValueError", .type "Exception", .type "BaseException", .type "object"] true snB subB abB colB ddB m0B m1B m2B m3B m5B "ValueError.__new__"))
    (saB : PySem.W.findIn K (.ref DB) "__setattr__" = some (some (.builtin "object.__setattr__")))
    (eB : PySem.W.subIn K (.ref DB) (.type "BaseException") = some true)
    (tB : PySem.W.typeIn K (.ref DB) = some (.type "type"))
    (kB : PySem.W.keepIn K (.ref DB) = true)
    (iuB : PySem.W.findIn K (.ref DB) "__init__" = some (some (.ref fuB)))
    (tuB : PySem.W.typeIn K (.ref fuB) = some (.type "function"))
    (luB : K.lookup fuB = some ⟨ocB, odB, .func (PySem.W.fnX "__init__" "BadNumber.__init__" (defArgs s_BadNumber_init) (defBody s_BadNumber_init) (defScope s_BadNumber_init) [("__class__", ccB)] .none kVB dcB pmB anB (.ref cdaB) ctB), slB⟩)
    (cuB : PySem.W.codeIn K (.ref cdaB) "BadNumber.__init__" = true)
    (lcB : K.lookup ccB = some ⟨clB, cldB, .cell (some (.ref DB)), cslB⟩)
    (ldB : K.lookup cdaB = some ⟨cclB, cddB, .fields vsB, ccsB⟩)
    (cvB : vsB[2]? = some (.str fileB tfB))
    (cfB : ((lw.prog.main.file : Str) == fileB) = true)
    (veB : PySem.W.subIn K (.ref DB) (.type "ValueError") = some true)
    (meB : PySem.W.mroIn K DB (.ref DB) = some true)
    (gaB : PySem.W.findIn K (.ref DB) "__getattribute__" = some (some (.builtin "BaseException.__getattribute__")))
    (ggB : PySem.W.findIn K (.ref DB) "__getattr__" = some none)
    (hB : PySem.W.hasDictIn K DB = true)
    (caB : PySem.W.findIn K (.ref DB) "__class__" = some (some (.builtin "object.__class__")))
    (moB : PySem.W.mroIn K DB (.type "object") = some true)
    (sdB : PySem.W.subIn K (.ref DB) (.ref DB) = some true)
    (n0B : PySem.W.findIn K (.ref DB) "number" = some none)
    (qBDN : PySem.W.subIn K (.ref DB) (.ref DN) = some false)
    (qBDP : PySem.W.subIn K (.ref DB) (.ref DP) = some false)
    (qBc_bc : PySem.W.subIn K (.ref DB) (.ref c_bc) = some false)
    (qBc_bps : PySem.W.subIn K (.ref DB) (.ref c_bps) = some false)
    (qBDU : PySem.W.subIn K (.ref DB) (.ref DU) = some false)
    (qBc_re : PySem.W.subIn K (.ref DB) (.ref c_re) = some true)
    (lP : K.lookup DP = some (excClassObj nmP qP DP NP bsP [.ref c_re, .type "ValueError", .type "Exception", .type "BaseException", .type "object"] true snP subP abP colP ddP m0P m1P m2P m3P m5P "ValueError.__new__"))
    (saP : PySem.W.findIn K (.ref DP) "__setattr__" = some (some (.builtin "object.__setattr__")))
    (eP : PySem.W.subIn K (.ref DP) (.type "BaseException") = some true)
    (tP : PySem.W.typeIn K (.ref DP) = some (.type "type"))
    (kP : PySem.W.keepIn K (.ref DP) = true)
    (iuP : PySem.W.findIn K (.ref DP) "__init__" = some (some (.ref fuP)))
    (tuP : PySem.W.typeIn K (.ref fuP) = some (.type "function"))
    (luP : K.lookup fuP = some ⟨ocP, odP, .func (PySem.W.fnX "__init__" "BadPin.__init__" (defArgs s_BadPin_init) (defBody s_BadPin_init) (defScope s_BadPin_init) [("__class__", ccP)] .none kVP dcP pmP anP (.ref cdaP) ctP), slP⟩)
    (cuP : PySem.W.codeIn K (.ref cdaP) "BadPin.__init__" = true)
    (lcP : K.lookup ccP = some ⟨clP, cldP, .cell (some (.ref DP)), cslP⟩)
    (ldP : K.lookup cdaP = some ⟨cclP, cddP, .fields vsP, ccsP⟩)
    (cvP : vsP[2]? = some (.str fileP tfP))
    (cfP : ((lw.prog.main.file : Str) == fileP) = true)
    (veP : PySem.W.subIn K (.ref DP) (.type "ValueError") = some true)
    (meP : PySem.W.mroIn K DP (.ref DP) = some true)
    (gaP : PySem.W.findIn K (.ref DP) "__getattribute__" = some (some (.builtin "BaseException.__getattribute__")))
    (ggP : PySem.W.findIn K (.ref DP) "__getattr__" = some none)
    (hP : PySem.W.hasDictIn K DP = true)
    (caP : PySem.W.findIn K (.ref DP) "__class__" = some (some (.builtin "object.__class__")))
    (moP : PySem.W.mroIn K DP (.type "object") = some true)
    (sdP : PySem.W.subIn K (.ref DP) (.ref DP) = some true)
    (n0P : PySem.W.findIn K (.ref DP) "pin" = some none)
    (qPDN : PySem.W.subIn K (.ref DP) (.ref DN) = some false)
    (qPDB : PySem.W.subIn K (.ref DP) (.ref DB) = some false)
    (qPc_bc : PySem.W.subIn K (.ref DP) (.ref c_bc) = some false)
    (qPc_bps : PySem.W.subIn K (.ref DP) (.ref c_bps) = some false)
    (qPDU : PySem.W.subIn K (.ref DP) (.ref DU) = some false)
    (qPc_re : PySem.W.subIn K (.ref DP) (.ref c_re) = some true)
    (ic_DN : PySem.W.isClsIn K DN = true)
    (ic_DB : PySem.W.isClsIn K DB = true)
    (ic_DP : PySem.W.isClsIn K DP = true)
    (ic_c_bc : PySem.W.isClsIn K c_bc = true)
    (tc_c_bc : PySem.W.typeIn K (.ref c_bc) = some (.type "type"))
    (ic_c_bps : PySem.W.isClsIn K c_bps = true)
    (tc_c_bps : PySem.W.typeIn K (.ref c_bps) = some (.type "type"))
    (ic_DU : PySem.W.isClsIn K DU = true)
    (ic_c_re : PySem.W.isClsIn K c_re = true)
    (tc_c_re : PySem.W.typeIn K (.ref c_re) = some (.type "type"))
    (lRe : K.lookup c_re = some (excClassObj nmR qR c_re NR bsR [.type "ValueError", .type "Exception", .type "BaseException", .type "object"] hdR snR subR abR colR ddR m0r m1r m2r m3r m5r niR))
    (iRe : PySem.W.findIn K (.ref c_re) "__init__" = some (some (.builtin "ValueError.__init__")))
    (opD : PySem.W.nsIn K cStatics "thirdparty.any" = some none)
    (tpD : (lw.prog.main.scope.names.lookup ("super" : Str)).isSome = false)
    (nD : PySem.W.specialIn K (.builtin "object.__class__") "__get__" = some (some (.builtin "getset_descriptor.__get__")))
    (kTD : PySem.W.takesIn K (.builtin "object.__class__") = some true)
    (zS : PySem.W.nsIn K mainGlobals "super" = some none)
    (zV : PySem.W.nsIn K mainGlobals "ValueError" = some none)
    (zR : PySem.W.nsIn K mainGlobals "reversed" = some none)
    (zI : PySem.W.nsIn K mainGlobals "iter" = some none)
    (icC : PySem.W.isClsIn K C = true)
    (tcC : PySem.W.typeIn K (.ref C) = some (.type "type"))
    (rmC : PySem.W.findIn K (.ref C) (dunderR Operator.Mult.info.2) = some none)
    (sT0 : PySem.W.subIn K (.type "int") (.ref C) = some false)
    (xT0 : PySem.W.findIn K (.type "int") (PySem.dunder Operator.Mult.info.2) = some fo0)
    (yT0 : PySem.W.findIn K (.type "int") (dunderR Operator.Mult.info.2) = some ro0)
    (sT1 : PySem.W.subIn K (.type "bool") (.ref C) = some false)
    (xT1 : PySem.W.findIn K (.type "bool") (PySem.dunder Operator.Mult.info.2) = some fo1)
    (yT1 : PySem.W.findIn K (.type "bool") (dunderR Operator.Mult.info.2) = some ro1)
    (sT2 : PySem.W.subIn K (.type "NoneType") (.ref C) = some false)
    (xT2 : PySem.W.findIn K (.type "NoneType") (PySem.dunder Operator.Mult.info.2) = some fo2)
    (yT2 : PySem.W.findIn K (.type "NoneType") (dunderR Operator.Mult.info.2) = some ro2)
    (sT3 : PySem.W.subIn K (.type "str") (.ref C) = some false)
    (xT3 : PySem.W.findIn K (.type "str") (PySem.dunder Operator.Mult.info.2) = some fo3)
    (yT3 : PySem.W.findIn K (.type "str") (dunderR Operator.Mult.info.2) = some ro3)
    (sT4 : PySem.W.subIn K (.type "list") (.ref C) = some false)
    (xT4 : PySem.W.findIn K (.type "list") (PySem.dunder Operator.Mult.info.2) = some fo4)
    (yT4 : PySem.W.findIn K (.type "list") (dunderR Operator.Mult.info.2) = some ro4)
    (sT5 : PySem.W.subIn K (.type "tuple") (.ref C) = some false)
    (xT5 : PySem.W.findIn K (.type "tuple") (PySem.dunder Operator.Mult.info.2) = some fo5)
    (yT5 : PySem.W.findIn K (.type "tuple") (dunderR Operator.Mult.info.2) = some ro5)
    (z0 : PySem.W.nsIn K mainGlobals "max" = some none)
    (z1 : PySem.W.nsIn K mainGlobals "min" = some none)
    (z2 : PySem.W.nsIn K mainGlobals "tuple" = some none)
    (z3 : PySem.W.nsIn K mainGlobals "range" = some none)
    (z4 : PySem.W.nsIn K mainGlobals "isinstance" = some none)
    (z5 : PySem.W.nsIn K mainGlobals "int" = some none)
    (z6 : PySem.W.nsIn K mainGlobals "bool" = some none)
    (z7 : PySem.W.nsIn K mainGlobals "len" = some none)
    (z8 : PySem.W.nsIn K mainGlobals "list" = some none)
    (z9 : PySem.W.nsIn K mainGlobals "str" = some none)
    (z10 : PySem.W.nsIn K mainGlobals "sorted" = some none)
    (z11 : PySem.W.nsIn K mainGlobals "sum" = some none) :
    ∃ fd : FuncData, (∀ (s : Shared) (v : Value), BindsTo s fd ⟨[v], []⟩ [("_law_script", v)]) ∧ ∀ base : Heap, K.In base → base.Ns mainGlobals mg → FnOk lw.prog w K mg base CX0 11 fa fd ["_law_script"] (spLaw K) := by
  have e := hfa.symm.trans (PySem.W.mg_of X G a34)
  cases e
  have D_is_whole := df_mk (ps := ["value"]) (st := s_is_whole) X G a1 l1 c1 k1 fun _ _ _ _ _ _ us hl => match us, hl with | [_], _ => rfl
  have D_is_sequence := df_mk (ps := ["value"]) (st := s_is_sequence) X G a2 l2 c2 k2 fun _ _ _ _ _ _ us hl => match us, hl with | [_], _ => rfl
  have D_is_below := df_mk (ps := ["value", "bound"]) (st := s_is_below) X G a3 l3 c3 k3 fun _ _ _ _ _ _ us hl => match us, hl with | [_, _], _ => rfl
  have D_check_pins := df_mk (ps := ["pins"]) (st := s_check_pins) X G a4 l4 c4 k4 fun _ _ _ _ _ _ us hl => match us, hl with | [_], _ => rfl
  have D_check_pin := df_mk (ps := ["pins", "pin"]) (st := s_check_pin) X G a5 l5 c5 k5 fun _ _ _ _ _ _ us hl => match us, hl with | [_, _], _ => rfl
  have D_check_like := df_mk (ps := ["one", "other"]) (st := s_check_like) X G a6 l6 c6 k6 fun _ _ _ _ _ _ us hl => match us, hl with | [_, _], _ => rfl
  have D_check_number := df_mk (ps := ["number", "least"]) (st := s_check_number) X G a7 l7 c7 k7 fun _ _ _ _ _ _ us hl => match us, hl with | [_, _], _ => rfl
  have D_is_entry := df_mk (ps := ["pins", "entry"]) (st := s_is_entry) X G a8 l8 c8 k8 fun _ _ _ _ _ _ us hl => match us, hl with | [_, _], _ => rfl
  have D_gathered := df_mk (ps := ["pins", "entries"]) (st := s_gathered) X G a9 l9 c9 k9 fun _ _ _ _ _ _ us hl => match us, hl with | [_, _], _ => rfl
  have D_by_pair := df_mk (ps := ["cords"]) (st := s_by_pair) X G a10 l10 c10 k10 fun _ _ _ _ _ _ us hl => match us, hl with | [_], _ => rfl
  have D_entries_of := df_mk (ps := ["held"]) (st := s_entries_of) X G a11 l11 c11 k11 fun _ _ _ _ _ _ us hl => match us, hl with | [_], _ => rfl
  have D_ends_at_pins := df_mk (ps := ["pins", "cords"]) (st := s_ends_at_pins) X G a12 l12 c12 k12 fun _ _ _ _ _ _ us hl => match us, hl with | [_, _], _ => rfl
  have D__law_whole := df_mk (ps := ["_law_value"]) (st := s__law_whole) X G a13 l13 c13 k13 fun _ _ _ _ _ _ us hl => match us, hl with | [_], _ => rfl
  have D__law_cell := df_mk (ps := ["_law_script", "_law_k"]) (st := s__law_cell) X G a14 l14 c14 k14 fun _ _ _ _ _ _ us hl => match us, hl with | [_, _], _ => rfl
  have D__law_digits := df_mk (ps := ["_law_cell_here", "_law_sizes"]) (st := s__law_digits) X G a15 l15 c15 k15 fun _ _ _ _ _ _ us hl => match us, hl with | [_, _], _ => rfl
  have D__law_same := df_mk (ps := ["_law_value", "_law_due"]) (st := s__law_same) X G a16 l16 c16 k16 fun _ _ _ _ _ _ us hl => match us, hl with | [_, _], _ => rfl
  have D__law_norm := df_mk (ps := ["_law_triples"]) (st := s__law_norm) X G a17 l17 c17 k17 fun _ _ _ _ _ _ us hl => match us, hl with | [_], _ => rfl
  have D__law_pins := df_mk (ps := ["_law_cell_here"]) (st := s__law_pins) X G a18 l18 c18 k18 fun _ _ _ _ _ _ us hl => match us, hl with | [_], _ => rfl
  have D__law_entries := df_mk (ps := ["_law_script", "_law_start", "_law_many", "_law_pins_here"]) (st := s__law_entries) X G a19 l19 c19 k19 fun _ _ _ _ _ _ us hl => match us, hl with | [_, _, _, _], _ => rfl
  have D__law_count := df_mk (ps := ["_law_bunch", "_law_left", "_law_right"]) (st := s__law_count) X G a20 l20 c20 k20 fun _ _ _ _ _ _ us hl => match us, hl with | [_, _, _], _ => rfl
  have D__law_ends := df_mk (ps := ["_law_bunch", "_law_spot"]) (st := s__law_ends) X G a21 l21 c21 k21 fun _ _ _ _ _ _ us hl => match us, hl with | [_, _], _ => rfl
  have D__law_lot_is := df_mk (ps := ["_law_lot", "_law_pins_here", "_law_bunch"]) (st := s__law_lot_is) X G a22 l22 c22 k22 fun _ _ _ _ _ _ us hl => match us, hl with | [_, _, _], _ => rfl
  have D__law_counts := df_mk (ps := ["_law_lot", "_law_pins_here", "_law_bunch"]) (st := s__law_counts) X G a23 l23 c23 k23 fun _ _ _ _ _ _ us hl => match us, hl with | [_, _, _], _ => rfl
  have D__law_taken := df_mk (ps := ["_law_left", "_law_right", "_law_pins_here", "_law_held", "_law_gone"]) (st := s__law_taken) X G a24 l24 c24 k24 fun _ _ _ _ _ _ us hl => match us, hl with | [_, _, _, _, _], _ => rfl
  have D__law_unlike := df_mk (ps := ["_law_left", "_law_right", "_law_pins_here", "_law_far", "_law_minus"]) (st := s__law_unlike) X G a25 l25 c25 k25 fun _ _ _ _ _ _ us hl => match us, hl with | [_, _, _, _, _], _ => rfl
  have D__law_bad_factor := df_mk (ps := ["_law_left", "_law_bad"]) (st := s__law_bad_factor) X G a26 l26 c26 k26 fun _ _ _ _ _ _ us hl => match us, hl with | [_, _], _ => rfl
  have D__law_bad_pin := df_mk (ps := ["_law_lot", "_law_pair", "_law_bad"]) (st := s__law_bad_pin) X G a27 l27 c27 k27 fun _ _ _ _ _ _ us hl => match us, hl with | [_, _, _], _ => rfl
  have D__law_told := df_mk (ps := ["_law_lot", "_law_pins_here", "_law_bunch"]) (st := s__law_told) X G a28 l28 c28 k28 fun _ _ _ _ _ _ us hl => match us, hl with | [_, _, _], _ => rfl
  have D__law_equal := df_mk (ps := ["_law_lot", "_law_right", "_law_pins_here", "_law_held", "_law_wished", "_law_far"]) (st := s__law_equal) X G a29 l29 c29 k29 fun _ _ _ _ _ _ us hl => match us, hl with | [_, _, _, _, _, _], _ => rfl
  have D__law_near := df_mk (ps := ["_law_held", "_law_pins_here", "_law_cell_here"]) (st := s__law_near) X G a30 l30 c30 k30 fun _ _ _ _ _ _ us hl => match us, hl with | [_, _, _], _ => rfl
  have D__law_near_equal := df_mk (ps := ["_law_held", "_law_pins_here", "_law_cell_here"]) (st := s__law_near_equal) X G a31 l31 c31 k31 fun _ _ _ _ _ _ us hl => match us, hl with | [_, _, _], _ => rfl
  have D__law_bad_ones := df_mk (ps := ["_law_lot", "_law_right", "_law_pins_here", "_law_script"]) (st := s__law_bad_ones) X G a32 l32 c32 k32 fun _ _ _ _ _ _ us hl => match us, hl with | [_, _, _, _], _ => rfl
  have D__law_differences := df_mk (ps := ["_law_left", "_law_right", "_law_pins_here", "_law_held", "_law_wished", "_law_script"]) (st := s__law_differences) X G a33 l33 c33 k33 fun _ _ _ _ _ _ us hl => match us, hl with | [_, _, _, _, _, _], _ => rfl
  have T : Bi mg := ⟨PySem.W.mg_none_of X G z0, PySem.W.mg_none_of X G z1, PySem.W.mg_none_of X G z2, PySem.W.mg_none_of X G z3, PySem.W.mg_none_of X G z4, PySem.W.mg_none_of X G z5, PySem.W.mg_none_of X G z6, PySem.W.mg_none_of X G z7, PySem.W.mg_none_of X G z8, PySem.W.mg_none_of X G z9, PySem.W.mg_none_of X G z10, PySem.W.mg_none_of X G z11⟩
  have cl : Cls K C := ⟨pg, hd, po, sa⟩
  have L : LotC K mg C := ⟨cl, nP, nC, PySem.W.mg_of X G aC⟩
  have I : C8.InsC K C := ⟨cl, iA, iN, iT, iM, kitTrue⟩
  have hz : ∀ H, SqT K H z [] := fun H => .inr ⟨_, #[], nz, lz, rfl, rfl, by decide, .nil⟩
  have F_Lot_between : Fun K "between" "Lot.between" s_Lot_between f35 _ := fun_mk l35 c35 k35
  have B_Lot_between := F_Lot_between.binds (ps := ["self", "one", "other"]) fun _ _ _ _ _ _ us hl => match us, hl with | [_, _, _], _ => rfl
  have M_Lot_between : Mt K C "between" "Lot.between" s_Lot_between ["self", "one", "other"] f35 _ := ⟨F_Lot_between, ⟨i35, n35, k35⟩, B_Lot_between⟩
  have F_Lot_ends : Fun K "ends" "Lot.ends" s_Lot_ends f36 _ := fun_mk l36 c36 k36
  have B_Lot_ends := F_Lot_ends.binds (ps := ["self", "pin"]) fun _ _ _ _ _ _ us hl => match us, hl with | [_, _], _ => rfl
  have M_Lot_ends : Mt K C "ends" "Lot.ends" s_Lot_ends ["self", "pin"] f36 _ := ⟨F_Lot_ends, ⟨i36, n36, k36⟩, B_Lot_ends⟩
  have F_Lot_total : Fun K "total" "Lot.total" s_Lot_total f37 _ := fun_mk l37 c37 k37
  have B_Lot_total := F_Lot_total.binds (ps := ["self"]) fun _ _ _ _ _ _ us hl => match us, hl with | [_], _ => rfl
  have M_Lot_total : Mt K C "total" "Lot.total" s_Lot_total ["self"] f37 _ := ⟨F_Lot_total, ⟨i37, n37, k37⟩, B_Lot_total⟩
  have F_Lot_len : Fun K "__len__" "Lot.__len__" s_Lot_len f38 _ := fun_mk l38 c38 k38
  have B_Lot_len := F_Lot_len.binds (ps := ["self"]) fun _ _ _ _ _ _ us hl => match us, hl with | [_], _ => rfl
  have M_Lot_len : Mt K C "__len__" "Lot.__len__" s_Lot_len ["self"] f38 _ := ⟨F_Lot_len, ⟨i38, n38, k38⟩, B_Lot_len⟩
  have F_Lot_iter : Fun K "__iter__" "Lot.__iter__" s_Lot_iter f39 _ := fun_mk l39 c39 k39
  have B_Lot_iter := F_Lot_iter.binds (ps := ["self"]) fun _ _ _ _ _ _ us hl => match us, hl with | [_], _ => rfl
  have M_Lot_iter : Mt K C "__iter__" "Lot.__iter__" s_Lot_iter ["self"] f39 _ := ⟨F_Lot_iter, ⟨i39, n39, k39⟩, B_Lot_iter⟩
  have F_Lot_eq : Fun K "__eq__" "Lot.__eq__" s_Lot_eq f40 _ := fun_mk l40 c40 k40
  have B_Lot_eq := F_Lot_eq.binds (ps := ["self", "other"]) fun _ _ _ _ _ _ us hl => match us, hl with | [_, _], _ => rfl
  have M_Lot_eq : Mt K C "__eq__" "Lot.__eq__" s_Lot_eq ["self", "other"] f40 _ := ⟨F_Lot_eq, ⟨i40, n40, k40⟩, B_Lot_eq⟩
  have F_Lot_add : Fun K "__add__" "Lot.__add__" s_Lot_add f41 _ := fun_mk l41 c41 k41
  have B_Lot_add := F_Lot_add.binds (ps := ["self", "other"]) fun _ _ _ _ _ _ us hl => match us, hl with | [_, _], _ => rfl
  have M_Lot_add : Mt K C "__add__" "Lot.__add__" s_Lot_add ["self", "other"] f41 _ := ⟨F_Lot_add, ⟨i41, n41, k41⟩, B_Lot_add⟩
  have F_Lot_sub : Fun K "__sub__" "Lot.__sub__" s_Lot_sub f42 _ := fun_mk l42 c42 k42
  have B_Lot_sub := F_Lot_sub.binds (ps := ["self", "other"]) fun _ _ _ _ _ _ us hl => match us, hl with | [_, _], _ => rfl
  have M_Lot_sub : Mt K C "__sub__" "Lot.__sub__" s_Lot_sub ["self", "other"] f42 _ := ⟨F_Lot_sub, ⟨i42, n42, k42⟩, B_Lot_sub⟩
  have F_Lot_mul : Fun K "__mul__" "Lot.__mul__" s_Lot_mul f43 _ := fun_mk l43 c43 k43
  have B_Lot_mul := F_Lot_mul.binds (ps := ["self", "number"]) fun _ _ _ _ _ _ us hl => match us, hl with | [_, _], _ => rfl
  have M_Lot_mul : Mt K C "__mul__" "Lot.__mul__" s_Lot_mul ["self", "number"] f43 _ := ⟨F_Lot_mul, ⟨i43, n43, k43⟩, B_Lot_mul⟩
  have FI_ : FI K z f44 _ := ⟨⟨_, _, _, _, _, _, _, _, _, _, rfl, l44, c44, .inr ⟨by simp, T_d, _, [.ref z], nT, rfl, lT, rfl, .cons rfl .nil⟩, .inl rfl⟩, k44⟩
  have MI : Mk K C f44 := ⟨mk, i44, n44, kc⟩
  obtain ⟨ds, vds, BI⟩ := FI_.binds1 (ps := ["self", "pins", "cords"]) 3 1 (by simp) rfl fun T kV doc pm an cdv ct us its h1 h2 => match us, h1, its, h2 with | [_, _, _], _, [_], _ => ⟨_, rfl, rfl⟩
  have eds : ds = [] := by cases vds; rfl
  subst eds
  obtain ⟨ds1, vds1, BD⟩ := FI_.binds1 (ps := ["self", "pins", "cords"]) 2 0 (by simp) rfl fun T kV doc pm an cdv ct us its h1 h2 => match us, h1, its, h2 with | [_, _], _, [_], _ => ⟨_, rfl, rfl⟩
  have eds1 : ds1 = [.ref z] := by
    cases vds1 with
    | cons r t =>
      cases t
      cases r
      rfl
  subst eds1
  have OXU : OexC K DU := ⟨⟨_, _, _, _, _, _, _, _, _, _, _, _, _, _, _, lU, rfl⟩, saU, eU, tU, kU⟩
  have EKU : ErrK lw.prog K mg DU ccU cdaU := ⟨OXU, ⟨_, _, _, lcU⟩, ⟨_, _, _, _, _, _, ldU, cvU, cfU⟩, sup_of lU lRe iRe, veU, meU, opD, PySem.W.mg_none_of X G zS, tpD⟩
  have BUU : Binds K (PySem.W.fnX "__init__" "UnlikePins.__init__" (defArgs s_UnlikePins_init) (defBody s_UnlikePins_init) (defScope s_UnlikePins_init) [("__class__", ccU)] .none kVU dcU pmU anU (.ref cdaU) ctU) ["self", "one", "other"] [] := Binds.all fun us hl => match us, hl with | [_, _, _], _ => rfl
  have UCU : ErrU K mg "UnlikePins" DU fuU _ ["self", "one", "other"] := ⟨OXU, ⟨PySem.W.mg_of X G aU, iuU, tuU⟩, BUU⟩
  have OXN : OexC K DN := ⟨⟨_, _, _, _, _, _, _, _, _, _, _, _, _, _, _, lN, rfl⟩, saN, eN, tN, kN⟩
  have EKN : ErrK lw.prog K mg DN ccN cdaN := ⟨OXN, ⟨_, _, _, lcN⟩, ⟨_, _, _, _, _, _, ldN, cvN, cfN⟩, sup_of lN lRe iRe, veN, meN, opD, PySem.W.mg_none_of X G zS, tpD⟩
  have BUN : Binds K (PySem.W.fnX "__init__" "NotPart.__init__" (defArgs s_NotPart_init) (defBody s_NotPart_init) (defScope s_NotPart_init) [("__class__", ccN)] .none kVN dcN pmN anN (.ref cdaN) ctN) ["self", "a", "b"] [] := Binds.all fun us hl => match us, hl with | [_, _, _], _ => rfl
  have UCN : ErrU K mg "NotPart" DN fuN _ ["self", "a", "b"] := ⟨OXN, ⟨PySem.W.mg_of X G aN, iuN, tuN⟩, BUN⟩
  have OXB : OexC K DB := ⟨⟨_, _, _, _, _, _, _, _, _, _, _, _, _, _, _, lB, rfl⟩, saB, eB, tB, kB⟩
  have EKB : ErrK lw.prog K mg DB ccB cdaB := ⟨OXB, ⟨_, _, _, lcB⟩, ⟨_, _, _, _, _, _, ldB, cvB, cfB⟩, sup_of lB lRe iRe, veB, meB, opD, PySem.W.mg_none_of X G zS, tpD⟩
  have BUB : Binds K (PySem.W.fnX "__init__" "BadNumber.__init__" (defArgs s_BadNumber_init) (defBody s_BadNumber_init) (defScope s_BadNumber_init) [("__class__", ccB)] .none kVB dcB pmB anB (.ref cdaB) ctB) ["self", "number"] [] := Binds.all fun us hl => match us, hl with | [_, _], _ => rfl
  have UCB : ErrU K mg "BadNumber" DB fuB _ ["self", "number"] := ⟨OXB, ⟨PySem.W.mg_of X G aB, iuB, tuB⟩, BUB⟩
  have OXP : OexC K DP := ⟨⟨_, _, _, _, _, _, _, _, _, _, _, _, _, _, _, lP, rfl⟩, saP, eP, tP, kP⟩
  have EKP : ErrK lw.prog K mg DP ccP cdaP := ⟨OXP, ⟨_, _, _, lcP⟩, ⟨_, _, _, _, _, _, ldP, cvP, cfP⟩, sup_of lP lRe iRe, veP, meP, opD, PySem.W.mg_none_of X G zS, tpD⟩
  have BUP : Binds K (PySem.W.fnX "__init__" "BadPin.__init__" (defArgs s_BadPin_init) (defBody s_BadPin_init) (defScope s_BadPin_init) [("__class__", ccP)] .none kVP dcP pmP anP (.ref cdaP) ctP) ["self", "pin"] [] := Binds.all fun us hl => match us, hl with | [_, _], _ => rfl
  have UCP : ErrU K mg "BadPin" DP fuP _ ["self", "pin"] := ⟨OXP, ⟨PySem.W.mg_of X G aP, iuP, tuP⟩, BUP⟩
  have N_ : ∀ n ∈ errs, mg n = some (.ref ((cOf DN DB DP c_bc c_bps DU c_re) n)) := List.forall_mem_cons.mpr ⟨by rw [cOf0]; exact PySem.W.mg_of X G aN, List.forall_mem_cons.mpr ⟨by rw [cOf1]; exact PySem.W.mg_of X G aB, List.forall_mem_cons.mpr ⟨by rw [cOf2]; exact PySem.W.mg_of X G aP, List.forall_mem_cons.mpr ⟨by rw [cOf3]; exact PySem.W.mg_of X G a_c_bc, List.forall_mem_cons.mpr ⟨by rw [cOf4]; exact PySem.W.mg_of X G a_c_bps, List.forall_mem_cons.mpr ⟨by rw [cOf5]; exact PySem.W.mg_of X G aU, List.forall_mem_cons.mpr ⟨by rw [cOf6]; exact PySem.W.mg_of X G a_c_re, fun _ h => nomatch h⟩⟩⟩⟩⟩⟩⟩
  have o_mul : ∀ T ∈ ["int", "bool", "NoneType", "str", "list", "tuple"], OpT K C .Mult T := List.forall_mem_cons.mpr ⟨⟨⟨_, xT0⟩, ⟨_, yT0⟩, sT0⟩, List.forall_mem_cons.mpr ⟨⟨⟨_, xT1⟩, ⟨_, yT1⟩, sT1⟩, List.forall_mem_cons.mpr ⟨⟨⟨_, xT2⟩, ⟨_, yT2⟩, sT2⟩, List.forall_mem_cons.mpr ⟨⟨⟨_, xT3⟩, ⟨_, yT3⟩, sT3⟩, List.forall_mem_cons.mpr ⟨⟨⟨_, xT4⟩, ⟨_, yT4⟩, sT4⟩, List.forall_mem_cons.mpr ⟨⟨⟨_, xT5⟩, ⟨_, yT5⟩, sT5⟩, fun _ h => nomatch h⟩⟩⟩⟩⟩⟩
  have t_eq : ∀ T ∈ ["int", "bool", "NoneType", "str", "list", "tuple"], PySem.W.notFirst K C (.type T) = true ∧ PySem.W.kitOne K (.type T) (.ref C) = some false := List.forall_mem_cons.mpr ⟨⟨not_first sT0, kit_tyref icC tcC sT0⟩, List.forall_mem_cons.mpr ⟨⟨not_first sT1, kit_tyref icC tcC sT1⟩, List.forall_mem_cons.mpr ⟨⟨not_first sT2, kit_tyref icC tcC sT2⟩, List.forall_mem_cons.mpr ⟨⟨not_first sT3, kit_tyref icC tcC sT3⟩, List.forall_mem_cons.mpr ⟨⟨not_first sT4, kit_tyref icC tcC sT4⟩, List.forall_mem_cons.mpr ⟨⟨not_first sT5, kit_tyref icC tcC sT5⟩, fun _ h => nomatch h⟩⟩⟩⟩⟩⟩
  have XCU : XcE K DU (cOf DN DB DP c_bc c_bps DU c_re) ["one", "other"] ["NotPart", "BadNumber", "BadPin", "BadCord", "BadPins"] := ⟨⟨gaU, ggU, eU, hU, caU, nD, kTD, moU⟩, ⟨gaU, ggU, eU, hU⟩, List.forall_mem_cons.mpr ⟨n0U, List.forall_mem_cons.mpr ⟨n1U, fun _ h => nomatch h⟩⟩, List.forall_mem_cons.mpr ⟨by rw [cOf0]; exact kit_ref sdU ic_DN tN qUDN, List.forall_mem_cons.mpr ⟨by rw [cOf1]; exact kit_ref sdU ic_DB tB qUDB, List.forall_mem_cons.mpr ⟨by rw [cOf2]; exact kit_ref sdU ic_DP tP qUDP, List.forall_mem_cons.mpr ⟨by rw [cOf3]; exact kit_ref sdU ic_c_bc tc_c_bc qUc_bc, List.forall_mem_cons.mpr ⟨by rw [cOf4]; exact kit_ref sdU ic_c_bps tc_c_bps qUc_bps, fun _ h => nomatch h⟩⟩⟩⟩⟩, by rw [cOf6]; exact kit_ref sdU ic_c_re tc_c_re qUc_re, kit_ve veU, PySem.W.exm_ref eU hU tU sdU⟩
  have XCN : XcE K DN (cOf DN DB DP c_bc c_bps DU c_re) ["a", "b"] ["UnlikePins", "BadNumber", "BadPin", "BadCord", "BadPins"] := ⟨⟨gaN, ggN, eN, hN, caN, nD, kTD, moN⟩, ⟨gaN, ggN, eN, hN⟩, List.forall_mem_cons.mpr ⟨n0N, List.forall_mem_cons.mpr ⟨n1N, fun _ h => nomatch h⟩⟩, List.forall_mem_cons.mpr ⟨by rw [cOf5]; exact kit_ref sdN ic_DU tU qNDU, List.forall_mem_cons.mpr ⟨by rw [cOf1]; exact kit_ref sdN ic_DB tB qNDB, List.forall_mem_cons.mpr ⟨by rw [cOf2]; exact kit_ref sdN ic_DP tP qNDP, List.forall_mem_cons.mpr ⟨by rw [cOf3]; exact kit_ref sdN ic_c_bc tc_c_bc qNc_bc, List.forall_mem_cons.mpr ⟨by rw [cOf4]; exact kit_ref sdN ic_c_bps tc_c_bps qNc_bps, fun _ h => nomatch h⟩⟩⟩⟩⟩, by rw [cOf6]; exact kit_ref sdN ic_c_re tc_c_re qNc_re, kit_ve veN, PySem.W.exm_ref eN hN tN sdN⟩
  have XCB : XcE K DB (cOf DN DB DP c_bc c_bps DU c_re) ["number"] ["NotPart", "UnlikePins", "BadPin", "BadCord", "BadPins"] := ⟨⟨gaB, ggB, eB, hB, caB, nD, kTD, moB⟩, ⟨gaB, ggB, eB, hB⟩, List.forall_mem_cons.mpr ⟨n0B, fun _ h => nomatch h⟩, List.forall_mem_cons.mpr ⟨by rw [cOf0]; exact kit_ref sdB ic_DN tN qBDN, List.forall_mem_cons.mpr ⟨by rw [cOf5]; exact kit_ref sdB ic_DU tU qBDU, List.forall_mem_cons.mpr ⟨by rw [cOf2]; exact kit_ref sdB ic_DP tP qBDP, List.forall_mem_cons.mpr ⟨by rw [cOf3]; exact kit_ref sdB ic_c_bc tc_c_bc qBc_bc, List.forall_mem_cons.mpr ⟨by rw [cOf4]; exact kit_ref sdB ic_c_bps tc_c_bps qBc_bps, fun _ h => nomatch h⟩⟩⟩⟩⟩, by rw [cOf6]; exact kit_ref sdB ic_c_re tc_c_re qBc_re, kit_ve veB, PySem.W.exm_ref eB hB tB sdB⟩
  have XCP : XcE K DP (cOf DN DB DP c_bc c_bps DU c_re) ["pin"] ["NotPart", "UnlikePins", "BadNumber", "BadCord", "BadPins"] := ⟨⟨gaP, ggP, eP, hP, caP, nD, kTD, moP⟩, ⟨gaP, ggP, eP, hP⟩, List.forall_mem_cons.mpr ⟨n0P, fun _ h => nomatch h⟩, List.forall_mem_cons.mpr ⟨by rw [cOf0]; exact kit_ref sdP ic_DN tN qPDN, List.forall_mem_cons.mpr ⟨by rw [cOf5]; exact kit_ref sdP ic_DU tU qPDU, List.forall_mem_cons.mpr ⟨by rw [cOf1]; exact kit_ref sdP ic_DB tB qPDB, List.forall_mem_cons.mpr ⟨by rw [cOf3]; exact kit_ref sdP ic_c_bc tc_c_bc qPc_bc, List.forall_mem_cons.mpr ⟨by rw [cOf4]; exact kit_ref sdP ic_c_bps tc_c_bps qPc_bps, fun _ h => nomatch h⟩⟩⟩⟩⟩, by rw [cOf6]; exact kit_ref sdP ic_c_re tc_c_re qPc_re, kit_ve veP, PySem.W.exm_ref eP hP tP sdP⟩
  refine ⟨PySem.W.fnOf "law" "law" (defArgs s_law) (defBody s_law) (defScope s_law) .none kV34 dc34 pm34 an34 cd34 ct34, fun s v => .of_eq rfl, fun base _ _ => ?_⟩
  have Gckpins := ok_ckpins (P := lw.prog) (w := w) (mg := mg) (base := base) D_check_pins.F T D_is_whole
  have Gentry := ok_entry (P := lw.prog) (w := w) (mg := mg) (base := base) D_is_entry.F T D_is_whole D_is_below D_is_sequence
  have Ggath := ok_gathered (P := lw.prog) (w := w) (mg := mg) (base := base) D_gathered.F T D_is_entry Gentry
  have Ginit := ok_init (P := lw.prog) (w := w) (mg := mg) (base := base) FI_ T L D_check_pins Gckpins D_gathered Ggath
  have Geap := ok_eap (P := lw.prog) (w := w) (mg := mg) (base := base) D_ends_at_pins.F T
  have GeU := ok_UnlikePins (P := lw.prog) (w := w) (mg := mg) (base := base) EKU luU cuU n0U n1U
  have GeN := ok_NotPart (P := lw.prog) (w := w) (mg := mg) (base := base) EKN luN cuN n0N n1N
  have GeB := ok_BadNumber (P := lw.prog) (w := w) (mg := mg) (base := base) EKB luB cuB n0B
  have GeP := ok_BadPin (P := lw.prog) (w := w) (mg := mg) (base := base) EKP luP cuP n0P
  have Gwx := ok_wholeX (P := lw.prog) (w := w) (mg := mg) (base := base) D_is_whole.F T
  have Gbx := ok_belowX (P := lw.prog) (w := w) (mg := mg) (base := base) D_is_below.F D_is_whole Gwx
  have Gckpin := ok_ckpinX (P := lw.prog) (w := w) (mg := mg) (base := base) D_check_pin.F D_is_below Gbx UCP GeP
  have Gcknum := ok_cknumX (P := lw.prog) (w := w) (mg := mg) (base := base) D_check_number.F D_is_whole Gwx UCB GeB
  have Glike := ok_likeX (P := lw.prog) (w := w) (mg := mg) (base := base) D_check_like.F UCU GeU
  have Gentof := ok_entof (P := lw.prog) (w := w) (mg := mg) (base := base) D_entries_of.F
  have Gbypair := ok_bypair (P := lw.prog) (w := w) (mg := mg) (base := base) D_by_pair.F
  have Gbtw := ok_btw (P := lw.prog) (w := w) (mg := mg) (base := base) F_Lot_between T L D_check_pin Gckpin D_by_pair Gbypair
  have Gends := ok_endsX (P := lw.prog) (w := w) (mg := mg) (base := base) F_Lot_ends L D_check_pin Gckpin D_ends_at_pins Geap
  have Gtotal := ok_total (P := lw.prog) (w := w) (mg := mg) (base := base) F_Lot_total T L
  have Glen := ok_len (P := lw.prog) (w := w) (mg := mg) (base := base) F_Lot_len T L
  have Geq := ok_eqL (P := lw.prog) (w := w) (mg := mg) (base := base) F_Lot_eq T L I
  have Gadd := ok_addX (P := lw.prog) (w := w) (mg := mg) (base := base) F_Lot_add L MI BI BD Ginit D_check_like Glike
  have Gmul := ok_mulX (P := lw.prog) (w := w) (mg := mg) (base := base) F_Lot_mul L MI BI BD Ginit hz D_check_number Gcknum
  have Gsub := ok_subX (P := lw.prog) (w := w) (mg := mg) (base := base) F_Lot_sub L MI BI Ginit D_check_like Glike D_entries_of Gentof UCN GeN
  have Gwh := ok_lwhole (P := lw.prog) (w := w) (mg := mg) (base := base) D__law_whole.F T
  have HWh := okH_lwhole (P := lw.prog) (w := w) (mg := mg) (base := base) D__law_whole.F T
  have Gcell := ok_cell (P := lw.prog) (w := w) (mg := mg) (base := base) D__law_cell.F T
  have Gdig := ok_digits (P := lw.prog) (w := w) (mg := mg) (base := base) D__law_digits.F T
  have Gsame := ok_same (P := lw.prog) (w := w) (mg := mg) (base := base) D__law_same T D__law_whole Gwh
  have HSame := okH_same (P := lw.prog) (w := w) (mg := mg) (base := base) D__law_same T D__law_whole HWh
  have Gpins := ok_pins (P := lw.prog) (w := w) (mg := mg) (base := base) D__law_pins.F T D__law_digits Gdig
  have Gnorm := ok_norm (P := lw.prog) (w := w) (mg := mg) (base := base) D__law_norm.F T
  have Gllot := ok_llot (P := lw.prog) (w := w) (mg := mg) (base := base) D__law_entries.F T D__law_digits Gdig D__law_cell Gcell D__law_norm Gnorm
  have Glends := ok_lends (P := lw.prog) (w := w) (mg := mg) (base := base) D__law_ends.F
  have Glcount := ok_lcount (P := lw.prog) (w := w) (mg := mg) (base := base) D__law_count.F
  have Glotis := ok_lotis (P := lw.prog) (w := w) (mg := mg) (base := base) D__law_lot_is.F T L I D__law_same (Gsame 2)
  have Gcounts := ok_counts (P := lw.prog) (w := w) (mg := mg) (base := base) D__law_counts.F T L D__law_same (Gsame 2) D__law_ends Glends M_Lot_ends Gends M_Lot_between Gbtw M_Lot_total Gtotal M_Lot_len Glen i39 n39 B_Lot_iter (fun bb => ok_iter (P := lw.prog) (w := w) (mg := mg) (base := bb) F_Lot_iter (PySem.W.mg_none_of X G zI) L)
  have Gtold := ok_told (P := lw.prog) (w := w) (mg := mg) (base := base) D__law_told.F T L D__law_same (Gsame 2) D__law_ends Glends D__law_count Glcount M_Lot_ends Gends M_Lot_between Gbtw M_Lot_total Gtotal M_Lot_len Glen i39 n39 B_Lot_iter (fun bb => ok_iter (P := lw.prog) (w := w) (mg := mg) (base := bb) F_Lot_iter (PySem.W.mg_none_of X G zI) L)
  have Gtaken := ok_taken (P := lw.prog) (w := w) (mg := mg) (base := base) D__law_taken.F T (PySem.W.mg_of X G aN) (PySem.W.mg_none_of X G zV) N_ XCN sf i42 n42 B_Lot_sub Gsub D__law_same (HSame 2) D__law_count Glcount D__law_norm Gnorm D__law_lot_is Glotis D__law_counts Gcounts
  have Gunl := ok_unl (P := lw.prog) (w := w) (mg := mg) (base := base) D__law_unlike.F T (PySem.W.mg_of X G aU) (PySem.W.mg_none_of X G zV) N_ XCU sf i42 n42 B_Lot_sub Gsub i41 n41 B_Lot_add Gadd D__law_same (HSame 2)
  have Gbadf := ok_badf (P := lw.prog) (w := w) (mg := mg) (base := base) D__law_bad_factor.F T (PySem.W.mg_of X G aB) (PySem.W.mg_none_of X G zV) N_ XCB sf i43 n43 rmC (.inl rfl) B_Lot_mul Gmul o_mul D__law_same (HSame 2)
  have Gbadp := ok_badp (P := lw.prog) (w := w) (mg := mg) (base := base) D__law_bad_pin.F T (PySem.W.mg_of X G aP) (PySem.W.mg_none_of X G zV) N_ XCP cl M_Lot_between.m B_Lot_between Gbtw M_Lot_ends.m B_Lot_ends Gends D__law_same (HSame 2)
  have Gequal := ok_equal (P := lw.prog) (w := w) (mg := mg) (base := base) D__law_equal.F T (PySem.W.mg_none_of X G zR) L MI BI Ginit i40 n40 B_Lot_eq Geq t_eq D__law_same (Gsame 2)
  have Gnear := ok_near (P := lw.prog) (w := w) (mg := mg) (base := base) D__law_near.F T D__law_digits Gdig
  have Gneq := ok_neareq (P := lw.prog) (w := w) (mg := mg) (base := base) D__law_near_equal.F T L MI BI Ginit i40 n40 B_Lot_eq Geq D__law_same (Gsame 2) D__law_norm Gnorm D__law_near Gnear
  have Gbadones := ok_badones (P := lw.prog) (w := w) (mg := mg) (base := base) D__law_bad_ones.F T D__law_cell Gcell D__law_bad_pin Gbadp D__law_bad_factor Gbadf
  have Gdiff := ok_diff (P := lw.prog) (w := w) (mg := mg) (base := base) D__law_differences.F T L sf MI BI Ginit i41 n41 B_Lot_add Gadd D__law_norm Gnorm D__law_cell Gcell D__law_digits Gdig D__law_count Glcount D__law_taken Gtaken
  exact ok_law (fun_mk l34 c34 k34) T L sf D__law_cell Gcell D__law_pins Gpins D__law_digits Gdig D__law_entries Gllot D__law_norm Gnorm D__law_lot_is Glotis D__law_told Gtold D__law_counts Gcounts D__law_differences Gdiff D__law_equal Gequal D__law_near_equal Gneq D__law_count Glcount D__law_unlike Gunl D__law_bad_ones Gbadones MI BI BD hz Ginit i41 n41 B_Lot_add Gadd i42 n42 B_Lot_sub Gsub i43 n43 rmC (.inl rfl) B_Lot_mul Gmul o_mul
end Own

open PySem PySem.W PyProof.Rows
set_option maxRecDepth 100000 in
set_option maxHeartbeats 0 in
theorem PySem.Challenge.cw_rimcords_k02_lot_sums_holds : PySem.Challenge.rw_rimcords_k02_lot_sums.Holds := by
  w_on; o_law; k_head; (case hw => w_witness2)
  k_fill
  refine L2.walk_of (l := PySem.Challenge.rw_rimcords_k02_lot_sums) (n := 63) (k := 11) (x := "_law_script") (CX := fun _ => L2.CX0) (sp := fun w => Own.spLaw _) rfl (by decide) rfl ⟨rfl, by decide, by decide⟩ (fun w h Y => PySem.W.kIn_of Y) ?F (fun _ _ a ns hl _ hS => ⟨a, ns, rfl, hS, Nat.le_trans hl (by decide), fun _ => rfl⟩) (fun _ _ _ _ _ h => h)
  case F =>
    intro w mg fa h KX G hmg
    refine' Own.all_mk KX G hmg ?a1 ?l1 ?c1 ?k1 ?a2 ?l2 ?c2 ?k2 ?a3 ?l3 ?c3 ?k3 ?a4 ?l4 ?c4 ?k4 ?a5 ?l5 ?c5 ?k5 ?a6 ?l6 ?c6 ?k6 ?a7 ?l7 ?c7 ?k7 ?a8 ?l8 ?c8 ?k8 ?a9 ?l9 ?c9 ?k9 ?a10 ?l10 ?c10 ?k10 ?a11 ?l11 ?c11 ?k11 ?a12 ?l12 ?c12 ?k12 ?a13 ?l13 ?c13 ?k13 ?a14 ?l14 ?c14 ?k14 ?a15 ?l15 ?c15 ?k15 ?a16 ?l16 ?c16 ?k16 ?a17 ?l17 ?c17 ?k17 ?a18 ?l18 ?c18 ?k18 ?a19 ?l19 ?c19 ?k19 ?a20 ?l20 ?c20 ?k20 ?a21 ?l21 ?c21 ?k21 ?a22 ?l22 ?c22 ?k22 ?a23 ?l23 ?c23 ?k23 ?a24 ?l24 ?c24 ?k24 ?a25 ?l25 ?c25 ?k25 ?a26 ?l26 ?c26 ?k26 ?a27 ?l27 ?c27 ?k27 ?a28 ?l28 ?c28 ?k28 ?a29 ?l29 ?c29 ?k29 ?a30 ?l30 ?c30 ?k30 ?a31 ?l31 ?c31 ?k31 ?a32 ?l32 ?c32 ?k32 ?a33 ?l33 ?c33 ?k33 ?a34 ?l34 ?c34 ?k34 ?aC ?i35 ?n35 ?l35 ?c35 ?k35 ?i36 ?n36 ?l36 ?c36 ?k36 ?i37 ?n37 ?l37 ?c37 ?k37 ?i38 ?n38 ?l38 ?c38 ?k38 ?i39 ?n39 ?l39 ?c39 ?k39 ?i40 ?n40 ?l40 ?c40 ?k40 ?i41 ?n41 ?l41 ?c41 ?k41 ?i42 ?n42 ?l42 ?c42 ?k42 ?i43 ?n43 ?l43 ?c43 ?k43 ?i44 ?n44 ?l44 ?c44 ?k44 ?lT ?lz ?pg ?hd ?po ?sa ?mk ?kc ?nP ?nC ?iA ?iN ?iT ?iM ?sf ?aU ?aN ?aB ?aP ?a_c_bc ?a_c_bps ?a_c_re ?lU ?saU ?eU ?tU ?kU ?iuU ?tuU ?luU ?cuU ?lcU ?ldU ?cvU ?cfU ?veU ?meU ?gaU ?ggU ?hU ?caU ?moU ?sdU ?n0U ?n1U ?qUDN ?qUDB ?qUDP ?qUc_bc ?qUc_bps ?qUc_re ?lN ?saN ?eN ?tN ?kN ?iuN ?tuN ?luN ?cuN ?lcN ?ldN ?cvN ?cfN ?veN ?meN ?gaN ?ggN ?hN ?caN ?moN ?sdN ?n0N ?n1N ?qNDB ?qNDP ?qNc_bc ?qNc_bps ?qNDU ?qNc_re ?lB ?saB ?eB ?tB ?kB ?iuB ?tuB ?luB ?cuB ?lcB ?ldB ?cvB ?cfB ?veB ?meB ?gaB ?ggB ?hB ?caB ?moB ?sdB ?n0B ?qBDN ?qBDP ?qBc_bc ?qBc_bps ?qBDU ?qBc_re ?lP ?saP ?eP ?tP ?kP ?iuP ?tuP ?luP ?cuP ?lcP ?ldP ?cvP ?cfP ?veP ?meP ?gaP ?ggP ?hP ?caP ?moP ?sdP ?n0P ?qPDN ?qPDB ?qPc_bc ?qPc_bps ?qPDU ?qPc_re ?ic_DN ?ic_DB ?ic_DP ?ic_c_bc ?tc_c_bc ?ic_c_bps ?tc_c_bps ?ic_DU ?ic_c_re ?tc_c_re ?lRe ?iRe ?opD ?tpD ?nD ?kTD ?zS ?zV ?zR ?zI ?icC ?tcC ?rmC ?sT0 ?xT0 ?yT0 ?sT1 ?xT1 ?yT1 ?sT2 ?xT2 ?yT2 ?sT3 ?xT3 ?yT3 ?sT4 ?xT4 ?yT4 ?sT5 ?xT5 ?yT5 ?z0 ?z1 ?z2 ?z3 ?z4 ?z5 ?z6 ?z7 ?z8 ?z9 ?z10 ?z11
    (case a1 => k_is)
    (case l1 => k_is)
    (case c1 => k_is)
    (case k1 => k_is)
    (case a2 => k_is)
    (case l2 => k_is)
    (case c2 => k_is)
    (case k2 => k_is)
    (case a3 => k_is)
    (case l3 => k_is)
    (case c3 => k_is)
    (case k3 => k_is)
    (case a4 => k_is)
    (case l4 => k_is)
    (case c4 => k_is)
    (case k4 => k_is)
    (case a5 => k_is)
    (case l5 => k_is)
    (case c5 => k_is)
    (case k5 => k_is)
    (case a6 => k_is)
    (case l6 => k_is)
    (case c6 => k_is)
    (case k6 => k_is)
    (case a7 => k_is)
    (case l7 => k_is)
    (case c7 => k_is)
    (case k7 => k_is)
    (case a8 => k_is)
    (case l8 => k_is)
    (case c8 => k_is)
    (case k8 => k_is)
    (case a9 => k_is)
    (case l9 => k_is)
    (case c9 => k_is)
    (case k9 => k_is)
    (case a10 => k_is)
    (case l10 => k_is)
    (case c10 => k_is)
    (case k10 => k_is)
    (case a11 => k_is)
    (case l11 => k_is)
    (case c11 => k_is)
    (case k11 => k_is)
    (case a12 => k_is)
    (case l12 => k_is)
    (case c12 => k_is)
    (case k12 => k_is)
    (case a13 => k_is)
    (case l13 => k_is)
    (case c13 => k_is)
    (case k13 => k_is)
    (case a14 => k_is)
    (case l14 => k_is)
    (case c14 => k_is)
    (case k14 => k_is)
    (case a15 => k_is)
    (case l15 => k_is)
    (case c15 => k_is)
    (case k15 => k_is)
    (case a16 => k_is)
    (case l16 => k_is)
    (case c16 => k_is)
    (case k16 => k_is)
    (case a17 => k_is)
    (case l17 => k_is)
    (case c17 => k_is)
    (case k17 => k_is)
    (case a18 => k_is)
    (case l18 => k_is)
    (case c18 => k_is)
    (case k18 => k_is)
    (case a19 => k_is)
    (case l19 => k_is)
    (case c19 => k_is)
    (case k19 => k_is)
    (case a20 => k_is)
    (case l20 => k_is)
    (case c20 => k_is)
    (case k20 => k_is)
    (case a21 => k_is)
    (case l21 => k_is)
    (case c21 => k_is)
    (case k21 => k_is)
    (case a22 => k_is)
    (case l22 => k_is)
    (case c22 => k_is)
    (case k22 => k_is)
    (case a23 => k_is)
    (case l23 => k_is)
    (case c23 => k_is)
    (case k23 => k_is)
    (case a24 => k_is)
    (case l24 => k_is)
    (case c24 => k_is)
    (case k24 => k_is)
    (case a25 => k_is)
    (case l25 => k_is)
    (case c25 => k_is)
    (case k25 => k_is)
    (case a26 => k_is)
    (case l26 => k_is)
    (case c26 => k_is)
    (case k26 => k_is)
    (case a27 => k_is)
    (case l27 => k_is)
    (case c27 => k_is)
    (case k27 => k_is)
    (case a28 => k_is)
    (case l28 => k_is)
    (case c28 => k_is)
    (case k28 => k_is)
    (case a29 => k_is)
    (case l29 => k_is)
    (case c29 => k_is)
    (case k29 => k_is)
    (case a30 => k_is)
    (case l30 => k_is)
    (case c30 => k_is)
    (case k30 => k_is)
    (case a31 => k_is)
    (case l31 => k_is)
    (case c31 => k_is)
    (case k31 => k_is)
    (case a32 => k_is)
    (case l32 => k_is)
    (case c32 => k_is)
    (case k32 => k_is)
    (case a33 => k_is)
    (case l33 => k_is)
    (case c33 => k_is)
    (case k33 => k_is)
    (case a34 => k_is)
    (case l34 => k_is)
    (case c34 => k_is)
    (case k34 => k_is)
    (case aC => k_is)
    (case i35 => k_is)
    (case n35 => k_is)
    (case l35 => k_is)
    (case c35 => k_is)
    (case k35 => k_is)
    (case i36 => k_is)
    (case n36 => k_is)
    (case l36 => k_is)
    (case c36 => k_is)
    (case k36 => k_is)
    (case i37 => k_is)
    (case n37 => k_is)
    (case l37 => k_is)
    (case c37 => k_is)
    (case k37 => k_is)
    (case i38 => k_is)
    (case n38 => k_is)
    (case l38 => k_is)
    (case c38 => k_is)
    (case k38 => k_is)
    (case i39 => k_is)
    (case n39 => k_is)
    (case l39 => k_is)
    (case c39 => k_is)
    (case k39 => k_is)
    (case i40 => k_is)
    (case n40 => k_is)
    (case l40 => k_is)
    (case c40 => k_is)
    (case k40 => k_is)
    (case i41 => k_is)
    (case n41 => k_is)
    (case l41 => k_is)
    (case c41 => k_is)
    (case k41 => k_is)
    (case i42 => k_is)
    (case n42 => k_is)
    (case l42 => k_is)
    (case c42 => k_is)
    (case k42 => k_is)
    (case i43 => k_is)
    (case n43 => k_is)
    (case l43 => k_is)
    (case c43 => k_is)
    (case k43 => k_is)
    (case i44 => k_is)
    (case n44 => k_is)
    (case l44 => k_is)
    (case c44 => k_is)
    (case k44 => k_is)
    (case lT => k_is)
    (case lz => k_is)
    (case pg => k_is)
    (case hd => k_is)
    (case po => k_is)
    (case sa => k_is)
    (case mk => k_is)
    (case kc => k_is)
    (case nP => k_is)
    (case nC => k_is)
    (case iA => k_is)
    (case iN => k_is)
    (case iT => k_is)
    (case iM => k_is)
    (case sf => k_is)
    (case aU => k_is)
    (case aN => k_is)
    (case aB => k_is)
    (case aP => k_is)
    (case a_c_bc => k_is)
    (case a_c_bps => k_is)
    (case a_c_re => k_is)
    (case lU => k_is)
    (case saU => k_is)
    (case eU => k_is)
    (case tU => k_is)
    (case kU => k_is)
    (case iuU => k_is)
    (case tuU => k_is)
    (case luU => k_is)
    (case cuU => k_is)
    (case lcU => k_is)
    (case ldU => k_is)
    (case cvU => first | rfl | decide +kernel)
    (case cfU => first | rfl | decide +kernel)
    (case veU => k_is)
    (case meU => k_is)
    (case gaU => k_is)
    (case ggU => k_is)
    (case hU => k_is)
    (case caU => k_is)
    (case moU => k_is)
    (case sdU => k_is)
    (case n0U => k_is)
    (case n1U => k_is)
    (case qUDN => k_is)
    (case qUDB => k_is)
    (case qUDP => k_is)
    (case qUc_bc => k_is)
    (case qUc_bps => k_is)
    (case qUc_re => k_is)
    (case lN => k_is)
    (case saN => k_is)
    (case eN => k_is)
    (case tN => k_is)
    (case kN => k_is)
    (case iuN => k_is)
    (case tuN => k_is)
    (case luN => k_is)
    (case cuN => k_is)
    (case lcN => k_is)
    (case ldN => k_is)
    (case cvN => first | rfl | decide +kernel)
    (case cfN => first | rfl | decide +kernel)
    (case veN => k_is)
    (case meN => k_is)
    (case gaN => k_is)
    (case ggN => k_is)
    (case hN => k_is)
    (case caN => k_is)
    (case moN => k_is)
    (case sdN => k_is)
    (case n0N => k_is)
    (case n1N => k_is)
    (case qNDB => k_is)
    (case qNDP => k_is)
    (case qNc_bc => k_is)
    (case qNc_bps => k_is)
    (case qNDU => k_is)
    (case qNc_re => k_is)
    (case lB => k_is)
    (case saB => k_is)
    (case eB => k_is)
    (case tB => k_is)
    (case kB => k_is)
    (case iuB => k_is)
    (case tuB => k_is)
    (case luB => k_is)
    (case cuB => k_is)
    (case lcB => k_is)
    (case ldB => k_is)
    (case cvB => first | rfl | decide +kernel)
    (case cfB => first | rfl | decide +kernel)
    (case veB => k_is)
    (case meB => k_is)
    (case gaB => k_is)
    (case ggB => k_is)
    (case hB => k_is)
    (case caB => k_is)
    (case moB => k_is)
    (case sdB => k_is)
    (case n0B => k_is)
    (case qBDN => k_is)
    (case qBDP => k_is)
    (case qBc_bc => k_is)
    (case qBc_bps => k_is)
    (case qBDU => k_is)
    (case qBc_re => k_is)
    (case lP => k_is)
    (case saP => k_is)
    (case eP => k_is)
    (case tP => k_is)
    (case kP => k_is)
    (case iuP => k_is)
    (case tuP => k_is)
    (case luP => k_is)
    (case cuP => k_is)
    (case lcP => k_is)
    (case ldP => k_is)
    (case cvP => first | rfl | decide +kernel)
    (case cfP => first | rfl | decide +kernel)
    (case veP => k_is)
    (case meP => k_is)
    (case gaP => k_is)
    (case ggP => k_is)
    (case hP => k_is)
    (case caP => k_is)
    (case moP => k_is)
    (case sdP => k_is)
    (case n0P => k_is)
    (case qPDN => k_is)
    (case qPDB => k_is)
    (case qPc_bc => k_is)
    (case qPc_bps => k_is)
    (case qPDU => k_is)
    (case qPc_re => k_is)
    (case ic_DN => k_is)
    (case ic_DB => k_is)
    (case ic_DP => k_is)
    (case ic_c_bc => k_is)
    (case tc_c_bc => k_is)
    (case ic_c_bps => k_is)
    (case tc_c_bps => k_is)
    (case ic_DU => k_is)
    (case ic_c_re => k_is)
    (case tc_c_re => k_is)
    (case lRe => k_is)
    (case iRe => k_is)
    (case opD => k_is)
    (case tpD => first | rfl | decide +kernel)
    (case nD => k_is)
    (case kTD => k_is)
    (case zS => k_is)
    (case zV => k_is)
    (case zR => k_is)
    (case zI => k_is)
    (case icC => k_is)
    (case tcC => k_is)
    (case rmC => k_is)
    (case sT0 => k_is)
    (case xT0 => k_is)
    (case yT0 => k_is)
    (case sT1 => k_is)
    (case xT1 => k_is)
    (case yT1 => k_is)
    (case sT2 => k_is)
    (case xT2 => k_is)
    (case yT2 => k_is)
    (case sT3 => k_is)
    (case xT3 => k_is)
    (case yT3 => k_is)
    (case sT4 => k_is)
    (case xT4 => k_is)
    (case yT4 => k_is)
    (case sT5 => k_is)
    (case xT5 => k_is)
    (case yT5 => k_is)
    (case z0 => k_is)
    (case z1 => k_is)
    (case z2 => k_is)
    (case z3 => k_is)
    (case z4 => k_is)
    (case z5 => k_is)
    (case z6 => k_is)
    (case z7 => k_is)
    (case z8 => k_is)
    (case z9 => k_is)
    (case z10 => k_is)
    (case z11 => k_is)
