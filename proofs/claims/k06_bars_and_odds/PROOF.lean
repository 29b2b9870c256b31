import PyProof.Rows.All
import Wide.All
import OpenK.AllK
import Wide.FinOn
import HandS.ForMost
import HandS.IsInst
import HandS.Style
import HandS.Defaults
import HandS.MakeKwOnly
import HandS.Conv
import HandS.Sort
import HandS.SortRule
import HandS.Deep
import HandS.Property
import HandS.TupSets
import HandS.Codes
import HandS.Exc
import HandS.ExcInit
import HandS.ExcField
import HandS.ExcIs
import HandS.TryOnly
import HandS.Nested
import HandS.FStr
import KE.KExcSuper
import HandS.SetFor
import HandS.ExcOwn
import KE.KExcIs
import KE.DataFind
import HandS.ExcCtx
import HandS.HotCalls
import HandS.WordsExc
import HandS.Walk
import HandS.Iter
import HandS.TupAny
import PySem.Challenge.RW_rimcords_k06_bars_and_odds
set_option Elab.async false
set_option linter.all false
set_option maxRecDepth 100000
/-! Rules of my own for the hand layer. -/
namespace Own
open PySem PySem.Spec PyProof.Rows L2
/-- the two ints of a pair that stands in the heap -/
def kOf (H : Hp) (v : V) : Int × Int := match v with
  | .ref a => match H a with
    | some (.tup [.int i, .int j]) => (i, j)
    | _ => (0, 0)
  | _ => (0, 0)
theorem kOf_at {H : Hp} {a : Addr} {i j : Int} (h : H a = some (.tup [.int i, .int j])) : kOf H (.ref a) = (i, j) := by
  show (match H a with | some (.tup [.int i, .int j]) => (i, j) | _ => (0, 0)) = (i, j)
  rw [h]
def rSortedDT : List V → Hp → VK → Prop := fun vs H Q => ∃ (d : Addr) (kvs : List (List Key × V)), vs = [V.ref d] ∧ Rd H d (.dT kvs) ∧ (∀ kv ∈ kvs, ∃ i j : Int, kv.1 = [Sum.inl i, Sum.inl j]) ∧
  ∀ (bs : List Addr) (ys : List V) (p : Addr), IsKeys H kvs bs → SrtO.Srtd (ltP (kOf H)) ys → SrtO.Stb (ltP (kOf H)) ys (bs.map V.ref) → H p = none → Q (.ref p) (upd H p (.lst ys))
section
variable {X : Cx}
theorem paired_right {α β : Type} {R : α → β → Prop} {xs : List α} {ys : List β} (h : Paired R xs ys) : ∀ y ∈ ys, ∃ x ∈ xs, R x y := by
  induction h with
  | nil => intro y hy; cases hy
  | cons h t ih =>
    intro y hy
    rcases List.mem_cons.mp hy with e | e
    · subst e
      exact ⟨_, List.mem_cons_self, h⟩
    · obtain ⟨x, hx, hr⟩ := ih y e
      exact ⟨x, List.mem_cons_of_mem _ hx, hr⟩
theorem cr_sortedDT (hc : X.calm = true) : CallR X (.builtin "sorted") rSortedDT := by
  intro pins s σ H xs us Q I r h
  obtain ⟨d, kvs, rfl, hd, hkv, q⟩ := h
  obtain ⟨u, rfl, rx⟩ := r.one
  cases rx
  obtain ⟨z, hs, ks, pr, o, es, ep, ho, hx, hdt, he, hn⟩ := (show ObjOk X.prog X.w H s.heap d (.dT kvs) from hd.ok I.hok)
  have l1 : es.size = ks.length := size_of_entries he
  have l2 : kvs.length = ks.length := Paired.length pr
  refine Calls.call_function_entry PyProof.Rows.kind_sorted PyProof.Rows.plain_sorted PyProof.Rows.entry_sorted (PyProof.Rows.args_sorted1 _) ?_
  unfold Builtin.«sorted»
  refine wpAny_bind (m := checkCount "sorted" 1 1 _) (wpAny_pure ?_)
  refine wpAny_bind (PySem.W.kdu_collect (A := X.A.in1) (kdl_raw hs hx hdt) (I.ok.hd hc) ho (by omega) fun h' tk acc' kp it => ?_)
  have ea : acc'.toList = ks.map fun x => Value.ref x.2.1 := by
    have hl : acc'.toList.length = ks.length := by rw [Array.length_toList, it.1]; exact l1
    apply List.ext_getElem?
    intro j
    rw [List.getElem?_map]
    cases hj : acc'.toList[j]? with
    | none =>
      have h1 := List.getElem?_eq_none_iff.mp hj
      rw [List.getElem?_eq_none (by omega)]
      all_goals rfl
    | some v =>
      obtain ⟨en, hen, hv⟩ := it.2 j v (by rw [← Array.getElem?_toList]; exact hj)
      have qe := entry_at he j
      rw [hen] at qe
      cases hb : ks[j]? with
      | none =>
        rw [hb] at qe
        exact nomatch (show some en = none from qe)
      | some b =>
        rw [hb] at qe
        have e2 : en = entryOfKey (tupleKind (mixKind X.prog X.w)) b := Option.some.inj qe
        rw [hv, e2]
        all_goals rfl
  have hal : acc'.toList.length ≤ sizeLine := by rw [ea, List.length_map]; omega
  have I1 : Inv X pins σ H { s with heap := h', toks := tk } := I.kept kp
  have keys := isKeys_of pr
  have hpair : ∀ v ∈ acc'.toList, ∃ t i j, v = Value.ref t ∧ H t = some (.tup [.int i, .int j]) := fun v hv => by
    rw [ea] at hv
    obtain ⟨x, hx, rfl⟩ := List.mem_map.mp hv
    obtain ⟨kv, hkm, hb⟩ := paired_right keys x.2.1 (List.mem_map.mpr ⟨x, hx, rfl⟩)
    obtain ⟨i, j, e⟩ := hkv kv hkm
    rw [e] at hb
    exact ⟨_, i, j, rfl, hb⟩
  refine wpAny_bind (wpAny_newList ?_ hal)
  have hoL : (h'.push (seqObj "list" acc'.toList.toArray 0)).get? h'.objs.size = some (seqObj "list" acc'.toList.toArray 0) := Heap.get?_push_size _ rfl
  have hp : ∀ v ∈ acc'.toList, Srt.IsPair (h'.push (seqObj "list" acc'.toList.toArray 0)) v (kOf H (backV v)).1 (kOf H (backV v)).2 := fun v hv => by
    obtain ⟨t, i, j, rfl, ht⟩ := hpair v hv
    obtain ⟨_, its2, r2, o, ho2, hc2, n2, hd2⟩ := I1.hok _ _ ht
    obtain ⟨u1, u2, rfl, ri, rj⟩ := vals2 r2
    obtain ⟨t1, rfl⟩ := ri
    obtain ⟨t2, rfl⟩ := rj
    rw [show backV (Value.ref t) = V.ref t from rfl, kOf_at ht]
    exact ⟨t, o, t1, t2, n2, rfl, Heap.get?_push_of_some _ ho2, hc2, hd2⟩
  show wpAny _ _ _ _ _ { s with heap := h'.push (seqObj "list" acc'.toList.toArray 0), toks := tk }
  refine wpAny_bind (wpAny_holding (wpAny_call_entry PyProof.Rows.slot_list_sort ⟨_, hoL, rfl⟩ PyProof.Rows.entry_list_sort
    (SrtO.list_sort_ord (s := { s with heap := h'.push (seqObj "list" acc'.toList.toArray 0), toks := tk }) (SrtO.swo_lex fun v => kOf H (backV v)) hoL hal (fun h2 => ?_) fun out hs hb => ⟨_, rfl, ?_⟩) (PyProof.Rows.args_list_sort _)))
  · refine SrtO.pairs_sortableO (s := { s with heap := h'.push (seqObj "list" acc'.toList.toArray 0), toks := tk }) (by omega) hp fun o e => ?_
    have e' : some o = some (seqObj "list" acc'.toList.toArray 0) := e.symm.trans hoL
    cases e'
    intro c
    exact absurd (Value.type.inj c) (by decide)
  · obtain ⟨e', he'⟩ := PyProof.Rows.sortedHeap_at (vs := acc'.toList) (out := out.toArray) hoL
    have hrefs : ∀ u ∈ out, ∃ a, u = Value.ref a := fun u hu => by
      obtain ⟨t, i, j, e, _⟩ := hpair u (hb.perm.mem_iff.mp hu)
      exact ⟨t, e⟩
    have hb2 : SrtO.Stb (ltP (kOf H)) (out.map backV) ((ks.map fun x => x.2.1).map V.ref) := by
      have e1 : ((ks.map fun x => x.2.1).map V.ref) = acc'.toList.map backV := by
        rw [ea, List.map_map, List.map_map]
        rfl
      rw [e1]
      exact SrtO.Stb.map (ltP_swo (kOf H)) backV hb
    have hlen : (out.map backV).length ≤ sizeLine := by
      rw [List.length_map, hb.perm.length_eq]
      exact hal
    refine wpAny_pure ⟨_, rfl, .ref h'.objs.size, upd H h'.objs.size (.lst (out.map backV)), I1.laid (t' := tk) (fun b u e => ?_) (Nat.le_refl _)
      (show ObjOk X.prog X.w _ _ _ (.lst (out.map backV)) from ⟨hlen, out, e', vals_back hrefs, by exact he'⟩), rfl, q _ _ _ keys (SrtO.srtd_map hs) hb2 (I1.hok.fresh (Nat.le_refl _))⟩
    have hbn : b < h'.objs.size := Heap.lt_size e
    rw [PyProof.Rows.sortedHeap_old (Nat.ne_of_lt hbn) (by rw [size_push']; exact Nat.lt_succ_of_lt hbn)]
    exact Heap.get?_push_of_some _ e
/-- len(o), o an instance of an own class with a __len__ -/
def rLenOwn (C : Addr) (sp : Sp) (E : XK) : List V → Hp → VK → Prop := fun vs H Q => ∃ (a dx : Addr) (fs : List (Str × V)), vs = [V.ref a] ∧ H a = some (.ins C dx fs) ∧ sp [V.ref a] H (fun v H' => ∃ n : Nat, v = .int (n : Int) ∧ n ≤ sizeLine ∧ Q (.int (n : Int)) H') E
theorem cr_lenOwn {CX : CXT} {k : Nat} {C f : Addr} {fd : FuncData} {ps : List Str} {sp : Sp} {E : XK} (hm : Meth X.K C "__len__" f) (F : FnOk X.prog X.w X.K X.mg X.base CX k f fd ps sp) (hr : Room (k + 1) X.A) (hb : Binds X.K fd ps []) (hx : Passes CX X.nox E) :
    CallR X (.builtin "len") (rLenOwn C sp E) := by
  intro pins s σ H xs us Q I r h
  obtain ⟨a, dx, fs, rfl, ea, q⟩ := h
  obtain ⟨u, rfl, rx⟩ := vals1 r
  cases rx
  obtain ⟨mA, O, _, _, _, _⟩ := ins_get I.hok ea
  obtain ⟨od, J, _⟩ := O.look
  have hl : [Value.ref a].length = ps.length := (F.len _ _ _ _ q : _)
  apply Calls.call_function_entry kind_len plain_len entry_len (args_len1 _)
  show wpAny _ _ (Builtin.«len» _) _ _ _
  unfold Builtin.«len»
  apply wpAny_bind (m := oneArg "len" _)
  apply wpAny_pure
  apply wpAny_bind (m := callSpecial? (.ref a) (Str.ofString "__len__"))
  apply PySem.W.special_fn I.kIn J hm.at_ (beq_iff_eq.mp hm.fn)
  apply wpAny_call
  refine codeAny_mono (F.run X.A.in1 X.stack s H ⟨[.ref a], []⟩ [.ref a] [V.ref a] _ E hr.in1 I.env0.in1 (hb s [.ref a] I.kIn hl) (.cons rfl .nil) q) fun r s' hq => ?_
  rcases r with e | fl
  · exact False.elim (hx pins σ H s e s' (I.wish _) hq)
  · cases fl <;> first | exact False.elim hq | skip
    rename_i u
    obtain ⟨v, H', I3, rv, n, ev, hn, q3⟩ := I.after hq
    subst ev
    obtain ⟨t, et⟩ := rv
    subst et
    have h63 : sizeLine < 2 ^ 63 := by decide
    apply wpAny_bind
    apply wpAny_holding
    apply wpAny_pure
    apply wpAny_bind
    apply wpAny_letGo
    show wpAny _ _ (if (n : Int) < 0 then _ else _) _ _ _
    rw [if_neg (by omega)]
    show wpAny _ _ (if (n : Int) ≥ 2 ^ 63 then _ else _) _ _ _
    rw [if_neg (by omega)]
    apply wpAny_bind
    apply wpAny_mkInt
    exact wpAny_pure ⟨_, rfl, .int (n : Int), H', I3.tok _, ⟨_, rfl⟩, q3⟩
/-- for x in xs, xs a list or a tuple -/
def iSeq (K : PySem.W.Frag) (ta : TE) : TI := fun σ H R => ta σ H fun x H1 => ∃ a, x = .ref a ∧ (((∃ xs, SqL K H1 a xs) ∧ R (Itl K a) H1) ∨ ((∃ xs, SqT K H1 a xs) ∧ R (Itt K a) H1))
theorem pi_seq {tg l : Expr} {tl : TE} (hl : PE X l tl) : PI X tg l (iSeq X.K tl) := by
  refine ⟨fun pins s σ H R I h => thn (hl.run pins s σ H _ I h) ?_⟩
  rintro v s1 ⟨x, H1, I1, r1, a, rfl, q | q⟩
  all_goals
    obtain ⟨⟨xs, hq⟩, q⟩ := q
    obtain rfl : v = Value.ref a := r1
    have fresh := I1.fpOk (Nat.le_refl s1.heap.objs.size) (I1.hok.fresh (Nat.le_refl _))
    have older : ∀ {u : Obj}, Inv X pins σ H1 { s1 with heap := s1.heap.push u, toks := s1.toks } := fun {u} => I1.kept (t' := s1.toks) fun b o e => Heap.get?_push_of_some _ e
  · obtain ⟨its, rv, p, hz⟩ := I1.list hq
    exact wpAny_pyIter_list p.isList ⟨_, [s1.heap.objs.size], _, _, H1, rfl, older, turn_list a _, ⟨_, Heap.get?_push_size _ rfl, rfl, rfl⟩, fun b hb => by rw [List.mem_singleton.mp hb]; exact fresh, q⟩
  · obtain ⟨its, rv, p, hz⟩ := I1.tuple hq
    exact wpAny_pyIter_tuple (show s1.heap.IsTuple a its.toArray from p) ⟨_, [s1.heap.objs.size], _, _, H1, rfl, older, turn_tuple a _, ⟨_, Heap.get?_push_size _ rfl, rfl, rfl⟩, fun b hb => by rw [List.mem_singleton.mp hb]; exact fresh, q⟩
/-- the loop's rule for both -/
def SqB (K : PySem.W.Frag) (H : Hp) (a : Addr) (xs : List V) : Prop := SqL K H a xs ∨ SqT K H a xs
end
end Own

/-! Lots of cords as plain lists. -/
namespace Own
/-- one entry: two pins and a number of cords -/
abbrev Tr := Int × Int × Int
def lo (a b : Int) : Int := if b < a then b else a
def hi (a b : Int) : Int := if b > a then b else a
theorem lo_hi (a b : Int) : (a ≤ b ∧ lo a b = a ∧ hi a b = b) ∨ (b < a ∧ lo a b = b ∧ hi a b = a) := by
  unfold lo hi
  by_cases h : b < a
  · right
    rw [if_pos h, if_neg (by omega)]
    omega
  · left
    rw [if_neg h]
    by_cases e : b > a
    · rw [if_pos e]
      omega
    · rw [if_neg e]
      omega
/-- its pins as they stand, and in order -/
def pr (t : Tr) : Int × Int := (t.1, t.2.1)
def ky (t : Tr) : Int × Int := (lo t.1 t.2.1, hi t.1 t.2.1)
def Lex (p q : Int × Int) : Prop := p.1 < q.1 ∨ (p.1 = q.1 ∧ p.2 < q.2)
/-- the cords of all entries that the test takes: by the pins as they stand, by the pins in order -/
def bs (f : Int × Int → Bool) : List Tr → Int
  | [] => 0
  | t :: r => (if f (pr t) = true then t.2.2 else 0) + bs f r
def bk (f : Int × Int → Bool) : List Tr → Int
  | [] => 0
  | t :: r => (if f (ky t) = true then t.2.2 else 0) + bk f r
def tot (p : Int × Int) (l : List Tr) : Int := bk (fun q => decide (q = p)) l
theorem bs_append (f : Int × Int → Bool) (l m : List Tr) : bs f (l ++ m) = bs f l + bs f m := by
  induction l with
  | nil => simp [bs]
  | cons t r ih =>
    rw [List.cons_append, bs, bs, ih]
    omega
theorem bk_append (f : Int × Int → Bool) (l m : List Tr) : bk f (l ++ m) = bk f l + bk f m := by
  induction l with
  | nil => simp [bk]
  | cons t r ih =>
    rw [List.cons_append, bk, bk, ih]
    omega
theorem bs_congr {f g : Int × Int → Bool} {l : List Tr} (h : ∀ t ∈ l, f (pr t) = g (pr t)) : bs f l = bs g l := by
  induction l with
  | nil => rfl
  | cons t r ih =>
    rw [bs, bs, h t List.mem_cons_self, ih fun u hu => h u (List.mem_cons_of_mem _ hu)]
/-- r is l in order: one entry for each two pins, the smaller pin first -/
structure IsNorm (l r : List Tr) : Prop where
  srt : (r.map pr).Pairwise Lex
  mem : ∀ p, p ∈ r.map pr ↔ p ∈ l.map ky
  cnt : ∀ e ∈ r, e.2.2 = tot (pr e) l
theorem lex_irr {p : Int × Int} : ¬ Lex p p := by
  unfold Lex
  omega
theorem lex_asym {p q : Int × Int} (h : Lex p q) : ¬ Lex q p := by
  unfold Lex at h ⊢
  omega
theorem sorted_uniq : ∀ {xs ys : List (Int × Int)}, xs.Pairwise Lex → ys.Pairwise Lex → (∀ p, p ∈ xs ↔ p ∈ ys) → xs = ys
  | [], [], _, _, _ => rfl
  | [], y :: ys, _, _, h => absurd ((h y).mpr List.mem_cons_self) (by simp)
  | x :: xs, [], _, _, h => absurd ((h x).mp List.mem_cons_self) (by simp)
  | x :: xs, y :: ys, hx, hy, h => by
    have hx1 := List.pairwise_cons.mp hx
    have hy1 := List.pairwise_cons.mp hy
    have e : x = y := by
      rcases List.mem_cons.mp ((h x).mp List.mem_cons_self) with e | m
      · exact e
      · rcases List.mem_cons.mp ((h y).mpr List.mem_cons_self) with e | m2
        · exact e.symm
        · exact absurd (hy1.1 x m) (lex_asym (hx1.1 y m2))
    subst e
    congr 1
    refine sorted_uniq hx1.2 hy1.2 fun p => ⟨fun m => ?_, fun m => ?_⟩
    · rcases List.mem_cons.mp ((h p).mp (List.mem_cons_of_mem _ m)) with e | m2
      · subst e
        exact absurd (hx1.1 p m) lex_irr
      · exact m2
    · rcases List.mem_cons.mp ((h p).mpr (List.mem_cons_of_mem _ m)) with e | m2
      · subst e
        exact absurd (hy1.1 p m) lex_irr
      · exact m2
theorem of_pairs {r : List Tr} {g : Int × Int → Int} (h : ∀ e ∈ r, e.2.2 = g (pr e)) : r = (r.map pr).map fun p => (p.1, p.2, g p) := by
  induction r with
  | nil => rfl
  | cons e r ih =>
    rw [List.map_cons, List.map_cons, ← ih fun u hu => h u (List.mem_cons_of_mem _ hu), ← h e List.mem_cons_self]
    rfl
theorem norm_uniq {l r s : List Tr} (h : IsNorm l r) (k : IsNorm l s) : r = s := by
  have e : r.map pr = s.map pr := sorted_uniq h.srt k.srt fun p => by rw [h.mem, k.mem]
  exact (of_pairs (g := fun p => tot p l) h.cnt).trans ((congrArg (List.map _) e).trans (of_pairs (g := fun p => tot p l) k.cnt).symm)
/-- the sum over a list of pairs, by their numbers in l -/
def ps (f : Int × Int → Bool) (l : List Tr) : List (Int × Int) → Int
  | [] => 0
  | p :: r => (if f p = true then tot p l else 0) + ps f l r
theorem ps_nil (f : Int × Int → Bool) (P : List (Int × Int)) : ps f [] P = 0 := by
  induction P with
  | nil => rfl
  | cons p r ih =>
    rw [ps, ih]
    show (if f p = true then (0 : Int) else 0) + 0 = 0
    split <;> rfl
theorem tot_cons (p : Int × Int) (t : Tr) (l : List Tr) : tot p (t :: l) = (if ky t = p then t.2.2 else 0) + tot p l := by
  unfold tot
  rw [bk]
  by_cases h : ky t = p <;> simp [h]
theorem ps_out (f : Int × Int → Bool) (t : Tr) (l : List Tr) {P : List (Int × Int)} (h : ky t ∉ P) : ps f (t :: l) P = ps f l P := by
  induction P with
  | nil => rfl
  | cons p r ih =>
    have hne : ¬ ky t = p := fun z => h (by rw [z]; exact List.mem_cons_self)
    have ht : tot p (t :: l) = tot p l := by
      rw [tot_cons, if_neg hne]
      omega
    rw [ps, ps, ih fun z => h (List.mem_cons_of_mem _ z), ht]
theorem ps_in (f : Int × Int → Bool) (t : Tr) (l : List Tr) {P : List (Int × Int)} (hn : P.Nodup) (h : ky t ∈ P) : ps f (t :: l) P = (if f (ky t) = true then t.2.2 else 0) + ps f l P := by
  induction P with
  | nil => cases h
  | cons p r ih =>
    have hc := List.nodup_cons.mp hn
    by_cases e : ky t = p
    · subst e
      rw [ps, ps, tot_cons, if_pos rfl, ps_out f t l hc.1]
      split <;> omega
    · have hr : ky t ∈ r := (List.mem_cons.mp h).resolve_left e
      rw [ps, ps, tot_cons, if_neg e, ih hc.2 hr]
      split <;> split <;> omega
theorem ps_all (f : Int × Int → Bool) {P : List (Int × Int)} (hn : P.Nodup) : ∀ {l : List Tr}, (∀ t ∈ l, ky t ∈ P) → ps f l P = bk f l
  | [], _ => ps_nil f P
  | t :: l, h => by
    rw [ps_in f t l hn (h t List.mem_cons_self), ps_all f hn fun u hu => h u (List.mem_cons_of_mem _ hu)]
    rfl
theorem srt_nodup {xs : List (Int × Int)} (h : xs.Pairwise Lex) : xs.Nodup := by
  refine List.Pairwise.imp ?_ h
  intro a b hab e
  subst e
  exact lex_irr hab
theorem bs_ps (f : Int × Int → Bool) {l r : List Tr} (h : ∀ e ∈ r, e.2.2 = tot (pr e) l) : bs f r = ps f l (r.map pr) := by
  induction r with
  | nil => rfl
  | cons e r ih =>
    rw [bs, List.map_cons, ps, ih fun u hu => h u (List.mem_cons_of_mem _ hu), h e List.mem_cons_self]
theorem bs_norm (f : Int × Int → Bool) {l r : List Tr} (h : IsNorm l r) : bs f r = bk f l := by
  rw [bs_ps f h.cnt, ps_all f (srt_nodup h.srt) fun t ht => (h.mem _).mpr (List.mem_map.mpr ⟨t, ht, rfl⟩)]
/-- an entry that may stand in a lot -/
def Vld (n : Int) (t : Tr) : Prop := 0 ≤ t.1 ∧ t.1 < n ∧ 0 ≤ t.2.1 ∧ t.2.1 < n ∧ t.1 ≠ t.2.1 ∧ 1 ≤ t.2.2
/-- a lot in order on n pins -/
structure Good (n : Int) (r : List Tr) : Prop where
  srt : (r.map pr).Pairwise Lex
  ord : ∀ e ∈ r, 0 ≤ e.1 ∧ e.1 < e.2.1 ∧ e.2.1 < n ∧ 1 ≤ e.2.2
theorem ky_ord {e : Tr} (h : e.1 < e.2.1) : ky e = pr e := by
  have := lo_hi e.1 e.2.1
  unfold ky pr
  rw [Prod.mk.injEq]
  omega
theorem Good.vld {n : Int} {r : List Tr} (g : Good n r) : ∀ e ∈ r, Vld n e := fun e h => by
  have := g.ord e h
  unfold Vld
  omega
theorem bk_bs (f : Int × Int → Bool) {r : List Tr} (h : ∀ e ∈ r, e.1 < e.2.1) : bk f r = bs f r := by
  induction r with
  | nil => rfl
  | cons e r ih => rw [bk, bs, ky_ord (h e List.mem_cons_self), ih fun u hu => h u (List.mem_cons_of_mem _ hu)]
theorem bs_none {f : Int × Int → Bool} {r : List Tr} (h : ∀ e ∈ r, f (pr e) = false) : bs f r = 0 := by
  induction r with
  | nil => rfl
  | cons e r ih =>
    rw [bs, h e List.mem_cons_self, ih fun u hu => h u (List.mem_cons_of_mem _ hu)]
    rfl
theorem self_cnt {r : List Tr} (h : (r.map pr).Nodup) : ∀ e ∈ r, e.2.2 = bs (fun q => decide (q = pr e)) r := by
  induction r with
  | nil => intro e he; cases he
  | cons t r ih =>
    have hc := List.nodup_cons.mp h
    intro e he
    rw [bs]
    rcases List.mem_cons.mp he with rfl | hr
    · rw [bs_none fun u hu => decide_eq_false fun z => hc.1 (by rw [← z]; exact List.mem_map.mpr ⟨u, hu, rfl⟩)]
      simp
    · have hne : ¬ pr t = pr e := fun z => hc.1 (by rw [z]; exact List.mem_map.mpr ⟨e, hr, rfl⟩)
      rw [← ih hc.2 e hr]
      simp [hne]
theorem Good.self {n : Int} {r : List Tr} (g : Good n r) : IsNorm r r := by
  have ho : ∀ e ∈ r, e.1 < e.2.1 := fun e h => (g.ord e h).2.1
  have hm : r.map ky = r.map pr := List.map_congr_left fun e h => ky_ord (ho e h)
  refine ⟨g.srt, fun p => by rw [hm], fun e h => ?_⟩
  unfold tot
  rw [bk_bs _ ho]
  exact self_cnt (srt_nodup g.srt) e h
theorem bk_pos {l : List Tr} (h : ∀ t ∈ l, 1 ≤ t.2.2) {p : Int × Int} (m : p ∈ l.map ky) : 1 ≤ tot p l := by
  have nn : ∀ {m : List Tr}, (∀ t ∈ m, 1 ≤ t.2.2) → 0 ≤ tot p m := by
    intro m hm
    induction m with
    | nil => exact Int.le_refl 0
    | cons t r ih =>
      have h1 := hm t List.mem_cons_self
      have h2 := ih fun u hu => hm u (List.mem_cons_of_mem _ hu)
      rw [tot_cons]
      split <;> omega
  induction l with
  | nil => cases m
  | cons t r ih =>
    have h1 := h t List.mem_cons_self
    have h2 := nn fun u hu => h u (List.mem_cons_of_mem _ hu)
    rw [tot_cons]
    rcases List.mem_cons.mp m with e | hr
    · rw [if_pos e.symm]
      omega
    · have h3 := ih (fun u hu => h u (List.mem_cons_of_mem _ hu)) hr
      split <;> omega
theorem IsNorm.good {n : Int} {l r : List Tr} (h : IsNorm l r) (v : ∀ t ∈ l, Vld n t) : Good n r := by
  refine ⟨h.srt, fun e he => ?_⟩
  have hm : pr e ∈ l.map ky := (h.mem _).mp (List.mem_map.mpr ⟨e, he, rfl⟩)
  have hp := bk_pos (fun t ht => (v t ht).2.2.2.2.2) hm
  rw [← h.cnt e he] at hp
  obtain ⟨t, ht, e1⟩ := List.mem_map.mp hm
  have hv := v t ht
  unfold Vld at hv
  have h1 := lo_hi t.1 t.2.1
  unfold ky pr at e1
  rw [Prod.mk.injEq] at e1
  omega
/-! ### renamed pins -/
def mp (g : Int → Int) (l : List Tr) : List Tr := l.map fun t => (g t.1, g t.2.1, t.2.2)
theorem bk_mp (g : Int → Int) (f : Int × Int → Bool) (l : List Tr) : bk f (mp g l) = bk (fun q => f (lo (g q.1) (g q.2), hi (g q.1) (g q.2))) l := by
  induction l with
  | nil => rfl
  | cons t r ih =>
    show (if f (ky (g t.1, g t.2.1, t.2.2)) = true then t.2.2 else 0) + bk f (mp g r) = _
    rw [ih, bk]
    have e : ky (g t.1, g t.2.1, t.2.2) = (lo (g (ky t).1) (g (ky t).2), hi (g (ky t).1) (g (ky t).2)) := by
      unfold ky
      dsimp only
      rcases lo_hi t.1 t.2.1 with h | h
      · rw [h.2.1, h.2.2]
      · rw [h.2.1, h.2.2]
        have a := lo_hi (g t.1) (g t.2.1)
        have b := lo_hi (g t.2.1) (g t.1)
        rw [Prod.mk.injEq]
        omega
    rw [e]
theorem mem_mp (g : Int → Int) {l r : List Tr} (h : ∀ p, p ∈ l.map ky ↔ p ∈ r.map ky) (p : Int × Int) : p ∈ (mp g l).map ky → p ∈ (mp g r).map ky := by
  have e : ∀ t : Tr, ky (g t.1, g t.2.1, t.2.2) = (lo (g (ky t).1) (g (ky t).2), hi (g (ky t).1) (g (ky t).2)) := fun t => by
    unfold ky
    dsimp only
    rcases lo_hi t.1 t.2.1 with h | h
    · rw [h.2.1, h.2.2]
    · rw [h.2.1, h.2.2]
      have a := lo_hi (g t.1) (g t.2.1)
      have b := lo_hi (g t.2.1) (g t.1)
      rw [Prod.mk.injEq]
      omega
  intro m
  obtain ⟨u, hu, e1⟩ := List.mem_map.mp m
  obtain ⟨t, ht, rfl⟩ := List.mem_map.mp hu
  obtain ⟨s, hs, e2⟩ := List.mem_map.mp ((h _).mp (List.mem_map.mpr ⟨t, ht, rfl⟩))
  refine List.mem_map.mpr ⟨_, List.mem_map.mpr ⟨s, hs, rfl⟩, ?_⟩
  rw [← e1, e, e, e2]
theorem norm_keys {n : Int} {l r : List Tr} (h : IsNorm l r) (g : Good n r) (p : Int × Int) : p ∈ l.map ky ↔ p ∈ r.map ky := by
  rw [← h.mem, List.map_congr_left fun e he => ky_ord (g.ord e he).2.1]
theorem norm_tot {n : Int} {l r : List Tr} (h : IsNorm l r) (g : Good n r) (f : Int × Int → Bool) : bk f r = bk f l := by
  rw [bk_bs f fun e he => (g.ord e he).2.1, bs_norm f h]
/-- renaming behind the ordering is renaming ahead of it -/
theorem norm_mp {n : Int} {l r x : List Tr} (h : IsNorm l r) (g : Good n r) (σ : Int → Int) (k : IsNorm (mp σ r) x) : IsNorm (mp σ l) x := by
  refine ⟨k.srt, fun p => (k.mem p).trans ⟨mem_mp σ (fun q => (norm_keys h g q).symm) p, mem_mp σ (norm_keys h g) p⟩, fun e he => ?_⟩
  rw [k.cnt e he]
  unfold tot
  rw [bk_mp, bk_mp, norm_tot h g]
theorem mp_mp (σ τ : Int → Int) (l : List Tr) : mp τ (mp σ l) = mp (fun x => τ (σ x)) l := by
  unfold mp
  rw [List.map_map]
  rfl
theorem mp_congr {σ τ : Int → Int} {n : Int} {l : List Tr} (v : ∀ t ∈ l, Vld n t) (h : ∀ x, 0 ≤ x → x < n → σ x = τ x) : mp σ l = mp τ l := by
  refine List.map_congr_left fun t ht => ?_
  have := v t ht
  unfold Vld at this
  rw [h t.1 (by omega) (by omega), h t.2.1 (by omega) (by omega)]
theorem mp_id {σ : Int → Int} {n : Int} {l : List Tr} (v : ∀ t ∈ l, Vld n t) (h : ∀ x, 0 ≤ x → x < n → σ x = x) : mp σ l = l := by
  rw [mp_congr (τ := fun x => x) v h]
  unfold mp
  exact List.map_id' l
theorem mp_vld {σ : Int → Int} {n : Int} {l : List Tr} (v : ∀ t ∈ l, Vld n t) (h : ∀ x, 0 ≤ x → x < n → 0 ≤ σ x ∧ σ x < n) (inj : ∀ x y, 0 ≤ x → x < n → 0 ≤ y → y < n → σ x = σ y → x = y) : ∀ t ∈ mp σ l, Vld n t := fun u hu => by
  obtain ⟨t, ht, rfl⟩ := List.mem_map.mp hu
  have hv := v t ht
  unfold Vld at hv ⊢
  have h1 := h t.1 (by omega) (by omega)
  have h2 := h t.2.1 (by omega) (by omega)
  have h3 := inj t.1 t.2.1 (by omega) (by omega) (by omega) (by omega)
  dsimp only
  refine ⟨h1.1, h1.2, h2.1, h2.2, fun z => hv.2.2.2.2.1 (h3 z), hv.2.2.2.2.2⟩
end Own

namespace Own
open PySem PySem.Spec PyProof.Rows L2
/-! ### the text by places -/
def top (i : Nat) : Stmt := PySem.Challenge.pw_rimcords_k06_bars_and_odds.main.body.getD i (.Pass ⟨0, 0, 0, 0⟩)
abbrev s__wall : Stmt := top 0
theorem sc__wall : FnScope ["k"] ["k"] (defScope s__wall) := ⟨rfl, rfl, rfl, by decide +kernel, rfl, by decide +kernel, by decide +kernel⟩
abbrev s_gaps : Stmt := top 11
theorem sc_gaps : FnScope ["pins"] ["pins"] (defScope s_gaps) := ⟨rfl, rfl, rfl, by decide +kernel, rfl, by decide +kernel, by decide +kernel⟩
abbrev s_is_whole : Stmt := top 13
theorem sc_is_whole : FnScope ["value"] ["value"] (defScope s_is_whole) := ⟨rfl, rfl, rfl, by decide +kernel, rfl, by decide +kernel, by decide +kernel⟩
abbrev s_is_sequence : Stmt := top 14
theorem sc_is_sequence : FnScope ["value"] ["value"] (defScope s_is_sequence) := ⟨rfl, rfl, rfl, by decide +kernel, rfl, by decide +kernel, by decide +kernel⟩
abbrev s_is_below : Stmt := top 15
theorem sc_is_below : FnScope ["value", "bound"] ["value", "bound"] (defScope s_is_below) := ⟨rfl, rfl, rfl, by decide +kernel, rfl, by decide +kernel, by decide +kernel⟩
abbrev s_check_pins : Stmt := top 16
theorem sc_check_pins : FnScope ["pins"] ["pins"] (defScope s_check_pins) := ⟨rfl, rfl, rfl, by decide +kernel, rfl, by decide +kernel, by decide +kernel⟩
abbrev s_check_pin : Stmt := top 17
theorem sc_check_pin : FnScope ["pins", "pin"] ["pins", "pin"] (defScope s_check_pin) := ⟨rfl, rfl, rfl, by decide +kernel, rfl, by decide +kernel, by decide +kernel⟩
abbrev s_check_like : Stmt := top 18
theorem sc_check_like : FnScope ["one", "other"] ["one", "other"] (defScope s_check_like) := ⟨rfl, rfl, rfl, by decide +kernel, rfl, by decide +kernel, by decide +kernel⟩
abbrev s_check_number : Stmt := top 19
theorem sc_check_number : FnScope ["number", "least"] ["number", "least"] (defScope s_check_number) := ⟨rfl, rfl, rfl, by decide +kernel, rfl, by decide +kernel, by decide +kernel⟩
abbrev s_is_entry : Stmt := top 21
theorem sc_is_entry : FnScope ["pins", "entry", "a", "b", "many"] ["pins", "entry"] (defScope s_is_entry) := ⟨rfl, rfl, rfl, by decide +kernel, rfl, by decide +kernel, by decide +kernel⟩
abbrev s_gathered : Stmt := top 22
theorem sc_gathered : FnScope ["pins", "entries", "held", "entry", "pair", "a", "b", "many"] ["pins", "entries"] (defScope s_gathered) := ⟨rfl, rfl, rfl, by decide +kernel, rfl, by decide +kernel, by decide +kernel⟩
abbrev s_by_pair : Stmt := top 23
theorem sc_by_pair : FnScope ["cords", "a", "b", "many"] ["cords"] (defScope s_by_pair) := ⟨rfl, rfl, rfl, by decide +kernel, rfl, by decide +kernel, by decide +kernel⟩
abbrev s_entries_of : Stmt := top 24
theorem sc_entries_of : FnScope ["held", "a", "b"] ["held"] (defScope s_entries_of) := ⟨rfl, rfl, rfl, by decide +kernel, rfl, by decide +kernel, by decide +kernel⟩
abbrev s_ends_at_pins : Stmt := top 25
theorem sc_ends_at_pins : FnScope ["pins", "cords", "ends", "a", "b", "many"] ["pins", "cords"] (defScope s_ends_at_pins) := ⟨rfl, rfl, rfl, by decide +kernel, rfl, by decide +kernel, by decide +kernel⟩
abbrev s_cord_grid : Stmt := top 26
theorem sc_cord_grid : FnScope ["pins", "cords", "rows", "a", "b", "many", "_"] ["pins", "cords"] (defScope s_cord_grid) := ⟨rfl, rfl, rfl, by decide +kernel, rfl, by decide +kernel, by decide +kernel⟩
abbrev s_sums_before : Stmt := top 27
theorem sc_sums_before : FnScope ["row", "sums", "total", "number"] ["row"] (defScope s_sums_before) := ⟨rfl, rfl, rfl, by decide +kernel, rfl, by decide +kernel, by decide +kernel⟩
abbrev s_table_rows : Stmt := top 28
theorem sc_table_rows : FnScope ["pins", "cords", "sums", "size", "rows", "i", "across", "j", "row", "_"] ["pins", "cords"] (defScope s_table_rows) := ⟨rfl, rfl, rfl, by decide +kernel, rfl, by decide +kernel, by decide +kernel⟩
abbrev s_first_bar : Stmt := top 29
theorem sc_first_bar : FnScope ["pins", "held", "wished", "i", "j"] ["pins", "held", "wished"] (defScope s_first_bar) := ⟨rfl, rfl, rfl, by decide +kernel, rfl, by decide +kernel, by decide +kernel⟩
abbrev s_odd_pins : Stmt := top 30
theorem sc_odd_pins : FnScope ["ends", "wished", "pin", "many"] ["ends", "wished"] (defScope s_odd_pins) := ⟨rfl, rfl, rfl, by decide +kernel, rfl, by decide +kernel, by decide +kernel⟩
abbrev s_Lot_init : Stmt := inClass (top 32) 0
theorem sc_Lot_init : FnScope ["self", "pins", "cords"] ["self", "pins", "cords"] (defScope s_Lot_init) := ⟨rfl, rfl, rfl, by decide +kernel, rfl, by decide +kernel, by decide +kernel⟩
abbrev s_Lot_table : Stmt := inClass (top 32) 1
theorem sc_Lot_table : FnScope ["self"] ["self"] (defScope s_Lot_table) := ⟨rfl, rfl, rfl, by decide +kernel, rfl, by decide +kernel, by decide +kernel⟩
abbrev s_Lot_ends : Stmt := inClass (top 32) 3
theorem sc_Lot_ends : FnScope ["self", "pin"] ["self", "pin"] (defScope s_Lot_ends) := ⟨rfl, rfl, rfl, by decide +kernel, rfl, by decide +kernel, by decide +kernel⟩
abbrev s_Lot_total : Stmt := inClass (top 32) 4
theorem sc_Lot_total : FnScope ["self", "entry"] ["self"] (defScope s_Lot_total) := ⟨rfl, rfl, rfl, by decide +kernel, rfl, by decide +kernel, by decide +kernel⟩
abbrev s_Lot_len : Stmt := inClass (top 32) 5
theorem sc_Lot_len : FnScope ["self"] ["self"] (defScope s_Lot_len) := ⟨rfl, rfl, rfl, by decide +kernel, rfl, by decide +kernel, by decide +kernel⟩
abbrev s_Lot_add : Stmt := inClass (top 32) 8
theorem sc_Lot_add : FnScope ["self", "other"] ["self", "other"] (defScope s_Lot_add) := ⟨rfl, rfl, rfl, by decide +kernel, rfl, by decide +kernel, by decide +kernel⟩
abbrev s_Lot_sub : Stmt := inClass (top 32) 9
theorem sc_Lot_sub : FnScope ["self", "other", "left", "a", "b", "many"] ["self", "other"] (defScope s_Lot_sub) := ⟨rfl, rfl, rfl, by decide +kernel, rfl, by decide +kernel, by decide +kernel⟩
abbrev s_Lot_mul : Stmt := inClass (top 32) 10
theorem sc_Lot_mul : FnScope ["self", "number", "a", "b", "many"] ["self", "number"] (defScope s_Lot_mul) := ⟨rfl, rfl, rfl, by decide +kernel, rfl, by decide +kernel, by decide +kernel⟩
abbrev s_Lot_contains : Stmt := inClass (top 32) 11
theorem sc_Lot_contains : FnScope ["self", "wishes"] ["self", "wishes"] (defScope s_Lot_contains) := ⟨rfl, rfl, rfl, by decide +kernel, rfl, by decide +kernel, by decide +kernel⟩
abbrev s_table_of : Stmt := top 34
theorem sc_table_of : FnScope ["lot"] ["lot"] (defScope s_table_of) := ⟨rfl, rfl, rfl, by decide +kernel, rfl, by decide +kernel, by decide +kernel⟩
abbrev s_bar : Stmt := top 35
theorem sc_bar : FnScope ["lot", "wishes"] ["lot", "wishes"] (defScope s_bar) := ⟨rfl, rfl, rfl, by decide +kernel, rfl, by decide +kernel, by decide +kernel⟩
abbrev s_odd : Stmt := top 36
theorem sc_odd : FnScope ["lot", "wishes"] ["lot", "wishes"] (defScope s_odd) := ⟨rfl, rfl, rfl, by decide +kernel, rfl, by decide +kernel, by decide +kernel⟩
abbrev s__law_whole : Stmt := top 38
theorem sc__law_whole : FnScope ["_law_value"] ["_law_value"] (defScope s__law_whole) := ⟨rfl, rfl, rfl, by decide +kernel, rfl, by decide +kernel, by decide +kernel⟩
abbrev s__law_cell : Stmt := top 39
theorem sc__law_cell : FnScope ["_law_script", "_law_k", "_law_seed", "_law_cell_here"] ["_law_script", "_law_k"] (defScope s__law_cell) := ⟨rfl, rfl, rfl, by decide +kernel, rfl, by decide +kernel, by decide +kernel⟩
abbrev s__law_digits : Stmt := top 40
theorem sc__law_digits : FnScope ["_law_cell_here", "_law_sizes", "_law_row", "_law_rest", "_law_seed", "_law_k", "_law_size", "_law_twice"] ["_law_cell_here", "_law_sizes"] (defScope s__law_digits) := ⟨rfl, rfl, rfl, by decide +kernel, rfl, by decide +kernel, by decide +kernel⟩
abbrev s__law_same : Stmt := top 41
theorem sc__law_same : FnScope ["_law_value", "_law_due", "_law_k"] ["_law_value", "_law_due"] (defScope s__law_same) := ⟨rfl, rfl, rfl, by decide +kernel, rfl, by decide +kernel, by decide +kernel⟩
abbrev s__law_norm : Stmt := top 42
theorem sc__law_norm : FnScope ["_law_triples", "_law_pairs", "_law_entry", "_law_row", "_law_pair_here", "_law_low", "_law_high", "_law_many"] ["_law_triples"] (defScope s__law_norm) := ⟨rfl, rfl, rfl, by decide +kernel, rfl, by decide +kernel, by decide +kernel⟩
abbrev s__law_table : Stmt := top 43
theorem sc__law_table : FnScope ["_law_pins_here", "_law_bunch", "_law_size", "_law_table_here", "_law_i", "_law_met", "_law_step", "_law_j", "_law_row", "_law_entry"] ["_law_pins_here", "_law_bunch"] (defScope s__law_table) := ⟨rfl, rfl, rfl, by decide +kernel, rfl, by decide +kernel, by decide +kernel⟩
abbrev s__law_ends : Stmt := top 44
theorem sc__law_ends : FnScope ["_law_bunch", "_law_pin", "_law_many", "_law_entry"] ["_law_bunch", "_law_pin"] (defScope s__law_ends) := ⟨rfl, rfl, rfl, by decide +kernel, rfl, by decide +kernel, by decide +kernel⟩
abbrev s__law_lot_is : Stmt := top 45
theorem sc__law_lot_is : FnScope ["_law_thing", "_law_pins_here", "_law_bunch"] ["_law_thing", "_law_pins_here", "_law_bunch"] (defScope s__law_lot_is) := ⟨rfl, rfl, rfl, by decide +kernel, rfl, by decide +kernel, by decide +kernel⟩
abbrev s__law_pins : Stmt := top 46
theorem sc__law_pins : FnScope ["_law_cell_here", "_law_row"] ["_law_cell_here"] (defScope s__law_pins) := ⟨rfl, rfl, rfl, by decide +kernel, rfl, by decide +kernel, by decide +kernel⟩
abbrev s__law_lot : Stmt := top 47
theorem sc__law_lot : FnScope ["_law_script", "_law_start", "_law_count", "_law_pins_here", "_law_row", "_law_k", "_law_draw", "_law_other", "_law_c"] ["_law_script", "_law_start", "_law_count", "_law_pins_here"] (defScope s__law_lot) := ⟨rfl, rfl, rfl, by decide +kernel, rfl, by decide +kernel, by decide +kernel⟩
abbrev s__law_cross : Stmt := top 48
theorem sc__law_cross : FnScope ["_law_a", "_law_b", "_law_c", "_law_d"] ["_law_a", "_law_b", "_law_c", "_law_d"] (defScope s__law_cross) := ⟨rfl, rfl, rfl, by decide +kernel, rfl, by decide +kernel, by decide +kernel⟩
abbrev s__law_moves : Stmt := top 49
theorem sc__law_moves : FnScope ["_law_bunch", "_law_found", "_law_one", "_law_two", "_law_way", "_law_move"] ["_law_bunch"] (defScope s__law_moves) := ⟨rfl, rfl, rfl, by decide +kernel, rfl, by decide +kernel, by decide +kernel⟩
abbrev s__law_moved : Stmt := top 50
theorem sc__law_moved : FnScope ["_law_bunch", "_law_move", "_law_triples", "_law_pair_here", "_law_taken", "_law_c"] ["_law_bunch", "_law_move"] (defScope s__law_moved) := ⟨rfl, rfl, rfl, by decide +kernel, rfl, by decide +kernel, by decide +kernel⟩
abbrev s__law_led : Stmt := top 51
theorem sc__law_led : FnScope ["_law_bunch", "_law_pins_here", "_law_cell_here", "_law_extra", "_law_draw", "_law_row", "_law_k", "_law_plays", "_law_place", "_law_c"] ["_law_bunch", "_law_pins_here", "_law_cell_here", "_law_extra"] (defScope s__law_led) := ⟨rfl, rfl, rfl, by decide +kernel, rfl, by decide +kernel, by decide +kernel⟩
abbrev s__law_bar : Stmt := top 52
theorem sc__law_bar : FnScope ["_law_held", "_law_wished", "_law_i", "_law_j"] ["_law_held", "_law_wished"] (defScope s__law_bar) := ⟨rfl, rfl, rfl, by decide +kernel, rfl, by decide +kernel, by decide +kernel⟩
abbrev s__law_odd : Stmt := top 53
theorem sc__law_odd : FnScope ["_law_pins_here", "_law_one", "_law_two", "_law_p"] ["_law_pins_here", "_law_one", "_law_two"] (defScope s__law_odd) := ⟨rfl, rfl, rfl, by decide +kernel, rfl, by decide +kernel, by decide +kernel⟩
abbrev s__law_pair : Stmt := top 54
theorem sc__law_pair : FnScope ["_law_lots", "_law_pins_here", "_law_bunch", "_law_tables", "_law_i", "_law_j", "_law_due", "_law_odds"] ["_law_lots", "_law_pins_here", "_law_bunch", "_law_tables", "_law_i", "_law_j"] (defScope s__law_pair) := ⟨rfl, rfl, rfl, by decide +kernel, rfl, by decide +kernel, by decide +kernel⟩
abbrev s__law_unlike : Stmt := top 55
theorem sc__law_unlike : FnScope ["_law_thing", "_law_strange", "_law_pins_here", "_law_far", "_law_kind", "_law_told"] ["_law_thing", "_law_strange", "_law_pins_here", "_law_far", "_law_kind"] (defScope s__law_unlike) := ⟨rfl, rfl, rfl, by decide +kernel, rfl, by decide +kernel, by decide +kernel⟩
abbrev s_law : Stmt := top 56
theorem sc_law : FnScope ["_law_script", "_law_pins_here", "_law_held", "_law_kind", "_law_wished", "_law_third", "_law_bunch", "_law_lots", "_law_tables", "_law_i", "_law_far", "_law_strange", "_law_k", "_law_j", "_law_row"] ["_law_script"] (defScope s_law) := ⟨rfl, rfl, rfl, by decide +kernel, rfl, by decide +kernel, by decide +kernel⟩
end Own

namespace Own
open PySem PySem.Spec PyProof.Rows L2
/-! ### heaps -/
theorem same_upd {H : Hp} {p : Addr} {o : HO} (h : H p = none) : Same H (upd H p o) := fun b x e => by
  rw [upd_ne (ne_of_none e h)]
  exact e
/-- a tuple of three ints -/
abbrev tv (t : Tr) : List V := [.int t.1, .int t.2.1, .int t.2.2]
def TrV (H : Hp) (vs : List V) (l : List Tr) : Prop := vs.length = l.length ∧ ∀ (i : Nat) (t : Tr), l[i]? = some t → ∃ b, vs[i]? = some (.ref b) ∧ H b = some (.tup (tv t))
def Trip (H : Hp) (a : Addr) (l : List Tr) : Prop := ∃ vs, H a = some (.tup vs) ∧ TrV H vs l
def TripL (H : Hp) (a : Addr) (l : List Tr) : Prop := ∃ vs, H a = some (.lst vs) ∧ TrV H vs l
theorem TrV.same {H H' : Hp} {vs : List V} {l : List Tr} (s : Same H H') (h : TrV H vs l) : TrV H' vs l := ⟨h.1, fun i t e => by
  obtain ⟨b, e1, e2⟩ := h.2 i t e
  exact ⟨b, e1, s _ _ e2⟩⟩
theorem Trip.same {H H' : Hp} {a : Addr} {l : List Tr} (s : Same H H') (h : Trip H a l) : Trip H' a l := by
  obtain ⟨vs, e, t⟩ := h
  exact ⟨vs, s _ _ e, t.same s⟩
theorem TripL.same {H H' : Hp} {a : Addr} {l : List Tr} (s : Same H H') (h : TripL H a l) : TripL H' a l := by
  obtain ⟨vs, e, t⟩ := h
  exact ⟨vs, s _ _ e, t.same s⟩
theorem TrV.nil {H : Hp} : TrV H [] [] := ⟨rfl, fun i t e => by simp at e⟩
theorem TrV.snoc {H : Hp} {vs : List V} {l : List Tr} {b : Addr} {t : Tr} (h : TrV H vs l) (e : H b = some (.tup (tv t))) : TrV H (vs ++ [.ref b]) (l ++ [t]) := by
  refine ⟨by rw [List.length_append, List.length_append, h.1]; rfl, fun i u hu => ?_⟩
  by_cases hi : i < l.length
  · rw [List.getElem?_append_left hi] at hu
    obtain ⟨c, e1, e2⟩ := h.2 i u hu
    exact ⟨c, by rw [List.getElem?_append_left (by rw [h.1]; exact hi)]; exact e1, e2⟩
  · rw [List.getElem?_append_right (by omega)] at hu
    have hi2 : i - l.length = 0 := by
      cases hk : i - l.length with
      | zero => rfl
      | succ k => rw [hk] at hu; simp at hu
    rw [hi2] at hu
    obtain rfl : t = u := Option.some.inj hu
    exact ⟨b, by rw [List.getElem?_append_right (by rw [h.1]; omega), h.1, hi2]; rfl, e⟩
theorem TrV.at_ {H : Hp} {vs : List V} {l : List Tr} (h : TrV H vs l) {i : Nat} {x : V} (e : vs[i]? = some x) : ∃ b t, x = .ref b ∧ l[i]? = some t ∧ H b = some (.tup (tv t)) := by
  have hi : i < l.length := by
    rw [← h.1]
    exact (List.getElem?_eq_some_iff.mp e).1
  obtain ⟨b, e1, e2⟩ := h.2 i l[i] (List.getElem?_eq_getElem hi)
  rw [e] at e1
  exact ⟨b, l[i], Option.some.inj e1, List.getElem?_eq_getElem hi, e2⟩
theorem SqB.same {K : PySem.W.Frag} {H H' : Hp} {a : Addr} {xs : List V} (s : Same H H') (h : SqB K H a xs) : SqB K H' a xs := by
  rcases h with h | ((h | ⟨o, h⟩) | h)
  · exact .inl (s.seq h)
  · exact .inr (.inl (.inl (s _ _ h)))
  · exact .inr (.inl (.inr ⟨o, s _ _ h⟩))
  · exact .inr (.inr h)
theorem Trip.sq {K : PySem.W.Frag} {H : Hp} {a : Addr} {l : List Tr} (h : Trip H a l) : ∃ vs, SqB K H a vs ∧ TrV H vs l := by
  obtain ⟨vs, e, t⟩ := h
  exact ⟨vs, .inr (.inl (.inl e)), t⟩
theorem TripL.sq {K : PySem.W.Frag} {H : Hp} {a : Addr} {l : List Tr} (h : TripL H a l) : ∃ vs, SqB K H a vs ∧ TrV H vs l := by
  obtain ⟨vs, e, t⟩ := h
  exact ⟨vs, .inl (.inl (.inl e)), t⟩
/-- a loop over a list or a tuple: what stood in Hb stands in each turn -/
theorem for_same {K : PySem.W.Frag} {a : Addr} {xs : List V} {g : TG} {tb : TS} {D : Ends} {σ : L2.St} {H Hb : Hp} (hB : SqB K Hb a xs) (Pv : Nat → L2.St → Hp → Prop) (h0 : Pv 0 σ H) (hk : ∀ i σ' H', Pv i σ' H' → Same Hb H')
    (hs : ∀ i x σ H, xs[i]? = some x → Pv i σ H → g x σ H fun σ2 H2 => tb { D with nx := Pv (i + 1), ct := Pv (i + 1), bk := D.nx } σ2 H2) (hd : ∀ σ H, Pv xs.length σ H → D.nx σ H) :
    ((∃ xs, SqL K H a xs) ∧ ∃ W : Nat → Nat → L2.St → Hp → Prop, (∃ m, W 0 m σ H) ∧ ∀ i m σ H, W i m σ H →
      ((Itl K a).stop i H ∧ D.nx σ H) ∨ ((Itl K a).go i H ∧ ∃ N : L2.St → Hp → Prop, (∀ σ' H', N σ' H' → ∃ m', m' < m ∧ W (i + 1) m' σ' H') ∧ ∀ x H', (Itl K a).yld i H x H' → g x σ H' fun σ2 H2 => tb { D with nx := N, ct := N, bk := D.nx } σ2 H2)) ∨
    ((∃ xs, SqT K H a xs) ∧ ∃ W : Nat → Nat → L2.St → Hp → Prop, (∃ m, W 0 m σ H) ∧ ∀ i m σ H, W i m σ H →
      ((Itt K a).stop i H ∧ D.nx σ H) ∨ ((Itt K a).go i H ∧ ∃ N : L2.St → Hp → Prop, (∀ σ' H', N σ' H' → ∃ m', m' < m ∧ W (i + 1) m' σ' H') ∧ ∀ x H', (Itt K a).yld i H x H' → g x σ H' fun σ2 H2 => tb { D with nx := N, ct := N, bk := D.nx } σ2 H2)) := by
  have tup : ∀ {H'}, SqT K Hb a xs → Same Hb H' → SqT K H' a xs := fun h s => by
    rcases h with (h | ⟨o, h⟩) | h
    · exact .inl (.inl (s _ _ h))
    · exact .inl (.inr ⟨o, s _ _ h⟩)
    · exact .inr h
  rcases hB with h | h
  · exact .inl ⟨⟨xs, (hk 0 σ H h0).seq h⟩, for_list Pv h0 (fun i σ' H' _ p => (hk i σ' H' p).seq h) hs hd⟩
  · exact .inr ⟨⟨xs, tup h (hk 0 σ H h0)⟩, for_tup Pv h0 (fun i σ' H' _ p => tup h (hk i σ' H' p)) hs hd⟩
theorem kitTrue {K : PySem.W.Frag} {t : Value} : PySem.W.kitOne K t t = some true := by
  unfold PySem.W.kitOne
  rw [if_pos (beq_self_eq_true t)]
section
variable {P : Program} {w : World} {K : PySem.W.Frag} {mg : Str → Option Value} {base : Heap}
structure Df (K : PySem.W.Frag) (mg : Str → Option Value) (x : Str) (st : Stmt) (ps : List Str) (f : Addr) (fd : FuncData) : Prop where
  F : Fun K x x st f fd
  g : mg x = some (.ref f)
  b : Binds K fd ps []
/-- the built-ins that the text calls -/
structure Bi (mg : Str → Option Value) : Prop where
  b_max : mg "max" = none
  b_min : mg "min" = none
  b_tuple : mg "tuple" = none
  b_range : mg "range" = none
  b_isinstance : mg "isinstance" = none
  b_int : mg "int" = none
  b_bool : mg "bool" = none
  b_len : mg "len" = none
  b_list : mg "list" = none
  b_str : mg "str" = none
  b_sorted : mg "sorted" = none
  b_sum : mg "sum" = none
/-! ### kinds -/
def spWhole : Sp := fun vs H Q _ => ∃ i : Int, vs = [.int i] ∧ Q (.bl true) H
theorem ok_whole {f : Addr} {fd : FuncData} (F : Fun K "is_whole" "is_whole" s_is_whole f fd) (T : Bi mg) : FnOk P w K mg base CX0 1 f fd ["value"] spWhole := by
  refine F.ok sc_is_whole (fun vs H Q E h => ?_) (fun cdv A outer s H vs Q E hr h => ?_)
  · obtain ⟨i, rfl, _⟩ := h
    rfl
  · obtain ⟨i, rfl, q⟩ := h
    refine ⟨_, (pss_one (ps_ret (pe_and (pe_callB call_isi (by rfl) T.b_isinstance (by decide +kernel) (pa_cons (pv 0) (pa_cons (pe_bltn (v := .ty "int") (by rfl) T.b_int (by decide +kernel) rfl) pa_nil))) (pe_one (pe_not (pe_callB call_isi (by rfl) T.b_isinstance (by decide +kernel) (pa_cons (pv 0) (pa_cons (pe_bltn (v := .ty "bool") (by rfl) T.b_bool (by decide +kernel) rfl) pa_nil)))))))), ?_⟩
    refine ⟨_, rfl, _, _, _, _, true, rfl, .ty "int", .base (.int i), kit_ty (by decide +kernel), true, rfl, ?_⟩
    exact ⟨_, rfl, _, _, _, _, false, rfl, .ty "bool", .base (.int i), kit_ty (by decide +kernel), false, rfl, q⟩
def spSeq : Sp := fun vs H Q _ => ∃ (a : Addr) (xs : List V), vs = [.ref a] ∧ H a = some (.tup xs) ∧ ∀ H', Same H H' → Q (.bl true) H'
theorem ok_seq {f : Addr} {fd : FuncData} (F : Fun K "is_sequence" "is_sequence" s_is_sequence f fd) (T : Bi mg) : FnOk P w K mg base CX0 1 f fd ["value"] spSeq := by
  refine F.ok sc_is_sequence (fun vs H Q E h => ?_) (fun cdv A outer s H vs Q E hr h => ?_)
  · obtain ⟨a, xs, rfl, _⟩ := h
    rfl
  · obtain ⟨a, xs, rfl, ha, q⟩ := h
    refine ⟨_, (pss_one (ps_ret (pe_callB call_isiT (by rfl) T.b_isinstance (by decide +kernel) (pa_cons (pv 0) (pa_cons (pe_tup (pa_cons (pe_bltn (v := .ty "list") (by rfl) T.b_list (by decide +kernel) rfl) (pa_cons (pe_bltn (v := .ty "tuple") (by rfl) T.b_tuple (by decide +kernel) rfl) pa_nil))) pa_nil))))), ?_⟩
    refine ⟨_, rfl, by show 2 ≤ sizeLine; decide, fun p np => ?_⟩
    have s1 : Same H (upd H p (.tup [.ty "list", .ty "tuple"])) := same_upd np
    exact ⟨_, p, _, _, _, true, rfl, upd_same, .cons (.ty "list") (.cons (.ty "tuple") .nil), .base (.tup (s1 _ _ ha)), kitAny_cons (b := false) (kit_ty (by decide +kernel)) (fun _ => kitAny_cons (b := true) (kit_ty (by decide +kernel)) (fun z => by cases z) (fun _ => rfl)) (fun z => by cases z), q _ s1⟩
def spBelow : Sp := fun vs H Q _ => ∃ x n : Int, vs = [.int x, .int n] ∧ 0 ≤ x ∧ x < n ∧ Q (.bl true) H
theorem ok_below {f : Addr} {fd : FuncData} (F : Fun K "is_below" "is_below" s_is_below f fd) (T : Bi mg) {f_w : Addr} {d_w : FuncData} (D_w : Df K mg "is_whole" s_is_whole ["value"] f_w d_w) : FnOk P w K mg base CX0 2 f fd ["value", "bound"] spBelow := by
  have G_w : FnOk P w K mg base CX0 1 f_w d_w ["value"] spWhole := ok_whole D_w.F T
  refine F.ok sc_is_below (fun vs H Q E h => ?_) (fun cdv A outer s H vs Q E hr h => ?_)
  · obtain ⟨x, n, rfl, _⟩ := h
    rfl
  · obtain ⟨x, n, rfl, h0, h1, q⟩ := h
    refine ⟨_, (pss_one (ps_ret (pe_and (pe_call G_w hr (by rfl) D_w.g D_w.F.kp D_w.b .nil pass0 (pa_cons (pv 0) pa_nil)) (pe_one (pe_chain op_le op_lt pe_int (pv 0) (pv 1)))))), ?_⟩
    refine ⟨_, rfl, x, rfl, true, rfl, ?_⟩
    refine ⟨_, rfl, 0, x, rfl, rfl, _, rfl, ?_⟩
    rw [decide_eq_true h0, if_pos rfl]
    refine ⟨_, rfl, x, n, rfl, rfl, ?_⟩
    show Q (.bl (decide (x < n))) H
    rw [decide_eq_true h1]
    exact q
def spCkPins : Sp := fun vs H Q _ => ∃ n : Int, vs = [.int n] ∧ 0 ≤ n ∧ Q .non H
theorem ok_ckpins {f : Addr} {fd : FuncData} (F : Fun K "check_pins" "check_pins" s_check_pins f fd) (T : Bi mg) {f_w : Addr} {d_w : FuncData} (D_w : Df K mg "is_whole" s_is_whole ["value"] f_w d_w) : FnOk P w K mg base CX0 2 f fd ["pins"] spCkPins := by
  have G_w : FnOk P w K mg base CX0 1 f_w d_w ["value"] spWhole := ok_whole D_w.F T
  refine F.ok sc_check_pins (fun vs H Q E h => ?_) (fun cdv A outer s H vs Q E hr h => ?_)
  · obtain ⟨n, rfl, _⟩ := h
    rfl
  · obtain ⟨n, rfl, h0, q⟩ := h
    refine ⟨_, (pss_one (ps_if (PW.pt (pw_or (pt_not (pt_val (pe_call G_w hr (by rfl) D_w.g D_w.F.kp D_w.b .nil pass0 (pa_cons (pv 0) pa_nil)))) (pw_or1 (pt_cmpR op_lt (pv 0) pe_int (nomark _))))) (pss_one ps_never) pss_nil)), ?_⟩
    refine ⟨_, rfl, n, rfl, true, rfl, ?_⟩
    refine ⟨_, rfl, n, 0, rfl, rfl, _, rfl, ?_⟩
    rw [decide_eq_false (by omega)]
    exact q
def spCkPin : Sp := fun vs H Q _ => ∃ n x : Int, vs = [.int n, .int x] ∧ 0 ≤ x ∧ x < n ∧ Q .non H
theorem ok_ckpin {f : Addr} {fd : FuncData} (F : Fun K "check_pin" "check_pin" s_check_pin f fd) (T : Bi mg) {f_w : Addr} {d_w : FuncData} (D_w : Df K mg "is_whole" s_is_whole ["value"] f_w d_w) {f_b : Addr} {d_b : FuncData} (D_b : Df K mg "is_below" s_is_below ["value", "bound"] f_b d_b) : FnOk P w K mg base CX0 3 f fd ["pins", "pin"] spCkPin := by
  have G_b : FnOk P w K mg base CX0 2 f_b d_b ["value", "bound"] spBelow := ok_below D_b.F T D_w
  refine F.ok sc_check_pin (fun vs H Q E h => ?_) (fun cdv A outer s H vs Q E hr h => ?_)
  · obtain ⟨n, x, rfl, _⟩ := h
    rfl
  · obtain ⟨n, x, rfl, h0, h1, q⟩ := h
    refine ⟨_, (pss_one (ps_if (pt_not (pt_val (pe_call G_b hr (by rfl) D_b.g D_b.F.kp D_b.b .nil pass0 (pa_cons (pv 1) (pa_cons (pv 0) pa_nil))))) (pss_one ps_never) pss_nil)), ?_⟩
    exact ⟨_, rfl, _, rfl, x, n, rfl, h0, h1, true, rfl, q⟩
def spEntry : Sp := fun vs H Q _ => ∃ (n : Int) (b : Addr) (t : Tr), vs = [.int n, .ref b] ∧ H b = some (.tup (tv t)) ∧ Vld n t ∧ ∀ H', Same H H' → Q (.bl true) H'
theorem ok_entry {f : Addr} {fd : FuncData} (F : Fun K "is_entry" "is_entry" s_is_entry f fd) (T : Bi mg) {f_w : Addr} {d_w : FuncData} (D_w : Df K mg "is_whole" s_is_whole ["value"] f_w d_w) {f_b : Addr} {d_b : FuncData} (D_b : Df K mg "is_below" s_is_below ["value", "bound"] f_b d_b) {f_q : Addr} {d_q : FuncData} (D_q : Df K mg "is_sequence" s_is_sequence ["value"] f_q d_q) : FnOk P w K mg base CX0 3 f fd ["pins", "entry"] spEntry := by
  have G_w : FnOk P w K mg base CX0 1 f_w d_w ["value"] spWhole := ok_whole D_w.F T
  have G_b : FnOk P w K mg base CX0 2 f_b d_b ["value", "bound"] spBelow := ok_below D_b.F T D_w
  have G_q : FnOk P w K mg base CX0 1 f_q d_q ["value"] spSeq := ok_seq D_q.F T
  refine F.ok sc_is_entry (fun vs H Q E h => ?_) (fun cdv A outer s H vs Q E hr h => ?_)
  · obtain ⟨n, b, t, rfl, _⟩ := h
    rfl
  · obtain ⟨n, b, t, rfl, hb, hv, q⟩ := h
    refine ⟨_, (pss_cons (ps_if (PW.pt (pw_or (pt_not (pt_val (pe_call G_q (hr.mono (by decide)) (by rfl) D_q.g D_q.F.kp D_q.b .nil pass0 (pa_cons (pv 1) pa_nil)))) (pw_or1 (pt_cmpR op_ne (pe_callB call_len_seq (by rfl) T.b_len PySem.boot_len (pa_cons (pv 1) pa_nil)) pe_int (nomark _))))) (pss_one (ps_ret pe_bl)) pss_nil)
        (pss_cons (ps_asg (pv 1) (pg_tup (by rfl) (pgs_cons (pg_name (i := 2) sc_is_entry.nd rfl (.inl rfl)) (pgs_cons (pg_name (i := 3) sc_is_entry.nd rfl (.inl rfl)) (pgs_cons (pg_name (i := 4) sc_is_entry.nd rfl (.inl rfl)) pgs_nil)))))
        (pss_one (ps_ret (pe_and (pe_call G_b hr (by rfl) D_b.g D_b.F.kp D_b.b .nil pass0 (pa_cons (pv 2) (pa_cons (pv 0) pa_nil))) (pe_and (pe_call G_b hr (by rfl) D_b.g D_b.F.kp D_b.b .nil pass0 (pa_cons (pv 3) (pa_cons (pv 0) pa_nil))) (pe_and (pe_cmpR op_ne (pv 2) (pv 3) (nomark _)) (pe_and (pe_call G_w (hr.mono (by decide)) (by rfl) D_w.g D_w.F.kp D_w.b .nil pass0 (pa_cons (pv 4) pa_nil)) (pe_one (pe_cmpR op_ge (pv 4) pe_int (nomark _))))))))))), ?_⟩
    obtain ⟨v0, v1, v2, v3, v4, v5⟩ := hv
    refine ⟨_, rfl, b, _, rfl, hb, fun H1 sm => ⟨true, rfl, ?_⟩⟩
    have hT : SqT K H1 b (tv t) := .inl (.inl (sm _ _ hb))
    refine ⟨_, rfl, b, _, rfl, .inr hT, rfl, _, rfl, iteNS rfl ?_⟩
    refine ⟨_, rfl, b, _, rfl, hT, rfl, _, _, rfl, _, _, rfl, _, _, rfl, rfl, ?_⟩
    refine ⟨_, rfl, _, rfl, t.1, n, rfl, v0, v1, true, rfl, ?_⟩
    refine ⟨_, rfl, _, rfl, t.2.1, n, rfl, v2, v3, true, rfl, ?_⟩
    refine ⟨_, rfl, _, rfl, rfl, _, rfl, ?_⟩
    rw [decide_eq_false (fun z => v4 (V.int.inj z))]
    refine ⟨_, rfl, t.2.2, rfl, true, rfl, ?_⟩
    refine ⟨_, rfl, t.2.2, 1, rfl, rfl, ?_⟩
    show Q (.bl (decide (1 ≤ t.2.2))) H1
    rw [decide_eq_true v5]
    exact q H1 sm
end
end Own

/-! The dict of a lot that is made. -/
namespace Own
open PySem PySem.Spec PyProof.Rows L2
def kk (p : Int × Int) : List Key := [.inl p.1, .inl p.2]
theorem kk_inj {p q : Int × Int} (h : kk p = kk q) : p = q := by
  unfold kk at h
  injection h with h1 h2
  injection h2 with h3 _
  injection h1 with h1
  injection h3 with h3
  exact Prod.ext h1 h3
structure DInv (kvs : List (List Key × V)) (m : List Tr) : Prop where
  val : ∀ p, valV kvs (kk p) = if p ∈ m.map ky then some (.int (tot p m)) else none
  frm : ∀ kv ∈ kvs, ∃ p, kv.1 = kk p
  nd : (kvs.map (·.1)).Nodup
theorem DInv.nil : DInv [] [] := ⟨fun p => rfl, fun kv (h : kv ∈ []) => absurd h List.not_mem_nil, List.nodup_nil⟩
theorem putK_keys {kvs : List (List Key × V)} {k : List Key} {v : V} : (∃ x, valV kvs k = some x) → (putK kvs k v).map (·.1) = kvs.map (·.1) := fun ⟨x, h⟩ => by
  unfold putK
  rw [valV_any, h]
  show (kvs.map _).map _ = _
  rw [List.map_map]
  refine List.map_congr_left fun kv _ => ?_
  show (if kv.1 = k then (kv.1, v) else kv).1 = kv.1
  split <;> rfl
theorem not_key {kvs : List (List Key × V)} {k : List Key} (h : valV kvs k = none) : k ∉ kvs.map (·.1) := fun m => by
  have a := valV_any k kvs
  rw [h] at a
  obtain ⟨kv, hm, e⟩ := List.mem_map.mp m
  have : (kvs.any fun kv => decide (kv.1 = k)) = true := List.any_eq_true.mpr ⟨kv, hm, decide_eq_true e⟩
  rw [this] at a
  cases a
theorem tot_snoc (p : Int × Int) (m : List Tr) (t : Tr) : tot p (m ++ [t]) = tot p m + (if ky t = p then t.2.2 else 0) := by
  unfold tot
  rw [bk_append]
  show _ + ((if decide (ky t = p) = true then t.2.2 else 0) + 0) = _
  by_cases h : ky t = p
  · rw [if_pos (decide_eq_true h), if_pos h]
    omega
  · rw [if_neg (by rw [decide_eq_false h]; decide), if_neg h]
    omega
theorem tot_out {p : Int × Int} {m : List Tr} (h : p ∉ m.map ky) : tot p m = 0 := by
  induction m with
  | nil => rfl
  | cons t r ih =>
    rw [tot_cons, ih fun z => h (by rw [List.map_cons]; exact List.mem_cons_of_mem _ z), if_neg fun z => h (by rw [List.map_cons, z]; exact List.mem_cons_self)]
    rfl
/-- what stands there, or 0 -/
theorem DInv.get {kvs : List (List Key × V)} {m : List Tr} (d : DInv kvs m) (p : Int × Int) : (valV kvs (kk p)).getD (.int 0) = .int (tot p m) := by
  rw [d.val]
  split
  · rfl
  · rename_i h
    rw [tot_out h]
    rfl
theorem DInv.put {kvs : List (List Key × V)} {m : List Tr} (d : DInv kvs m) (t : Tr) : DInv (putK kvs (kk (ky t)) (.int (tot (ky t) m + t.2.2))) (m ++ [t]) := by
  refine ⟨fun p => ?_, fun kv h => ?_, ?_⟩
  · rw [valV_put, d.val, tot_snoc, List.map_append]
    by_cases h : p = ky t
    · subst h
      rw [if_pos rfl, if_pos (List.mem_append_right _ (by rw [List.map_cons]; exact List.mem_cons_self)), if_pos rfl]
    · have hne : ¬ ky t = p := fun z => h z.symm
      rw [if_neg fun z : kk p = kk (ky t) => h (kk_inj z)]
      by_cases hm : p ∈ m.map ky
      · rw [if_pos hm, if_pos (List.mem_append_left _ hm), if_neg hne, Int.add_zero]
      · rw [if_neg hm, if_neg fun z => by
          rcases List.mem_append.mp z with z | z
          · exact hm z
          · exact h (List.mem_singleton.mp z)]
  · cases e : valV kvs (kk (ky t)) with
    | none =>
      rw [putK_new _ e] at h
      rcases List.mem_append.mp h with h | h
      · exact d.frm kv h
      · exact ⟨ky t, by rw [List.mem_singleton.mp h]⟩
    | some x =>
      have hk : kv.1 ∈ (putK kvs (kk (ky t)) (.int (tot (ky t) m + t.2.2))).map (·.1) := List.mem_map.mpr ⟨kv, h, rfl⟩
      rw [putK_keys ⟨x, e⟩] at hk
      obtain ⟨kv2, h2, e2⟩ := List.mem_map.mp hk
      obtain ⟨p, hp⟩ := d.frm kv2 h2
      exact ⟨p, by rw [← e2]; exact hp⟩
  · cases e : valV kvs (kk (ky t)) with
    | none =>
      rw [putK_new _ e, List.map_append]
      exact List.nodup_append.mpr ⟨d.nd, by simp, fun a ha b hb z => not_key e (by
        have hb2 : b = kk (ky t) := List.mem_singleton.mp hb
        rw [hb2] at z
        rw [← z]
        exact ha)⟩
    | some x =>
      rw [putK_keys ⟨x, e⟩]
      exact d.nd
theorem putK_len {kvs : List (List Key × V)} {k : List Key} {v : V} : (putK kvs k v).length ≤ kvs.length + 1 := by
  cases e : valV kvs k with
  | none =>
    rw [putK_new _ e, List.length_append]
    exact Nat.le_refl _
  | some x =>
    have := congrArg List.length (putK_keys (v := v) ⟨x, e⟩)
    rw [List.length_map, List.length_map] at this
    omega
theorem DInv.mem {kvs : List (List Key × V)} {m : List Tr} (d : DInv kvs m) (p : Int × Int) : kk p ∈ kvs.map (·.1) ↔ p ∈ m.map ky := by
  constructor
  · intro h
    by_cases hm : p ∈ m.map ky
    · exact hm
    · exact absurd h (not_key (by rw [d.val, if_neg hm]))
  · intro h
    have e := d.val p
    rw [if_pos h] at e
    have a := valV_any (kk p) kvs
    rw [e] at a
    obtain ⟨kv, hm, hk⟩ := List.any_eq_true.mp a
    exact List.mem_map.mpr ⟨kv, hm, of_decide_eq_true hk⟩
/-- the sorted keys, strictly in order -/
theorem sorted_lex {xs : List (Int × Int)} (hn : xs.Nodup) (hs : xs.Pairwise fun x y => SrtO.lexB y x = false) : xs.Pairwise Lex := by
  refine List.Pairwise.imp₂ (R := fun x y => SrtO.lexB y x = false) (S := fun x y => x ≠ y) ?_ hs hn
  intro a b h1 h2
  have h3 := SrtO.lexB_no.mp h1
  unfold Lex
  have h4 : ¬ (a.1 = b.1 ∧ a.2 = b.2) := fun z => h2 (Prod.ext z.1 z.2)
  omega
end Own

namespace Own
open PySem PySem.Spec PyProof.Rows L2
def SameT (H H' : Hp) : Prop := ∀ b o, H b = some (.tup o) → H' b = some (.tup o)
theorem TrV.sameT {H H' : Hp} {vs : List V} {l : List Tr} (s : SameT H H') (h : TrV H vs l) : TrV H' vs l := ⟨h.1, fun i t e => by
  obtain ⟨b, e1, e2⟩ := h.2 i t e
  exact ⟨b, e1, s _ _ e2⟩⟩
theorem sameT_put {H H' : Hp} {D : Addr} {vs ws : List V} (e : H D = some (.lst vs)) (s : Same H H') : SameT H (upd H' D (.lst ws)) := fun b o h => by
  have hb : b ≠ D := fun z => by
    rw [z, e] at h
    cases h
  rw [upd_ne hb]
  exact s _ _ h
theorem same_put {H H1 H' : Hp} {D : Addr} {o : HO} (n : H D = none) (s : Same H H') : Same H (upd H' D o) := fun b u h => by
  rw [upd_ne (ne_of_none h n)]
  exact s _ _ h
theorem keys_of {H : Hp} {kvs : List (List Key × V)} {bs : List Addr} (h : IsKeys H kvs bs) (f : ∀ kv ∈ kvs, ∃ p, kv.1 = kk p) : ((bs.map V.ref).map (kOf H)).map kk = kvs.map (·.1) ∧ ∀ b ∈ bs, ∃ p : Int × Int, H b = some (.tup [.int p.1, .int p.2]) := by
  unfold IsKeys at h
  induction h with
  | nil => exact ⟨rfl, fun b h => by cases h⟩
  | @cons kv b ks bs hb t ih =>
    obtain ⟨p, hp⟩ := f kv List.mem_cons_self
    rw [hp] at hb
    have hb2 : H b = some (.tup [.int p.1, .int p.2]) := hb
    obtain ⟨i1, i2⟩ := ih fun kv h => f kv (List.mem_cons_of_mem _ h)
    refine ⟨?_, fun c hc => ?_⟩
    · rw [List.map_cons, List.map_cons, List.map_cons, List.map_cons, i1, kOf_at hb2, hp]
    · rcases List.mem_cons.mp hc with e | e
      · exact ⟨p, by rw [e]; exact hb2⟩
      · exact i2 c e
section
variable {P : Program} {w : World} {K : PySem.W.Frag} {mg : Str → Option Value} {base : Heap}
/-! ### the entries of a lot, gathered -/
def spGathered (K : PySem.W.Frag) : Sp := fun vs H Q _ => ∃ (n : Int) (a : Addr) (xs : List V) (l : List Tr), vs = [.int n, .ref a] ∧ SqB K H a xs ∧ TrV H xs l ∧ (∀ t ∈ l, Vld n t) ∧ l.length ≤ 1000 ∧
  ∀ H' c r, Same H H' → H c = none → Trip H' c r → IsNorm l r → Q (.ref c) H'
theorem ok_gathered {f : Addr} {fd : FuncData} (F : Fun K "gathered" "gathered" s_gathered f fd) (T : Bi mg) {f_e : Addr} {d_e : FuncData} (D_e : Df K mg "is_entry" s_is_entry ["pins", "entry"] f_e d_e) (G_e : FnOk P w K mg base CX0 3 f_e d_e ["pins", "entry"] spEntry) :
    FnOk P w K mg base CX0 4 f fd ["pins", "entries"] (spGathered K) := by
  refine F.ok sc_gathered (fun vs H Q E h => ?_) (fun cdv A outer s H vs Q E hr h => ?_)
  · obtain ⟨n, a, xs, l, rfl, _⟩ := h
    rfl
  · obtain ⟨n, a, xs, l, rfl, hB, hx, hv, hl, q⟩ := h
    have hu := hu_of hr
    refine ⟨_, (pss_cons (ps_set (i := 2) sc_gathered.nd rfl (.inr rfl) pe_dnewT)
        (pss_cons (ps_for PassesOwn.never rfl (pi_seq (pv 1)) (pg_name (i := 3) sc_gathered.nd rfl (.inl rfl))
        (pss_cons (ps_if (pt_not (pt_val (pe_call G_e hr (by rfl) D_e.g D_e.F.kp D_e.b .nil pass0 (pa_cons (pv 0) (pa_cons (pv 3) pa_nil))))) (pss_one ps_never) pss_nil)
        (pss_cons (ps_asg (pv 3) (pg_tup (by rfl) (pgs_cons (pg_name (i := 5) sc_gathered.nd rfl (.inl rfl)) (pgs_cons (pg_name (i := 6) sc_gathered.nd rfl (.inl rfl)) (pgs_cons (pg_name (i := 7) sc_gathered.nd rfl (.inl rfl)) pgs_nil)))))
        (pss_cons (ps_set (i := 4) sc_gathered.nd rfl (.inl rfl) (pe_tup (pa_cons (pe_callB (call_min2 rfl) (by rfl) T.b_min (by decide +kernel) (pa_cons (pv 5) (pa_cons (pv 6) pa_nil))) (pa_cons (pe_callB (call_max2 rfl) (by rfl) T.b_max (by decide +kernel) (pa_cons (pv 5) (pa_cons (pv 6) pa_nil))) pa_nil))))
        (pss_one (ps_dput hu (pv 2) (pv 4) (pe_op op_add (pe_dget2 hu (pv 2) (pv 4) pe_int ⟨rfl, rfl, rfl, rfl⟩) (pv 7)) rfl))))))
        (pss_one (ps_ret (pe_callTy call_tuple_of (by rfl) T.b_tuple (by decide +kernel) (pa_cons (pe_lc (own := [("a", 5), ("b", 6)]) (g := gTup K 2 (gCons (gName 5) (gCons (gName 6) gNil))) (tt := tYes) rfl sc_gathered.nd (pi_list (pe_callB (cr_sortedDT rfl) (by rfl) T.b_sorted (by decide +kernel) (pa_cons (pv 2) pa_nil))) (blkOk_by (own := [("a", 5), ("b", 6)]) (N := ["pins", "entries", "held", "entry", "pair", "a", "b", "many"]) (sc := defScope s_gathered) (by decide +kernel)) (fun _ _ _ _ _ => (pg_tup (by rfl) (pgs_cons (pg_name (i := 5) sc_gathered.nd rfl (.inl rfl)) (pgs_cons (pg_name (i := 6) sc_gathered.nd rfl (.inl rfl)) pgs_nil)))) (fun _ _ _ _ _ => pts_nil) (fun _ _ _ _ _ => (pe_tup (pa_cons (pv 5) (pa_cons (pv 6) (pa_cons (pe_dget hu (pv 2) (pe_tup (pa_cons (pv 5) (pa_cons (pv 6) pa_nil))) (fun _ _ => rfl)) pa_nil)))))) pa_nil)))))), ?_⟩
    intro d hd
    refine ⟨_, rfl, a, rfl, for_same (Hb := H) hB (fun i σ H' => ∃ kvs y3 y4 y5 y6 y7, σ = [some (.int n), some (.ref a), some (.ref d), y3, y4, y5, y6, y7] ∧ H' d = some (.dT kvs) ∧ DInv kvs (l.take i) ∧ kvs.length ≤ i ∧ Same H H') ⟨[], none, none, none, none, none, rfl, upd_same, DInv.nil, Nat.le_refl _, same_upd hd⟩ (fun i σ' H' p => by obtain ⟨_, _, _, _, _, _, _, _, _, _, s⟩ := p; exact s) (fun i x σ H' hxi p => ?_) (fun σ H' p => ?_)⟩
    · obtain ⟨kvs, y3, y4, y5, y6, y7, rfl, ed, dI, klen, sm⟩ := p
      obtain ⟨b, t, rfl, hti, hb⟩ := (hx.same sm).at_ hxi
      have hil : i < l.length := (List.getElem?_eq_some_iff.mp hti).1
      have hvt : Vld n t := hv t (List.mem_of_getElem? hti)
      refine ⟨_, rfl, _, rfl, n, b, t, rfl, hb, hvt, fun H1 s1 => ⟨true, rfl, ?_⟩⟩
      refine ⟨_, rfl, b, _, rfl, .inl (.inl (s1 _ _ hb)), rfl, _, _, rfl, _, _, rfl, _, _, rfl, rfl, ?_⟩
      refine ⟨_, rfl, _, rfl, _, _, rfl, _, rfl, _, rfl, _, _, rfl, by show 2 ≤ sizeLine; decide, fun p np => ?_⟩
      have ed1 : (upd H1 p (.tup [.int (lo t.1 t.2.1), .int (hi t.1 t.2.1)])) d = some (.dT kvs) := by
        rw [upd_ne (ne_of_none (s1 _ _ ed) np)]
        exact s1 _ _ ed
      have ep : (upd H1 p (.tup [.int (lo t.1 t.2.1), .int (hi t.1 t.2.1)])) p = some (.tup ((kk (ky t)).map kV)) := upd_same
      refine ⟨_, rfl, d, rfl, .inr ⟨kvs, .inl ed1⟩, _, rfl, _, DGet.t ed1 ep, ?_⟩
      rw [dI.get]
      refine ⟨_, rfl, _, _, rfl, rfl, _, rfl, _, rfl, d, _, rfl, DPut.t ed1 ep (small1000 (by omega)), ?_⟩
      have hd1 : H1 d ≠ none := fun z => by rw [s1 _ _ ed] at z; cases z
      refine ⟨_, _, _, _, _, _, rfl, upd_same, ?_, Nat.le_trans putK_len (by omega), fun c o e => ?_⟩
      · rw [List.take_add_one, hti]
        exact dI.put t
      · rw [upd_ne (ne_of_none e hd)]
        exact same_upd np _ _ (s1 _ _ (sm _ _ e))
    · obtain ⟨kvs, y3, y4, y5, y6, y7, rfl, ed, dI, klen, sm⟩ := p
      rw [hx.1, List.take_length] at dI
      refine ⟨_, rfl, d, kvs, rfl, .inl ed, fun kv hkv => by obtain ⟨p, hp⟩ := dI.frm kv hkv; exact ⟨p.1, p.2, hp⟩, fun bs ys p0 hk hsrt hstb np0 => ?_⟩
      obtain ⟨kEq, kAt⟩ := keys_of hk dI.frm
      have hall : ∀ y ∈ ys, ∃ b, y = .ref b ∧ H' b = some (.tup [.int (kOf H' y).1, .int (kOf H' y).2]) := fun y hy => by
        obtain ⟨b, hb, rfl⟩ := List.mem_map.mp (hstb.perm.mem_iff.mp hy)
        obtain ⟨p, hp⟩ := kAt b hb
        exact ⟨b, rfl, by rw [kOf_at hp]; exact hp⟩
      have hperm : (ys.map (kOf H')).Perm ((bs.map V.ref).map (kOf H')) := hstb.perm.map _
      have hnd : (ys.map (kOf H')).Nodup := by
        refine hperm.nodup_iff.mpr ?_
        have := dI.nd
        rw [← kEq] at this
        unfold List.Nodup at this ⊢
        exact (List.pairwise_map.mp this).imp fun h e => h (congrArg kk e)
      have hmem : ∀ p, p ∈ ys.map (kOf H') ↔ p ∈ l.map ky := fun p => by
        rw [hperm.mem_iff, ← dI.mem p, ← kEq]
        exact ⟨fun m => List.mem_map.mpr ⟨p, m, rfl⟩, fun m => by
          obtain ⟨p2, m2, e2⟩ := List.mem_map.mp m
          rw [← kk_inj e2]
          exact m2⟩
      have hlex : (ys.map (kOf H')).Pairwise Lex := sorted_lex hnd (SrtO.srtd_map (lt := SrtO.lexB) (f := kOf H') hsrt)
      have hN : IsNorm l ((ys.map (kOf H')).map fun p => (p.1, p.2, tot p l)) := by
        have e1 : (((ys.map (kOf H')).map fun p => ((p.1, p.2, tot p l) : Tr))).map pr = ys.map (kOf H') := by
          rw [List.map_map]
          exact List.map_id' _
        refine ⟨by rw [e1]; exact hlex, fun p => by rw [e1]; exact hmem p, fun e he => ?_⟩
        obtain ⟨p, _, rfl⟩ := List.mem_map.mp he
        rfl
      have hylen : ys.length ≤ 1000 := by
        have h1 := hstb.perm.length_eq
        have h2 := congrArg List.length kEq
        rw [List.length_map] at h1
        rw [List.length_map, List.length_map, List.length_map, List.length_map] at h2
        rw [hx.1] at klen
        omega
      generalize hr0 : ((ys.map (kOf H')).map fun p => ((p.1, p.2, tot p l) : Tr)) = r at hN
      have hrl : r.length = ys.length := by rw [← hr0, List.length_map, List.length_map]
      have s0 : Same H' (upd H' p0 (.lst ys)) := same_upd np0
      refine ⟨p0, rfl, ⟨_, .inl (.inl upd_same)⟩, fun D hD => ?_⟩
      refine lc_list (K := K) (a := p0) (xs := ys) (fun i H2 => Same (upd H' p0 (.lst ys)) H2 ∧ ∃ vs, H2 D = some (.lst vs) ∧ TrV H2 vs (r.take i)) ⟨same_upd hD, [], upd_same, TrV.nil⟩ (fun i H2 _ p => .inl (.inl (p.1 _ _ upd_same))) (fun i x H2 hxi p => ?_) (fun H2 p => ?_)
      · obtain ⟨s2, vs, eD, tV⟩ := p
        obtain ⟨b, rfl, hb⟩ := hall x (List.mem_of_getElem? hxi)
        have hil : i < ys.length := (List.getElem?_eq_some_iff.mp hxi).1
        generalize hp : kOf H' (.ref b) = p at hb
        have hri : r[i]? = some (p.1, p.2, tot p l) := by
          rw [← hr0, List.getElem?_map, List.getElem?_map, hxi, ← hp]
          rfl
        have hpm : p ∈ l.map ky := (hmem p).mp (by rw [← hp]; exact List.mem_map.mpr ⟨_, List.mem_of_getElem? hxi, rfl⟩)
        have hval : valV kvs (kk p) = some (.int (tot p l)) := by
          rw [dI.val, if_pos hpm]
        have hb2 := s2 _ _ (s0 _ _ hb)
        have ed2 := s2 _ _ (s0 _ _ ed)
        refine ⟨b, _, rfl, .inl (.inl hb2), rfl, _, _, rfl, _, _, rfl, rfl, rfl, ?_⟩
        refine ⟨_, rfl, _, rfl, _, rfl, _, rfl, _, rfl, by show 2 ≤ sizeLine; decide, fun p1 np1 => ⟨d, .int (tot p l), rfl, ?_, ?_⟩⟩
        · have g := DGet.t (k := kk p) (b := p1) (H := upd H2 p1 (.tup [.int p.1, .int p.2])) (a := d) (kvs := kvs) (by rw [upd_ne (ne_of_none ed2 np1)]; exact ed2) upd_same
          rw [hval] at g
          exact g
        · refine ⟨by show 3 ≤ sizeLine; decide, fun p2 np2 => ?_⟩
          have s3 : Same H2 (upd (upd H2 p1 (.tup [.int p.1, .int p.2])) p2 (.tup [.int p.1, .int p.2, .int (tot p l)])) := (same_upd np1).trans (same_upd np2)
          refine ⟨vs, s3 _ _ eD, ?_, same_put (H1 := H2) hD (s2.trans s3), _, upd_same, ?_⟩
          · rw [tV.1, List.length_take]
            exact Nat.lt_of_le_of_lt (Nat.min_le_right _ _) (small1000 (by omega))
          · rw [List.take_add_one, hri]
            have nD : p2 ≠ D := fun z => by
              rw [z] at np2
              have := (same_upd (o := .tup [.int p.1, .int p.2]) np1) _ _ eD
              rw [this] at np2
              cases np2
            refine (tV.sameT (sameT_put eD s3)).snoc ?_
            rw [upd_ne nD, upd_same]
      · obtain ⟨s2, vs, eD, tV⟩ := p
        rw [← hrl, List.take_length] at tV
        refine ⟨D, vs, rfl, .inl ⟨.inl (.inl eD), fun c nc => ?_⟩⟩
        have sA : Same H (upd H2 c (.tup vs)) := ((sm.trans s0).trans s2).trans (same_upd nc)
        exact q _ c r sA (((sm.trans s0).trans s2).free nc) ⟨vs, upd_same, tV.same (same_upd nc)⟩ hN
end
end Own

namespace Own
open PySem PySem.Spec PyProof.Rows L2
/-! ### a lot as an object -/
theorem kpc : ¬ (("cords" : Str) = "pins") := by decide +kernel
theorem kpc2 : ¬ (("pins" : Str) = "cords") := by decide +kernel
def flds (n : Int) (c : Addr) : List (Str × V) := putF "cords" (.ref c) (putF "pins" (.int n) [])
theorem flds_pins (n : Int) (c : Addr) : (flds n c).lookup ("pins" : Str) = some (.int n) := by
  unfold flds
  rw [lookup_putF, if_neg kpc2, lookup_putF, if_pos rfl]
theorem flds_cords (n : Int) (c : Addr) : (flds n c).lookup ("cords" : Str) = some (.ref c) := by
  unfold flds
  rw [lookup_putF, if_pos rfl]
theorem flds_no (n : Int) (c : Addr) {m : Str} (h1 : ¬ m = "pins") (h2 : ¬ m = "cords") : (flds n c).lookup m = none := by
  unfold flds
  rw [lookup_putF, if_neg h2, lookup_putF, if_neg h1]
  all_goals rfl
/-- a lot stands at p -/
def LotAt (C : Addr) (H : Hp) (p : Addr) (n : Int) (cs : List Tr) : Prop := ∃ dx c, H p = some (.ins C dx (flds n c)) ∧ Trip H c cs
theorem LotAt.same {C : Addr} {H H' : Hp} {p : Addr} {n : Int} {cs : List Tr} (s : Same H H') (h : LotAt C H p n cs) : LotAt C H' p n cs := by
  obtain ⟨dx, c, e, t⟩ := h
  exact ⟨dx, c, s _ _ e, t.same s⟩
structure LotC (K : PySem.W.Frag) (mg : Str → Option Value) (C : Addr) : Prop where
  cl : Cls K C
  nP : NoAttr K C "pins"
  nC : NoAttr K C "cords"
  g : mg "Lot" = some (.ref C)
/-- a method of the text -/
structure Mt (K : PySem.W.Frag) (C : Addr) (m qual : Str) (st : Stmt) (ps : List Str) (f : Addr) (fd : FuncData) : Prop where
  F : Fun K m qual st f fd
  m : Meth K C m f
  b : Binds K fd ps []
abbrev FI (K : PySem.W.Frag) (z : Addr) (f : Addr) (fd : FuncData) : Prop := FunD K "__init__" "Lot.__init__" (defArgs s_Lot_init) (defBody s_Lot_init) (defScope s_Lot_init) [.ref z] [] f fd
section
variable {P : Program} {w : World} {K : PySem.W.Frag} {mg : Str → Option Value} {base : Heap} {C : Addr}
def spInit (K : PySem.W.Frag) (C : Addr) : Sp := fun vs H Q _ => ∃ (p dx : Addr) (n : Int) (a : Addr) (xs : List V) (l : List Tr), vs = [.ref p, .int n, .ref a] ∧ H p = some (.ins C dx []) ∧ 0 ≤ n ∧ SqB K H a xs ∧ TrV H xs l ∧ (∀ t ∈ l, Vld n t) ∧ l.length ≤ 1000 ∧
  ∀ H' c r, (∀ b o, H b = some o → b ≠ p → H' b = some o) → H' p = some (.ins C dx (flds n c)) → Trip H' c r → IsNorm l r → Q .non H'
theorem SqB.keep {K : PySem.W.Frag} {H H' : Hp} {a p : Addr} {xs : List V} {dx : Addr} {fs : List (Str × V)} (e : H p = some (.ins C dx fs)) (s : ∀ b o, H b = some o → b ≠ p → H' b = some o) (h : SqB K H a xs) : SqB K H' a xs := by
  have go : ∀ {o : HO}, H a = some o → (∀ D d f, o ≠ .ins D d f) → H' a = some o := fun {o} h n => s _ _ h fun z => by
    rw [z, e] at h
    exact n _ _ _ (Option.some.inj h).symm
  rcases h with ((h | ⟨o, h⟩) | h) | ((h | ⟨o, h⟩) | h)
  · exact .inl (.inl (.inl (go h fun _ _ _ z => by cases z)))
  · exact .inl (.inl (.inr ⟨o, go h fun _ _ _ z => by cases z⟩))
  · exact .inl (.inr h)
  · exact .inr (.inl (.inl (go h fun _ _ _ z => by cases z)))
  · exact .inr (.inl (.inr ⟨o, go h fun _ _ _ z => by cases z⟩))
  · exact .inr (.inr h)
theorem ok_init {z f : Addr} {fd : FuncData} (F : FI K z f fd) (T : Bi mg) (L : LotC K mg C) {f_k : Addr} {d_k : FuncData} (D_k : Df K mg "check_pins" s_check_pins ["pins"] f_k d_k) (G_k : FnOk P w K mg base CX0 2 f_k d_k ["pins"] spCkPins)
    {f_g : Addr} {d_g : FuncData} (D_g : Df K mg "gathered" s_gathered ["pins", "entries"] f_g d_g) (G_g : FnOk P w K mg base CX0 4 f_g d_g ["pins", "entries"] (spGathered K)) :
    FnOk P w K mg base CX0 5 f fd ["self", "pins", "cords"] (spInit K C) := by
  refine F.ok sc_Lot_init (fun vs H Q E h => ?_) (fun cdv A outer s H vs Q E hr h => ?_)
  · obtain ⟨p, dx, n, a, xs, l, rfl, _⟩ := h
    rfl
  · obtain ⟨p, dx, n, a, xs, l, rfl, ep, hn, hB, hx, hv, hl, q⟩ := h
    refine ⟨_, pss_cons (ps_expr (pe_call G_k (hr.mono (by decide)) (by rfl) D_k.g D_k.F.kp D_k.b .nil pass0 (pa_cons (pv 1) pa_nil)))
      (pss_cons (ps_fld (pv 0) (pv 1) rfl) (pss_one (ps_fld (pv 0) (pe_call G_g hr (by rfl) D_g.g D_g.F.kp D_g.b .nil pass0 (pa_cons (pv 1) (pa_cons (pv 2) pa_nil))) rfl))), ?_⟩
    refine ⟨_, rfl, n, rfl, hn, ?_⟩
    refine ⟨_, rfl, _, rfl, p, C, dx, [], rfl, ep, L.cl, L.nP, by show 0 < 1000; decide, ?_⟩
    have k1 : ∀ b o, H b = some o → b ≠ p → (upd H p (.ins C dx (putF "pins" (.int n) []))) b = some o := fun b o e nb => by
      rw [upd_ne nb]
      exact e
    have hx1 : TrV (upd H p (.ins C dx (putF "pins" (.int n) []))) xs l := hx.sameT fun b o e => k1 b _ e fun z => by
      rw [z, ep] at e
      cases e
    refine ⟨_, rfl, _, rfl, n, a, xs, l, rfl, hB.keep ep k1, hx1, hv, hl, fun H1 c r s1 nc tc hN => ?_⟩
    refine ⟨_, rfl, p, C, dx, _, rfl, s1 _ _ upd_same, L.cl, L.nC, by show 1 < 1000; decide, ?_⟩
    have s2 : ∀ b o, H1 b = some o → b ≠ p → (upd H1 p (.ins C dx (putF "cords" (.ref c) (putF "pins" (.int n) [])))) b = some o := fun b o e nb => by
      rw [upd_ne nb]
      exact e
    refine q _ c r (fun b o e nb => s2 b o (s1 b o (k1 b o e nb)) nb) upd_same ?_ hN
    obtain ⟨vs, e, t⟩ := tc
    have eH : H1 p = some (.ins C dx (putF "pins" (.int n) [])) := s1 _ _ upd_same
    refine ⟨vs, s2 _ _ e fun z => ?_, t.sameT fun b o h => s2 _ _ h fun z => ?_⟩
    · rw [z, eH] at e
      cases e
    · rw [z, eH] at h
      cases h
/-- Lot(n, entries) -/
theorem rd_make {n : Int} {a : Addr} {xs : List V} {l : List Tr} {H : Hp} {Q : VK} (hn : 0 ≤ n) (hB : SqB K H a xs) (hx : TrV H xs l) (hv : ∀ t ∈ l, Vld n t) (hl : l.length ≤ 1000) (q : ∀ H' x cs, Same H H' → LotAt C H' x n cs → IsNorm l cs → Q (.ref x) H') :
    ∀ x dx, H x = none → H dx = none → dx ≠ x → spInit K C (.ref x :: ([.int n, .ref a] ++ [])) (upd (upd H dx (.own x)) x (.ins C dx [])) (fun v H2 => v = .non ∧ Q (.ref x) H2) E0 := fun x dx nx nd ne => by
  have s1 : Same H (upd H dx (.own x)) := same_upd nd
  have nx1 : (upd H dx (.own x)) x = none := by
    rw [upd_ne ne.symm]
    exact nx
  have s2 : Same H (upd (upd H dx (.own x)) x (.ins C dx [])) := s1.trans (same_upd nx1)
  refine ⟨x, dx, n, a, xs, l, rfl, upd_same, hn, hB.same s2, hx.same s2, hv, hl, fun H' c r k e t hN => ⟨rfl, q H' x r (fun b o h => ?_) ⟨dx, c, e, t⟩ hN⟩⟩
  exact k b o (s2 b o h) (ne_of_none h nx)
/-! ### renamed pins -/
def gl (n : Int) (g : Int → Int) : List V := (List.range n.toNat).map fun j : Nat => V.int (g (j : Int))
theorem gl_at {n x : Int} (g : Int → Int) (h0 : 0 ≤ x) (h1 : x < n) : atI (gl n g) x = some (.int (g x)) := by
  have e : x = ((x.toNat : Nat) : Int) := by omega
  have hx : (gl n g)[x.toNat]? = some (.int (g x)) := by
    unfold gl
    rw [List.getElem?_map, List.getElem?_range (by omega)]
    show some (V.int (g ((x.toNat : Nat) : Int))) = _
    rw [← e]
  exact at_of e hx
def Inj (n : Int) (g : Int → Int) : Prop := ∀ x y, 0 ≤ x → x < n → 0 ≤ y → y < n → g x = g y → x = y
end
end Own

namespace Own
open PySem PySem.Spec PyProof.Rows L2
theorem rep_gl (v : V) (k : Nat) : (List.replicate k [v]).flatten = List.replicate k v := by
  induction k with
  | zero => rfl
  | succ k ih =>
    rw [List.replicate_succ, List.flatten_cons, ih]
    rfl
theorem gl_const (n v : Int) : List.replicate n.toNat (V.int v) = gl n fun _ => v := by
  unfold gl
  rw [List.map_const', List.length_range]
theorem gl_len (n : Int) (g : Int → Int) : (gl n g).length = n.toNat := by
  unfold gl
  rw [List.length_map, List.length_range]
theorem gl_congr {n : Int} {g h : Int → Int} (e : ∀ x, 0 ≤ x → x < n → g x = h x) : gl n g = gl n h := by
  unfold gl
  refine List.map_congr_left fun j hj => ?_
  have := List.mem_range.mp hj
  rw [e (j : Int) (by omega) (by omega)]
theorem gl_ix {n x : Int} (g : Int → Int) (h0 : 0 ≤ x) (h1 : x < n) : ixN (gl n g).length x = some x.toNat := by
  unfold ixN
  rw [gl_len, if_pos h0, if_pos (by omega)]
theorem gl_set {n x : Int} (g : Int → Int) (v : Int) (h0 : 0 ≤ x) (h1 : x < n) : (gl n g).set x.toNat (.int v) = gl n fun y => if y = x then v else g y := by
  unfold gl
  apply List.ext_getElem
  · rw [List.length_set, List.length_map, List.length_map]
  · intro j hj hj2
    rw [List.length_map, List.length_range] at hj2
    rw [List.getElem_set, List.getElem_map, List.getElem_map, List.getElem_range]
    by_cases e : x.toNat = j
    · rw [if_pos e]
      show V.int v = V.int (if ((j : Nat) : Int) = x then v else g j)
      rw [if_pos (by omega)]
    · rw [if_neg e]
      show V.int (g j) = V.int (if ((j : Nat) : Int) = x then v else g j)
      rw [if_neg (by omega)]
def endsOf (cs : List Tr) (x : Int) : Int := bs (fun q => decide (q.1 = x ∨ q.2 = x)) cs
theorem endsOf_snoc (cs : List Tr) (t : Tr) (x : Int) : endsOf (cs ++ [t]) x = endsOf cs x + (if t.1 = x ∨ t.2.1 = x then t.2.2 else 0) := by
  unfold endsOf
  rw [bs_append]
  show _ + ((if decide (t.1 = x ∨ t.2.1 = x) = true then t.2.2 else 0) + 0) = _
  by_cases h : t.1 = x ∨ t.2.1 = x
  · rw [if_pos (decide_eq_true h), if_pos h]
    omega
  · rw [if_neg (by rw [decide_eq_false h]; decide), if_neg h]
    omega
def totOf (cs : List Tr) : Int := (cs.map fun t => t.2.2).sum
theorem fmod_in (x : Int) {n : Int} (h : 0 < n) : 0 ≤ x.fmod n ∧ x.fmod n < n := by
  rw [Int.fmod_eq_emod_of_nonneg _ (Int.le_of_lt h)]
  exact ⟨Int.emod_nonneg _ (by omega), Int.emod_lt_of_pos _ h⟩
def sh (n s x : Int) : Int := (x + s).fmod n
def mi (n x : Int) : Int := n - 1 - x
theorem sh_in {n s x : Int} (h : 0 < n) : 0 ≤ sh n s x ∧ sh n s x < n := fmod_in _ h
theorem sub_mod {n a b : Int} (h : a % n = b % n) : (a - b) % n = 0 := by
  rw [Int.sub_emod, h, Int.sub_self, Int.zero_emod]
theorem sh_inj (n s : Int) : Inj n (sh n s) := fun x y x0 x1 y0 y1 e => by
  have n0 : 0 < n := by omega
  unfold sh at e
  rw [Int.fmod_eq_emod_of_nonneg _ (by omega), Int.fmod_eq_emod_of_nonneg _ (by omega)] at e
  have h1 := sub_mod e
  have h2 := sub_mod e.symm
  rw [show x + s - (y + s) = x - y by omega] at h1
  rw [show y + s - (x + s) = y - x by omega] at h2
  by_cases h : y ≤ x
  · rw [Int.emod_eq_of_lt (by omega) (by omega)] at h1
    omega
  · rw [Int.emod_eq_of_lt (by omega) (by omega)] at h2
    omega
theorem mi_inj (n : Int) : Inj n (mi n) := fun x y _ _ _ _ e => by
  unfold mi at e
  omega
theorem mi_in {n x : Int} (h0 : 0 ≤ x) (h1 : x < n) : 0 ≤ mi n x ∧ mi n x < n := by
  unfold mi
  omega
section
variable {P : Program} {w : World} {K : PySem.W.Frag} {mg : Str → Option Value} {base : Heap} {C : Addr}
/-! ### the ends at each pin -/
def spEap : Sp := fun vs H Q _ => ∃ (n : Int) (c : Addr) (cs : List Tr), vs = [.int n, .ref c] ∧ 0 ≤ n ∧ n ≤ 1000 ∧ Trip H c cs ∧ (∀ t ∈ cs, Vld n t) ∧ ∀ H' p, Same H H' → H p = none → H' p = some (.lst (gl n (endsOf cs))) → Q (.ref p) H'
theorem ok_eap {f : Addr} {fd : FuncData} (F : Fun K "ends_at_pins" "ends_at_pins" s_ends_at_pins f fd) (T : Bi mg) : FnOk P w K mg base CX0 1 f fd ["pins", "cords"] spEap := by
  refine F.ok sc_ends_at_pins (fun vs H Q E h => ?_) (fun cdv A outer s H vs Q E hr h => ?_)
  · obtain ⟨n, c, cs, rfl, _⟩ := h
    rfl
  · obtain ⟨n, c, cs, rfl, n0, n1, hc, hv, q⟩ := h
    refine ⟨_, (pss_cons (ps_set (i := 2) sc_ends_at_pins.nd rfl (.inl rfl) (pe_op op_rep (pe_lst (pa_cons pe_int pa_nil)) (pv 0)))
        (pss_cons (ps_for PassesOwn.never rfl (pi_tup (pv 1)) (pg_tup (by rfl) (pgs_cons (pg_name (i := 3) sc_ends_at_pins.nd rfl (.inl rfl)) (pgs_cons (pg_name (i := 4) sc_ends_at_pins.nd rfl (.inl rfl)) (pgs_cons (pg_name (i := 5) sc_ends_at_pins.nd rfl (.inl rfl)) pgs_nil))))
        (pss_cons (ps_asg (pe_op op_add (pe_ix (r := rIxL K) ix_list (pv 2) (pv 3) (fun _ _ => rfl)) (pv 5)) (pg_sub (pv 2) (pv 3) set_list))
        (pss_one (ps_asg (pe_op op_add (pe_ix (r := rIxL K) ix_list (pv 2) (pv 4) (fun _ _ => rfl)) (pv 5)) (pg_sub (pv 2) (pv 4) set_list)))))
        (pss_one (ps_ret (pv 2))))), ?_⟩
    obtain ⟨vs, ec, tc⟩ := id hc
    refine ⟨by show 1 ≤ sizeLine; decide, fun l hl => ⟨_, rfl, l, n, _, rfl, rfl, upd_same, by omega, by omega, ?_, fun p np => ?_⟩⟩
    · show 1 * n.toNat ≤ sizeLine
      rw [Nat.one_mul]
      exact Nat.le_of_lt (small1000 (by omega))
    have np0 : H p = none := (same_upd (o := .lst [.int 0]) hl).free np
    have sL : Same H (upd (upd H l (.lst [.int 0])) p (.lst (List.replicate n.toNat [V.int 0]).flatten)) := (same_upd hl).trans (same_upd np)
    refine ⟨_, rfl, c, rfl, ⟨vs, .inl (.inl (sL _ _ ec))⟩, for_tup (xs := vs) (fun i σ H' => (∃ y3 y4 y5, σ = [some (.int n), some (.ref c), some (.ref p), y3, y4, y5]) ∧ Same H H' ∧ H' p = some (.lst (gl n (endsOf (cs.take i))))) ⟨⟨_, _, _, rfl⟩, sL, ?_⟩ (fun i σ H' _ p => .inl (.inl (p.2.1 _ _ ec))) (fun i x σ H' hxi p => ?_) (fun σ H' p => ?_)⟩
    · rw [upd_same, rep_gl, gl_const]
      rfl
    · obtain ⟨⟨y3, y4, y5, rfl⟩, sm, ep⟩ := p
      obtain ⟨u, t, rfl, hti, hu⟩ := (tc.same sm).at_ hxi
      obtain ⟨v0, v1, v2, v3, v4, v5⟩ := hv t (List.mem_of_getElem? hti)
      refine ⟨u, _, rfl, .inl (.inl hu), rfl, _, _, rfl, _, _, rfl, _, _, rfl, rfl, ?_⟩
      refine ⟨_, rfl, _, rfl, p, _, _, _, rfl, rfl, .inl (.inl ep), gl_at _ v0 v1, _, rfl, _, _, rfl, rfl, _, rfl, _, rfl, p, _, _, _, rfl, rfl, ep, gl_ix _ v0 v1, ?_⟩
      rw [gl_set _ _ v0 v1]
      refine ⟨_, rfl, _, rfl, p, _, _, _, rfl, rfl, .inl (.inl upd_same), gl_at _ v2 v3, _, rfl, _, _, rfl, rfl, _, rfl, _, rfl, p, _, _, _, rfl, rfl, upd_same, gl_ix _ v2 v3, ?_⟩
      rw [gl_set _ _ v2 v3, upd_upd]
      refine ⟨⟨_, _, _, rfl⟩, same_put (H1 := H) np0 sm, ?_⟩
      rw [upd_same, List.take_add_one, hti]
      congr 2
      refine gl_congr fun x _ _ => ?_
      show _ = endsOf (cs.take i ++ [t]) x
      rw [endsOf_snoc]
      by_cases e1 : x = t.2.1
      · subst e1
        rw [if_pos rfl, if_neg (fun z => v4 z.symm), if_pos (.inr rfl)]
      · by_cases e2 : x = t.1
        · subst e2
          rw [if_neg e1, if_pos rfl, if_pos (.inl rfl)]
        · rw [if_neg e1, if_neg e2, if_neg fun z => by rcases z with z | z <;> omega]
          omega
    · obtain ⟨⟨y3, y4, y5, rfl⟩, sm, ep⟩ := p
      rw [tc.1, List.take_length] at ep
      exact ⟨_, rfl, q H' p sm np0 ep⟩
def spEnds (C : Addr) : Sp := fun vs H Q _ => ∃ (p : Addr) (x n : Int) (cs : List Tr), vs = [.ref p, .int x] ∧ LotAt C H p n cs ∧ 0 ≤ x ∧ x < n ∧ n ≤ 1000 ∧ (∀ t ∈ cs, Vld n t) ∧ ∀ H', Same H H' → Q (.int (endsOf cs x)) H'
theorem ok_ends {f : Addr} {fd : FuncData} (F : Fun K "ends" "Lot.ends" s_Lot_ends f fd) (T : Bi mg) (L : LotC K mg C) {f_k : Addr} {d_k : FuncData} (D_k : Df K mg "check_pin" s_check_pin ["pins", "pin"] f_k d_k) (G_k : FnOk P w K mg base CX0 3 f_k d_k ["pins", "pin"] spCkPin)
    {f_p : Addr} {d_p : FuncData} (D_p : Df K mg "ends_at_pins" s_ends_at_pins ["pins", "cords"] f_p d_p) (G_p : FnOk P w K mg base CX0 1 f_p d_p ["pins", "cords"] spEap) : FnOk P w K mg base CX0 4 f fd ["self", "pin"] (spEnds C) := by
  refine F.ok sc_Lot_ends (fun vs H Q E h => ?_) (fun cdv A outer s H vs Q E hr h => ?_)
  · obtain ⟨p, x, n, cs, rfl, _⟩ := h
    rfl
  · obtain ⟨p, x, n, cs, rfl, hL, x0, x1, n1, hv, q⟩ := h
    refine ⟨_, (pss_cons (ps_expr (pe_call G_k hr (by rfl) D_k.g D_k.F.kp D_k.b .nil pass0 (pa_cons (pe_fld (pv 0) rfl) (pa_cons (pv 1) pa_nil))))
        (pss_one (ps_ret (pe_ix (r := rIxL K) ix_list (pe_call G_p (hr.mono (by decide)) (by rfl) D_p.g D_p.F.kp D_p.b .nil pass0 (pa_cons (pe_fld (pv 0) rfl) (pa_cons (pe_fld (pv 0) rfl) pa_nil))) (pv 1) (fun _ _ => rfl))))), ?_⟩
    obtain ⟨dx, c, e, t⟩ := hL
    refine ⟨_, rfl, p, C, dx, _, _, rfl, e, L.cl, L.nP, flds_pins _ _, _, rfl, n, x, rfl, x0, x1, ?_⟩
    refine ⟨_, rfl, p, C, dx, _, _, rfl, e, L.cl, L.nP, flds_pins _ _, _, rfl, p, C, dx, _, _, rfl, e, L.cl, L.nC, flds_cords _ _, n, c, cs, rfl, by omega, n1, t, hv, fun H1 u s1 nu eu => ?_⟩
    exact ⟨_, rfl, u, _, x, _, rfl, rfl, .inl (.inl eu), gl_at _ x0 x1, q H1 s1⟩
def spTotal (C : Addr) : Sp := fun vs H Q _ => ∃ (p : Addr) (n : Int) (cs : List Tr), vs = [.ref p] ∧ LotAt C H p n cs ∧ cs.length ≤ 1000 ∧ ∀ H', Same H H' → Q (.int (totOf cs)) H'
theorem ok_total {f : Addr} {fd : FuncData} (F : Fun K "total" "Lot.total" s_Lot_total f fd) (T : Bi mg) (L : LotC K mg C) : FnOk P w K mg base CX0 1 f fd ["self"] (spTotal C) := by
  refine F.ok sc_Lot_total (fun vs H Q E h => ?_) (fun cdv A outer s H vs Q E hr h => ?_)
  · obtain ⟨p, n, cs, rfl, _⟩ := h
    rfl
  · obtain ⟨p, n, cs, rfl, hL, hl, q⟩ := h
    refine ⟨_, (pss_one (ps_ret (pe_callB (cr_sum rfl) (by rfl) T.b_sum (by decide +kernel) (pa_cons (pe_lc (own := [("entry", 1)]) (g := gName 1) (tt := tYes) rfl sc_Lot_total.nd (pi_tup (pe_fld (pv 0) rfl)) (blkOk_by (own := [("entry", 1)]) (N := ["self", "entry"]) (sc := defScope s_Lot_total) (by decide +kernel)) (fun _ _ _ _ _ => (pg_name (i := 1) sc_Lot_total.nd rfl (.inl rfl))) (fun _ _ _ _ _ => pts_nil) (fun _ _ _ _ _ => (pe_ix (r := rIxT K) ix_tup (pv 1) pe_int (fun _ _ => rfl)))) pa_nil)))), ?_⟩
    obtain ⟨dx, c, e, vs, ec, tc⟩ := hL
    refine ⟨_, rfl, p, C, dx, _, _, rfl, e, L.cl, L.nC, flds_cords _ _, c, rfl, ⟨vs, .inl (.inl ec)⟩, fun D hD => ?_⟩
    refine lc_tup (K := K) (a := c) (xs := vs) (fun i H2 => H2 = upd H D (.lst (((cs.map fun t => t.2.2).take i).map V.int))) rfl (fun i H2 _ p => by subst p; exact .inl (.inl (same_upd hD _ _ ec))) (fun i x H2 hxi p => ?_) (fun H2 p => ?_)
    · subst p
      obtain ⟨u, t, rfl, hti, hu⟩ := tc.at_ hxi
      refine ⟨rfl, ?_⟩
      refine ⟨_, rfl, u, _, 2, _, rfl, rfl, .inl (.inl (same_upd hD _ _ hu)), atI_nat (j := 2) rfl, _, upd_same, ?_, ?_⟩
      · rw [List.length_map, List.length_take, List.length_map]
        exact Nat.lt_of_le_of_lt (Nat.min_le_right _ _) (small1000 hl)
      · rw [upd_upd, List.take_add_one, List.getElem?_map, hti, List.map_append]
        rfl
    · subst p
      rw [show vs.length = (cs.map fun t => t.2.2).length by rw [List.length_map]; exact tc.1, List.take_length]
      exact ⟨D, _, rfl, .inl (.inl upd_same), q _ (same_upd hD)⟩
def spLen (C : Addr) : Sp := fun vs H Q _ => ∃ (p : Addr) (n : Int) (cs : List Tr), vs = [.ref p] ∧ LotAt C H p n cs ∧ Q (.int (cs.length : Int)) H
theorem ok_len {f : Addr} {fd : FuncData} (F : Fun K "__len__" "Lot.__len__" s_Lot_len f fd) (T : Bi mg) (L : LotC K mg C) : FnOk P w K mg base CX0 1 f fd ["self"] (spLen C) := by
  refine F.ok sc_Lot_len (fun vs H Q E h => ?_) (fun cdv A outer s H vs Q E hr h => ?_)
  · obtain ⟨p, n, cs, rfl, _⟩ := h
    rfl
  · obtain ⟨p, n, cs, rfl, hL, q⟩ := h
    refine ⟨_, (pss_one (ps_ret (pe_callB call_len_seq (by rfl) T.b_len PySem.boot_len (pa_cons (pe_fld (pv 0) rfl) pa_nil)))), ?_⟩
    obtain ⟨dx, c, e, vs, ec, tc⟩ := hL
    refine ⟨_, rfl, p, C, dx, _, _, rfl, e, L.cl, L.nC, flds_cords _ _, c, vs, rfl, .inr (.inl (.inl ec)), ?_⟩
    rw [tc.1]
    exact q
/-! ### turned and mirrored -/
abbrev GI (P : Program) (w : World) (K : PySem.W.Frag) (mg : Str → Option Value) (base : Heap) (C f : Addr) (d : FuncData) : Prop := FnOk P w K mg base CX0 5 f d ["self", "pins", "cords"] (spInit K C)
end
end Own

/-! Tables of lots. -/
namespace Own
open PySem PySem.Spec PyProof.Rows L2
def gr (cs : List Tr) (a b : Int) : Int := bs (fun q => decide ((q.1 = a ∧ q.2 = b) ∨ (q.1 = b ∧ q.2 = a))) cs
theorem gr_snoc (cs : List Tr) (t : Tr) (a b : Int) : gr (cs ++ [t]) a b = gr cs a b + (if (t.1 = a ∧ t.2.1 = b) ∨ (t.1 = b ∧ t.2.1 = a) then t.2.2 else 0) := by
  unfold gr
  rw [bs_append]
  show _ + ((if decide ((t.1 = a ∧ t.2.1 = b) ∨ (t.1 = b ∧ t.2.1 = a)) = true then t.2.2 else 0) + 0) = _
  by_cases h : (t.1 = a ∧ t.2.1 = b) ∨ (t.1 = b ∧ t.2.1 = a)
  · rw [if_pos (decide_eq_true h), if_pos h]
    omega
  · rw [if_neg (by rw [decide_eq_false h]; decide), if_neg h]
    omega
theorem gr_new {n : Int} {cs : List Tr} (g : Good n cs) {i : Nat} {t : Tr} (h : cs[i]? = some t) : gr (cs.take i) t.1 t.2.1 = 0 ∧ gr (cs.take i) t.2.1 t.1 = 0 := by
  have hnd := srt_nodup g.srt
  have hi : i < cs.length := (List.getElem?_eq_some_iff.mp h).1
  have ht := g.ord t (List.mem_of_getElem? h)
  have hne : ∀ e ∈ cs.take i, ¬ (e.1 = t.1 ∧ e.2.1 = t.2.1) ∧ ¬ (e.1 = t.2.1 ∧ e.2.1 = t.1) := fun e he => by
    obtain ⟨j, hj, e1⟩ := List.mem_iff_getElem.mp he
    rw [List.length_take] at hj
    rw [List.getElem_take] at e1
    have ho := g.ord e (List.mem_of_mem_take he)
    refine ⟨fun z => ?_, fun z => by omega⟩
    have h1 : (cs.map pr)[j]? = (cs.map pr)[i]? := by
      rw [List.getElem?_map, List.getElem?_map, h, List.getElem?_eq_getElem (by omega), e1]
      show some (e.1, e.2.1) = some (t.1, t.2.1)
      rw [z.1, z.2]
    have h2 := (List.getElem?_inj (by rw [List.length_map]; omega) hnd).mp h1
    omega
  constructor
  · exact bs_none fun e he => decide_eq_false fun z => by
      have := hne e he
      unfold pr at z
      rcases z with z | z
      · exact this.1 z
      · exact this.2 z
  · exact bs_none fun e he => decide_eq_false fun z => by
      have := hne e he
      unfold pr at z
      rcases z with z | z
      · exact this.2 z
      · exact this.1 z
/-- the sum of the first k -/
def pre (f : Int → Int) : Nat → Int
  | 0 => 0
  | k + 1 => pre f k + f (k : Int)
def ite0 (b : Bool) (c : Int) : Int := if b = true then c else 0
theorem bs_add {f g h : Int × Int → Bool} {cs : List Tr} (H : ∀ t ∈ cs, ∀ c, ite0 (f (pr t)) c = ite0 (g (pr t)) c + ite0 (h (pr t)) c) : bs f cs = bs g cs + bs h cs := by
  induction cs with
  | nil => rfl
  | cons t r ih =>
    have h1 := H t List.mem_cons_self t.2.2
    have h2 := ih fun u hu => H u (List.mem_cons_of_mem _ hu)
    unfold ite0 at h1
    rw [bs, bs, bs]
    omega
theorem bs_four {f g h k m : Int × Int → Bool} {cs : List Tr} (H : ∀ t ∈ cs, ∀ c, ite0 (f (pr t)) c = ite0 (g (pr t)) c + ite0 (h (pr t)) c - 2 * (ite0 (k (pr t)) c - ite0 (m (pr t)) c)) : bs f cs = bs g cs + bs h cs - 2 * (bs k cs - bs m cs) := by
  induction cs with
  | nil => rfl
  | cons t r ih =>
    have h1 := H t List.mem_cons_self t.2.2
    have h2 := ih fun u hu => H u (List.mem_cons_of_mem _ hu)
    unfold ite0 at h1
    rw [bs, bs, bs, bs, bs]
    omega
theorem ite0_dec (p : Prop) [Decidable p] (c : Int) : ite0 (decide p) c = if p then c else 0 := by
  unfold ite0
  by_cases h : p
  · rw [if_pos (decide_eq_true h), if_pos h]
  · rw [if_neg (by rw [decide_eq_false h]; decide), if_neg h]
def upTo (j m : Int) (q : Int × Int) : Bool := decide ((q.1 = j ∧ q.2 < m) ∨ (q.2 = j ∧ q.1 < m))
theorem pre_gr {n : Int} {cs : List Tr} (g : Good n cs) (j : Int) (m : Nat) : pre (gr cs j) m = bs (upTo j m) cs := by
  induction m with
  | zero =>
    rw [bs_none]
    · rfl
    · intro e he
      have ho := g.ord e he
      refine decide_eq_false fun z => ?_
      unfold pr at z
      dsimp only at z
      omega
  | succ m ih =>
    rw [pre, ih]
    unfold gr
    symm
    refine bs_add fun e he c => ?_
    have ho := g.ord e he
    unfold upTo pr
    rw [ite0_dec, ite0_dec, ite0_dec]
    dsimp only
    split <;> split <;> split <;> omega
/-- does x lie between the gaps i and j? -/
def sepB (i j x : Int) : Bool := decide (lo i j < x ∧ x ≤ hi i j)
def tabE (cs : List Tr) (i j : Int) : Int := bs (fun q => sepB i j q.1 != sepB i j q.2) cs
theorem bne_dec (p q : Prop) [Decidable p] [Decidable q] : (decide p != decide q) = decide (¬ (p ↔ q)) := by
  by_cases h : p <;> by_cases k : q <;> simp [h, k]
theorem tabE_comm (cs : List Tr) (i j : Int) : tabE cs i j = tabE cs j i := by
  have e : ∀ x, sepB i j x = sepB j i x := fun x => by
    unfold sepB
    have h1 := lo_hi i j
    have h2 := lo_hi j i
    exact decide_eq_decide.mpr (by omega)
  unfold tabE
  refine bs_congr fun t _ => ?_
  rw [e, e]
theorem tabE_same (cs : List Tr) (i : Int) : tabE cs i i = 0 := by
  refine bs_none fun t _ => ?_
  have h : ∀ x, sepB i i x = false := fun x => decide_eq_false fun z => by
    have := lo_hi i i
    omega
  rw [h, h]
  rfl
/-- one gap further -/
theorem tabE_step {n : Int} {cs : List Tr} (g : Good n cs) {i j : Int} (h0 : 0 ≤ i) (h1 : i < j) (h2 : j < n) :
    tabE cs i j = tabE cs i (j - 1) + bs (upTo j n) cs - 2 * (bs (upTo j j) cs - bs (upTo j (i + 1)) cs) := by
  unfold tabE
  refine bs_four fun e he c => ?_
  have ho := g.ord e he
  have a := lo_hi i j
  have b := lo_hi i (j - 1)
  unfold sepB upTo pr
  rw [bne_dec, bne_dec, ite0_dec, ite0_dec, ite0_dec, ite0_dec, ite0_dec]
  dsimp only
  split <;> split <;> split <;> split <;> split <;> omega
end Own

namespace Own
open PySem PySem.Spec PyProof.Rows L2
/-! ### a list of lists of ints -/
structure Grid (H : Hp) (p : Addr) (rs : List Addr) (n m : Int) (f : Int → Int → Int) : Prop where
  at_ : H p = some (.lst (rs.map V.ref))
  len : rs.length = n.toNat
  nd : rs.Nodup
  out : p ∉ rs
  row : ∀ (j : Nat) (r : Addr), rs[j]? = some r → H r = some (.lst (gl m (f j)))
theorem Grid.same {H H' : Hp} {p : Addr} {rs : List Addr} {n m : Int} {f : Int → Int → Int} (s : Same H H') (g : Grid H p rs n m f) : Grid H' p rs n m f :=
  ⟨s _ _ g.at_, g.len, g.nd, g.out, fun j r e => s _ _ (g.row j r e)⟩
theorem Grid.get {H : Hp} {p : Addr} {rs : List Addr} {n m : Int} {f : Int → Int → Int} (g : Grid H p rs n m f) {a : Int} (h0 : 0 ≤ a) (h1 : a < n) : ∃ r, rs[a.toNat]? = some r ∧ atI (rs.map V.ref) a = some (.ref r) ∧ H r = some (.lst (gl m (f a))) := by
  have hl := g.len
  have hi : a.toNat < rs.length := by omega
  refine ⟨rs[a.toNat], List.getElem?_eq_getElem hi, ?_, ?_⟩
  · refine at_of (j := a.toNat) (by omega) ?_
    rw [List.getElem?_map, List.getElem?_eq_getElem hi]
    rfl
  · have := g.row a.toNat _ (List.getElem?_eq_getElem hi)
    rw [show ((a.toNat : Nat) : Int) = a by omega] at this
    exact this
theorem Grid.set {H : Hp} {p r : Addr} {rs : List Addr} {n m a b v : Int} {f : Int → Int → Int} (g : Grid H p rs n m f) (a0 : 0 ≤ a) (b0 : 0 ≤ b) (b1 : b < m) (hr : rs[a.toNat]? = some r) :
    Grid (upd H r (.lst ((gl m (f a)).set b.toNat (.int v)))) p rs n m (fun x y => if x = a ∧ y = b then v else f x y) := by
  have hm : r ∈ rs := List.mem_of_getElem? hr
  have hpr : p ≠ r := fun z => g.out (by rw [z]; exact hm)
  refine ⟨by rw [upd_ne hpr]; exact g.at_, g.len, g.nd, g.out, fun j u e => ?_⟩
  rw [gl_set _ _ b0 b1]
  by_cases h : u = r
  · subst h
    have ej : j = a.toNat := nd_ix g.nd e hr
    rw [upd_same]
    congr 2
    refine gl_congr fun y _ _ => ?_
    have ej2 : ((j : Nat) : Int) = a := by omega
    by_cases hy : y = b
    · rw [if_pos hy, if_pos ⟨ej2, hy⟩]
    · rw [if_neg hy, if_neg fun z => hy z.2, ej2]
  · rw [upd_ne h, g.row j u e]
    congr 2
    refine gl_congr fun y _ _ => ?_
    have : ¬ (((j : Nat) : Int) = a ∧ y = b) := fun z => h (by
      have : j = a.toNat := by omega
      rw [this, hr] at e
      exact (Option.some.inj e).symm)
    rw [if_neg this]
theorem Grid.congr {H : Hp} {p : Addr} {rs : List Addr} {n m : Int} {f h : Int → Int → Int} (g : Grid H p rs n m f) (e : ∀ x y, 0 ≤ x → x < n → 0 ≤ y → y < m → f x y = h x y) : Grid H p rs n m h :=
  ⟨g.at_, g.len, g.nd, g.out, fun j r hr => by
    have hj : j < n.toNat := by
      rw [← g.len]
      exact (List.getElem?_eq_some_iff.mp hr).1
    rw [g.row j r hr]
    congr 2
    exact gl_congr fun y y0 y1 => e _ y (by omega) (by omega) y0 y1⟩
/-- nothing of a base is among the rows -/
def Fresh (Hb : Hp) (p : Addr) (rs : List Addr) : Prop := Hb p = none ∧ ∀ r ∈ rs, Hb r = none
theorem Fresh.row {Hb H : Hp} {p r : Addr} {rs : List Addr} {o : HO} (f : Fresh Hb p rs) (s : Same Hb H) (h : r ∈ rs) : Same Hb (upd H r o) := same_put (H1 := Hb) (f.2 r h) s
section
variable {P : Program} {w : World} {K : PySem.W.Frag} {mg : Str → Option Value} {base : Heap} {C : Addr}
def spGaps : Sp := fun vs H Q _ => ∃ n : Int, vs = [.int n] ∧ Q (.int (hi n 1)) H
theorem ok_gaps {f : Addr} {fd : FuncData} (F : Fun K "gaps" "gaps" s_gaps f fd) (T : Bi mg) : FnOk P w K mg base CX0 1 f fd ["pins"] spGaps := by
  refine F.ok sc_gaps (fun vs H Q E h => ?_) (fun cdv A outer s H vs Q E hr h => ?_)
  · obtain ⟨n, rfl, _⟩ := h
    rfl
  · obtain ⟨n, rfl, q⟩ := h
    refine ⟨_, (pss_one (ps_ret (pe_callB (call_max2 rfl) (by rfl) T.b_max (by decide +kernel) (pa_cons (pv 0) (pa_cons pe_int pa_nil))))), ?_⟩
    exact ⟨_, rfl, n, 1, rfl, q⟩
/-! ### the sums before each place -/
def spSums (K : PySem.W.Frag) : Sp := fun vs H Q _ => ∃ (r : Addr) (n : Int) (f : Int → Int), vs = [.ref r] ∧ H r = some (.lst (gl n f)) ∧ 0 ≤ n ∧ n ≤ 1000 ∧ ∀ H' p, Same H H' → H p = none → H' p = some (.lst (gl (n + 1) fun x => pre f x.toNat)) → Q (.ref p) H'
theorem ok_sums {f : Addr} {fd : FuncData} (F : Fun K "sums_before" "sums_before" s_sums_before f fd) (T : Bi mg) : FnOk P w K mg base CX0 1 f fd ["row"] (spSums K) := by
  refine F.ok sc_sums_before (fun vs H Q E h => ?_) (fun cdv A outer s H vs Q E hr h => ?_)
  · obtain ⟨r, n, f, rfl, _⟩ := h
    rfl
  · obtain ⟨r, n, f, rfl, er, n0, n1, q⟩ := h
    refine ⟨_, (pss_cons (ps_set (i := 1) sc_sums_before.nd rfl (.inl rfl) (pe_lst (pa_cons pe_int pa_nil)))
        (pss_cons (ps_set (i := 2) sc_sums_before.nd rfl (.inl rfl) pe_int)
        (pss_cons (ps_for PassesOwn.never rfl (pi_list (pv 0)) (pg_name (i := 3) sc_sums_before.nd rfl (.inl rfl))
        (pss_cons (ps_set (i := 2) sc_sums_before.nd rfl (.inl rfl) (pe_op op_add (pv 2) (pv 3)))
        (pss_one (ps_expr (pe_bm PySem.F.plainAttrs_list PySem.F.slot_list_append PySem.F.type_list_append mt_append (pv 1) (pa_cons (pv 2) pa_nil))))))
        (pss_one (ps_ret (pv 1)))))), ?_⟩
    refine ⟨by show 1 ≤ sizeLine; decide, fun p np => ?_⟩
    refine ⟨_, rfl, r, rfl, ⟨_, .inl (.inl (same_upd np _ _ er))⟩, for_list (xs := gl n f) (fun i σ H' => (∃ y, σ = [some (.ref r), some (.ref p), some (.int (pre f i)), y]) ∧ H' = upd H p (.lst ((List.range (i + 1)).map fun j : Nat => V.int (pre f j)))) ⟨⟨_, rfl⟩, rfl⟩ (fun i σ H' _ pv => by obtain ⟨_, rfl⟩ := pv; exact .inl (.inl (same_upd np _ _ er))) (fun i x σ H' hx pv => ?_) (fun σ H' pv => ?_)⟩
    · obtain ⟨⟨y, rfl⟩, rfl⟩ := pv
      have hi : i < n.toNat := by
        have := (List.getElem?_eq_some_iff.mp hx).1
        rw [gl_len] at this
        exact this
      obtain rfl : x = .int (f (i : Int)) := by
        unfold gl at hx
        rw [List.getElem?_map, List.getElem?_range hi] at hx
        exact (Option.some.inj hx).symm
      refine ⟨_, rfl, _, rfl, _, _, rfl, rfl, ?_⟩
      refine ⟨_, rfl, .inl ⟨rfl, _, .inl (.inl upd_same)⟩, _, rfl, p, _, _, rfl, rfl, upd_same, ?_, ⟨_, rfl⟩, ?_⟩
      · rw [List.length_map, List.length_range]
        exact small1000 (by omega)
      · rw [upd_upd, List.range_succ (n := i + 1), List.map_append]
        rfl
    · obtain ⟨⟨y, rfl⟩, rfl⟩ := pv
      refine ⟨_, rfl, q _ p (same_upd np) np ?_⟩
      rw [upd_same, gl_len]
      unfold gl
      rw [show (n + 1).toNat = n.toNat + 1 by omega]
      rfl
/-! ### the cords between each two pins -/
def spGrid : Sp := fun vs H Q _ => ∃ (n : Int) (c : Addr) (cs : List Tr), vs = [.int n, .ref c] ∧ 0 ≤ n ∧ n ≤ 1000 ∧ Trip H c cs ∧ Good n cs ∧ ∀ H' p rs, Same H H' → Fresh H p rs → Grid H' p rs n n (gr cs) → Q (.ref p) H'
theorem ok_grid {f : Addr} {fd : FuncData} (F : Fun K "cord_grid" "cord_grid" s_cord_grid f fd) (T : Bi mg) : FnOk P w K mg base CX0 1 f fd ["pins", "cords"] spGrid := by
  refine F.ok sc_cord_grid (fun vs H Q E h => ?_) (fun cdv A outer s H vs Q E hr h => ?_)
  · obtain ⟨n, c, cs, rfl, _⟩ := h
    rfl
  · obtain ⟨n, c, cs, rfl, n0, n1, hc, hG, q⟩ := h
    refine ⟨_, (pss_cons (ps_setLc (i := 2) (own := [("_", 6)]) (g := gName 6) (tt := tYes) rfl sc_cord_grid.nd rfl rfl (sw_true rfl rfl rfl (by decide +kernel)) (pi_range1 (by rfl) T.b_range (pa_cons (pv 0) pa_nil)) (blkOk_by (own := [("_", 6)]) (N := ["pins", "cords", "rows", "a", "b", "many", "_"]) (sc := defScope s_cord_grid) (by decide +kernel)) (fun _ _ _ _ _ => (pg_name (i := 6) sc_cord_grid.nd rfl (.inl rfl))) (fun _ _ _ _ _ => pts_nil) (fun _ _ _ _ _ => (pe_op op_rep (pe_lst (pa_cons pe_int pa_nil)) (pv 0))))
        (pss_cons (ps_for PassesOwn.never rfl (pi_tup (pv 1)) (pg_tup (by rfl) (pgs_cons (pg_name (i := 3) sc_cord_grid.nd rfl (.inl rfl)) (pgs_cons (pg_name (i := 4) sc_cord_grid.nd rfl (.inl rfl)) (pgs_cons (pg_name (i := 5) sc_cord_grid.nd rfl (.inl rfl)) pgs_nil))))
        (pss_cons (ps_asg (pv 5) (pg_sub (pe_ix (r := rIxL K) ix_list (pv 2) (pv 3) (fun _ _ => rfl)) (pv 4) set_list))
        (pss_one (ps_asg (pv 5) (pg_sub (pe_ix (r := rIxL K) ix_list (pv 2) (pv 4) (fun _ _ => rfl)) (pv 3) set_list)))))
        (pss_one (ps_ret (pv 2))))), ?_⟩
    obtain ⟨vs, ec, tc⟩ := id hc
    refine ⟨_, rfl, n, rfl, by omega, by omega, fun D hD => ?_⟩
    refine lc_range (lo := 0) (n := n.toNat) (fun i H' => Same H H' ∧ ∃ rs, H' D = some (.lst (rs.map V.ref)) ∧ rs.length = i ∧ rs.Nodup ∧ D ∉ rs ∧ (∀ r ∈ rs, H r = none) ∧ ∀ (j : Nat) (r : Addr), rs[j]? = some r → H' r = some (.lst (gl n fun _ => 0))) ⟨same_upd hD, [], upd_same, rfl, List.nodup_nil, by simp, by simp, by simp⟩ (fun i H' hi pv => ?_) (fun H' pv => ?_)
    · obtain ⟨sm, rs, eD, hlen, hnd, hout, hfr, hrow⟩ := pv
      refine ⟨rfl, ?_⟩
      refine ⟨by show 1 ≤ sizeLine; decide, fun l hl => ⟨_, rfl, l, n, _, rfl, rfl, upd_same, by omega, by omega, ?_, fun r nr => ?_⟩⟩
      · show 1 * n.toNat ≤ sizeLine
        rw [Nat.one_mul]
        exact Nat.le_of_lt (small1000 (by omega))
      have s1 : Same H' (upd (upd H' l (.lst [.int 0])) r (.lst (List.replicate n.toNat [V.int 0]).flatten)) := (same_upd hl).trans (same_upd nr)
      have nr0 : H' r = none := (same_upd (o := .lst [.int 0]) hl).free nr
      have nrD : r ≠ D := fun z => by
        rw [z, eD] at nr0
        cases nr0
      have nin : r ∉ rs := fun m => by
        obtain ⟨j, hj, ej⟩ := List.mem_iff_getElem.mp m
        rw [hrow j r (by rw [List.getElem?_eq_getElem hj, ej])] at nr0
        cases nr0
      refine ⟨_, s1 _ _ eD, ?_, same_put (H1 := H) hD (sm.trans s1), rs ++ [r], ?_, ?_, ?_, ?_, ?_, ?_⟩
      · rw [List.length_map, hlen]
        exact small1000 (by omega)
      · rw [upd_same, List.map_append]
        rfl
      · rw [List.length_append, hlen]
        rfl
      · exact List.nodup_append.mpr ⟨hnd, by simp, fun a ha b hb z => nin (by rw [List.mem_singleton.mp hb] at z; rw [← z]; exact ha)⟩
      · intro m
        rcases List.mem_append.mp m with m | m
        · exact hout m
        · exact nrD (List.mem_singleton.mp m).symm
      · intro u m
        rcases List.mem_append.mp m with m | m
        · exact hfr u m
        · rw [List.mem_singleton.mp m]
          exact sm.free nr0
      · intro j u e
        have hu : u ≠ D := fun z => by
          have m := List.mem_of_getElem? e
          rcases List.mem_append.mp m with m | m
          · exact hout (z ▸ m)
          · exact nrD ((List.mem_singleton.mp m).symm.trans z)
        rw [upd_ne hu]
        by_cases hj : j < rs.length
        · rw [List.getElem?_append_left hj] at e
          exact s1 _ _ (hrow j u e)
        · rw [List.getElem?_append_right (by omega)] at e
          obtain rfl : r = u := by
            cases hk : j - rs.length with
            | zero =>
              rw [hk] at e
              exact Option.some.inj e
            | succ k =>
              rw [hk] at e
              simp at e
          rw [upd_same, rep_gl, gl_const]
    · obtain ⟨sm, rs, eD, hlen, hnd, hout, hfr, hrow⟩ := pv
      have g0 : Grid H' D rs n n (gr []) := ⟨eD, hlen, hnd, hout, fun j r e => hrow j r e⟩
      refine ⟨_, rfl, c, rfl, ⟨vs, .inl (.inl (sm _ _ ec))⟩, for_tup (xs := vs) (fun i σ H2 => (∃ y3 y4 y5 y6, σ = [some (.int n), some (.ref c), some (.ref D), y3, y4, y5, y6]) ∧ Same H H2 ∧ Grid H2 D rs n n (gr (cs.take i))) ⟨⟨_, _, _, _, rfl⟩, sm, g0⟩ (fun i σ H2 _ p => .inl (.inl (p.2.1 _ _ ec))) (fun i x σ H2 hxi p => ?_) (fun σ H2 p => ?_)⟩
      · obtain ⟨⟨y3, y4, y5, y6, rfl⟩, s2, g2⟩ := p
        obtain ⟨u, t, rfl, hti, hu⟩ := (tc.same s2).at_ hxi
        have ho := hG.ord t (List.mem_of_getElem? hti)
        have hnew := gr_new hG hti
        refine ⟨u, _, rfl, .inl (.inl hu), rfl, _, _, rfl, _, _, rfl, _, _, rfl, rfl, ?_⟩
        obtain ⟨r1, e1, a1, h1⟩ := g2.get (a := t.1) (by omega) (by omega)
        refine ⟨_, rfl, _, rfl, _, rfl, D, _, _, _, rfl, rfl, .inl (.inl g2.at_), a1, _, rfl, r1, _, _, _, rfl, rfl, h1, gl_ix _ (by omega) (by omega), ?_⟩
        have g3 := g2.set (v := t.2.2) (by omega) (show 0 ≤ t.2.1 by omega) (by omega) e1
        have s3 : Same H (upd H2 r1 (.lst ((gl n (gr (cs.take i) t.1)).set t.2.1.toNat (.int t.2.2)))) := same_put (H1 := H) (hfr r1 (List.mem_of_getElem? e1)) s2
        obtain ⟨r2, e2, a2, h2⟩ := g3.get (a := t.2.1) (by omega) (by omega)
        refine ⟨_, rfl, _, rfl, _, rfl, D, _, _, _, rfl, rfl, .inl (.inl g3.at_), a2, _, rfl, r2, _, _, _, rfl, rfl, h2, gl_ix _ (by omega) (by omega), ?_⟩
        have g4 := g3.set (v := t.2.2) (by omega) (show 0 ≤ t.1 by omega) (by omega) e2
        refine ⟨⟨_, _, _, _, rfl⟩, same_put (H1 := H) (hfr r2 (List.mem_of_getElem? e2)) s3, ?_⟩
        rw [List.take_add_one, hti]
        refine g4.congr fun x y _ _ _ _ => ?_
        show (if x = t.2.1 ∧ y = t.1 then t.2.2 else if x = t.1 ∧ y = t.2.1 then t.2.2 else gr (cs.take i) x y) = gr (cs.take i ++ [t]) x y
        rw [gr_snoc]
        by_cases q1 : x = t.2.1 ∧ y = t.1
        · rw [if_pos q1, if_pos (by omega), q1.1, q1.2, hnew.2]
          omega
        · by_cases q2 : x = t.1 ∧ y = t.2.1
          · rw [if_neg q1, if_pos q2, if_pos (by omega), q2.1, q2.2, hnew.1]
            omega
          · rw [if_neg q1, if_neg q2, if_neg (by omega)]
            omega
      · obtain ⟨⟨y3, y4, y5, y6, rfl⟩, s2, g2⟩ := p
        rw [tc.1, List.take_length] at g2
        exact ⟨_, rfl, q H2 D rs s2 ⟨hD, hfr⟩ g2⟩
end
end Own

namespace Own
open PySem PySem.Spec PyProof.Rows L2
def rTupOf (K : PySem.W.Frag) : List V → Hp → VK → Prop := fun xs H Q => ∃ p ys, xs = [V.ref p] ∧ ((SqL K H p ys ∧ ∀ l, H l = none → Q (.ref l) (upd H l (.tup ys))) ∨ (SqT K H p ys ∧ Q (.ref p) H))
theorem cr_tupOf {X : Cx} : CallR X (.type "tuple") (rTupOf X.K) := call_tuple_of
/-- rows of zeros, being made -/
structure ZInv (Hb : Hp) (D : Addr) (m : Int) (i : Nat) (rs : List Addr) (H : Hp) : Prop where
  sm : Same Hb H
  at_ : H D = some (.lst (rs.map V.ref))
  len : rs.length = i
  nd : rs.Nodup
  out : D ∉ rs
  fr : ∀ r ∈ rs, Hb r = none
  row : ∀ (j : Nat) (r : Addr), rs[j]? = some r → H r = some (.lst (gl m fun _ => 0))
theorem ZInv.step {Hb H H1 : Hp} {D r : Addr} {m : Int} {i : Nat} {rs : List Addr} (z : ZInv Hb D m i rs H) (nD : Hb D = none) (s1 : Same H H1) (nr : H r = none) (er : H1 r = some (.lst (gl m fun _ => 0))) : ZInv Hb D m (i + 1) (rs ++ [r]) (upd H1 D (.lst (rs.map V.ref ++ [.ref r]))) := by
  have nrD : r ≠ D := fun e => by
    rw [e, z.at_] at nr
    cases nr
  have nin : r ∉ rs := fun mm => by
    obtain ⟨j, hj, ej⟩ := List.mem_iff_getElem.mp mm
    rw [z.row j r (by rw [List.getElem?_eq_getElem hj, ej])] at nr
    cases nr
  refine ⟨same_put (H1 := Hb) nD (z.sm.trans s1), ?_, ?_, ?_, ?_, ?_, ?_⟩
  · rw [upd_same, List.map_append]
    rfl
  · rw [List.length_append, z.len]
    rfl
  · exact List.nodup_append.mpr ⟨z.nd, by simp, fun a ha b hb e => nin (by rw [List.mem_singleton.mp hb] at e; rw [← e]; exact ha)⟩
  · intro mm
    rcases List.mem_append.mp mm with mm | mm
    · exact z.out mm
    · exact nrD (List.mem_singleton.mp mm).symm
  · intro u mm
    rcases List.mem_append.mp mm with mm | mm
    · exact z.fr u mm
    · rw [List.mem_singleton.mp mm]
      exact z.sm.free nr
  · intro j u e
    have hu : u ≠ D := fun e2 => by
      rcases List.mem_append.mp (List.mem_of_getElem? e) with mm | mm
      · exact z.out (by rw [← e2]; exact mm)
      · exact nrD ((List.mem_singleton.mp mm).symm.trans e2)
    rw [upd_ne hu]
    by_cases hj : j < rs.length
    · rw [List.getElem?_append_left hj] at e
      exact s1 _ _ (z.row j u e)
    · rw [List.getElem?_append_right (by omega)] at e
      obtain rfl : r = u := by
        cases hk : j - rs.length with
        | zero =>
          rw [hk] at e
          exact Option.some.inj e
        | succ k =>
          rw [hk] at e
          simp at e
      exact er
/-- a table: a tuple of tuples of ints -/
def TabAt (H : Hp) (a : Addr) (sz : Int) (f : Int → Int → Int) : Prop := ∃ vs, H a = some (.tup vs) ∧ vs.length = sz.toNat ∧ ∀ j : Nat, j < sz.toNat → ∃ r, vs[j]? = some (.ref r) ∧ H r = some (.tup (gl sz (f j)))
theorem TabAt.same {H H' : Hp} {a : Addr} {sz : Int} {f : Int → Int → Int} (s : Same H H') (h : TabAt H a sz f) : TabAt H' a sz f := by
  obtain ⟨vs, e, l, r⟩ := h
  refine ⟨vs, s _ _ e, l, fun j hj => ?_⟩
  obtain ⟨u, e1, e2⟩ := r j hj
  exact ⟨u, e1, s _ _ e2⟩
section
variable {P : Program} {w : World} {K : PySem.W.Frag} {mg : Str → Option Value} {base : Heap} {C : Addr}
def spTable : Sp := fun vs H Q _ => ∃ (n : Int) (c : Addr) (cs : List Tr), vs = [.int n, .ref c] ∧ 0 ≤ n ∧ n ≤ 1000 ∧ Trip H c cs ∧ Good n cs ∧ ∀ H' p, Same H H' → TabAt H' p (hi n 1) (tabE cs) → Q (.ref p) H'
theorem ok_table {f : Addr} {fd : FuncData} (F : Fun K "table_rows" "table_rows" s_table_rows f fd) (T : Bi mg) {f_c : Addr} {d_c : FuncData} (D_c : Df K mg "cord_grid" s_cord_grid ["pins", "cords"] f_c d_c) (G_c : FnOk P w K mg base CX0 1 f_c d_c ["pins", "cords"] spGrid)
    {f_z : Addr} {d_z : FuncData} (D_z : Df K mg "gaps" s_gaps ["pins"] f_z d_z) (G_z : FnOk P w K mg base CX0 1 f_z d_z ["pins"] spGaps) {f_s : Addr} {d_s : FuncData} (D_s : Df K mg "sums_before" s_sums_before ["row"] f_s d_s) (G_s : FnOk P w K mg base CX0 1 f_s d_s ["row"] (spSums K)) :
    FnOk P w K mg base CX0 2 f fd ["pins", "cords"] spTable := by
  refine F.ok sc_table_rows (fun vs H Q E h => ?_) (fun cdv A outer s H vs Q E hr h => ?_)
  · obtain ⟨n, c, cs, rfl, _⟩ := h
    rfl
  · obtain ⟨n, c, cs, rfl, n0, n1, hc, hG, q⟩ := h
    refine ⟨_, (pss_cons (ps_setLc (i := 2) (own := [("row", 8)]) (g := gName 8) (tt := tYes) rfl sc_table_rows.nd rfl rfl (sw_true rfl rfl rfl (by decide +kernel)) (pi_list (pe_call G_c hr (by rfl) D_c.g D_c.F.kp D_c.b .nil pass0 (pa_cons (pv 0) (pa_cons (pv 1) pa_nil)))) (blkOk_by (own := [("row", 8)]) (N := ["pins", "cords", "sums", "size", "rows", "i", "across", "j", "row", "_"]) (sc := defScope s_table_rows) (by decide +kernel)) (fun _ _ _ _ _ => (pg_name (i := 8) sc_table_rows.nd rfl (.inl rfl))) (fun _ _ _ _ _ => pts_nil) (fun _ _ _ _ _ => (show PE _ _ (tCall (spSums K) [] E0 (tCons (tVar 8) tNil)) from pe_call G_s (hr.mono (by decide)) (by rfl) D_s.g D_s.F.kp D_s.b .nil pass0 (pa_cons (pv 8) pa_nil))))
        (pss_cons (ps_set (i := 3) sc_table_rows.nd rfl (.inr rfl) (pe_call G_z hr (by rfl) D_z.g D_z.F.kp D_z.b .nil pass0 (pa_cons (pv 0) pa_nil)))
        (pss_cons (ps_setLc (i := 4) (own := [("_", 9)]) (g := gName 9) (tt := tYes) rfl sc_table_rows.nd rfl rfl (sw_true rfl rfl rfl (by decide +kernel)) (pi_range1 (by rfl) T.b_range (pa_cons (pv 3) pa_nil)) (blkOk_by (own := [("_", 9)]) (N := ["pins", "cords", "sums", "size", "rows", "i", "across", "j", "row", "_"]) (sc := defScope s_table_rows) (by decide +kernel)) (fun _ _ _ _ _ => (pg_name (i := 9) sc_table_rows.nd rfl (.inl rfl))) (fun _ _ _ _ _ => pts_nil) (fun _ _ _ _ _ => (pe_op op_rep (pe_lst (pa_cons pe_int pa_nil)) (pv 3))))
        (pss_cons (ps_for PassesOwn.never rfl (pi_range1 (by rfl) T.b_range (pa_cons (pv 3) pa_nil)) (pg_name (i := 5) sc_table_rows.nd rfl (.inl rfl))
        (pss_cons (ps_set (i := 6) sc_table_rows.nd rfl (.inl rfl) pe_int)
        (pss_one (ps_for PassesOwn.never rfl (pi_range2 (by rfl) T.b_range (pa_cons (pe_op op_add (pv 5) pe_int) (pa_cons (pv 3) pa_nil))) (pg_name (i := 7) sc_table_rows.nd rfl (.inl rfl))
        (pss_cons (ps_set (i := 6) sc_table_rows.nd rfl (.inl rfl) (pe_op op_sub (pe_op op_add (pv 6) (pe_ix (r := rIxL K) ix_list (pe_ix (r := rIxL K) ix_list (pv 2) (pv 7) (fun _ _ => rfl)) (pv 0) (fun _ _ => rfl))) (pe_op op_mul pe_int (pe_op op_sub (pe_ix (r := rIxL K) ix_list (pe_ix (r := rIxL K) ix_list (pv 2) (pv 7) (fun _ _ => rfl)) (pv 7) (fun _ _ => rfl)) (pe_ix (r := rIxL K) ix_list (pe_ix (r := rIxL K) ix_list (pv 2) (pv 7) (fun _ _ => rfl)) (pe_op op_add (pv 5) pe_int) (fun _ _ => rfl))))))
        (pss_cons (ps_asg (pv 6) (pg_sub (pe_ix (r := rIxL K) ix_list (pv 4) (pv 5) (fun _ _ => rfl)) (pv 7) set_list))
        (pss_one (ps_asg (pv 6) (pg_sub (pe_ix (r := rIxL K) ix_list (pv 4) (pv 7) (fun _ _ => rfl)) (pv 5) set_list)))))))))
        (pss_one (ps_ret (pe_callTy call_tuple_of (by rfl) T.b_tuple (by decide +kernel) (pa_cons (pe_lc (own := [("row", 8)]) (g := gName 8) (tt := tYes) rfl sc_table_rows.nd (pi_list (pv 4)) (blkOk_by (own := [("row", 8)]) (N := ["pins", "cords", "sums", "size", "rows", "i", "across", "j", "row", "_"]) (sc := defScope s_table_rows) (by decide +kernel)) (fun _ _ _ _ _ => (pg_name (i := 8) sc_table_rows.nd rfl (.inl rfl))) (fun _ _ _ _ _ => pts_nil) (fun _ _ _ _ _ => (pe_callTy (r := rTupOf K) cr_tupOf (by rfl) T.b_tuple (by decide +kernel) (pa_cons (pv 8) pa_nil)))) pa_nil)))))))), ?_⟩
    refine ⟨_, rfl, _, rfl, n, c, cs, rfl, n0, n1, hc, hG, fun H1 p0 rs0 s1 _ g1 => ⟨p0, rfl, ⟨_, .inl (.inl g1.at_)⟩, fun D hD => ?_⟩⟩
    -- sums
    refine lc_list (K := K) (a := p0) (xs := rs0.map V.ref) (fun i H2 => Same H1 H2 ∧ ∃ ss : List Addr, H2 D = some (.lst (ss.map V.ref)) ∧ ss.length = i ∧ D ∉ ss ∧ ∀ (j : Nat) (u : Addr), ss[j]? = some u → H2 u = some (.lst (gl (n + 1) fun x => pre (gr cs j) x.toNat))) ⟨same_upd hD, [], upd_same, rfl, by simp, by simp⟩ (fun i H2 _ p => .inl (.inl (p.1 _ _ g1.at_))) (fun i x H2 hxi p => ?_) (fun H2 p => ?_)
    · obtain ⟨s2, ss, eD, hlen, hout, hss⟩ := p
      obtain ⟨r, hri, rfl⟩ : ∃ r, rs0[i]? = some r ∧ x = .ref r := by
        rw [List.getElem?_map] at hxi
        cases e : rs0[i]? with
        | none => rw [e] at hxi; cases hxi
        | some r =>
          rw [e] at hxi
          exact ⟨r, rfl, (Option.some.inj hxi).symm⟩
      have hi0 : i < n.toNat := by
        rw [← g1.len]
        exact (List.getElem?_eq_some_iff.mp hri).1
      refine ⟨rfl, ?_⟩
      refine ⟨_, rfl, r, n, gr cs i, rfl, s2 _ _ (g1.row i r hri), n0, n1, fun H3 u s3 nu eu => ?_⟩
      have nuD : u ≠ D := fun z => by
        rw [z, eD] at nu
        cases nu
      refine ⟨_, s3 _ _ eD, ?_, same_put (H1 := H1) hD (s2.trans s3), ss ++ [u], ?_, ?_, ?_, ?_⟩
      · rw [List.length_map, hlen]
        exact small1000 (by omega)
      · rw [upd_same, List.map_append]
        rfl
      · rw [List.length_append, hlen]
        rfl
      · intro m
        rcases List.mem_append.mp m with m | m
        · exact hout m
        · exact nuD (List.mem_singleton.mp m).symm
      · intro j v e
        have hv : v ≠ D := fun e2 => by
          rcases List.mem_append.mp (List.mem_of_getElem? e) with m | m
          · exact hout (by rw [← e2]; exact m)
          · exact nuD ((List.mem_singleton.mp m).symm.trans e2)
        rw [upd_ne hv]
        by_cases hj : j < ss.length
        · rw [List.getElem?_append_left hj] at e
          exact s3 _ _ (hss j v e)
        · rw [List.getElem?_append_right (by omega)] at e
          have hk : j - ss.length = 0 := by
            cases hk : j - ss.length with
            | zero => rfl
            | succ k =>
              rw [hk] at e
              simp at e
          rw [hk] at e
          obtain rfl : u = v := Option.some.inj e
          have ej : j = i := by omega
          subst ej
          exact eu
    obtain ⟨s2, ss, eD, hlen, hout, hss⟩ := p
    rw [List.length_map, g1.len] at hlen
    -- size, rows
    refine ⟨_, rfl, n, rfl, ?_⟩
    have hsz := lo_hi n 1
    have hz0 : 1 ≤ hi n 1 ∧ hi n 1 ≤ 1000 ∧ (2 ≤ hi n 1 → hi n 1 = n) := by omega
    refine ⟨_, rfl, hi n 1, rfl, by omega, by omega, fun R hR => ?_⟩
    refine lc_range (lo := 0) (n := (hi n 1).toNat) (fun i H3 => ∃ rr, ZInv H2 R (hi n 1) i rr H3) ⟨[], same_upd hR, upd_same, rfl, List.nodup_nil, by simp, by simp, by simp⟩ (fun i H3 hi3 pv => ?_) (fun H3 pv => ?_)
    · obtain ⟨rr, z⟩ := pv
      refine ⟨rfl, ?_⟩
      refine ⟨by show 1 ≤ sizeLine; decide, fun l hl => ⟨_, rfl, l, hi n 1, _, rfl, rfl, upd_same, by omega, by omega, ?_, fun r nr => ?_⟩⟩
      · show 1 * (hi n 1).toNat ≤ sizeLine
        rw [Nat.one_mul]
        exact Nat.le_of_lt (small1000 (by omega))
      have sA : Same H3 (upd (upd H3 l (.lst [.int 0])) r (.lst (List.replicate (hi n 1).toNat [V.int 0]).flatten)) := (same_upd hl).trans (same_upd nr)
      refine ⟨_, sA _ _ z.at_, ?_, _, z.step hR sA ((same_upd (o := .lst [.int 0]) hl).free nr) ?_⟩
      · rw [List.length_map, z.len]
        exact small1000 (by omega)
      · rw [upd_same, rep_gl, gl_const]
    obtain ⟨rr, z⟩ := pv
    have gz : Grid H3 R rr (hi n 1) (hi n 1) (fun x y => if x ≠ y ∧ lo x y < 0 then tabE cs x y else 0) := by
      refine Grid.congr (f := fun _ _ => 0) ⟨z.at_, z.len, z.nd, z.out, fun j r e => z.row j r e⟩ fun x y x0 x1 y0 y1 => ?_
      have := lo_hi x y
      rw [if_neg (by omega)]
    generalize hsz2 : hi n 1 = sz at hz0 gz
    -- the places
    refine ⟨_, rfl, sz, rfl, by omega, by omega, for_range (lo := 0) (n := sz.toNat) (fun i σ H4 => (∃ y5 y6 y7 y8 y9, σ = [some (.int n), some (.ref c), some (.ref D), some (.int sz), some (.ref R), y5, y6, y7, y8, y9]) ∧ Same H2 H4 ∧ Grid H4 R rr sz sz (fun x y => if x ≠ y ∧ lo x y < (i : Int) then tabE cs x y else 0)) ⟨⟨none, none, none, none, none, rfl⟩, z.sm, gz⟩ (fun i σ H4 hi4 pv => ?_) (fun σ H4 pv => ?_)⟩
    · obtain ⟨⟨y5, y6, y7, y8, y9, rfl⟩, s4, g4⟩ := pv
      rw [Int.zero_add]
      refine ⟨_, rfl, _, _, rfl, rfl, _, rfl, (i : Int) + 1, sz, rfl, ⟨by omega, by omega, by omega, by omega⟩, for_range (lo := (i : Int) + 1) (n := (sz - ((i : Int) + 1)).toNat) (fun k σ H5 => (∃ y7, σ = [some (.int n), some (.ref c), some (.ref D), some (.int sz), some (.ref R), some (.int (i : Int)), some (.int (tabE cs i ((i : Int) + k))), y7, y8, y9]) ∧ Same H2 H5 ∧ Grid H5 R rr sz sz (fun x y => if x ≠ y ∧ (lo x y < (i : Int) ∨ (lo x y = (i : Int) ∧ hi x y < (i : Int) + 1 + k)) then tabE cs x y else 0)) ⟨⟨y7, ?_⟩, s4, ?_⟩ (fun k σ H5 hk pv => ?_) (fun σ H5 pv => ?_)⟩
      · rw [show ((i : Int) + ((0 : Nat) : Int)) = (i : Int) by omega, tabE_same]
        rfl
      · refine g4.congr fun x y x0 x1 y0 y1 => ?_
        have := lo_hi x y
        by_cases h : x ≠ y ∧ lo x y < (i : Int)
        · rw [if_pos h, if_pos ⟨h.1, .inl h.2⟩]
        · rw [if_neg h, if_neg (by omega)]
      · obtain ⟨⟨y7, rfl⟩, s5, g5⟩ := pv
        have hn : sz = n := hz0.2.2 (by omega)
        generalize hj : (i : Int) + 1 + (k : Int) = j
        have j0 : (i : Int) < j ∧ j < n := by omega
        have hsj : ∃ u, atI (ss.map V.ref) j = some (.ref u) ∧ H2 u = some (.lst (gl (n + 1) fun x => pre (gr cs j) x.toNat)) := by
          have hl2 : j.toNat < ss.length := by omega
          refine ⟨ss[j.toNat], at_of (j := j.toNat) (by omega) ?_, ?_⟩
          · rw [List.getElem?_map, List.getElem?_eq_getElem hl2]
            rfl
          · have := hss j.toNat _ (List.getElem?_eq_getElem hl2)
            rw [show ((j.toNat : Nat) : Int) = j by omega] at this
            exact this
        obtain ⟨u, au, hu⟩ := hsj
        have eD5 : SqL K H5 D (ss.map V.ref) := .inl (.inl (s5 _ _ eD))
        have eu5 : SqL K H5 u (gl (n + 1) fun x => pre (gr cs j) x.toNat) := .inl (.inl (s5 _ _ hu))
        refine ⟨_, rfl, _, rfl, _, rfl, D, _, j, _, rfl, rfl, eD5, au, _, rfl, u, _, n, _, rfl, rfl, eu5, gl_at _ (by omega) (by omega), _, _, rfl, rfl, ?_⟩
        refine ⟨_, rfl, _, rfl, D, _, j, _, rfl, rfl, eD5, au, _, rfl, u, _, j, _, rfl, rfl, eu5, gl_at _ (by omega) (by omega), ?_⟩
        refine ⟨_, rfl, _, rfl, D, _, j, _, rfl, rfl, eD5, au, _, rfl, _, _, rfl, rfl, u, _, _, _, rfl, rfl, eu5, gl_at _ (by omega) (by omega), _, _, rfl, rfl, _, _, rfl, rfl, .inl ⟨by decide, by decide⟩, _, _, rfl, rfl, ?_⟩
        have hval : tabE cs i ((i : Int) + k) + pre (gr cs j) n.toNat - 2 * (pre (gr cs j) j.toNat - pre (gr cs j) ((i : Int) + 1).toNat) = tabE cs i j := by
          rw [pre_gr hG, pre_gr hG, pre_gr hG, show ((n.toNat : Nat) : Int) = n by omega, show ((j.toNat : Nat) : Int) = j by omega, show ((((i : Int) + 1).toNat : Nat) : Int) = (i : Int) + 1 by omega,
            tabE_step hG (by omega) j0.1 j0.2, show (i : Int) + (k : Int) = j - 1 by omega]
        show (tSeq _ _) _ ([some (.int n), some (.ref c), some (.ref D), some (.int sz), some (.ref R), some (.int (i : Int)), some (.int (tabE cs i ((i : Int) + k) + pre (gr cs j) n.toNat - 2 * (pre (gr cs j) j.toNat - pre (gr cs j) ((i : Int) + 1).toNat))), some (.int j), y8, y9]) _
        rw [hval]
        obtain ⟨r1, e1, a1, h1⟩ := g5.get (a := (i : Int)) (by omega) (by omega)
        refine ⟨_, rfl, _, rfl, _, rfl, R, _, _, _, rfl, rfl, .inl (.inl g5.at_), a1, _, rfl, r1, _, _, _, rfl, rfl, h1, gl_ix _ (by omega) (by omega), ?_⟩
        have g6 := g5.set (v := tabE cs i j) (by omega) (show 0 ≤ j by omega) (by omega) e1
        have s6 := same_put (H1 := H2) (o := .lst ((gl sz (fun y => if (i : Int) ≠ y ∧ (lo i y < (i : Int) ∨ (lo i y = (i : Int) ∧ hi i y < (i : Int) + 1 + k)) then tabE cs i y else 0)).set j.toNat (.int (tabE cs i j)))) (z.fr r1 (List.mem_of_getElem? e1)) s5
        obtain ⟨r2, e2, a2, h2⟩ := g6.get (a := j) (by omega) (by omega)
        refine ⟨_, rfl, _, rfl, _, rfl, R, _, _, _, rfl, rfl, .inl (.inl g6.at_), a2, _, rfl, r2, _, _, _, rfl, rfl, h2, gl_ix _ (by omega) (by omega), ?_⟩
        have g7 := g6.set (v := tabE cs i j) (by omega) (show 0 ≤ (i : Int) by omega) (by omega) e2
        refine ⟨⟨some (.int j), ?_⟩, same_put (H1 := H2) (z.fr r2 (List.mem_of_getElem? e2)) s6, g7.congr fun x y x0 x1 y0 y1 => ?_⟩
        · rw [show (i : Int) + ((k + 1 : Nat) : Int) = j by omega]
        · have hxy := lo_hi x y
          by_cases q1 : x = j ∧ y = (i : Int)
          · rw [if_pos q1, if_pos (by omega), q1.1, q1.2, tabE_comm]
          · rw [if_neg q1]
            by_cases q2 : x = (i : Int) ∧ y = j
            · rw [if_pos q2, if_pos (by omega), q2.1, q2.2]
            · rw [if_neg q2]
              by_cases q3 : x ≠ y ∧ (lo x y < (i : Int) ∨ (lo x y = (i : Int) ∧ hi x y < (i : Int) + 1 + k))
              · rw [if_pos q3, if_pos (by omega)]
              · rw [if_neg q3, if_neg (by omega)]
      · obtain ⟨⟨y7, rfl⟩, s5, g5⟩ := pv
        refine ⟨⟨_, _, _, _, _, rfl⟩, s5, g5.congr fun x y x0 x1 y0 y1 => ?_⟩
        have hxy := lo_hi x y
        by_cases q3 : x ≠ y ∧ lo x y < ((i + 1 : Nat) : Int)
        · rw [if_pos q3, if_pos (by omega)]
        · rw [if_neg q3, if_neg (by omega)]
    -- the tuples
    obtain ⟨⟨y5, y6, y7, y8, y9, rfl⟩, s4, g4⟩ := pv
    have g5 : Grid H4 R rr sz sz (tabE cs) := g4.congr fun x y x0 x1 y0 y1 => by
      have hxy := lo_hi x y
      by_cases h : x = y
      · rw [if_neg (by omega), h, tabE_same]
      · rw [if_pos (by omega)]
    refine ⟨_, rfl, R, rfl, ⟨_, .inl (.inl g5.at_)⟩, fun O hO => ?_⟩
    refine lc_list (K := K) (a := R) (xs := rr.map V.ref) (fun i H5 => Same H4 H5 ∧ ∃ us : List Addr, H5 O = some (.lst (us.map V.ref)) ∧ us.length = i ∧ ∀ (j : Nat) (u : Addr), us[j]? = some u → H5 u = some (.tup (gl sz (tabE cs j)))) ⟨same_upd hO, [], upd_same, rfl, by simp⟩ (fun i H5 _ p => .inl (.inl (p.1 _ _ g5.at_))) (fun i x H5 hxi p => ?_) (fun H5 p => ?_)
    · obtain ⟨s5, us, eO, hul, hus⟩ := p
      obtain ⟨r, hri, rfl⟩ : ∃ r, rr[i]? = some r ∧ x = .ref r := by
        rw [List.getElem?_map] at hxi
        cases e : rr[i]? with
        | none => rw [e] at hxi; cases hxi
        | some r =>
          rw [e] at hxi
          exact ⟨r, rfl, (Option.some.inj hxi).symm⟩
      have hi0 : i < sz.toNat := by
        rw [← g5.len]
        exact (List.getElem?_eq_some_iff.mp hri).1
      refine ⟨rfl, ?_⟩
      refine ⟨_, rfl, r, _, rfl, .inl ⟨.inl (.inl (s5 _ _ (g5.row i r hri))), fun u nu => ?_⟩⟩
      have nuO : u ≠ O := fun z => by
        rw [z, eO] at nu
        cases nu
      refine ⟨_, same_upd nu _ _ eO, ?_, same_put (H1 := H4) hO (s5.trans (same_upd nu)), us ++ [u], ?_, ?_, ?_⟩
      · rw [List.length_map, hul]
        exact small1000 (by omega)
      · rw [upd_same, List.map_append]
        rfl
      · rw [List.length_append, hul]
        rfl
      · intro j v e
        by_cases hj : j < us.length
        · rw [List.getElem?_append_left hj] at e
          have h5 := hus j v e
          have hv : v ≠ O := fun z => by
            rw [z, eO] at h5
            cases h5
          rw [upd_ne hv]
          exact same_upd nu _ _ h5
        · rw [List.getElem?_append_right (by omega)] at e
          have hk : j - us.length = 0 := by
            cases hk : j - us.length with
            | zero => rfl
            | succ k =>
              rw [hk] at e
              simp at e
          rw [hk] at e
          obtain rfl : u = v := Option.some.inj e
          have ej : j = i := by omega
          subst ej
          rw [upd_ne nuO, upd_same]
    · obtain ⟨s5, us, eO, hul, hus⟩ := p
      rw [List.length_map, g5.len] at hul
      refine ⟨O, _, rfl, .inl ⟨.inl (.inl eO), fun a na => ?_⟩⟩
      refine q _ a ((((s1.trans s2).trans s4).trans s5).trans (same_upd na)) ⟨_, upd_same, ?_, fun j hj => ?_⟩
      · rw [List.length_map, hul, hsz2]
      · rw [hsz2] at hj
        have hj2 : j < us.length := by omega
        refine ⟨us[j], ?_, ?_⟩
        · rw [List.getElem?_map, List.getElem?_eq_getElem hj2]
          rfl
        · rw [hsz2]
          exact same_upd na _ _ (hus j _ (List.getElem?_eq_getElem hj2))
def spTab (C : Addr) : Sp := fun vs H Q _ => ∃ (p : Addr) (n : Int) (cs : List Tr), vs = [.ref p] ∧ LotAt C H p n cs ∧ 0 ≤ n ∧ n ≤ 1000 ∧ Good n cs ∧ ∀ H' u, Same H H' → TabAt H' u (hi n 1) (tabE cs) → Q (.ref u) H'
theorem ok_tab {f : Addr} {fd : FuncData} (F : Fun K "table" "Lot.table" s_Lot_table f fd) (T : Bi mg) (L : LotC K mg C) {f_t : Addr} {d_t : FuncData} (D_t : Df K mg "table_rows" s_table_rows ["pins", "cords"] f_t d_t) (G_t : FnOk P w K mg base CX0 2 f_t d_t ["pins", "cords"] spTable) : FnOk P w K mg base CX0 3 f fd ["self"] (spTab C) := by
  refine F.ok sc_Lot_table (fun vs H Q E h => ?_) (fun cdv A outer s H vs Q E hr h => ?_)
  · obtain ⟨p, n, cs, rfl, _⟩ := h
    rfl
  · obtain ⟨p, n, cs, rfl, hL, n0, n1, hG, q⟩ := h
    refine ⟨_, (pss_one (ps_ret (pe_call G_t hr (by rfl) D_t.g D_t.F.kp D_t.b .nil pass0 (pa_cons (pe_fld (pv 0) rfl) (pa_cons (pe_fld (pv 0) rfl) pa_nil))))), ?_⟩
    obtain ⟨dx, c, e, t⟩ := hL
    exact ⟨_, rfl, p, C, dx, _, _, rfl, e, L.cl, L.nP, flds_pins _ _, _, rfl, p, C, dx, _, _, rfl, e, L.cl, L.nC, flds_cords _ _, n, c, cs, rfl, n0, n1, t, hG, q⟩
end
end Own

namespace Own
open PySem PySem.Spec PyProof.Rows L2
section
variable {P : Program} {w : World} {K : PySem.W.Frag} {mg : Str → Option Value} {base : Heap} {C : Addr}
/-! ### the law's helpers: kinds, cells, digits -/
theorem ok_lwhole {f : Addr} {fd : FuncData} (F : Fun K "_law_whole" "_law_whole" s__law_whole f fd) (T : Bi mg) : FnOk P w K mg base CX0 1 f fd ["_law_value"] spWhole := by
  refine F.ok sc__law_whole (fun vs H Q E h => ?_) (fun cdv A outer s H vs Q E hr h => ?_)
  · obtain ⟨i, rfl, _⟩ := h
    rfl
  · obtain ⟨i, rfl, q⟩ := h
    refine ⟨_, (pss_one (ps_ret (pe_and (pe_callB call_isi (by rfl) T.b_isinstance (by decide +kernel) (pa_cons (pv 0) (pa_cons (pe_bltn (v := .ty "int") (by rfl) T.b_int (by decide +kernel) rfl) pa_nil))) (pe_one (pe_not (pe_callB call_isi (by rfl) T.b_isinstance (by decide +kernel) (pa_cons (pv 0) (pa_cons (pe_bltn (v := .ty "bool") (by rfl) T.b_bool (by decide +kernel) rfl) pa_nil)))))))), ?_⟩
    refine ⟨_, rfl, _, _, _, _, true, rfl, .ty "int", .base (.int i), kit_ty (by decide +kernel), true, rfl, ?_⟩
    exact ⟨_, rfl, _, _, _, _, false, rfl, .ty "bool", .base (.int i), kit_ty (by decide +kernel), false, rfl, q⟩
def spCell (K : PySem.W.Frag) : Sp := fun vs H Q _ => ∃ (l : Addr) (ns : List Int) (j : Nat), vs = [.ref l, .int (j : Int)] ∧ SqL K H l (ns.map V.int) ∧ j ≤ 100000 ∧ ns.length ≤ 1000 ∧ ∀ c : Int, Q (.int c) H
theorem ok_cell {f : Addr} {fd : FuncData} (F : Fun K "_law_cell" "_law_cell" s__law_cell f fd) (T : Bi mg) : FnOk P w K mg base CX0 1 f fd ["_law_script", "_law_k"] (spCell K) := by
  refine F.ok sc__law_cell (fun vs H Q E h => ?_) (fun cdv A outer s H vs Q E hr h => ?_)
  · obtain ⟨l, ns, j, rfl, _⟩ := h
    rfl
  · obtain ⟨l, ns, j, rfl, hs, hj, hn, q⟩ := h
    refine ⟨_, (pss_cons (ps_if (pt_cmpR op_lt (pv 1) (pe_callB call_len_seq (by rfl) T.b_len PySem.boot_len (pa_cons (pv 0) pa_nil)) (nomark _)) (pss_one (ps_ret (pe_ix (r := rIxL K) ix_list (pv 0) (pv 1) (fun _ _ => rfl)))) pss_nil)
        (pss_cons (ps_set (i := 2) sc__law_cell.nd rfl (.inl rfl) pe_int)
        (pss_cons (ps_for PassesOwn.never rfl (pi_list (pv 0)) (pg_name (i := 3) sc__law_cell.nd rfl (.inl rfl))
        (pss_one (ps_set (i := 2) sc__law_cell.nd rfl (.inl rfl) (pe_op op_mod (pe_callTy call_int1 (by rfl) T.b_int (by decide +kernel) (pa_cons (pe_op op_add (pe_op op_mul (pv 2) pe_int) (pe_op op_mod (pe_callTy call_int1 (by rfl) T.b_int (by decide +kernel) (pa_cons (pv 3) pa_nil)) pe_int)) pa_nil)) pe_int))))
        (pss_one (ps_ret (pe_op op_mod (pe_callTy call_int1 (by rfl) T.b_int (by decide +kernel) (pa_cons (pe_op op_mul (pe_op op_mul (pe_op op_add (pv 2) pe_int) (pe_op op_add (pv 1) pe_int)) pe_int) pa_nil)) pe_int)))))), ?_⟩
    refine ⟨_, rfl, _, rfl, l, _, rfl, .inl hs, _, _, rfl, rfl, _, rfl, ite2 (fun e => ?_) (fun e => ?_)⟩
    · have e1 : (j : Int) < ((ns.map V.int).length : Int) := of_decide_eq_true e
      rw [List.length_map] at e1
      have hj2 : j < ns.length := by omega
      have g : (ns.map V.int)[j]? = some (.int ns[j]) := by
        rw [List.getElem?_map, List.getElem?_eq_getElem hj2]
        rfl
      exact ⟨_, rfl, _, rfl, _, _, _, _, rfl, rfl, hs, atI_nat g, q _⟩
    · refine ⟨_, rfl, l, rfl, ⟨_, hs⟩, for_list (xs := ns.map V.int) (fun i σ H' => (∃ (z : Int) (y : Option V), 0 ≤ z ∧ z < 1000003 ∧ σ = [some (.ref l), some (.int (j : Int)), some (.int z), y]) ∧ H' = H) ⟨⟨17, none, by decide, by decide, rfl⟩, rfl⟩ (fun i σ H' _ p => by rw [p.2]; exact hs) (fun i x σ H' hx p => ?_) (fun σ H' p => ?_)⟩
      · obtain ⟨⟨z, y, z0, z1, rfl⟩, rfl⟩ := p
        obtain ⟨c, rfl⟩ : ∃ c, x = .int c := by
          rw [List.getElem?_map] at hx
          cases e2 : ns[i]? with
          | none => rw [e2] at hx; cases hx
          | some c =>
            rw [e2] at hx
            exact ⟨c, (Option.some.inj hx).symm⟩
        refine ⟨_, rfl, _, _, rfl, rfl, .inl ⟨by omega, by omega⟩, _, rfl, .inl ⟨_, rfl, _, _, rfl, rfl, by show (0 : Int) < 1000003; decide, _, _, rfl, rfl, .inl ⟨_, rfl, _, _, rfl, rfl, by show (0 : Int) < 1000003; decide, ?_⟩⟩⟩
        exact ⟨⟨_, _, Int.emod_nonneg _ (by decide), Int.emod_lt_of_pos _ (by decide), rfl⟩, rfl⟩
      · obtain ⟨⟨z, y, z0, z1, rfl⟩, rfl⟩ := p
        have hp : (z + 7) * ((j : Int) + 3) < 2 ^ 64 ∧ -(2 ^ 64) < (z + 7) * ((j : Int) + 3) := by
          have a1 : 0 ≤ z + 7 := by omega
          have a2 : z + 7 ≤ 1000010 := by omega
          have b1 : 0 ≤ (j : Int) + 3 := by omega
          have b2 : (j : Int) + 3 ≤ 100003 := by omega
          have c1 : (z + 7) * ((j : Int) + 3) ≤ 1000010 * 100003 := Int.mul_le_mul a2 b2 b1 (by decide)
          have c2 : 0 ≤ (z + 7) * ((j : Int) + 3) := Int.mul_nonneg a1 b1
          omega
        exact ⟨_, rfl, _, _, rfl, rfl, _, rfl, _, _, rfl, rfl, _, _, rfl, rfl, .inl ⟨by omega, by omega⟩, _, _, rfl, rfl, .inl ⟨hp.2, hp.1⟩, .inl ⟨_, rfl, _, _, rfl, rfl, by show (0 : Int) < 2147483647; decide, q _⟩⟩
/-- each digit lies below its size -/
def Digs (ds szs : List Int) : Prop := ds.length = szs.length ∧ ∀ (i : Nat) (d s : Int), ds[i]? = some d → szs[i]? = some s → 0 ≤ d ∧ d < s
theorem Digs.snoc {ds szs : List Int} {i : Nat} {d s : Int} (h : Digs ds (szs.take i)) (e : szs[i]? = some s) (h0 : 0 ≤ d) (h1 : d < s) : Digs (ds ++ [d]) (szs.take (i + 1)) := by
  have hi : i < szs.length := (List.getElem?_eq_some_iff.mp e).1
  have hl : ds.length = i := by
    rw [h.1, List.length_take]
    omega
  rw [List.take_add_one, e]
  refine ⟨by rw [List.length_append, List.length_append, h.1]; rfl, fun j x y hx hy => ?_⟩
  by_cases hj : j < i
  · rw [List.getElem?_append_left (by omega)] at hx
    rw [List.getElem?_append_left (by rw [List.length_take]; omega)] at hy
    exact h.2 j x y hx hy
  · rw [List.getElem?_append_right (by omega)] at hx
    rw [List.getElem?_append_right (by rw [List.length_take]; omega), List.length_take] at hy
    have hk : j - ds.length = 0 := by
      cases hk : j - ds.length with
      | zero => rfl
      | succ k =>
        rw [hk] at hx
        simp at hx
    rw [hk] at hx
    rw [show j - min i szs.length = 0 by omega] at hy
    obtain rfl : d = x := Option.some.inj hx
    obtain rfl : s = y := Option.some.inj hy
    exact ⟨h0, h1⟩
def spDigs (K : PySem.W.Frag) : Sp := fun vs H Q _ => ∃ (c : Int) (b : Addr) (szs : List Int), vs = [.int c, .ref b] ∧ SqL K H b (szs.map V.int) ∧ szs.length ≤ 1000 ∧ (∀ s ∈ szs, 0 < s ∧ s < 1073741824) ∧ ∀ H' p ds, Same H H' → H p = none → H' p = some (.lst (ds.map V.int)) → Digs ds szs → Q (.ref p) H'
theorem int_at {ns : List Int} {i : Nat} {x : V} (h : (ns.map V.int)[i]? = some x) : ∃ c, x = .int c ∧ ns[i]? = some c := by
  rw [List.getElem?_map] at h
  cases e : ns[i]? with
  | none => rw [e] at h; cases h
  | some c =>
    rw [e] at h
    exact ⟨c, (Option.some.inj h).symm, rfl⟩
theorem ok_digits {f : Addr} {fd : FuncData} (F : Fun K "_law_digits" "_law_digits" s__law_digits f fd) (T : Bi mg) : FnOk P w K mg base CX0 1 f fd ["_law_cell_here", "_law_sizes"] (spDigs K) := by
  refine F.ok sc__law_digits (fun vs H Q E h => ?_) (fun cdv A outer s H vs Q E hr h => ?_)
  · obtain ⟨c, b, szs, rfl, _⟩ := h
    rfl
  · obtain ⟨c, b, szs, rfl, hb, hl, hsz, q⟩ := h
    refine ⟨_, (pss_cons (ps_set (i := 2) sc__law_digits.nd rfl (.inl rfl) (pe_lst pa_nil))
        (pss_cons (ps_set (i := 3) sc__law_digits.nd rfl (.inl rfl) (pe_callTy call_int1 (by rfl) T.b_int (by decide +kernel) (pa_cons (pv 0) pa_nil)))
        (pss_cons (ps_if (pt_cmpR op_ge (pv 3) (pe_op op_pow pe_int pe_int) (nomark _)) (pss_cons (ps_set (i := 3) sc__law_digits.nd rfl (.inl rfl) (pe_op op_sub (pv 3) (pe_op op_pow pe_int pe_int)))
        (pss_cons (ps_for PassesOwn.never rfl (pi_list (pv 1)) (pg_name (i := 6) sc__law_digits.nd rfl (.inl rfl))
        (pss_cons (ps_expr (pe_bm PySem.F.plainAttrs_list PySem.F.slot_list_append PySem.F.type_list_append mt_append (pv 2) (pa_cons (pe_op op_modN (pe_callTy call_int1 (by rfl) T.b_int (by decide +kernel) (pa_cons (pv 3) pa_nil)) (pv 6)) pa_nil)))
        (pss_one (ps_set (i := 3) sc__law_digits.nd rfl (.inl rfl) (pe_op op_fdivN (pe_callTy call_int1 (by rfl) T.b_int (by decide +kernel) (pa_cons (pv 3) pa_nil)) (pv 6))))))
        (pss_one (ps_ret (pv 2))))) pss_nil)
        (pss_cons (ps_set (i := 4) sc__law_digits.nd rfl (.inl rfl) (pe_op op_mod (pe_callTy call_int1 (by rfl) T.b_int (by decide +kernel) (pa_cons (pv 3) pa_nil)) pe_int))
        (pss_cons (ps_for PassesOwn.never rfl (pi_range1 (by rfl) T.b_range (pa_cons (pe_callB call_len_seq (by rfl) T.b_len PySem.boot_len (pa_cons (pv 1) pa_nil)) pa_nil)) (pg_name (i := 5) sc__law_digits.nd rfl (.inl rfl))
        (pss_cons (ps_set (i := 4) sc__law_digits.nd rfl (.inl rfl) (pe_op op_mod (pe_callTy call_int1 (by rfl) T.b_int (by decide +kernel) (pa_cons (pe_op op_add (pe_op op_add (pe_op op_mul (pv 4) pe_int) (pe_op op_mul pe_int (pv 5))) pe_int) pa_nil)) pe_int))
        (pss_cons (ps_set (i := 7) sc__law_digits.nd rfl (.inl rfl) (pe_op op_mod (pe_callTy call_int1 (by rfl) T.b_int (by decide +kernel) (pa_cons (pe_op op_mul (pv 4) (pe_op op_add (pe_op op_fdiv (pv 4) pe_int) pe_int)) pa_nil)) pe_int))
        (pss_one (ps_expr (pe_bm PySem.F.plainAttrs_list PySem.F.slot_list_append PySem.F.type_list_append mt_append (pv 2) (pa_cons (pe_op op_modN (pe_op op_fdiv (pv 7) pe_int) (pe_ix (r := rIxL K) ix_list (pv 1) (pv 5) (fun _ _ => rfl))) pa_nil)))))))
        (pss_one (ps_ret (pv 2)))))))), ?_⟩
    refine ⟨Nat.zero_le _, fun p np => ?_⟩
    have sp : Same H (upd H p (.lst [])) := same_upd np
    refine ⟨_, rfl, .inl ⟨_, rfl, ?_⟩⟩
    refine ⟨_, rfl, _, _, rfl, rfl, ⟨by decide, by decide, by decide⟩, _, _, rfl, rfl, _, rfl, ite2 (fun e => ?_) (fun e => ?_)⟩
    · refine ⟨_, rfl, _, _, rfl, rfl, ⟨by decide, by decide, by decide⟩, _, _, rfl, rfl, ?_⟩
      refine ⟨_, rfl, b, rfl, ⟨_, sp.seq hb⟩, for_list (xs := szs.map V.int) (fun i σ H' => (∃ (z : Int) (ds : List Int) (y4 y5 y6 y7 : Option V), σ = [some (.int c), some (.ref b), some (.ref p), some (.int z), y4, y5, y6, y7] ∧ H' = upd H p (.lst (ds.map V.int)) ∧ Digs ds (szs.take i))) ⟨_, [], _, _, _, _, rfl, rfl, rfl, fun j d s h => by simp at h⟩ (fun i σ H' _ p => by obtain ⟨_, _, _, _, _, _, _, rfl, _⟩ := p; exact (same_upd np).seq hb) (fun i x σ H' hx pv => ?_) (fun σ H' pv => ?_)⟩
      · obtain ⟨z, ds, y4, y5, y6, y7, rfl, rfl, dg⟩ := pv
        obtain ⟨sz, rfl, hsi⟩ := int_at hx
        have hs := hsz sz (List.mem_of_getElem? hsi)
        have hi : i < szs.length := (List.getElem?_eq_some_iff.mp hsi).1
        refine ⟨_, rfl, .inl ⟨rfl, _, .inl (.inl upd_same)⟩, _, rfl, .inl ⟨_, rfl, _, rfl, _, _, rfl, rfl, by omega, p, _, _, rfl, rfl, upd_same, ?_, ?_⟩⟩
        · rw [List.length_map, dg.1, List.length_take]
          exact Nat.lt_of_le_of_lt (Nat.min_le_right _ _) (small1000 hl)
        refine ⟨_, rfl, .inl ⟨_, rfl, _, rfl, _, _, rfl, rfl, ⟨by omega, by omega⟩, ?_⟩⟩
        have hm := fmod_in z hs.1
        refine ⟨_, ds ++ [z.fmod sz], _, _, _, _, rfl, ?_, dg.snoc hsi hm.1 hm.2⟩
        rw [upd_upd, List.map_append]
        rfl
      · obtain ⟨z, ds, y4, y5, y6, y7, rfl, rfl, dg⟩ := pv
        rw [List.length_map, List.take_length] at dg
        exact ⟨_, rfl, q _ p ds (same_upd np) np upd_same dg⟩
    · refine ⟨_, rfl, .inl ⟨_, rfl, _, _, rfl, rfl, by show (0 : Int) < 2147483629; decide, ?_⟩⟩
      refine ⟨_, rfl, b, _, rfl, .inl (sp.seq hb), _, rfl, by omega, by rw [List.length_map]; omega, ?_⟩
      rw [show ((szs.map V.int).length : Int).toNat = szs.length by rw [List.length_map]; omega]
      refine for_range (lo := 0) (n := szs.length) (fun i σ H' => (∃ (z : Int) (ds : List Int) (y3 y4 y6 y7 : Option V), 0 ≤ z ∧ z < 2147483647 ∧ σ = [some (.int c), some (.ref b), some (.ref p), y3, some (.int z), y4, y6, y7] ∧ H' = upd H p (.lst (ds.map V.int)) ∧ Digs ds (szs.take i))) ⟨_, [], _, _, _, _, Int.emod_nonneg _ (by decide), Int.lt_of_lt_of_le (Int.emod_lt_of_pos _ (by decide)) (by decide), rfl, rfl, rfl, fun j d s h => by simp at h⟩ (fun i σ H' hi pv => ?_) (fun σ H' pv => ?_)
      · obtain ⟨z, ds, y3, y4, y6, y7, z0, z1, rfl, rfl, dg⟩ := pv
        have hsi : szs[i]? = some szs[i] := List.getElem?_eq_getElem hi
        have hs := hsz szs[i] (List.mem_of_getElem? hsi)
        generalize szs[i] = sz at hsi hs
        refine ⟨_, rfl, _, _, rfl, rfl, .inl ⟨by omega, by omega⟩, _, rfl, _, _, rfl, rfl, .inl ⟨by decide, by decide⟩, _, _, rfl, rfl, _, _, rfl, rfl, .inl ⟨_, rfl, _, _, rfl, rfl, by show (0 : Int) < 2147483647; decide, ?_⟩⟩
        generalize hz : (z * 48271 + 974711 * (0 + (i : Int)) + 12345) % 2147483647 = z2
        have z20 : 0 ≤ z2 := by rw [← hz]; exact Int.emod_nonneg _ (by decide)
        have z21 : z2 < 2147483647 := by rw [← hz]; exact Int.emod_lt_of_pos _ (by decide)
        refine ⟨_, rfl, _, rfl, _, _, rfl, rfl, ⟨by decide, by decide⟩, _, _, rfl, rfl, _, _, rfl, rfl, .inl ⟨?_, ?_⟩, .inl ⟨_, rfl, _, _, rfl, rfl, by show (0 : Int) < 2147483629; decide, ?_⟩⟩
        · show -(2 ^ 64) < (z * 48271 + 974711 * (0 + (i : Int)) + 12345) % 2147483647
          rw [hz]
          omega
        · show (z * 48271 + 974711 * (0 + (i : Int)) + 12345) % 2147483647 < 2 ^ 64
          rw [hz]
          omega
        refine ⟨_, rfl, .inl ⟨rfl, _, .inl (.inl upd_same)⟩, _, rfl, _, _, rfl, rfl, ⟨by decide, by decide⟩, _, rfl, _, rfl, b, _, _, _, rfl, rfl, (same_upd np).seq hb, at_of (j := i) (by omega) (by rw [List.getElem?_map, hsi]; rfl), _, _, rfl, rfl, by omega, p, _, _, rfl, rfl, upd_same, ?_, ?_⟩
        · rw [List.length_map, dg.1, List.length_take]
          exact Nat.lt_of_le_of_lt (Nat.min_le_right _ _) (small1000 hl)
        have hm := fun x : Int => fmod_in x hs.1
        refine ⟨_, ds ++ [((((z * 48271 + 974711 * (0 + (i : Int)) + 12345) % 2147483647) * (((z * 48271 + 974711 * (0 + (i : Int)) + 12345) % 2147483647) / 65537 + 3)) % 2147483629 / 19).fmod sz], _, _, _, _, ?_, ?_, rfl, ?_, dg.snoc hsi (hm _).1 (hm _).2⟩
        · exact Int.emod_nonneg _ (by decide)
        · exact Int.emod_lt_of_pos _ (by decide)
        · rw [upd_upd, List.map_append]
          rfl
      · obtain ⟨z, ds, y3, y4, y6, y7, z0, z1, rfl, rfl, dg⟩ := pv
        rw [List.take_length] at dg
        exact ⟨_, rfl, q _ p ds (same_upd np) np upd_same dg⟩
end
end Own

namespace Own
open PySem PySem.Spec PyProof.Rows L2
/-- an item of a list or of a tuple -/
def rIxB (K : PySem.W.Frag) : R2 := fun x y H Q => ∃ p xs i v, x = .ref p ∧ y = .int i ∧ SqB K H p xs ∧ atI xs i = some v ∧ Q v H
theorem ix_seqB {X : Cx} : IxR X (rIxB X.K) := by
  intro value slice pins s σ H x y v u Q I rx ry h hs
  obtain ⟨p, xs, i, z, rfl, rfl, hB, ha, q⟩ := h
  rcases hB with hB | hB
  · exact ix_list value slice pins s σ H _ _ v u Q I rx ry ⟨p, xs, i, z, rfl, rfl, hB, ha, q⟩ hs
  · exact ix_tup value slice pins s σ H _ _ v u Q I rx ry ⟨p, xs, i, z, rfl, rfl, hB, ha, q⟩ hs
/-- the same data, nested at most so deep: ints, truth values, None, tuples and lists -/
def EqV : Nat → Hp → V → V → Prop
  | 0, _, x, y => (∃ i : Int, x = .int i ∧ y = .int i) ∨ (∃ b : Bool, x = .bl b ∧ y = .bl b) ∨ (x = .non ∧ y = .non)
  | d + 1, H, x, y => EqV d H x y ∨ ∃ (a b : Addr) (vs us : List V), x = .ref a ∧ y = .ref b ∧ ((H a = some (.tup vs) ∧ H b = some (.tup us)) ∨ (H a = some (.lst vs) ∧ H b = some (.lst us))) ∧ vs.length = us.length ∧ us.length ≤ 1000 ∧ ∀ (i : Nat) (x y : V), vs[i]? = some x → us[i]? = some y → EqV d H x y
theorem EqV.up {d : Nat} {H : Hp} {x y : V} (h : EqV d H x y) : EqV (d + 1) H x y := .inl h
theorem EqV.le {d e : Nat} {H : Hp} {x y : V} (h : EqV d H x y) (l : d ≤ e) : EqV e H x y := by
  induction l with
  | refl => exact h
  | step _ ih => exact .inl ih
theorem EqV.int {d : Nat} {H : Hp} (i : Int) : EqV d H (.int i) (.int i) := EqV.le (d := 0) (.inl ⟨i, rfl, rfl⟩) (Nat.zero_le _)
theorem EqV.bl {d : Nat} {H : Hp} (b : Bool) : EqV d H (.bl b) (.bl b) := EqV.le (d := 0) (.inr (.inl ⟨b, rfl, rfl⟩)) (Nat.zero_le _)
theorem EqV.non {d : Nat} {H : Hp} : EqV d H .non .non := EqV.le (d := 0) (.inr (.inr ⟨rfl, rfl⟩)) (Nat.zero_le _)
theorem EqV.cases' {d : Nat} {H : Hp} {x y : V} (h : EqV d H x y) : EqV 0 H x y ∨ ∃ (e : Nat) (a b : Addr) (vs us : List V), e + 1 ≤ d ∧ x = .ref a ∧ y = .ref b ∧ ((H a = some (.tup vs) ∧ H b = some (.tup us)) ∨ (H a = some (.lst vs) ∧ H b = some (.lst us))) ∧ vs.length = us.length ∧ us.length ≤ 1000 ∧ ∀ (i : Nat) (x y : V), vs[i]? = some x → us[i]? = some y → EqV e H x y := by
  induction d with
  | zero => exact .inl h
  | succ d ih =>
    rcases h with h | ⟨a, b, vs, us, h⟩
    · rcases ih h with h | ⟨e, a, b, vs, us, he, h⟩
      · exact .inl h
      · exact .inr ⟨e, a, b, vs, us, Nat.le_succ_of_le he, h⟩
    · exact .inr ⟨d, a, b, vs, us, Nat.le_refl _, h⟩
/-- tuples of ints -/
theorem EqV.ints {H : Hp} {a b : Addr} {ns : List Int} (ha : H a = some (.tup (ns.map V.int))) (hb : H b = some (.tup (ns.map V.int))) (hl : ns.length ≤ 1000) : EqV 1 H (.ref a) (.ref b) := by
  refine .inr ⟨a, b, _, _, rfl, rfl, .inl ⟨ha, hb⟩, rfl, by rw [List.length_map]; exact hl, fun i x y hx hy => ?_⟩
  rw [hx] at hy
  obtain rfl : x = y := Option.some.inj hy
  rw [List.getElem?_map] at hx
  cases e : ns[i]? with
  | none => rw [e] at hx; cases hx
  | some n =>
    rw [e] at hx
    cases hx
    exact EqV.int n
theorem EqV.tr {H : Hp} {a b : Addr} {t : Tr} (ha : H a = some (.tup (tv t))) (hb : H b = some (.tup (tv t))) : EqV 1 H (.ref a) (.ref b) := EqV.ints (ns := [t.1, t.2.1, t.2.2]) ha hb (by show 3 ≤ 1000; decide)
theorem EqV.trip {H : Hp} {a b : Addr} {l : List Tr} (ha : Trip H a l) (hb : Trip H b l) (hl : l.length ≤ 1000) : EqV 2 H (.ref a) (.ref b) := by
  obtain ⟨vs, e1, t1⟩ := ha
  obtain ⟨us, e2, t2⟩ := hb
  refine .inr ⟨a, b, vs, us, rfl, rfl, .inl ⟨e1, e2⟩, by rw [t1.1, t2.1], by rw [t2.1]; exact hl, fun i x y hx hy => ?_⟩
  obtain ⟨p, t, rfl, h1, h2⟩ := t1.at_ hx
  obtain ⟨q, u, rfl, h3, h4⟩ := t2.at_ hy
  rw [h1] at h3
  obtain rfl : t = u := Option.some.inj h3
  exact EqV.tr h2 h4
section
variable {P : Program} {w : World} {K : PySem.W.Frag} {mg : Str → Option Value} {base : Heap} {C : Addr}
def spSame (d : Nat) : Sp := fun vs H Q _ => ∃ x y : V, vs = [x, y] ∧ EqV d H x y ∧ Q (.bl true) H
def spNo : Sp := fun _ _ _ _ => False
theorem fn_no {k : Nat} {f : Addr} {fd : FuncData} {ps : List Str} : FnOk P w K mg base CX0 k f fd ps spNo := ⟨fun _ _ _ _ h => h.elim, fun _ _ _ _ _ _ _ _ _ _ _ _ _ h => h.elim⟩
/-- its body, with any promise for the call within -/
theorem same_body {f : Addr} {fd : FuncData} {k : Nat} {sp : Sp} {d : Nat} (D_s : Df K mg "_law_same" s__law_same ["_law_value", "_law_due"] f fd) (T : Bi mg) {f_w : Addr} {d_w : FuncData} (D_w : Df K mg "_law_whole" s__law_whole ["_law_value"] f_w d_w) (G_w : FnOk P w K mg base CX0 1 f_w d_w ["_law_value"] spWhole)
    (G_s : FnOk P w K mg base CX0 (k + 1) f fd ["_law_value", "_law_due"] sp) (hsp : ∀ e x y H Q, e + 1 ≤ d → EqV e H x y → Q (.bl true) H → sp [x, y] H Q E0) : FnOk P w K mg base CX0 (k + 2) f fd ["_law_value", "_law_due"] (spSame d) := by
  refine D_s.F.ok sc__law_same (fun vs H Q E h => ?_) (fun cdv A outer s H vs Q E hr h => ?_)
  · obtain ⟨x, y, rfl, _⟩ := h
    rfl
  · obtain ⟨x, y, rfl, hxy, q⟩ := h
    refine ⟨_, (pss_cons (ps_if (pt_cmpR op_isN (pv 1) pe_non (nomark _)) (pss_one (ps_ret (pe_cmpR op_isN (pv 0) pe_non (nomark _)))) pss_nil)
        (pss_cons (ps_if (pt_val (pe_callB call_isi (by rfl) T.b_isinstance (by decide +kernel) (pa_cons (pv 1) (pa_cons (pe_bltn (v := .ty "bool") (by rfl) T.b_bool (by decide +kernel) rfl) pa_nil)))) (pss_one (ps_ret (pe_and (pe_callB call_isi (by rfl) T.b_isinstance (by decide +kernel) (pa_cons (pv 0) (pa_cons (pe_bltn (v := .ty "bool") (by rfl) T.b_bool (by decide +kernel) rfl) pa_nil))) (pe_one (pe_cmpR op_eq (pv 0) (pv 1) (nomark _)))))) pss_nil)
        (pss_cons (ps_if (pt_val (pe_callB call_isi (by rfl) T.b_isinstance (by decide +kernel) (pa_cons (pv 1) (pa_cons (pe_bltn (v := .ty "int") (by rfl) T.b_int (by decide +kernel) rfl) pa_nil)))) (pss_one (ps_ret (pe_and (pe_call G_w (hr.mono (by omega)) (by rfl) D_w.g D_w.F.kp D_w.b .nil pass0 (pa_cons (pv 0) pa_nil)) (pe_one (pe_cmpR op_eq (pv 0) (pv 1) (nomark _)))))) pss_nil)
        (pss_cons (ps_if (pt_val (pe_callB call_isi (by rfl) T.b_isinstance (by decide +kernel) (pa_cons (pv 1) (pa_cons (pe_bltn (v := .ty "str") (by rfl) T.b_str (by decide +kernel) rfl) pa_nil)))) (pss_one (ps_ret (pe_and (pe_callB call_isi (by rfl) T.b_isinstance (by decide +kernel) (pa_cons (pv 0) (pa_cons (pe_bltn (v := .ty "str") (by rfl) T.b_str (by decide +kernel) rfl) pa_nil))) (pe_one (pe_cmpR op_eq (pv 0) (pv 1) (nomark _)))))) pss_nil)
        (pss_cons (ps_if (PW.pt (pw_and (pt_val (pe_callB call_isi (by rfl) T.b_isinstance (by decide +kernel) (pa_cons (pv 1) (pa_cons (pe_bltn (v := .ty "list") (by rfl) T.b_list (by decide +kernel) rfl) pa_nil)))) (pw_and1 (pt_not (pt_val (pe_callB call_isi (by rfl) T.b_isinstance (by decide +kernel) (pa_cons (pv 0) (pa_cons (pe_bltn (v := .ty "list") (by rfl) T.b_list (by decide +kernel) rfl) pa_nil)))))))) (pss_one (ps_ret pe_bl)) pss_nil)
        (pss_cons (ps_if (PW.pt (pw_and (pt_val (pe_callB call_isi (by rfl) T.b_isinstance (by decide +kernel) (pa_cons (pv 1) (pa_cons (pe_bltn (v := .ty "tuple") (by rfl) T.b_tuple (by decide +kernel) rfl) pa_nil)))) (pw_and1 (pt_not (pt_val (pe_callB call_isi (by rfl) T.b_isinstance (by decide +kernel) (pa_cons (pv 0) (pa_cons (pe_bltn (v := .ty "tuple") (by rfl) T.b_tuple (by decide +kernel) rfl) pa_nil)))))))) (pss_one (ps_ret pe_bl)) pss_nil)
        (pss_cons (ps_if (pt_cmpR op_ne (pe_callB call_len_seq (by rfl) T.b_len PySem.boot_len (pa_cons (pv 0) pa_nil)) (pe_callB call_len_seq (by rfl) T.b_len PySem.boot_len (pa_cons (pv 1) pa_nil)) (nomark _)) (pss_one (ps_ret pe_bl)) pss_nil)
        (pss_cons (ps_for PassesOwn.never rfl (pi_range1 (by rfl) T.b_range (pa_cons (pe_callB call_len_seq (by rfl) T.b_len PySem.boot_len (pa_cons (pv 1) pa_nil)) pa_nil)) (pg_name (i := 2) sc__law_same.nd rfl (.inl rfl))
        (pss_one (ps_if (pt_not (pt_val (pe_call G_s hr (by rfl) D_s.g D_s.F.kp D_s.b .nil pass0 (pa_cons (pe_ix (r := rIxB K) ix_seqB (pv 0) (pv 2) (fun _ _ => rfl)) (pa_cons (pe_ix (r := rIxB K) ix_seqB (pv 1) (pv 2) (fun _ _ => rfl)) pa_nil))))) (pss_one (ps_ret pe_bl)) pss_nil)))
        (pss_one (ps_ret pe_bl)))))))))), ?_⟩
    rcases hxy.cases' with (⟨i, rfl, rfl⟩ | ⟨b, rfl, rfl⟩ | ⟨rfl, rfl⟩) | ⟨e, a, b, vs, us, hle, rfl, rfl, hab, hlen, hl, hel⟩
    · refine ⟨_, rfl, rfl, _, rfl, ?_⟩
      refine ⟨_, rfl, _, _, _, _, false, rfl, .ty "bool", .base (.int i), kit_ty (by decide +kernel), false, rfl, ?_⟩
      refine ⟨_, rfl, _, _, _, _, true, rfl, .ty "int", .base (.int i), kit_ty (by decide +kernel), true, rfl, ?_⟩
      refine ⟨_, rfl, i, rfl, true, rfl, ?_⟩
      refine ⟨_, rfl, _, rfl, rfl, ?_⟩
      rw [decide_eq_true rfl]
      exact q
    · refine ⟨_, rfl, rfl, _, rfl, ?_⟩
      refine ⟨_, rfl, _, _, _, _, true, rfl, .ty "bool", .base (.bl b), kit_ty (by decide +kernel), true, rfl, ?_⟩
      refine ⟨_, rfl, _, _, _, _, true, rfl, .ty "bool", .base (.bl b), kit_ty (by decide +kernel), true, rfl, ?_⟩
      refine ⟨_, rfl, _, rfl, rfl, ?_⟩
      rw [decide_eq_true rfl]
      exact q
    · refine ⟨_, rfl, rfl, _, rfl, ?_⟩
      exact ⟨_, rfl, rfl, q⟩
    · rcases hab with ⟨ha, hb⟩ | ⟨ha, hb⟩
      · have tA : TyX K H (.ref a) (.type "tuple") := .base (.tup ha)
        have tB : TyX K H (.ref b) (.type "tuple") := .base (.tup hb)
        have qA : SqB K H a vs := .inr (.inl (.inl ha))
        have qB : SqB K H b us := .inr (.inl (.inl hb))
        refine ⟨_, rfl, rfl, _, rfl, ?_⟩
        refine ⟨_, rfl, _, _, _, _, false, rfl, .ty "bool", tB, kit_ty (by decide +kernel), false, rfl, ?_⟩
        refine ⟨_, rfl, _, _, _, _, false, rfl, .ty "int", tB, kit_ty (by decide +kernel), false, rfl, ?_⟩
        refine ⟨_, rfl, _, _, _, _, false, rfl, .ty "str", tB, kit_ty (by decide +kernel), false, rfl, ?_⟩
        refine ⟨_, rfl, _, _, _, _, false, rfl, .ty "list", tB, kit_ty (by decide +kernel), false, rfl, ?_⟩
        refine ⟨_, rfl, _, _, _, _, true, rfl, .ty "tuple", tB, kit_ty (by decide +kernel), true, rfl, ?_⟩
        refine ⟨_, rfl, _, _, _, _, true, rfl, .ty "tuple", tA, kit_ty (by decide +kernel), true, rfl, ?_⟩
        refine ⟨_, rfl, a, _, rfl, qA, _, rfl, b, _, rfl, qB, rfl, _, rfl, ?_⟩
        rw [hlen]
        refine iteNS rfl ?_
        refine ⟨_, rfl, b, _, rfl, qB, _, rfl, by omega, by omega, ?_⟩
        rw [show ((us.length : Int)).toNat = us.length by omega]
        refine for_range (lo := 0) (n := us.length) (fun i σ H' => (∃ y2, σ = [some (.ref a), some (.ref b), y2]) ∧ H' = H) ⟨⟨_, rfl⟩, rfl⟩ (fun i σ H' hi p => ?_) (fun σ H' p => ?_)
        · obtain ⟨⟨y2, rfl⟩, rfl⟩ := p
          have hv : vs[i]? = some vs[i] := List.getElem?_eq_getElem (by omega)
          have hu : us[i]? = some us[i] := List.getElem?_eq_getElem hi
          refine ⟨_, rfl, _, rfl, a, _, _, _, rfl, rfl, qA, at_of (j := i) (by omega) hv, _, rfl, _, rfl, b, _, _, _, rfl, rfl, qB, at_of (j := i) (by omega) hu, ?_⟩
          exact hsp e _ _ _ _ hle (hel i _ _ hv hu) ⟨true, rfl, ⟨_, rfl⟩, rfl⟩
        · obtain ⟨_, rfl⟩ := p
          exact q
      · have tA : TyX K H (.ref a) (.type "list") := .base (.lst ha)
        have tB : TyX K H (.ref b) (.type "list") := .base (.lst hb)
        have qA : SqB K H a vs := .inl (.inl (.inl ha))
        have qB : SqB K H b us := .inl (.inl (.inl hb))
        refine ⟨_, rfl, rfl, _, rfl, ?_⟩
        refine ⟨_, rfl, _, _, _, _, false, rfl, .ty "bool", tB, kit_ty (by decide +kernel), false, rfl, ?_⟩
        refine ⟨_, rfl, _, _, _, _, false, rfl, .ty "int", tB, kit_ty (by decide +kernel), false, rfl, ?_⟩
        refine ⟨_, rfl, _, _, _, _, false, rfl, .ty "str", tB, kit_ty (by decide +kernel), false, rfl, ?_⟩
        refine ⟨_, rfl, _, _, _, _, true, rfl, .ty "list", tB, kit_ty (by decide +kernel), true, rfl, ?_⟩
        refine ⟨_, rfl, _, _, _, _, true, rfl, .ty "list", tA, kit_ty (by decide +kernel), true, rfl, ?_⟩
        refine ⟨_, rfl, _, _, _, _, false, rfl, .ty "tuple", tB, kit_ty (by decide +kernel), false, rfl, ?_⟩
        refine ⟨_, rfl, a, _, rfl, qA, _, rfl, b, _, rfl, qB, rfl, _, rfl, ?_⟩
        rw [hlen]
        refine iteNS rfl ?_
        refine ⟨_, rfl, b, _, rfl, qB, _, rfl, by omega, by omega, ?_⟩
        rw [show ((us.length : Int)).toNat = us.length by omega]
        refine for_range (lo := 0) (n := us.length) (fun i σ H' => (∃ y2, σ = [some (.ref a), some (.ref b), y2]) ∧ H' = H) ⟨⟨_, rfl⟩, rfl⟩ (fun i σ H' hi p => ?_) (fun σ H' p => ?_)
        · obtain ⟨⟨y2, rfl⟩, rfl⟩ := p
          have hv : vs[i]? = some vs[i] := List.getElem?_eq_getElem (by omega)
          have hu : us[i]? = some us[i] := List.getElem?_eq_getElem hi
          refine ⟨_, rfl, _, rfl, a, _, _, _, rfl, rfl, qA, at_of (j := i) (by omega) hv, _, rfl, _, rfl, b, _, _, _, rfl, rfl, qB, at_of (j := i) (by omega) hu, ?_⟩
          exact hsp e _ _ _ _ hle (hel i _ _ hv hu) ⟨true, rfl, ⟨_, rfl⟩, rfl⟩
        · obtain ⟨_, rfl⟩ := p
          exact q
theorem ok_same {f : Addr} {fd : FuncData} (D_s : Df K mg "_law_same" s__law_same ["_law_value", "_law_due"] f fd) (T : Bi mg) {f_w : Addr} {d_w : FuncData} (D_w : Df K mg "_law_whole" s__law_whole ["_law_value"] f_w d_w) (G_w : FnOk P w K mg base CX0 1 f_w d_w ["_law_value"] spWhole) :
    ∀ d : Nat, FnOk P w K mg base CX0 (d + 2) f fd ["_law_value", "_law_due"] (spSame d)
  | 0 => same_body (k := 0) D_s T D_w G_w (sp := spNo) fn_no fun e x y H Q h => absurd h (by omega)
  | d + 1 => same_body (k := d + 1) D_s T D_w G_w (ok_same D_s T D_w G_w d) fun e x y H Q h h1 q => ⟨x, y, rfl, h1.le (by omega), q⟩
/-! ### drawn pins -/
def spPins (K : PySem.W.Frag) : Sp := fun vs H Q _ => ∃ c : Int, vs = [.int c] ∧ ∀ H' n, Same H H' → 0 ≤ n → n ≤ 40 → Q (.int n) H'
theorem ok_pins {f : Addr} {fd : FuncData} (F : Fun K "_law_pins" "_law_pins" s__law_pins f fd) (T : Bi mg) {f_d : Addr} {d_d : FuncData} (D_d : Df K mg "_law_digits" s__law_digits ["_law_cell_here", "_law_sizes"] f_d d_d) (G_d : FnOk P w K mg base CX0 1 f_d d_d ["_law_cell_here", "_law_sizes"] (spDigs K)) : FnOk P w K mg base CX0 2 f fd ["_law_cell_here"] (spPins K) := by
  refine F.ok sc__law_pins (fun vs H Q E h => ?_) (fun cdv A outer s H vs Q E hr h => ?_)
  · obtain ⟨c, rfl, _⟩ := h
    rfl
  · obtain ⟨c, rfl, q⟩ := h
    refine ⟨_, (pss_cons (ps_set (i := 1) sc__law_pins.nd rfl (.inl rfl) (pe_call G_d hr (by rfl) D_d.g D_d.F.kp D_d.b .nil pass0 (pa_cons (pv 0) (pa_cons (pe_lst (pa_cons pe_int (pa_cons pe_int (pa_cons pe_int pa_nil)))) pa_nil))))
        (pss_cons (ps_if (pt_cmpR op_lt (pe_ix (r := rIxL K) ix_list (pv 1) pe_int (fun _ _ => rfl)) pe_int (nomark _)) (pss_one (ps_ret (pe_op op_add pe_int (pe_op op_mod (pe_callTy call_int1 (by rfl) T.b_int (by decide +kernel) (pa_cons (pe_ix (r := rIxL K) ix_list (pv 1) pe_int (fun _ _ => rfl)) pa_nil)) pe_int)))) pss_nil)
        (pss_cons (ps_if (pt_cmpR op_eq (pe_ix (r := rIxL K) ix_list (pv 1) pe_int (fun _ _ => rfl)) pe_int (nomark _)) (pss_one (ps_ret (pe_op op_mod (pe_callTy call_int1 (by rfl) T.b_int (by decide +kernel) (pa_cons (pe_ix (r := rIxL K) ix_list (pv 1) pe_int (fun _ _ => rfl)) pa_nil)) pe_int))) pss_nil)
        (pss_one (ps_ret (pe_ix (r := rIxL K) ix_list (pv 1) pe_int (fun _ _ => rfl))))))), ?_⟩
    refine ⟨_, rfl, by show 3 ≤ sizeLine; decide, fun b nb => ⟨c, b, [8, 30, 41], rfl, .inl (.inl upd_same), by decide, by decide, fun H1 p ds s1 np ep dg => ?_⟩⟩
    have sm : Same H H1 := (same_upd nb).trans s1
    obtain ⟨x0, x1, x2, rfl⟩ : ∃ x0 x1 x2, ds = [x0, x1, x2] := by
      have hl := dg.1
      match ds, hl with
      | [x0, x1, x2], _ => exact ⟨x0, x1, x2, rfl⟩
    have b0 := dg.2 0 x0 8 rfl rfl
    have b1 := dg.2 1 x1 30 rfl rfl
    have b2 := dg.2 2 x2 41 rfl rfl
    have hS : SqL K H1 p [.int x0, .int x1, .int x2] := .inl (.inl ep)
    have a0 : atI [V.int x0, .int x1, .int x2] 0 = some (.int x0) := atI_nat (j := 0) rfl
    have a1 : atI [V.int x0, .int x1, .int x2] 1 = some (.int x1) := atI_nat (j := 1) rfl
    have a2 : atI [V.int x0, .int x1, .int x2] 2 = some (.int x2) := atI_nat (j := 2) rfl
    have m5 := Int.emod_nonneg x1 (show (5 : Int) ≠ 0 by decide)
    have m5' := Int.emod_lt_of_pos x1 (show (0 : Int) < 5 by decide)
    have m2 := Int.emod_nonneg x1 (show (2 : Int) ≠ 0 by decide)
    have m2' := Int.emod_lt_of_pos x1 (show (0 : Int) < 2 by decide)
    refine ⟨_, rfl, p, _, 0, _, rfl, rfl, hS, a0, x0, 6, rfl, rfl, _, rfl, ite2 (fun e => ?_) (fun e => ?_)⟩
    · refine ⟨_, rfl, p, _, 1, _, rfl, rfl, hS, a1, .inl ⟨_, rfl, _, _, rfl, rfl, by show (0 : Int) < 5; decide, _, _, rfl, rfl, q H1 _ sm (by omega) (by omega)⟩⟩
    · refine ⟨_, rfl, p, _, 0, _, rfl, rfl, hS, a0, rfl, _, rfl, ite2 (fun e2 => ?_) (fun e2 => ?_)⟩
      · exact ⟨_, rfl, p, _, 1, _, rfl, rfl, hS, a1, .inl ⟨_, rfl, _, _, rfl, rfl, by show (0 : Int) < 2; decide, q H1 _ sm (by omega) (by omega)⟩⟩
      · exact ⟨_, rfl, p, _, 2, _, rfl, rfl, hS, a2, q H1 _ sm (by omega) (by omega)⟩
end
end Own

namespace Own
open PySem PySem.Spec PyProof.Rows L2
/-- a list of pairs, each a tuple -/
def PairsV (H : Hp) (bs : List Addr) (ps : List (Int × Int)) : Prop := bs.length = ps.length ∧ ∀ (i : Nat) (b : Addr) (p : Int × Int), bs[i]? = some b → ps[i]? = some p → H b = some (.tup [.int p.1, .int p.2])
theorem PairsV.sameT {H H' : Hp} {bs : List Addr} {ps : List (Int × Int)} (s : SameT H H') (h : PairsV H bs ps) : PairsV H' bs ps := ⟨h.1, fun i b p e1 e2 => s _ _ (h.2 i b p e1 e2)⟩
theorem PairsV.snoc {H : Hp} {bs : List Addr} {ps : List (Int × Int)} {b : Addr} {p : Int × Int} (h : PairsV H bs ps) (e : H b = some (.tup [.int p.1, .int p.2])) : PairsV H (bs ++ [b]) (ps ++ [p]) := by
  refine ⟨by rw [List.length_append, List.length_append, h.1]; rfl, fun i c q h1 h2 => ?_⟩
  by_cases hi : i < bs.length
  · rw [List.getElem?_append_left hi] at h1
    rw [List.getElem?_append_left (by rw [← h.1]; exact hi)] at h2
    exact h.2 i c q h1 h2
  · rw [List.getElem?_append_right (by omega)] at h1
    rw [List.getElem?_append_right (by rw [← h.1]; omega), ← h.1] at h2
    have hk : i - bs.length = 0 := by
      cases hk : i - bs.length with
      | zero => rfl
      | succ k =>
        rw [hk] at h1
        simp at h1
    rw [hk] at h1 h2
    obtain rfl : b = c := Option.some.inj h1
    obtain rfl : p = q := Option.some.inj h2
    exact e
theorem PairsV.at_ {H : Hp} {bs : List Addr} {ps : List (Int × Int)} (h : PairsV H bs ps) {b : Addr} (m : b ∈ bs) : ∃ p ∈ ps, H b = some (.tup [.int p.1, .int p.2]) := by
  obtain ⟨i, hi, e⟩ := List.mem_iff_getElem.mp m
  have hp : i < ps.length := by
    rw [← h.1]
    exact hi
  exact ⟨ps[i], List.getElem_mem hp, h.2 i b ps[i] (by rw [List.getElem?_eq_getElem hi, e]) (List.getElem?_eq_getElem hp)⟩
/-- as data -/
def pd (p : Int × Int) : PyData := .tuple [.int p.1, .int p.2]
theorem PairsV.dp {K : PySem.W.Frag} {H : Hp} : ∀ {bs : List Addr} {ps : List (Int × Int)}, PairsV H bs ps → DpAll K H (bs.map V.ref) (ps.map pd)
  | [], [], _ => .nil
  | [], _ :: _, h => by have := h.1; simp at this
  | _ :: _, [], h => by have := h.1; simp at this
  | b :: bs, p :: ps, h => .cons (.tup (.inl (.inl (h.2 0 b p rfl rfl))) (.cons (.int _) (.cons (.int _) .nil))) (PairsV.dp ⟨by have := h.1; simpa using this, fun i c q h1 h2 => h.2 (i + 1) c q h1 h2⟩)
theorem pd_eqv (p q : Int × Int) : PyData.eqv (pd p) (pd q) = decide (p = q) := by
  unfold pd
  simp only [PyData.eqv, PyData.eqvAll, Bool.and_true]
  by_cases h : p = q
  · subst h
    simp
  · rw [decide_eq_false h]
    by_cases h1 : p.1 = q.1
    · have h2 : ¬ p.2 = q.2 := fun z => h (Prod.ext h1 z)
      simp [h1, h2]
    · simp [h1]
theorem any_pd (p : Int × Int) (ps : List (Int × Int)) : ((ps.map pd).any fun z => PyData.eqv z (pd p)) = decide (p ∈ ps) := by
  rw [List.any_map]
  induction ps with
  | nil => rfl
  | cons q r ih =>
    rw [List.any_cons, ih]
    show (PyData.eqv (pd q) (pd p) || decide (p ∈ r)) = _
    rw [pd_eqv]
    by_cases h : q = p
    · subst h
      simp
    · have h2 : ¬ p = q := fun z => h z.symm
      simp [h, h2]
theorem shaped_pd (p : Int × Int) : SeqAt.shaped (pd p) = true := by
  unfold SeqAt.shaped pd
  simp [PyData.canLay0, PyData.canLayAll0, PyData.depth, PyData.depthAll]
theorem lay_pds : ∀ ps : List (Int × Int), PyData.canLayAll0 (ps.map pd) = true ∧ PyData.depthAll (ps.map pd) ≤ 1
  | [] => ⟨rfl, Nat.zero_le _⟩
  | p :: r => by
    obtain ⟨h1, h2⟩ := lay_pds r
    refine ⟨?_, ?_⟩
    · show (PyData.canLay0 (pd p) && PyData.canLayAll0 (r.map pd)) = true
      rw [h1]
      rfl
    · show max (PyData.depth (pd p)) (PyData.depthAll (r.map pd)) ≤ 1
      have : PyData.depth (pd p) = 1 := rfl
      omega
theorem shaped_pds (ps : List (Int × Int)) : SeqAt.shaped (.list (ps.map pd)) = true := by
  obtain ⟨h1, h2⟩ := lay_pds ps
  unfold SeqAt.shaped
  have e1 : PyData.canLay0 (.list (ps.map pd)) = true := h1
  have e2 : PyData.depth (.list (ps.map pd)) ≤ 64 := by
    show PyData.depthAll (ps.map pd) + 1 ≤ 64
    omega
  rw [e1, decide_eq_true e2]
  rfl
section
variable {P : Program} {w : World} {K : PySem.W.Frag} {mg : Str → Option Value} {base : Heap} {C : Addr}
def pos (l : List Tr) : List Tr := l.filter fun t => decide (0 < t.2.2)
theorem pos_snoc (l : List Tr) (t : Tr) : pos (l ++ [t]) = if 0 < t.2.2 then pos l ++ [t] else pos l := by
  unfold pos
  rw [List.filter_append]
  by_cases h : 0 < t.2.2
  · rw [if_pos h, List.filter_cons, if_pos (decide_eq_true h)]
    rfl
  · rw [if_neg h, List.filter_cons, if_neg (by rw [decide_eq_false h]; decide)]
    exact List.append_nil _
theorem pos_all {l : List Tr} (h : ∀ t ∈ l, 1 ≤ t.2.2) : pos l = l := List.filter_eq_self.mpr fun t ht => decide_eq_true (by have := h t ht; omega)
/-- as IsNorm, entries without cords left out -/
structure GN (l r : List Tr) : Prop where
  srt : (r.map pr).Pairwise Lex
  mem : ∀ p, p ∈ r.map pr ↔ p ∈ (pos l).map ky
  cnt : ∀ e ∈ r, e.2.2 = tot (pr e) l
theorem GN.norm {l r : List Tr} (h : GN l r) (v : ∀ t ∈ l, 1 ≤ t.2.2) : IsNorm l r := ⟨h.srt, fun p => by rw [h.mem, pos_all v], h.cnt⟩
def spNorm (K : PySem.W.Frag) : Sp := fun vs H Q _ => ∃ (a : Addr) (xs : List V) (l : List Tr), vs = [.ref a] ∧ SqB K H a xs ∧ TrV H xs l ∧ l.length ≤ 1000 ∧ ∀ H' c r, Same H H' → Trip H' c r → GN l r → Q (.ref c) H'
theorem ok_norm {f : Addr} {fd : FuncData} (F : Fun K "_law_norm" "_law_norm" s__law_norm f fd) (T : Bi mg) : FnOk P w K mg base CX0 1 f fd ["_law_triples"] (spNorm K) := by
  refine F.ok sc__law_norm (fun vs H Q E h => ?_) (fun cdv A outer s H vs Q E hr h => ?_)
  · obtain ⟨a, xs, l, rfl, _⟩ := h
    rfl
  · obtain ⟨a, xs, l, rfl, hB, hx, hl, q⟩ := h
    have hu65 : (A.deeper (envOfC "_law_norm" (defScope s__law_norm) s.heap.objs.size f cdv)).units + 65 < cLine := by
      have := hr.un
      omega
    refine ⟨_, (pss_cons (ps_set (i := 1) sc__law_norm.nd rfl (.inl rfl) (pe_lst pa_nil))
        (pss_cons (ps_for PassesOwn.never rfl (pi_seq (pv 0)) (pg_name (i := 2) sc__law_norm.nd rfl (.inl rfl))
        (pss_cons (ps_set (i := 5) sc__law_norm.nd rfl (.inl rfl) (pe_callB (call_min2 rfl) (by rfl) T.b_min (by decide +kernel) (pa_cons (pe_ix (r := rIxT K) ix_tup (pv 2) pe_int (fun _ _ => rfl)) (pa_cons (pe_ix (r := rIxT K) ix_tup (pv 2) pe_int (fun _ _ => rfl)) pa_nil))))
        (pss_cons (ps_set (i := 6) sc__law_norm.nd rfl (.inl rfl) (pe_callB (call_max2 rfl) (by rfl) T.b_max (by decide +kernel) (pa_cons (pe_ix (r := rIxT K) ix_tup (pv 2) pe_int (fun _ _ => rfl)) (pa_cons (pe_ix (r := rIxT K) ix_tup (pv 2) pe_int (fun _ _ => rfl)) pa_nil))))
        (pss_one (ps_if (PW.pt (pw_and (pt_cmpR op_gt (pe_ix (r := rIxT K) ix_tup (pv 2) pe_int (fun _ _ => rfl)) pe_int (nomark _)) (pw_and1 (pt_cmpR (op_notInD hu65) (pe_tup (pa_cons (pv 5) (pa_cons (pv 6) pa_nil))) (pv 1) (by rfl))))) (pss_one (ps_expr (pe_bm PySem.F.plainAttrs_list PySem.F.slot_list_append PySem.F.type_list_append mt_append (pv 1) (pa_cons (pe_tup (pa_cons (pv 5) (pa_cons (pv 6) pa_nil))) pa_nil)))) pss_nil)))))
        (pss_cons (ps_set (i := 3) sc__law_norm.nd rfl (.inl rfl) (pe_lst pa_nil))
        (pss_cons (ps_for PassesOwn.never rfl (pi_list (pe_callB cr_sortedPO (by rfl) T.b_sorted (by decide +kernel) (pa_cons (pv 1) pa_nil))) (pg_name (i := 4) sc__law_norm.nd rfl (.inl rfl))
        (pss_cons (ps_set (i := 7) sc__law_norm.nd rfl (.inl rfl) pe_int)
        (pss_cons (ps_for PassesOwn.never rfl (pi_seq (pv 0)) (pg_name (i := 2) sc__law_norm.nd rfl (.inl rfl))
        (pss_one (ps_if (PW.pt (pw_and (pt_cmpR op_eq (pe_callB (call_min2 rfl) (by rfl) T.b_min (by decide +kernel) (pa_cons (pe_ix (r := rIxT K) ix_tup (pv 2) pe_int (fun _ _ => rfl)) (pa_cons (pe_ix (r := rIxT K) ix_tup (pv 2) pe_int (fun _ _ => rfl)) pa_nil))) (pe_ix (r := rIxT K) ix_tup (pv 4) pe_int (fun _ _ => rfl)) (nomark _)) (pw_and1 (pt_cmpR op_eq (pe_callB (call_max2 rfl) (by rfl) T.b_max (by decide +kernel) (pa_cons (pe_ix (r := rIxT K) ix_tup (pv 2) pe_int (fun _ _ => rfl)) (pa_cons (pe_ix (r := rIxT K) ix_tup (pv 2) pe_int (fun _ _ => rfl)) pa_nil))) (pe_ix (r := rIxT K) ix_tup (pv 4) pe_int (fun _ _ => rfl)) (nomark _))))) (pss_one (ps_set (i := 7) sc__law_norm.nd rfl (.inl rfl) (pe_op op_add (pv 7) (pe_ix (r := rIxT K) ix_tup (pv 2) pe_int (fun _ _ => rfl))))) pss_nil)))
        (pss_one (ps_expr (pe_bm PySem.F.plainAttrs_list PySem.F.slot_list_append PySem.F.type_list_append mt_append (pv 3) (pa_cons (pe_tup (pa_cons (pe_ix (r := rIxT K) ix_tup (pv 4) pe_int (fun _ _ => rfl)) (pa_cons (pe_ix (r := rIxT K) ix_tup (pv 4) pe_int (fun _ _ => rfl)) (pa_cons (pv 7) pa_nil)))) pa_nil)))))))
        (pss_one (ps_ret (pe_callTy call_tuple_of (by rfl) T.b_tuple (by decide +kernel) (pa_cons (pv 3) pa_nil)))))))), ?_⟩
    refine ⟨Nat.zero_le _, fun p np => ?_⟩
    have sp : Same H (upd H p (.lst [])) := same_upd np
    refine ⟨_, rfl, a, rfl, for_same (Hb := H) hB (fun i σ H' => ∃ (bs : List Addr) (ps : List (Int × Int)) (y2 y5 y6 : Option V), σ = [some (.ref a), some (.ref p), y2, none, none, y5, y6, none] ∧ H' p = some (.lst (bs.map V.ref)) ∧ PairsV H' bs ps ∧ ps.Nodup ∧ (∀ x, x ∈ ps ↔ x ∈ (pos (l.take i)).map ky) ∧ Same H H' ∧ ps.length ≤ i) ⟨[], [], none, none, none, rfl, upd_same, ⟨rfl, fun i b q h => by simp at h⟩, List.nodup_nil, fun x => by simp [pos], sp, Nat.le_refl _⟩ (fun i σ' H' pv => by obtain ⟨_, _, _, _, _, _, _, _, _, _, s, _⟩ := pv; exact s) (fun i x σ H' hxi pv => ?_) (fun σ H' pv => ?_)⟩
    · obtain ⟨bs, ps, y2, y5, y6, rfl, ep, pV, hnd, hmem, sm, hlen⟩ := pv
      obtain ⟨b, t, rfl, hti, hb⟩ := (hx.same sm).at_ hxi
      have hil : i < l.length := (List.getElem?_eq_some_iff.mp hti).1
      have etk : l.take (i + 1) = l.take i ++ [t] := by rw [List.take_add_one, hti]; rfl
      have qb : SqT K H' b (tv t) := .inl (.inl hb)
      have i0 : atI (tv t) 0 = some (.int t.1) := atI_nat (j := 0) rfl
      have i1 : atI (tv t) 1 = some (.int t.2.1) := atI_nat (j := 1) rfl
      have i2 : atI (tv t) 2 = some (.int t.2.2) := atI_nat (j := 2) rfl
      refine ⟨_, rfl, b, _, 0, _, rfl, rfl, qb, i0, _, rfl, b, _, 1, _, rfl, rfl, qb, i1, _, _, rfl, ?_⟩
      refine ⟨_, rfl, b, _, 0, _, rfl, rfl, qb, i0, _, rfl, b, _, 1, _, rfl, rfl, qb, i1, _, _, rfl, ?_⟩
      refine ⟨_, rfl, b, _, 2, _, rfl, rfl, qb, i2, _, _, rfl, rfl, _, rfl, ?_⟩
      by_cases hv : 0 < t.2.2
      · rw [decide_eq_true hv]
        refine ⟨_, rfl, _, rfl, by show 2 ≤ sizeLine; decide, fun u nu => ?_⟩
        have su : Same H' (upd H' u (.tup [.int (lo t.1 t.2.1), .int (hi t.1 t.2.1)])) := same_upd nu
        have pV1 := pV.sameT fun b o h => su _ _ h
        have ep1 := su _ _ ep
        refine ⟨_, rfl, pd (ky t), ps.map pd, .tup (.inl (.inl upd_same)) (.cons (.int _) (.cons (.int _) .nil)), .lst (.inl (.inl ep1)) pV1.dp, shaped_pd _, shaped_pds _, _, rfl, ?_⟩
        rw [any_pd]
        by_cases hk : ky t ∈ ps
        · rw [decide_eq_true hk]
          refine ⟨bs, ps, _, _, _, rfl, ep1, pV1, hnd, fun x => ?_, sm.trans su, by omega⟩
          rw [etk, pos_snoc, if_pos hv, List.map_append, List.mem_append, ← hmem]
          constructor
          · exact .inl
          · rintro (h | h)
            · exact h
            · rw [List.mem_singleton.mp h]
              exact hk
        · rw [decide_eq_false hk]
          refine ⟨_, rfl, .inl ⟨rfl, _, .inl (.inl ep1)⟩, _, rfl, _, rfl, by show 2 ≤ sizeLine; decide, fun v nv => ?_⟩
          have sv := same_upd (o := .tup [.int (lo t.1 t.2.1), .int (hi t.1 t.2.1)]) nv
          have ep2 := sv _ _ ep1
          refine ⟨p, _, _, rfl, rfl, ep2, ?_, ?_⟩
          · rw [List.length_map, pV.1]
            exact small1000 (by omega)
          have nvp : v ≠ p := fun z => by
            rw [z] at nv
            exact nomatch (ep1.symm.trans nv)
          refine ⟨bs ++ [v], ps ++ [ky t], _, _, _, rfl, ?_, ?_, ?_, fun x => ?_, same_put (H1 := H) np ((sm.trans su).trans sv), ?_⟩
          · rw [upd_same, List.map_append]
            rfl
          · refine (pV1.sameT (sameT_put ep1 sv)).snoc ?_
            rw [upd_ne nvp, upd_same]
            rfl
          · exact List.nodup_append.mpr ⟨hnd, by simp, fun x hx2 y hy z => hk (by rw [List.mem_singleton.mp hy] at z; rw [← z]; exact hx2)⟩
          · rw [etk, pos_snoc, if_pos hv, List.map_append, List.mem_append, List.mem_append, ← hmem]
            exact Iff.rfl
          · rw [List.length_append]
            show ps.length + 1 ≤ i + 1
            omega
      · rw [decide_eq_false hv]
        refine ⟨bs, ps, _, _, _, rfl, ep, pV, hnd, fun x => ?_, sm, by omega⟩
        rw [etk, pos_snoc, if_neg hv]
        exact hmem x
    · obtain ⟨bs, ps, y2, y5, y6, rfl, ep, pV, hnd, hmem, sm, hlen⟩ := pv
      rw [hx.1] at hlen
      rw [hx.1, List.take_length] at hmem
      refine ⟨Nat.zero_le _, fun rw_ nrw => ?_⟩
      have s1 : Same H' (upd H' rw_ (.lst [])) := same_upd nrw
      have pV1 := pV.sameT fun b o h => s1 _ _ h
      refine ⟨_, rfl, p, _, kOf (upd H' rw_ (.lst [])), rfl, .inl (.inl (s1 _ _ ep)), fun x hx2 => ?_, fun ys p0 hsrt hstb np0 => ?_⟩
      · obtain ⟨b, hb, rfl⟩ := List.mem_map.mp hx2
        obtain ⟨pp, _, hp⟩ := pV1.at_ hb
        exact ⟨b, rfl, by rw [kOf_at hp]; exact hp⟩
      generalize hH1 : upd H' rw_ (.lst []) = H1 at s1 pV1 hsrt hstb np0
      have erw : H1 rw_ = some (.lst []) := by rw [← hH1]; exact upd_same
      have hks : (bs.map V.ref).map (kOf H1) = ps := by
        apply List.ext_getElem
        · rw [List.length_map, List.length_map]
          exact pV1.1
        · intro j h1 h2
          rw [List.getElem_map, List.getElem_map]
          rw [List.length_map, List.length_map] at h1
          exact kOf_at (pV1.2 j bs[j] ps[j] (List.getElem?_eq_getElem h1) (List.getElem?_eq_getElem h2))
      have hperm : (ys.map (kOf H1)).Perm ps := by
        have := hstb.perm.map (kOf H1)
        rw [hks] at this
        exact this
      have hall : ∀ y ∈ ys, ∃ b, y = .ref b ∧ H1 b = some (.tup [.int (kOf H1 y).1, .int (kOf H1 y).2]) := fun y hy => by
        obtain ⟨b, hb, rfl⟩ := List.mem_map.mp (hstb.perm.mem_iff.mp hy)
        obtain ⟨pp, _, hp⟩ := pV1.at_ hb
        exact ⟨b, rfl, by rw [kOf_at hp]; exact hp⟩
      have hlex : (ys.map (kOf H1)).Pairwise Lex := sorted_lex (hperm.nodup_iff.mpr hnd) (SrtO.srtd_map (lt := SrtO.lexB) (f := kOf H1) hsrt)
      have hN : GN l ((ys.map (kOf H1)).map fun p => (p.1, p.2, tot p l)) := by
        have e1 : (((ys.map (kOf H1)).map fun p => ((p.1, p.2, tot p l) : Tr))).map pr = ys.map (kOf H1) := by
          rw [List.map_map]
          exact List.map_id' _
        refine ⟨by rw [e1]; exact hlex, fun x => by rw [e1, hperm.mem_iff]; exact hmem x, fun e he => ?_⟩
        obtain ⟨x, _, rfl⟩ := List.mem_map.mp he
        rfl
      have hylen : ys.length ≤ 1000 := by
        have h1 := hperm.length_eq
        rw [List.length_map] at h1
        omega
      generalize hr0 : ((ys.map (kOf H1)).map fun p => ((p.1, p.2, tot p l) : Tr)) = r at hN
      have hrl : r.length = ys.length := by rw [← hr0, List.length_map, List.length_map]
      have s0 : Same H1 (upd H1 p0 (.lst ys)) := same_upd np0
      have n0rw : p0 ≠ rw_ := fun z => by
        rw [z, erw] at np0
        cases np0
      have nrwH : H rw_ = none := sm.free nrw
      refine ⟨p0, rfl, ⟨_, .inl (.inl upd_same)⟩, for_list (xs := ys) (fun j σ H2 => ∃ (vs : List V) (y2 y4 y5 y6 y7 : Option V), σ = [some (.ref a), some (.ref p), y2, some (.ref rw_), y4, y5, y6, y7] ∧ Same H H2 ∧ SameT H1 H2 ∧ H2 p0 = some (.lst ys) ∧ H2 rw_ = some (.lst vs) ∧ TrV H2 vs (r.take j)) ⟨[], _, _, _, _, _, rfl, ?_, fun b o h => s0 _ _ h, upd_same, s0 _ _ erw, TrV.nil⟩ (fun j σ H2 _ pv => by obtain ⟨_, _, _, _, _, _, _, _, _, e, _⟩ := pv; exact .inl (.inl e)) (fun j x σ H2 hxj pv => ?_) (fun σ H2 pv => ?_)⟩
      · exact (sm.trans s1).trans s0
      · obtain ⟨vs, y2, y4, y5, y6, y7, rfl, sH, sT, e0, eR, tV⟩ := pv
        obtain ⟨b, rfl, hb⟩ := hall x (List.mem_of_getElem? hxj)
        have hjl : j < ys.length := (List.getElem?_eq_some_iff.mp hxj).1
        generalize hp : kOf H1 (.ref b) = pq at hb
        have hb2 : SqT K H2 b [.int pq.1, .int pq.2] := .inl (.inl (sT _ _ hb))
        have j0 : atI [V.int pq.1, .int pq.2] 0 = some (.int pq.1) := atI_nat (j := 0) rfl
        have j1 : atI [V.int pq.1, .int pq.2] 1 = some (.int pq.2) := atI_nat (j := 1) rfl
        have hrj : r[j]? = some (pq.1, pq.2, tot pq l) := by
          rw [← hr0, List.getElem?_map, List.getElem?_map, hxj, ← hp]
          rfl
        refine ⟨_, rfl, a, rfl, for_same (Hb := H) hB (fun i σ H3 => (∃ y2, σ = [some (.ref a), some (.ref p), y2, some (.ref rw_), some (.ref b), y5, y6, some (.int (tot pq (l.take i)))]) ∧ H3 = H2) ⟨⟨y2, rfl⟩, rfl⟩ (fun i σ' H3 pv => by rw [pv.2]; exact sH) (fun i x σ H3 hxi pv => ?_) (fun σ H3 pv => ?_)⟩
        · obtain ⟨⟨y2, rfl⟩, rfl⟩ := pv
          obtain ⟨u, t, rfl, hti, hu⟩ := (hx.same sH).at_ hxi
          have qb : SqT K H3 u (tv t) := .inl (.inl hu)
          have i0 : atI (tv t) 0 = some (.int t.1) := atI_nat (j := 0) rfl
          have i1 : atI (tv t) 1 = some (.int t.2.1) := atI_nat (j := 1) rfl
          have i2 : atI (tv t) 2 = some (.int t.2.2) := atI_nat (j := 2) rfl
          have et : tot pq (l.take (i + 1)) = tot pq (l.take i) + (if ky t = pq then t.2.2 else 0) := by
            rw [List.take_add_one, hti]
            exact tot_snoc pq (l.take i) t
          refine ⟨_, rfl, u, _, 0, _, rfl, rfl, qb, i0, _, rfl, u, _, 1, _, rfl, rfl, qb, i1, _, _, rfl, ?_⟩
          refine ⟨_, rfl, b, _, 0, _, rfl, rfl, hb2, j0, rfl, _, rfl, ite2 (fun e1 => ?_) (fun e1 => ?_)⟩
          · have f1 : lo t.1 t.2.1 = pq.1 := V.int.inj (of_decide_eq_true e1)
            refine ⟨_, rfl, u, _, 0, _, rfl, rfl, qb, i0, _, rfl, u, _, 1, _, rfl, rfl, qb, i1, _, _, rfl, ?_⟩
            refine ⟨_, rfl, b, _, 1, _, rfl, rfl, hb2, j1, rfl, _, rfl, ite2 (fun e2 => ?_) (fun e2 => ?_)⟩
            · have f2 : hi t.1 t.2.1 = pq.2 := V.int.inj (of_decide_eq_true e2)
              refine ⟨_, rfl, _, rfl, u, _, 2, _, rfl, rfl, qb, i2, _, _, rfl, rfl, ⟨some (.ref u), ?_⟩, rfl⟩
              rw [et, if_pos (show ky t = pq from Prod.ext f1 f2)]
              rfl
            · have f2 : ¬ hi t.1 t.2.1 = pq.2 := fun z => e2 (decide_eq_true (congrArg V.int z))
              refine ⟨⟨some (.ref u), ?_⟩, rfl⟩
              rw [et, if_neg (fun z : ky t = pq => f2 (congrArg Prod.snd z)), Int.add_zero]
              rfl
          · have f1 : ¬ lo t.1 t.2.1 = pq.1 := fun z => e1 (decide_eq_true (congrArg V.int z))
            refine ⟨⟨some (.ref u), ?_⟩, rfl⟩
            rw [et, if_neg (fun z : ky t = pq => f1 (congrArg Prod.fst z)), Int.add_zero]
            rfl
        · obtain ⟨⟨y2, rfl⟩, rfl⟩ := pv
          rw [hx.1, List.take_length]
          refine ⟨_, rfl, .inl ⟨rfl, _, .inl (.inl eR)⟩, _, rfl, b, _, 0, _, rfl, rfl, hb2, j0, _, rfl, b, _, 1, _, rfl, rfl, hb2, j1, _, rfl, by show 3 ≤ sizeLine; decide, fun u nu => ?_⟩
          have su := same_upd (o := .tup [.int pq.1, .int pq.2, .int (tot pq l)]) nu
          refine ⟨rw_, _, _, rfl, rfl, su _ _ eR, ?_, ?_⟩
          · rw [tV.1, List.length_take]
            exact Nat.lt_of_le_of_lt (Nat.min_le_right _ _) (small1000 (by omega))
          have nur : u ≠ rw_ := fun z => by
            rw [z, eR] at nu
            cases nu
          refine ⟨_, _, _, _, _, _, rfl, same_put (H1 := H) nrwH (sH.trans su), fun c o h => ?_, ?_, upd_same, ?_⟩
          · exact sameT_put (H := H3) eR su _ _ (sT _ _ h)
          · rw [upd_ne n0rw]
            exact su _ _ e0
          · rw [List.take_add_one, hrj]
            refine (tV.sameT (sameT_put eR su)).snoc ?_
            rw [upd_ne nur, upd_same]
      · obtain ⟨vs, y2, y4, y5, y6, y7, rfl, sH, sT, e0, eR, tV⟩ := pv
        rw [← hrl, List.take_length] at tV
        refine ⟨_, rfl, rw_, _, rfl, .inl ⟨.inl (.inl eR), fun c nc => ?_⟩⟩
        exact q _ c r (sH.trans (same_upd nc)) ⟨vs, upd_same, tV.same (same_upd nc)⟩ hN
end
end Own

namespace Own
open PySem PySem.Spec PyProof.Rows L2
theorem fmod_lo {y n : Int} (h0 : 0 ≤ y) (h1 : y < n) : y.fmod n = y := by
  rw [Int.fmod_eq_emod_of_nonneg _ (by omega)]
  exact Int.emod_eq_of_lt h0 h1
theorem fmod_hi {y n : Int} (h0 : n ≤ y) (h1 : y < n + n) : y.fmod n = y - n := by
  rw [Int.fmod_eq_emod_of_nonneg _ (by omega), show y = (y - n) + n * 1 by omega, Int.add_mul_emod_self_left, Int.emod_eq_of_lt (by omega) (by omega)]
  omega
theorem fmod_neg {y n : Int} (h0 : -n ≤ y) (h1 : y < 0) : y.fmod n = y + n := by
  rw [Int.fmod_eq_emod_of_nonneg _ (by omega), show y = (y + n) + n * (-1) by omega, Int.add_mul_emod_self_left, Int.emod_eq_of_lt (by omega) (by omega)]
  omega
/-- the numbers of the entries that the test takes -/
def fl (f : Int × Int → Bool) (cs : List Tr) : List Int := (cs.filter fun t => f (pr t)).map fun t => t.2.2
theorem fl_sum (f : Int × Int → Bool) (cs : List Tr) : (fl f cs).sum = bs f cs := by
  unfold fl
  induction cs with
  | nil => rfl
  | cons t r ih =>
    rw [bs, List.filter_cons]
    by_cases h : f (pr t) = true
    · rw [if_pos h, if_pos h, List.map_cons, List.sum_cons, ih]
    · rw [if_neg h, if_neg h, ih]
      omega
theorem fl_snoc (f : Int × Int → Bool) (cs : List Tr) (t : Tr) : fl f (cs ++ [t]) = if f (pr t) = true then fl f cs ++ [t.2.2] else fl f cs := by
  unfold fl
  rw [List.filter_append, List.map_append]
  by_cases h : f (pr t) = true
  · rw [if_pos h, List.filter_cons, if_pos h]
    rfl
  · rw [if_neg h, List.filter_cons, if_neg h]
    exact List.append_nil _
theorem fl_len (f : Int × Int → Bool) (cs : List Tr) : (fl f cs).length ≤ cs.length := by
  unfold fl
  rw [List.length_map]
  exact List.length_filter_le _ _
/-- met on the walk of k steps from gap i -/
def mt (n i : Int) (k : Nat) (x : Int) : Bool := decide (0 < (x - i).fmod n ∧ (x - i).fmod n ≤ (k : Int))
theorem mt_val {n i x : Int} (i0 : 0 ≤ i) (i1 : i < n) (x0 : 0 ≤ x) (x1 : x < n) : (i ≤ x ∧ (x - i).fmod n = x - i) ∨ (x < i ∧ (x - i).fmod n = x - i + n) := by
  by_cases h : i ≤ x
  · exact .inl ⟨h, fmod_lo (by omega) (by omega)⟩
  · exact .inr ⟨by omega, fmod_neg (by omega) (by omega)⟩
theorem mt_step {n i x : Int} {k : Nat} (i0 : 0 ≤ i) (i1 : i < n) (x0 : 0 ≤ x) (x1 : x < n) (hk : (k : Int) + 1 < n) : mt n i (k + 1) x = if x = (i + (1 + (k : Int))).fmod n then true else mt n i k x := by
  have hv := mt_val i0 i1 x0 x1
  have hj : (i + (1 + (k : Int)) < n ∧ (i + (1 + (k : Int))).fmod n = i + (1 + (k : Int))) ∨ (n ≤ i + (1 + (k : Int)) ∧ (i + (1 + (k : Int))).fmod n = i + (1 + (k : Int)) - n) := by
    by_cases h : i + (1 + (k : Int)) < n
    · exact .inl ⟨h, fmod_lo (by omega) h⟩
    · exact .inr ⟨by omega, fmod_hi (by omega) (by omega)⟩
  unfold mt
  by_cases e : x = (i + (1 + (k : Int))).fmod n
  · rw [if_pos e]
    exact decide_eq_true (by omega)
  · rw [if_neg e]
    exact decide_eq_decide.mpr (by omega)
theorem mt_zero (n i x : Int) : mt n i 0 x = false := decide_eq_false (by omega)
theorem mt_all {n i x : Int} (i0 : 0 ≤ i) (i1 : i < n) (x0 : 0 ≤ x) (x1 : x < n) {k : Nat} (hk : (k : Int) + 1 = n) : mt n i k x = decide (x ≠ i) := by
  have hv := mt_val i0 i1 x0 x1
  exact decide_eq_decide.mpr (by omega)
theorem bne_not (p q : Bool) : ((!p) != (!q)) = (p != q) := by
  cases p <;> cases q <;> rfl
/-- the walk parts pins as the gaps do -/
theorem mt_sep {n i a b : Int} {k : Nat} (i0 : 0 ≤ i) (i1 : i < n) (hk : (k : Int) + 1 < n) (a0 : 0 ≤ a) (a1 : a < n) (b0 : 0 ≤ b) (b1 : b < n) :
    (mt n i (k + 1) a != mt n i (k + 1) b) = (sepB i ((i + (1 + (k : Int))).fmod n) a != sepB i ((i + (1 + (k : Int))).fmod n) b) := by
  by_cases h : i + (1 + (k : Int)) < n
  · have ej := fmod_lo (n := n) (show 0 ≤ i + (1 + (k : Int)) by omega) h
    rw [ej]
    have hl := lo_hi i (i + (1 + (k : Int)))
    have e : ∀ x, 0 ≤ x → x < n → mt n i (k + 1) x = sepB i (i + (1 + (k : Int))) x := fun x x0 x1 => by
      have hv := mt_val i0 i1 x0 x1
      exact decide_eq_decide.mpr (by omega)
    rw [e a a0 a1, e b b0 b1]
  · have ej := fmod_hi (n := n) (show n ≤ i + (1 + (k : Int)) by omega) (by omega)
    rw [ej]
    have hl := lo_hi i (i + (1 + (k : Int)) - n)
    have e : ∀ x, 0 ≤ x → x < n → mt n i (k + 1) x = !sepB i (i + (1 + (k : Int)) - n) x := fun x x0 x1 => by
      have hv := mt_val i0 i1 x0 x1
      unfold mt sepB
      rw [← decide_not]
      exact decide_eq_decide.mpr (by omega)
    rw [e a a0 a1, e b b0 b1, bne_not]
/-- a list of truth values -/
def bl (n : Int) (g : Int → Bool) : List V := (List.range n.toNat).map fun j : Nat => V.bl (g (j : Int))
theorem bl_at {n x : Int} (g : Int → Bool) (h0 : 0 ≤ x) (h1 : x < n) : atI (bl n g) x = some (.bl (g x)) := by
  have e : x = ((x.toNat : Nat) : Int) := by omega
  have hx : (bl n g)[x.toNat]? = some (.bl (g x)) := by
    unfold bl
    rw [List.getElem?_map, List.getElem?_range (by omega)]
    show some (V.bl (g ((x.toNat : Nat) : Int))) = _
    rw [← e]
  exact at_of e hx
theorem bl_len (n : Int) (g : Int → Bool) : (bl n g).length = n.toNat := by
  unfold bl
  rw [List.length_map, List.length_range]
theorem bl_ix {n x : Int} (g : Int → Bool) (h0 : 0 ≤ x) (h1 : x < n) : ixN (bl n g).length x = some x.toNat := by
  unfold ixN
  rw [bl_len, if_pos h0, if_pos (by omega)]
theorem bl_congr {n : Int} {g h : Int → Bool} (e : ∀ x, 0 ≤ x → x < n → g x = h x) : bl n g = bl n h := by
  unfold bl
  refine List.map_congr_left fun j hj => ?_
  have := List.mem_range.mp hj
  rw [e (j : Int) (by omega) (by omega)]
theorem bl_set {n x : Int} (g : Int → Bool) (v : Bool) (h0 : 0 ≤ x) (h1 : x < n) : (bl n g).set x.toNat (.bl v) = bl n fun y => if y = x then v else g y := by
  unfold bl
  apply List.ext_getElem
  · rw [List.length_set, List.length_map, List.length_map]
  · intro j hj hj2
    rw [List.length_map, List.length_range] at hj2
    rw [List.getElem_set, List.getElem_map, List.getElem_map, List.getElem_range]
    by_cases e : x.toNat = j
    · rw [if_pos e]
      show V.bl v = V.bl (if ((j : Nat) : Int) = x then v else g j)
      rw [if_pos (by omega)]
    · rw [if_neg e]
      show V.bl (g j) = V.bl (if ((j : Nat) : Int) = x then v else g j)
      rw [if_neg (by omega)]
theorem ne_bl (p q : Bool) : (!decide (V.bl p = V.bl q)) = (p != q) := by
  cases p <;> cases q <;> rfl
/-- as many keys as entries at most -/
theorem nodup_le : ∀ {P L : List (Int × Int)}, P.Nodup → (∀ p ∈ P, p ∈ L) → P.length ≤ L.length
  | [], _, _, _ => Nat.zero_le _
  | p :: P, L, hn, h => by
    have hc := List.nodup_cons.mp hn
    have hp : p ∈ L := h p List.mem_cons_self
    have ih := nodup_le (P := P) (L := L.erase p) hc.2 fun q hq => (List.mem_erase_of_ne (fun z => hc.1 (by rw [← z]; exact hq))).mpr (h q (List.mem_cons_of_mem _ hq))
    rw [List.length_erase_of_mem hp] at ih
    have := List.length_pos_of_mem hp
    rw [List.length_cons]
    omega
theorem IsNorm.len {l r : List Tr} (h : IsNorm l r) : r.length ≤ l.length := by
  have := nodup_le (srt_nodup h.srt) fun p m => (h.mem p).mp m
  rw [List.length_map, List.length_map] at this
  exact this
end Own

namespace Own
open PySem PySem.Spec PyProof.Rows L2
theorem Grid.other {H : Hp} {p M : Addr} {rs : List Addr} {n m : Int} {f : Int → Int → Int} {o : HO} (g : Grid H p rs n m f) (h1 : p ≠ M) (h2 : M ∉ rs) : Grid (upd H M o) p rs n m f :=
  ⟨by rw [upd_ne h1]; exact g.at_, g.len, g.nd, g.out, fun j r e => by
    have hr : r ≠ M := fun z => h2 (by rw [← z]; exact List.mem_of_getElem? e)
    rw [upd_ne hr]
    exact g.row j r e⟩
/-- a list that is made stands apart from the rows -/
theorem Grid.apart {H : Hp} {p M : Addr} {rs : List Addr} {n m : Int} {f : Int → Int → Int} (g : Grid H p rs n m f) (h : H M = none) : p ≠ M ∧ M ∉ rs := by
  refine ⟨fun z => ?_, fun mm => ?_⟩
  · rw [← z, g.at_] at h
    cases h
  · obtain ⟨j, hj, e⟩ := List.mem_iff_getElem.mp mm
    rw [g.row j M (by rw [List.getElem?_eq_getElem hj, e])] at h
    cases h
/-- the scope of the outer of two comprehensions -/
abbrev scI : Scope := { kind := .function, names := [(".0", .local), ("_law_i", .local), ("range", .globalImplicit), ("_law_size", .cell)], isGenerator := false, isCoroutine := false }
section
variable {P : Program} {w : World} {K : PySem.W.Frag} {mg : Str → Option Value} {base : Heap} {C : Addr}
def spLTab : Sp := fun vs H Q _ => ∃ (n : Int) (c : Addr) (cs : List Tr), vs = [.int n, .ref c] ∧ 0 ≤ n ∧ n ≤ 1000 ∧ Trip H c cs ∧ Good n cs ∧ cs.length ≤ 1000 ∧ ∀ H' p, Same H H' → TabAt H' p (hi n 1) (tabE cs) → Q (.ref p) H'
theorem ok_ltab {f : Addr} {fd : FuncData} (F : Fun K "_law_table" "_law_table" s__law_table f fd) (T : Bi mg) : FnOk P w K mg base CX0 1 f fd ["_law_pins_here", "_law_bunch"] spLTab := by
  refine F.ok sc__law_table (fun vs H Q E h => ?_) (fun cdv A outer s H vs Q E hr h => ?_)
  · obtain ⟨n, c, cs, rfl, _⟩ := h
    rfl
  · obtain ⟨n, c, cs, rfl, n0, n1, hc, hG, hl, q⟩ := h
    refine ⟨_, (pss_cons (ps_set (i := 2) sc__law_table.nd rfl (.inr rfl) (pe_callB (call_max2 rfl) (by rfl) T.b_max (by decide +kernel) (pa_cons (pv 0) (pa_cons pe_int pa_nil))))
        (pss_cons (ps_setLc (i := 3) (own := [("_law_i", 4)]) (g := gName 4) (tt := tYes) rfl sc__law_table.nd rfl rfl (sw_true rfl rfl rfl (by decide +kernel)) (pi_range1 (by rfl) T.b_range (pa_cons (pv 2) pa_nil)) (blkOk_by (own := [("_law_i", 4)]) (N := ["_law_pins_here", "_law_bunch", "_law_size", "_law_table_here", "_law_i", "_law_met", "_law_step", "_law_j", "_law_row", "_law_entry"]) (sc := defScope s__law_table) (by decide +kernel)) (fun _ _ _ _ _ => (pg_name (i := 4) sc__law_table.nd rfl (.inl rfl))) (fun _ _ _ _ _ => pts_nil) (fun _ _ _ _ _ => (show PE _ _ (tLc (iRng1 (tCons (tVar 2) tNil)) (gName 7) tYes (tC (.int 0)) [7]) from pe_lc (own := [("_law_j", 7)]) (g := gName 7) (tt := tYes) rfl sc__law_table.nd (pi_range1 (by rfl) T.b_range (pa_cons (pv 2) pa_nil)) (blkOk_by (own := [("_law_j", 7)]) (N := ["_law_pins_here", "_law_bunch", "_law_size", "_law_table_here", "_law_i", "_law_met", "_law_step", "_law_j", "_law_row", "_law_entry"]) (sc := scI) (by decide +kernel)) (fun _ _ _ _ _ => pg_name (i := 7) sc__law_table.nd rfl (Or.inl rfl)) (fun _ _ _ _ _ => pts_nil) (fun _ _ _ _ _ => pe_int))))
        (pss_cons (ps_for PassesOwn.never rfl (pi_range1 (by rfl) T.b_range (pa_cons (pv 2) pa_nil)) (pg_name (i := 4) sc__law_table.nd rfl (.inl rfl))
        (pss_cons (ps_set (i := 5) sc__law_table.nd rfl (.inr rfl) (pe_lc (own := [("_law_j", 7)]) (g := gName 7) (tt := tYes) rfl sc__law_table.nd (pi_range1 (by rfl) T.b_range (pa_cons (pv 2) pa_nil)) (blkOk_by (own := [("_law_j", 7)]) (N := ["_law_pins_here", "_law_bunch", "_law_size", "_law_table_here", "_law_i", "_law_met", "_law_step", "_law_j", "_law_row", "_law_entry"]) (sc := defScope s__law_table) (by decide +kernel)) (fun _ _ _ _ _ => (pg_name (i := 7) sc__law_table.nd rfl (.inl rfl))) (fun _ _ _ _ _ => pts_nil) (fun _ _ _ _ _ => pe_bl)))
        (pss_one (ps_for PassesOwn.never rfl (pi_range2 (by rfl) T.b_range (pa_cons pe_int (pa_cons (pv 2) pa_nil))) (pg_name (i := 6) sc__law_table.nd rfl (.inl rfl))
        (pss_cons (ps_set (i := 7) sc__law_table.nd rfl (.inl rfl) (pe_op op_modN (pe_callTy call_int1 (by rfl) T.b_int (by decide +kernel) (pa_cons (pe_op op_add (pv 4) (pv 6)) pa_nil)) (pv 2)))
        (pss_cons (ps_asg pe_bl (pg_sub (pv 5) (pv 7) set_list))
        (pss_one (ps_asg (pe_callB (cr_sum rfl) (by rfl) T.b_sum (by decide +kernel) (pa_cons (pe_lc (own := [("_law_entry", 9)]) (g := gName 9) rfl sc__law_table.nd (pi_tup (pv 1)) (blkOk_by (own := [("_law_entry", 9)]) (N := ["_law_pins_here", "_law_bunch", "_law_size", "_law_table_here", "_law_i", "_law_met", "_law_step", "_law_j", "_law_row", "_law_entry"]) (sc := defScope s__law_table) (by decide +kernel)) (fun _ _ _ _ _ => (pg_name (i := 9) sc__law_table.nd rfl (.inl rfl))) (fun _ _ _ _ _ => pts_one (pt_cmpR op_ne (pe_ix (r := rIxL K) ix_list (pv 5) (pe_ix (r := rIxT K) ix_tup (pv 9) pe_int (fun _ _ => rfl)) (fun _ _ => rfl)) (pe_ix (r := rIxL K) ix_list (pv 5) (pe_ix (r := rIxT K) ix_tup (pv 9) pe_int (fun _ _ => rfl)) (fun _ _ => rfl)) (nomark _))) (fun _ _ _ _ _ => (pe_ix (r := rIxT K) ix_tup (pv 9) pe_int (fun _ _ => rfl)))) pa_nil)) (pg_sub (pe_ix (r := rIxL K) ix_list (pv 3) (pv 4) (fun _ _ => rfl)) (pv 7) set_list)))))))))
        (pss_one (ps_ret (pe_callTy call_tuple_of (by rfl) T.b_tuple (by decide +kernel) (pa_cons (pe_lc (own := [("_law_row", 8)]) (g := gName 8) (tt := tYes) rfl sc__law_table.nd (pi_list (pv 3)) (blkOk_by (own := [("_law_row", 8)]) (N := ["_law_pins_here", "_law_bunch", "_law_size", "_law_table_here", "_law_i", "_law_met", "_law_step", "_law_j", "_law_row", "_law_entry"]) (sc := defScope s__law_table) (by decide +kernel)) (fun _ _ _ _ _ => (pg_name (i := 8) sc__law_table.nd rfl (.inl rfl))) (fun _ _ _ _ _ => pts_nil) (fun _ _ _ _ _ => (pe_callTy (r := rTupOf K) cr_tupOf (by rfl) T.b_tuple (by decide +kernel) (pa_cons (pv 8) pa_nil)))) pa_nil))))))), ?_⟩
    refine ⟨_, rfl, n, 1, rfl, ?_⟩
    have hsz := lo_hi n 1
    have hz0 : 1 ≤ hi n 1 ∧ hi n 1 ≤ 1000 ∧ (2 ≤ hi n 1 → hi n 1 = n) := by omega
    refine ⟨_, rfl, hi n 1, rfl, by omega, by omega, fun R hR => ?_⟩
    refine lc_range (lo := 0) (n := (hi n 1).toNat) (fun i H3 => ∃ rr, ZInv H R (hi n 1) i rr H3) ⟨[], same_upd hR, upd_same, rfl, List.nodup_nil, by simp, by simp, by simp⟩ (fun i H3 hi3 pv => ?_) (fun H3 pv => ?_)
    · obtain ⟨rr, z⟩ := pv
      refine ⟨rfl, ?_⟩
      refine ⟨_, rfl, hi n 1, rfl, by omega, by omega, fun D hD => ?_⟩
      refine lc_range (lo := 0) (n := (hi n 1).toNat) (fun k H4 => H4 = upd H3 D (.lst ((gl (hi n 1) fun _ => 0).take k))) rfl (fun k H4 hk pv => ?_) (fun H4 pv => ?_)
      · subst pv
        refine ⟨rfl, ?_⟩
        refine ⟨_, upd_same, ?_, ?_⟩
        · rw [List.length_take, gl_len]
          exact Nat.lt_of_le_of_lt (Nat.min_le_right _ _) (small1000 (by omega))
        · rw [upd_upd, List.take_add_one]
          have : (gl (hi n 1) fun _ => 0)[k]? = some (.int 0) := by
            unfold gl
            rw [List.getElem?_map, List.getElem?_range hk]
            rfl
          rw [this]
          rfl
      · subst pv
        rw [List.take_of_length_le (by rw [gl_len]; exact Nat.le_refl _)]
        have sA : Same H3 (upd H3 D (.lst (gl (hi n 1) fun _ => 0))) := same_upd hD
        refine ⟨_, sA _ _ z.at_, ?_, _, z.step hR sA hD upd_same⟩
        rw [List.length_map, z.len]
        exact small1000 (by omega)
    obtain ⟨rr, z⟩ := pv
    have gz : Grid H3 R rr (hi n 1) (hi n 1) (fun x y => if x < 0 then tabE cs x y else 0) := by
      refine Grid.congr (f := fun _ _ => 0) ⟨z.at_, z.len, z.nd, z.out, fun j r e => z.row j r e⟩ fun x y x0 x1 y0 y1 => ?_
      rw [if_neg (by omega)]
    obtain ⟨cvs, ec, tc⟩ := id hc
    generalize hsz2 : hi n 1 = sz at hz0 gz
    refine ⟨_, rfl, sz, by rw [← hsz2]; rfl, by omega, by omega, for_range (lo := 0) (n := sz.toNat) (fun i σ H4 => (∃ y4 y5 y6 y7 y8 y9, σ = [some (.int n), some (.ref c), some (.int sz), some (.ref R), y4, y5, y6, y7, y8, y9]) ∧ Same H H4 ∧ Grid H4 R rr sz sz (fun x y => if x < (i : Int) then tabE cs x y else 0)) ⟨⟨none, none, none, none, none, none, by rw [← hsz2]; rfl⟩, z.sm, gz⟩ (fun i σ H4 hi4 pv => ?_) (fun σ H4 pv => ?_)⟩
    · obtain ⟨⟨y4, y5, y6, y7, y8, y9, rfl⟩, s4, g4⟩ := pv
      rw [Int.zero_add]
      -- met
      refine ⟨_, rfl, sz, rfl, by omega, by omega, fun M hM => ?_⟩
      refine lc_range (lo := 0) (n := sz.toNat) (fun k H5 => H5 = upd H4 M (.lst ((bl sz fun _ => false).take k))) rfl (fun k H5 hk pv => ?_) (fun H5 pv => ?_)
      · subst pv
        refine ⟨rfl, ?_⟩
        refine ⟨_, upd_same, ?_, ?_⟩
        · rw [List.length_take, bl_len]
          exact Nat.lt_of_le_of_lt (Nat.min_le_right _ _) (small1000 (by omega))
        · rw [upd_upd, List.take_add_one]
          have : (bl sz fun _ => false)[k]? = some (.bl false) := by
            unfold bl
            rw [List.getElem?_map, List.getElem?_range hk]
            rfl
          rw [this]
          rfl
      subst pv
      rw [List.take_of_length_le (by rw [bl_len]; exact Nat.le_refl _)]
      obtain ⟨nRM, nMrr⟩ := g4.apart hM
      have nHM : H M = none := s4.free hM
      have s5 : Same H (upd H4 M (.lst (bl sz fun _ => false))) := s4.trans (same_upd hM)
      have g5 := g4.other (o := .lst (bl sz fun _ => false)) nRM nMrr
      refine ⟨_, rfl, 1, sz, rfl, ⟨by omega, by omega, by omega, by omega⟩, for_range (lo := 1) (n := (sz - 1).toNat) (fun k σ H6 => (∃ y6 y7, σ = [some (.int n), some (.ref c), some (.int sz), some (.ref R), some (.int (i : Int)), some (.ref M), y6, y7, y8, y9]) ∧ Same H H6 ∧ Grid H6 R rr sz sz (fun x y => if x < (i : Int) ∨ (x = (i : Int) ∧ mt sz i k y = true) then tabE cs x y else 0) ∧ H6 M = some (.lst (bl sz (mt sz i k)))) ⟨⟨_, _, rfl⟩, s5, ?_, ?_⟩ (fun k σ H6 hk pv => ?_) (fun σ H6 pv => ?_)⟩
      · refine g5.congr fun x y x0 x1 y0 y1 => ?_
        rw [mt_zero]
        by_cases h : x < (i : Int)
        · rw [if_pos h, if_pos (.inl h)]
        · rw [if_neg h, if_neg (fun z => by rcases z with z | z; exact h z; exact Bool.false_ne_true z.2)]
      · rw [upd_same]
        congr 2
        exact bl_congr fun x _ _ => (mt_zero sz i x).symm
      · obtain ⟨⟨y6, y7, rfl⟩, s6, g6, eM⟩ := pv
        have hn : sz = n := hz0.2.2 (by omega)
        subst hn
        have hk1 : (k : Int) + 1 < sz := by omega
        have i1 : (i : Int) < sz := by omega
        obtain ⟨j0, j1⟩ := fmod_in ((i : Int) + (1 + (k : Int))) (show 0 < sz by omega)
        refine ⟨_, rfl, _, rfl, _, _, rfl, rfl, .inl ⟨_, rfl, _, rfl, _, _, rfl, rfl, by omega, ?_⟩⟩
        generalize hj : ((i : Int) + (1 + (k : Int))).fmod sz = j at j0 j1
        show (tSeq _ _) _ ([some (.int sz), some (.ref c), some (.int sz), some (.ref R), some (.int (i : Int)), some (.ref M), some (.int (1 + (k : Int))), some (.int (((i : Int) + (1 + (k : Int))).fmod sz)), y8, y9]) _
        rw [hj]
        -- met[j] = True
        refine ⟨_, rfl, _, rfl, M, _, _, _, rfl, rfl, eM, bl_ix _ j0 j1, ?_⟩
        rw [bl_set _ _ j0 j1]
        have emt : (bl sz fun y => if y = j then true else mt sz i k y) = bl sz (mt sz i (k + 1)) := bl_congr fun y h0 h1 => by
          rw [mt_step (by omega) i1 h0 h1 hk1, hj]
        rw [emt]
        have s7 : Same H (upd H6 M (.lst (bl sz (mt sz i (k + 1))))) := same_put (H1 := H) nHM s6
        have g7 := g6.other (o := .lst (bl sz (mt sz i (k + 1)))) nRM nMrr
        generalize hH7 : upd H6 M (.lst (bl sz (mt sz i (k + 1)))) = H7 at s7 g7
        have eM7 : H7 M = some (.lst (bl sz (mt sz i (k + 1)))) := by rw [← hH7]; exact upd_same
        -- the sum
        refine ⟨_, rfl, c, rfl, ⟨cvs, .inl (.inl (s7 _ _ ec))⟩, fun D hD => ?_⟩
        generalize hf : (fun q : Int × Int => mt sz i (k + 1) q.1 != mt sz i (k + 1) q.2) = fF
        refine lc_tup (K := K) (a := c) (xs := cvs) (fun m H8 => H8 = upd H7 D (.lst ((fl fF (cs.take m)).map V.int))) rfl (fun m H8 _ pv => by subst pv; exact .inl (.inl (same_upd hD _ _ (s7 _ _ ec)))) (fun m x H8 hxm pv => ?_) (fun H8 pv => ?_)
        · subst pv
          obtain ⟨u, t, rfl, htm, hu⟩ := (tc.same s7).at_ hxm
          have ho := hG.ord t (List.mem_of_getElem? htm)
          have sD := same_upd (o := .lst ((fl fF (cs.take m)).map V.int)) hD
          have qu : SqT K (upd H7 D (.lst ((fl fF (cs.take m)).map V.int))) u (tv t) := .inl (.inl (sD _ _ hu))
          have qM : SqL K (upd H7 D (.lst ((fl fF (cs.take m)).map V.int))) M (bl sz (mt sz i (k + 1))) := .inl (.inl (sD _ _ eM7))
          have a0 : atI (tv t) 0 = some (.int t.1) := atI_nat (j := 0) rfl
          have a1 : atI (tv t) 1 = some (.int t.2.1) := atI_nat (j := 1) rfl
          have a2 : atI (tv t) 2 = some (.int t.2.2) := atI_nat (j := 2) rfl
          have etake : fl fF (cs.take (m + 1)) = if fF (pr t) = true then fl fF (cs.take m) ++ [t.2.2] else fl fF (cs.take m) := by
            rw [List.take_add_one, htm]
            exact fl_snoc fF (cs.take m) t
          have eF : fF (pr t) = (mt sz i (k + 1) t.1 != mt sz i (k + 1) t.2.1) := by rw [← hf]; rfl
          refine ⟨rfl, ?_⟩
          refine ⟨_, rfl, _, rfl, u, _, 0, _, rfl, rfl, qu, a0, M, _, _, _, rfl, rfl, qM, bl_at _ (by omega) (by omega), ?_⟩
          refine ⟨_, rfl, _, rfl, u, _, 1, _, rfl, rfl, qu, a1, M, _, _, _, rfl, rfl, qM, bl_at _ (by omega) (by omega), rfl, _, rfl, ?_⟩
          refine ite2 (fun e => ?_) (fun e => ?_)
          · have e1 : fF (pr t) = true := by rw [eF, ← ne_bl]; exact e
            refine ⟨_, rfl, u, _, 2, _, rfl, rfl, qu, a2, _, upd_same, ?_, ?_⟩
            · rw [List.length_map]
              refine Nat.lt_of_le_of_lt (Nat.le_trans (fl_len _ _) ?_) (small1000 hl)
              rw [List.length_take]
              exact Nat.min_le_right _ _
            · rw [upd_upd, etake, if_pos e1, List.map_append]
              rfl
          · have e1 : ¬ fF (pr t) = true := by rw [eF, ← ne_bl]; exact e
            rw [etake, if_neg e1]
        · subst pv
          rw [tc.1, List.take_length]
          have sD := same_upd (o := .lst ((fl fF cs).map V.int)) hD
          refine ⟨D, _, rfl, .inl (.inl upd_same), ?_⟩
          rw [fl_sum]
          have eT : bs fF cs = tabE cs i j := by
            unfold tabE
            refine bs_congr fun t ht => ?_
            have ho := hG.ord t ht
            rw [← hf]
            have := mt_sep (k := k) (show (0 : Int) ≤ i by omega) i1 hk1 (show 0 ≤ t.1 by omega) (by omega) (show 0 ≤ t.2.1 by omega) (by omega)
            rw [hj] at this
            exact this
          rw [eT]
          have g8 := g7.same sD
          obtain ⟨r1, e1, a1, h1⟩ := g8.get (a := (i : Int)) (by omega) (by omega)
          refine ⟨_, rfl, _, rfl, R, _, _, _, rfl, rfl, .inl (.inl g8.at_), a1, _, rfl, r1, _, _, _, rfl, rfl, h1, gl_ix _ j0 j1, ?_⟩
          have g9 := g8.set (v := tabE cs i j) (by omega) j0 j1 e1
          refine ⟨⟨some (.int (1 + (k : Int))), some (.int j), rfl⟩, same_put (H1 := H) (z.fr r1 (List.mem_of_getElem? e1)) (s7.trans sD), g9.congr fun x y x0 x1 y0 y1 => ?_, ?_⟩
          · have hm := mt_step (k := k) (show (0 : Int) ≤ i by omega) i1 y0 y1 hk1
            rw [hj] at hm
            rw [hm]
            by_cases q1 : x = (i : Int) ∧ y = j
            · rw [if_pos q1, if_pos (.inr ⟨q1.1, by rw [if_pos q1.2]⟩), q1.1, q1.2]
            · rw [if_neg q1]
              by_cases q2 : x < (i : Int) ∨ (x = (i : Int) ∧ mt sz i k y = true)
              · rw [if_pos q2]
                rcases q2 with q2 | q2
                · rw [if_pos (.inl q2)]
                · rw [if_pos (.inr ⟨q2.1, by
                    split
                    · rfl
                    · exact q2.2⟩)]
              · rw [if_neg q2, if_neg]
                rintro (q3 | ⟨q3, q4⟩)
                · exact q2 (.inl q3)
                · have : ¬ y = j := fun z => q1 ⟨q3, z⟩
                  rw [if_neg this] at q4
                  exact q2 (.inr ⟨q3, q4⟩)
          · have nMr : M ≠ r1 := fun z => nMrr (by rw [z]; exact List.mem_of_getElem? e1)
            rw [upd_ne nMr]
            exact sD _ _ eM7
      · obtain ⟨⟨y6, y7, rfl⟩, s6, g6, eM⟩ := pv
        refine ⟨⟨_, _, _, _, _, _, rfl⟩, s6, g6.congr fun x y x0 x1 y0 y1 => ?_⟩
        by_cases q1 : x < (i : Int)
        · rw [if_pos (.inl q1), if_pos (by omega)]
        · by_cases q2 : x = (i : Int)
          · rw [mt_all (show (0 : Int) ≤ i by omega) (by omega) y0 y1 (by omega), if_pos (show x < ((i + 1 : Nat) : Int) by omega)]
            by_cases q3 : y = (i : Int)
            · rw [if_neg (fun z => by
                rcases z with z | z
                · exact q1 z
                · exact of_decide_eq_true z.2 q3), q2, q3, tabE_same]
            · rw [if_pos (.inr ⟨q2, decide_eq_true q3⟩)]
          · rw [if_neg (fun z => by
              rcases z with z | z
              · exact q1 z
              · exact q2 z.1), if_neg (by omega)]
    -- the tuples
    obtain ⟨⟨y4, y5, y6, y7, y8, y9, rfl⟩, s4, g4⟩ := pv
    have g5 : Grid H4 R rr sz sz (tabE cs) := g4.congr fun x y x0 x1 y0 y1 => by rw [if_pos (by omega)]
    refine ⟨_, rfl, R, rfl, ⟨_, .inl (.inl g5.at_)⟩, fun O hO => ?_⟩
    refine lc_list (K := K) (a := R) (xs := rr.map V.ref) (fun i H5 => Same H4 H5 ∧ ∃ us : List Addr, H5 O = some (.lst (us.map V.ref)) ∧ us.length = i ∧ ∀ (j : Nat) (u : Addr), us[j]? = some u → H5 u = some (.tup (gl sz (tabE cs j)))) ⟨same_upd hO, [], upd_same, rfl, by simp⟩ (fun i H5 _ p => .inl (.inl (p.1 _ _ g5.at_))) (fun i x H5 hxi p => ?_) (fun H5 p => ?_)
    · obtain ⟨s5, us, eO, hul, hus⟩ := p
      obtain ⟨r, hri, rfl⟩ : ∃ r, rr[i]? = some r ∧ x = .ref r := by
        rw [List.getElem?_map] at hxi
        cases e : rr[i]? with
        | none => rw [e] at hxi; cases hxi
        | some r =>
          rw [e] at hxi
          exact ⟨r, rfl, (Option.some.inj hxi).symm⟩
      have hi0 : i < sz.toNat := by
        rw [← g5.len]
        exact (List.getElem?_eq_some_iff.mp hri).1
      refine ⟨rfl, ?_⟩
      refine ⟨_, rfl, r, _, rfl, .inl ⟨.inl (.inl (s5 _ _ (g5.row i r hri))), fun u nu => ?_⟩⟩
      have nuO : u ≠ O := fun z => by
        rw [z, eO] at nu
        cases nu
      refine ⟨_, same_upd nu _ _ eO, ?_, same_put (H1 := H4) hO (s5.trans (same_upd nu)), us ++ [u], ?_, ?_, ?_⟩
      · rw [List.length_map, hul]
        exact small1000 (by omega)
      · rw [upd_same, List.map_append]
        rfl
      · rw [List.length_append, hul]
        rfl
      · intro j v e
        by_cases hj : j < us.length
        · rw [List.getElem?_append_left hj] at e
          have h5 := hus j v e
          have hv : v ≠ O := fun z => by
            rw [z, eO] at h5
            cases h5
          rw [upd_ne hv]
          exact same_upd nu _ _ h5
        · rw [List.getElem?_append_right (by omega)] at e
          have hk : j - us.length = 0 := by
            cases hk : j - us.length with
            | zero => rfl
            | succ k =>
              rw [hk] at e
              simp at e
          rw [hk] at e
          obtain rfl : u = v := Option.some.inj e
          have ej : j = i := by omega
          subst ej
          rw [upd_ne nuO, upd_same]
    · obtain ⟨s5, us, eO, hul, hus⟩ := p
      rw [List.length_map, g5.len] at hul
      refine ⟨O, _, rfl, .inl ⟨.inl (.inl eO), fun a na => ?_⟩⟩
      refine q _ a ((s4.trans s5).trans (same_upd na)) ⟨_, upd_same, ?_, fun j hj => ?_⟩
      · rw [List.length_map, hul, hsz2]
      · rw [hsz2] at hj
        have hj2 : j < us.length := by omega
        refine ⟨us[j], ?_, ?_⟩
        · rw [List.getElem?_map, List.getElem?_eq_getElem hj2]
          rfl
        · rw [hsz2]
          exact same_upd na _ _ (hus j _ (List.getElem?_eq_getElem hj2))
end
end Own

/-! An own error class whose __init__ begins with super().__init__(text) and then stores its fields. -/
namespace Own
open PySem PySem.Spec PyProof.Rows L2 NdefX
abbrev supS (p0 p1 p2 p3 p4 : Pos) (e : Expr) (es : List Expr) : Stmt := .Expr (.Call (.Attribute (.Call (.Name "super" p0) [] [] p1) "__init__" p2) (e :: es) [] p3) p4
abbrev supF (name qual : Str) (params : Arguments) (body : List Stmt) (scope : Scope) (cc cda : Addr) : NF := ⟨name, qual, params, body, scope, [("__class__", cc)], cda⟩
section
variable {CX : CXT} {P : Program} {w : World} {K : PySem.W.Frag} {mg : Str → Option Value} {base : Heap} {k : Nat} {f cc cda D : Addr}
/-- what is known of the class, of its cell and of the code -/
structure ErrK (P : Program) (K : PySem.W.Frag) (mg : Str → Option Value) (D cc cda : Addr) : Prop where
  oex : OexC K D
  cell : ∃ cl cld csl, K.lookup cc = some ⟨cl, cld, .cell (some (.ref D)), csl⟩
  code : ∃ ccl cdd vs ccs file tf, K.lookup cda = some ⟨ccl, cdd, .fields vs, ccs⟩ ∧ vs[2]? = some (.str file tf) ∧ ((P.main.file : Str) == file) = true
  sup : PySem.W.ks_superIn K D D "__init__" = some (some (.builtin "ValueError.__init__"))
  ve : PySem.W.subIn K (.ref D) (.type "ValueError") = some true
  self : PySem.W.mroIn K D (.ref D) = some true
  opq : PySem.W.nsIn K cStatics "thirdparty.any" = some none
  mgs : mg "super" = none
  top : (P.main.scope.names.lookup ("super" : Str)).isSome = false
theorem one_look {cc c : Addr} {y : Str} (hy : List.lookup y [(("__class__" : Str), cc)] = some c) : y = "__class__" ∧ c = cc := by
  simp only [List.lookup] at hy
  split at hy
  · rename_i q
    exact ⟨eq_of_beq q, (Option.some.inj hy).symm⟩
  · cases hy
theorem exo_self {H : Hp} {a D : Addr} (e : H a = some (exo a D none)) : upd H a (exo a D none) = H := by
  funext b
  by_cases hb : b = a
  · rw [hb, upd_same, e]
  · rw [upd_ne hb]
theorem fn_err {N ps : List Str} {sp : Sp} {name qual : Str} {params : Arguments} {scope : Scope} {rest : List Stmt} {p0 p1 p2 p3 p4 : Pos} {e : Expr} {es : List Expr} {ar : Arg} {dV kV doc pm ct oc : Value} {an od : Option Addr} {osl : Array (Option Value)} (T : ErrK P K mg D cc cda)
    (lk : K.lookup f = some ⟨oc, od, .func (PySem.W.fnX name qual params (supS p0 p1 p2 p3 p4 e es :: rest) scope [("__class__", cc)] dV kV doc pm an (.ref cda) ct), osl⟩) (hcd : PySem.W.codeIn K (.ref cda) qual = true)
    (S : NScope N ps ["__class__"] scope) (hp : (params.posonlyargs ++ params.args).head? = some ar) (hps : ps[0]? = some ar.arg) (hks : scope.names.lookup ("super" : Str) = some .globalImplicit)
    (len : ∀ vs H Q E, sp vs H Q E → vs.length = ps.length)
    (hbody : ∀ (A : Around) (outer : List Env) (s : Shared) (H : Hp) (vs : List V) (Q : VK) (E : XK), Room k (A.deeper (envF (supF name qual params (supS p0 p1 p2 p3 p4 e es :: rest) scope cc cda) f s.heap.objs.size)) → sp vs H Q E →
      ∃ (a : Addr) (ta : TA) (t : TS), vs[0]? = some (.ref a) ∧ H a = some (exo a D none) ∧
        PA (ncx CX P w K mg base N (supF name qual params (supS p0 p1 p2 p3 p4 e es :: rest) scope cc cda) f A outer s H E) (e :: es) ta ∧
        PSs (ncx CX P w K mg base N (supF name qual params (supS p0 p1 p2 p3 p4 e es :: rest) scope cc cda) f A outer s H E) rest t ∧
        ta (startF N vs [none]) H fun ws H1 => ws.length ≤ 1000 ∧ H1 a = some (exo a D none) ∧ t { nx := fun _ H' => Q .non H', rt := Q } (startF N vs [none]) H1)
    (he : ∀ env : Env, starEach (e :: es) env = (false, eval e env) :: starEach es env := by intro _; rfl) (hpl : ∀ env : Env, (backTo p3 (starEach es env)).any (·.1) = false := by intro _; rfl) {pl : Sem Bool}
    (hev : ∀ env : Env, eval (.Call (.Attribute (.Call (.Name "super" p0) [] [] p1) "__init__" p2) (e :: es) [] p3) env = (do
      let ov ← attributeBase (.Call (.Name "super" p0) [] [] p1) "__init__" env (eval (.Call (.Name "super" p0) [] [] p1) env)
      standAt p2.atName
      let (f, first) ← holding [ov] (getMethod ov "__init__" pl)
      callWith p3 f first (backTo p3 (starEach (e :: es) env)) []) := by intro _; rfl) :
    FnOk P w K mg base CX (k + 1) f (PySem.W.fnX name qual params (supS p0 p1 p2 p3 p4 e es :: rest) scope [("__class__", cc)] dV kV doc pm an (.ref cda) ct) ps sp := by
  refine ⟨len, fun A outer s H args us vs Q E hr e0 hb r hsp => ?_⟩
  have hl := len _ _ _ _ hsp
  have kpb : ∀ b o, base.get? b = some o → s.heap.get? b = some o := fun b o e => (e0.bs b o e).1
  have KX : K.In s.heap := e0.mod.kin.keeps kpb
  have lim : s.heap.NoLimit := e0.mod.nolimit.keeps kpb
  obtain ⟨cl, cld, csl, hcell⟩ := T.cell
  obtain ⟨ccl, cdd, cvs, ccs, file, tf, hcode, hvs, hfile⟩ := T.code
  have hcc : H cc = none := (e0.bs _ _ (e0.mod.kin _ _ hcell)).2
  refine PySem.ks_codeAny_call_defAt (binds := ps.zip us) hr.depth (KX _ _ lk) rfl lim (PySem.W.codeRec_of KX hcd) rfl hb S.nocell (fun ⟨n, _⟩ hy => S.par n (List.of_mem_zip hy).1) (fun h₁ hns kp => ?_) S.co S.gen S.kind
  show PySem.wpAt (model P w) (A.deeper (envF (supF name qual params (supS p0 p1 p2 p3 p4 e es :: rest) scope cc cda) f s.heap.objs.size)) (.func (supS p0 p1 p2 p3 p4 e es :: rest) (envF (supF name qual params (supS p0 p1 p2 p3 p4 e es :: rest) scope cc cda) f s.heap.objs.size)) (execs (supS p0 p1 p2 p3 p4 e es :: rest) (envF (supF name qual params (supS p0 p1 p2 p3 p4 e es :: rest) scope cc cda) f s.heap.objs.size)) _ _ _
  obtain ⟨a, ta, t, ea, eHa, ha, ht, hq⟩ := hbody A outer s H vs Q E (hr.deeper _) hsp
  have C : CellsAt [(("__class__" : Str), cc)] ["__class__"] [none] s.heap H := by
    refine ⟨rfl, fun y c hy => ?_, fun x y c h1 h2 => ?_, fun i y hi => ?_⟩
    · obtain ⟨rfl, rfl⟩ := one_look hy
      exact ⟨hcc, _, ⟨_, KX _ _ hcell, rfl⟩⟩
    · rw [(one_look h1).1, (one_look h2).1]
    · have : y = "__class__" ∧ i = 0 := by
        cases i with
        | zero => exact ⟨(Option.some.inj hi).symm, rfl⟩
        | succ i => simp at hi
      obtain ⟨rfl, rfl⟩ := this
      exact ⟨cc, by simp [List.lookup], fun v hv => by cases hv⟩
  have I := inv_startN (CX := CX) (E := E) (F := supF name qual params (supS p0 p1 p2 p3 p4 e es :: rest) scope cc cda) (f := f) (tk := s.toks + (ps.zip us).length) S hr.hd e0 hl r C hns kp
  have kc : (envF (supF name qual params (supS p0 p1 p2 p3 p4 e es :: rest) scope cc cda) f s.heap.objs.size).kindOf "__class__" = some .free := S.frk _ List.mem_cons_self
  obtain ⟨nm, qq, NN, bs, bm, sn, sub, ab, col, dd, k0, k1, k2, k3, k5, hC, hbm⟩ := T.oex.cls
  have hcl : PySem.W.clsIn K D = some { name := nm, bases := bs, mro := .ref D :: bm, ns := NN, qualname := qq, hasDict := true, slotNames := sn, subclasses := sub, abstract := ab, collection := col, hasDel := false } := by unfold PySem.W.clsIn; rw [hC] <;> rfl
  have K1 : K.In h₁ := KX.keeps kp
  obtain ⟨t1, hoa⟩ := exo_at I.hok eHa
  have hoa : h₁.get? a = some ({ cls := .ref D, dict := none, data := .fields #[.ref t1, .none, .none, .none, .bool false, .none] } : Obj) := hoa
  have IA : PySem.W.InstAt h₁ a { cls := .ref D, dict := none, data := .fields #[.ref t1, .none, .none, .none, .bool false, .none] } D none := ⟨hoa, rfl, rfl, trivial⟩
  have u0 : us[0]? = some (.ref a) := by
    obtain ⟨u, hu, ru⟩ := r.get ea
    rw [hu]
    exact congrArg some ru
  have ndP : ps.Nodup := by
    have q := S.nd.sublist (List.take_sublist (ps.length + (["__class__"] : List Str).length) N)
    rw [S.pre] at q
    exact (List.nodup_append.mp q).1
  have hself : (fun y => (ps.zip us).reverse.lookup y) ar.arg = some (.ref a) := zip_look ndP hps u0
  refine PySem.ks_wpAt_execs_cons (PySem.ks_wpAt_Expr_any (PySem.ks_wpAt_MethodCall (pl := pl) ?_ (hev _)) ?hi)
  case hi =>
    unfold interactive
    simp [S.kind]
  refine PySem.ks_wpAt_super_base hks kc (by decide) rfl (kp _ _ (KX _ _ lk)) rfl hp rfl (kp _ _ (KX _ _ hcode)) rfl hvs hfile T.top ?_
  obtain ⟨mb, b1, b2⟩ := I.mod.blt
  refine PySem.W.ks_loadName_global S.kind hks (Calls.loadGlobal_builtin (show Heap.Ns _ mainGlobals mg from I.mod.glob.keeps I.bk) T.mgs (show Heap.Ns _ builtinsNs mb from b1.keeps I.bk) ((b2 "super" (by decide)).trans PyProof.Rows.Boot.«super») ⟨rfl, ?_⟩)
  refine wpAny_loadName_free S.kind kc rfl ⟨_, kp _ _ (KX _ _ hcell), rfl⟩ ?_
  refine wpAny_loadName_local S.kind (S.par _ (List.mem_of_getElem? hps)) hns hself ?_
  refine PySem.ks_wpAny_isType_cls (K1 _ _ hC) rfl ⟨rfl, ?_⟩
  refine PySem.ks_wpAny_call_super (K1 _ _ hC) rfl hoa rfl (fun c z => nomatch z) (PySem.W.looks_mroIn K1 T.self) (fun h2 e2 kk2 => ?_)
  have K2 : K.In h2 := K1.keeps kk2
  have hm := T.sup
  unfold PySem.W.ks_superIn at hm
  rw [hcl] at hm
  have IA2 : PySem.W.InstAt h2 a { cls := .ref D, dict := none, data := .fields #[.ref t1, .none, .none, .none, .bool false, .none] } D none := ⟨kk2 _ _ hoa, rfl, rfl, trivial⟩
  refine PySem.W.kxs_getMethod PySem.W.kxs_ValueError e2 (PySem.W.looks_opaque K2 T.opq) (l₀ := .ref D :: bm) (fun A Q E s k q => wpAny_bind ((PySem.W.looks_clsIn K2 hcl) A _ E s k (wpAny_pure q))) rfl K2 hm (IA2.type.andThen (PySem.W.looks_subIn K2 T.ve)) (PySem.W.ks_ne K2 IA2 hcl) (by decide) ?_
  have nu : H h2.objs.size = none := (I.kept (h' := h2) (t' := s.toks + (ps.zip us).length) kk2).hok.fresh (Nat.le_refl _)
  have I2 : Inv (ncx CX P w K mg base N (supF name qual params (supS p0 p1 p2 p3 p4 e es :: rest) scope cc cda) f A outer s H E) [] (startF N vs [none]) H { heap := h2, gens := s.gens, drawn := s.drawn, toks := s.toks + (ps.zip us).length, os := s.os } := I.kept kk2
  have hmw : (h2.push (PySem.W.kxs_mw "ValueError.__init__" a)).get? h2.objs.size = some (PySem.W.kxs_mw "ValueError.__init__" a) := Heap.get?_push_at rfl rfl
  have I3 : Inv (ncx CX P w K mg base N (supF name qual params (supS p0 p1 p2 p3 p4 e es :: rest) scope cc cda) f A outer s H E) [] (startF N vs [none]) H { heap := h2.push (PySem.W.kxs_mw "ValueError.__init__" a), gens := s.gens, drawn := s.drawn, toks := s.toks + (ps.zip us).length + 1, os := s.os } := I2.kept fun _ _ z => Heap.get?_push_of_some _ z
  have F2 := I2.fpOk (Nat.le_refl _) nu
  have I4 := I3.pinned (fp := [h2.objs.size]) (fun b hb => by rw [List.mem_singleton.mp hb]; exact F2) (fun b hb => by rw [List.mem_singleton.mp hb]; exact ⟨_, hmw, fun v z => nomatch z⟩)
  show wpAny _ _ (callWith p3 (.ref h2.objs.size) [] (backTo p3 (starEach (e :: es) _)) []) _ _ _
  refine PySem.W.kxs_callWith (i := "ValueError.__init__") (x := a) (by rw [he]; show (false || (backTo p3 (starEach es _)).any (·.1)) = false; rw [hpl]; rfl) ?_
  have run := ha.run p3 _ _ (startF N vs [none]) H _ I4 hq
  rw [he] at run ⊢
  refine Calls.evalArgs_plain (thn run fun ws s5 ⟨zs, H5, I5, r5, lz, e5, q5⟩ => ?_)
  have hu5 : s5.heap.get? h2.objs.size = some (PySem.W.kxs_mw "ValueError.__init__" a) := (I5.pin (h2.objs.size, PySem.W.kxs_mw "ValueError.__init__" a) (List.mem_append_right _ (List.mem_append_right _ (mem_pinsAt List.mem_cons_self hmw)))).1
  refine ⟨hu5, ?_⟩
  obtain ⟨t5, ho5⟩ := exo_at I5.hok e5
  have K5 := I5.kIn
  have lw : ws.length ≤ sizeLine := by
    rw [← Paired.length r5]
    exact Nat.le_of_lt (small1000 lz)
  refine wpAny_call (codeAny_of_tree ?_)
  show wpAny _ _ (callAny (.ref h2.objs.size) ⟨ws, []⟩) _ _ _
  simp only [callAny]
  obtain ⟨hh, g5, d5, tk5, os5⟩ := s5
  refine wpAny_bind (wpAny_load hu5 ?_)
  simp only [PySem.W.kxs_mw, show (Value.type "method-wrapper" == Value.type "method" || Value.type "method-wrapper" == Value.type "builtin_function_or_method" || Value.type "method-wrapper" == Value.type "method-wrapper") = true by decide, if_true]
  refine PySem.W.KFB.if_so (by decide) ?_
  refine wpAny_bind (PySem.W.check_bound_init F.excBase_ValueError.toExcCallFacts (K5 _ _ hC) ho5 rfl ?_)
  refine wpAny_bind (wpAny_pure (wpAny_pure ?_))
  refine ⟨plainId_quiet F.excBase_ValueError.init.plain _, codeAny_builtin F.excBase_ValueError.initEntry ?_⟩
  refine PySem.W.exc_init_tree (cls := .ref D) (t0 := t5) (dv := none) (c2 := .none) (c3 := .none) (b4 := .bool false) ho5 lw (fun h6 k6 e6 _ => ?_)
  have J := I5.write (t' := tk5) (h' := h6) (x := a) (e := a) (o := exo a D none) (by rw [e5]; exact True.intro) (.inl rfl) k6 ⟨_, e6⟩ (exo_ok e6)
  rw [exo_self e5] at J
  have J := J.unpinned
  refine PySem.wpAt_of_wpAny ?_
  refine wpAny_mono (ht.run [] _ (startF N vs [none]) H5 _ J q5) (fun fl s' hs => ?_) fun e s' hs => hs
  have fin : ∀ {σ' : L2.St} {H' : Hp} {v : V} {u : Value}, Inv (ncx CX P w K mg base N (supF name qual params (supS p0 p1 p2 p3 p4 e es :: rest) scope cc cda) f A outer s H E) [] σ' H' s' → L2.RelV v u → Q v H' → CE outer P w H s Q u s' :=
    fun {σ' H' v u} J rv q => ⟨v, H', J.os, J.bare, J.base, J.hok, rv, q⟩
  cases fl with
  | ret u =>
    obtain ⟨v, σ', H', J, rv, q⟩ := hs
    exact fin J rv q
  | next =>
    obtain ⟨σ', H', J, q⟩ := hs
    exact fin (v := V.non) (u := Value.none) J rfl q
  | brk =>
    obtain ⟨_, _, _, q⟩ := hs
    exact False.elim q
  | cont =>
    obtain ⟨_, _, _, q⟩ := hs
    exact False.elim q
end
end Own

/-! The promise of an own error's __init__; raising it. -/
namespace Own
open PySem PySem.Spec PyProof.Rows L2 NdefX
/-- an int that is written in a text -/
def Shw (v : V) : Prop := ∃ i : Int, v = .int i ∧ i.natAbs.log2 < 1000
theorem log_lt {i : Int} {k : Nat} (hk : 0 < k) (h : i.natAbs < 2 ^ k) : i.natAbs.log2 < k := by
  by_cases h0 : i.natAbs = 0
  · rw [h0, Nat.log2_zero]
    exact hk
  · exact (Nat.log2_lt h0).mpr h
theorem Shw.of {i : Int} (h0 : -(2 ^ 64) < i) (h1 : i < 2 ^ 64) : Shw (.int i) := ⟨i, rfl, Nat.lt_of_lt_of_le (log_lt (k := 64) (by decide) (by omega)) (by decide)⟩
theorem txt_len {i : Int} (h : i.natAbs.log2 < 1000) : (Str.ofString (toString i)).length ≤ 1001 := by
  rw [PySem.ofString_length]
  exact int_text_length_le (by decide) h
/-- the error's own dict by its fields -/
def flE (nm : List Str) (ys : List V) : List (Str × V) := (nm.zip ys).reverse
def spErr (D : Addr) (nm : List Str) : Sp := fun vs H Q _ => ∃ (a : Addr) (ys : List V), vs = .ref a :: ys ∧ ys.length = nm.length ∧ (∀ y ∈ ys, Shw y) ∧ H a = some (exo a D none) ∧
  ∀ d H', H d = none → d ≠ a → (∀ b, H' b = if b = d then some (exd d (flE nm ys)) else if b = a then some (exo a D (some d)) else H b) → Q .non H'
/-- what the class must say besides, that its instances can be raised -/
structure ErrT (K : PySem.W.Frag) (mg : Str → Option Value) (x : Str) (D f : Addr) : Prop where
  g : mg x = some (.ref D)
  i : PySem.W.findIn K (.ref D) "__init__" = some (some (.ref f))
  t : PySem.W.typeIn K (.ref f) = some (.type "function")
section
variable {P : Program} {w : World} {K : PySem.W.Frag} {mg : Str → Option Value} {base : Heap} {X : Cx}
/-- the reading of X(..) that is raised -/
theorem rd_err {D : Addr} {nm : List Str} {ys : List V} {H : Hp} {Q : XK} (hl : ys.length = nm.length) (hz : nm.length ≤ 1000) (hs : ∀ y ∈ ys, Shw y) (q : ∀ d, H d = none → Q (.ref D) (some d) (upd H d (.xd (flE nm ys)))) :
    ys.length ≤ 1000 ∧ ∀ a, H a = none → spErr D nm (.ref a :: (ys ++ [])) (upd H a (exo a D none)) (fun v H2 => v = .non ∧ ∃ (d : Addr) (fs : List (Str × V)), H2 a = some (exo a D (some d)) ∧ H2 d = some (exd d fs) ∧ H d = none ∧ Q (.ref D) (some d) (upd (del H2 a) d (.xd fs))) (fun _ _ _ => False) := by
  refine ⟨by omega, fun a na => ⟨a, ys, by rw [List.append_nil], hl, hs, upd_same, fun d H' nd ne h => ⟨rfl, d, flE nm ys, ?_, ?_, ?_, ?_⟩⟩⟩
  · rw [h, if_neg ne.symm, if_pos rfl]
  · rw [h, if_pos rfl]
  · rw [upd_ne ne] at nd
    exact nd
  · have : upd (del H' a) d (.xd (flE nm ys)) = upd H d (.xd (flE nm ys)) := by
      funext b
      by_cases hb : b = d
      · rw [hb, upd_same, upd_same]
      · rw [upd_ne hb, upd_ne hb]
        by_cases ha : b = a
        · rw [ha, del_same, na]
        · rw [del_ne ha, h, if_neg hb, if_neg ha, upd_ne ha]
    rw [this]
    rw [upd_ne ne] at nd
    exact q d nd
/-- raise X(e, ..) -/
theorem ps_err {W : WX} {x : Str} {D f : Addr} {k : Nat} {fd : FuncData} {ps nm : List Str} {e : Expr} {es : List Expr} {ta : TA} {p pos pos' : Pos} (hc : X.calm = true) (tk : Takes X W) (T : OexC X.K D) (R : ErrT X.K X.mg x D f) (F1 : FnOk X.prog X.w X.K X.mg X.base CX0 k f fd ps (spErr D nm)) (hr : Room (k + 1) X.A)
    (hb : Binds X.K fd ps []) (hg : Gl X x) (ha : PA X (e :: es) ta) (hdb : (x == ("__debug__" : Str)) = false := by decide) (he : starEach (e :: es) X.env = (false, eval e X.env) :: starEach es X.env := by rfl) (hpl : (backTo pos (starEach es X.env)).any (·.1) = false := by rfl) :
    PS X (.Raise (some (.Call (.Name x p) (e :: es) [] pos)) none pos') (fun _ σ H => tMkO D (spErr D nm) [] ta σ H fun cls d H' => W cls d σ H') :=
  ps_raise hc tk (pmk_oex T R.i R.t F1 hr hb .nil pass0 hg R.g ha hdb he hpl)
end
/-- the text of an error's __init__ -/
abbrev inErr (st : Stmt) : Stmt := inClass st 0
section
variable {P : Program} {w : World} {K : PySem.W.Frag} {mg : Str → Option Value} {base : Heap} {D cc cda f : Addr}
theorem upd2 {H : Hp} {a d : Addr} {o u : HO} (b : Addr) (ne : d ≠ a) : (upd (upd H d o) a u) b = if b = d then some o else if b = a then some u else H b := by
  by_cases hb : b = d
  · rw [if_pos hb, hb, upd_ne ne, upd_same]
  · rw [if_neg hb]
    by_cases ha : b = a
    · rw [if_pos ha, ha, upd_same]
    · rw [if_neg ha, upd_ne ha, upd_ne hb]
end
end Own

/-! More rules: list.count of data, the operator in by an own class, isinstance of a caught error that has fields. -/
namespace Own
open PySem PySem.Spec PyProof.Rows L2
section
variable {X : Cx}
/-- xs.count(x), items that are plain data: some number -/
def rCntD (K : PySem.W.Frag) : V → List V → Hp → VK → Prop := fun x xs H Q => ∃ (a : Addr) (y : V) (d : PyData) (ds : List PyData), x = V.ref a ∧ xs = [y] ∧ Dp K H (V.ref a) (.list ds) ∧ Dp K H y d ∧ PyData.plainAll ds = true ∧ d.plain = true ∧ d.depth ≤ 60 ∧ ∀ n : Nat, Q (.int (n : Int)) H
theorem mt_lcountD (room : X.A.units + 65 < cLine) : MtR X "list.count" (rCntD X.K) := by
  intro pins s σ H whole args u us Q inv rw_ ra ask
  obtain ⟨a, y, d, ds, rfl, rfl, lis, one, pl, pd, few, q⟩ := ask
  cases rw_
  obtain ⟨w, rfl, rw1⟩ := vals1 ra
  obtain ⟨bs, rd⟩ := Dp.reads inv d y w one rw1
  cases lis with
  | lst seq all =>
    obtain ⟨its, vals, obj, _⟩ := inv.list seq
    obtain ⟨as, rds⟩ := Dp.readsAll inv ds _ its all vals
    refine PySem.SeqAt.count_list_data obj.isList rds rd pl pd (by omega) ?_
    exact ⟨.int (_ : Nat), H, inv.tok _, ⟨_, rfl⟩, q _⟩
/-- x in o, o of an own class with its own rule for it -/
def tOwnIn (C : Addr) (sp : Sp) (E : L2.St → XK) (ta tb : TE) : TE := fun σ H Q => ta σ H fun x H1 => tb σ H1 fun y H2 => ∃ a dx fs, y = .ref a ∧ H2 a = some (.ins C dx fs) ∧ sp [.ref a, x] H2 (fun v H3 => ∃ b, v = .bl b ∧ Q (.bl b) H3) (E σ)
theorem pe_ownIn {CX : CXT} {k : Nat} {C g : Addr} {fd : FuncData} {ps : List Str} {sp : Sp} {E : L2.St → XK} {a b : Expr} {ta tb : TE} {pos : Pos} (hs : PySem.W.findIn X.K (.ref C) "__contains__" = some (some (.ref g))) (hf : PySem.W.isFn X.K (.ref g) = true)
    (F : FnOk X.prog X.w X.K X.mg X.base CX k g fd ps sp) (hr : Room k X.A) (hb : Binds X.K fd ps []) (hx : ∀ σ, PassesAt CX X σ (E σ)) (ha : PE X a ta) (hb' : PE X b tb) (hm : behindInMarks .In b = false := by rfl) : PE X (.Compare a [.In] [b] pos) (tOwnIn C sp E ta tb) := by
  refine ⟨fun pins s σ H Q I h => ?_⟩
  refine wpAny_Compare1 (binT (R := fun x y H2 => ∃ a dx fs, y = .ref a ∧ H2 a = some (.ins C dx fs) ∧ sp [.ref a, x] H2 (fun v H3 => ∃ b, v = .bl b ∧ Q (.bl b) H3) (E σ)) ha hb' I h fun v u s2 x y H2 I2 rx ry q => ?_) hm
  obtain ⟨p, dx, fs, rfl, hp, q⟩ := q
  cases (show u = Value.ref p from ry)
  obtain ⟨mA, O, _, _, _, _⟩ := ins_get I2.hok hp
  obtain ⟨od, J, _⟩ := O.look
  obtain ⟨m, hF⟩ := I2.fr
  refine PySem.W.in_K hF I2.ok.mod.kin J hs hf ?_
  refine wpAny_mono (run_fnS (us := [.ref p, v]) (vs := [.ref p, x]) F hr hb (hx σ) I2 (.cons rfl (.cons rx .nil)) q) (fun w s' z => ?_) fun _ _ x => x
  obtain ⟨z', H', I', rz, b, rfl, qz⟩ := z
  cases rz
  exact wpAny_truthy_bool ⟨.bl b, H', I', rfl, qz⟩
end
end Own
namespace Own
open PySem PySem.Spec PyProof.Rows L2
/-- isinstance(e, c), e the caught error of the class D, its dict at d -/
def rIsD (K : PySem.W.Frag) (D a d : Addr) : List V → Hp → VK → Prop := fun xs H Q => ∃ (c : V) (cv : Value) (b : Bool) (fs : List (Str × V)), xs = [.ref a, c] ∧ H d = some (.xd fs) ∧ (∀ u, RelV c u → u = cv) ∧ PySem.W.kitOne K (.ref D) cv = some b ∧ Q (.bl b) H
theorem call_isD {X : Cx} {a D d : Addr} {oe : Obj} {pn : List (Addr × Obj)} (C : ExcC X.K D) (hz : Zc (.ref D) (some d) oe) (hf : ∃ vs, oe.data = .fields vs) : CallR (X.suite a ((a, oe) :: pn)) (.builtin "isinstance") (rIsD X.K D a d) := by
  intro pins s σ H xs us Q I r h
  obtain ⟨c, cv, b, fs, rfl, hd, hcv, e, q⟩ := h
  cases r with
  | cons rx rr =>
    cases rr with
    | cons rt rr =>
      cases rr
      cases rx
      have ec := hcv _ rt
      subst ec
      obtain ⟨hget, _⟩ := I.pin (a, oe) (List.mem_append.mpr (.inl List.mem_cons_self))
      obtain ⟨vs, hv⟩ := hf
      have hx : ObjOk X.prog X.w H s.heap d (.xd fs) := I.hok d _ hd
      obtain ⟨mA, hns, _⟩ := hx
      obtain ⟨od, ho, _⟩ := lookIn_ns hns
      have J : PySem.W.InstAt s.heap a oe D (some od) := ⟨hget, hz.1, by unfold PySem.W.notCls; rw [hv] <;> rfl, by rw [hz.2]; exact ho⟩
      exact PySem.W.kia_one (PySem.W.kitx_exc (ox := oe) (od := some od) (by obtain ⟨cd, hc, _⟩ := PySem.W.any_some C.hd; rw [hc]; rfl) C.hg C.hk C.hs C.ha C.hn C.ht C.hm) I.kIn J e (fun z => nomatch z) fun tk => ⟨.bl b, H, I.kept (t' := tk) fun _ _ z => z, rfl, q⟩
end Own

namespace Own
open PySem PySem.Spec PyProof.Rows L2 NdefX
section
variable {P : Program} {w : World} {K : PySem.W.Frag} {mg : Str → Option Value} {base : Heap} {D cc cda f : Addr}
abbrev s_UnlikePins_init : Stmt := inClass (top 6) 0
theorem sn_UnlikePins : NScope ["self", "one", "other", "__class__"] ["self", "one", "other"] ["__class__"] (defScope s_UnlikePins_init) := nscope_by (by decide +kernel)
theorem ok_UnlikePins {oc kV dc pm ct : Value} {an od : Option Addr} {sl : Array (Option Value)} (T : ErrK P K mg D cc cda)
    (lk : K.lookup f = some ⟨oc, od, .func (PySem.W.fnX "__init__" "UnlikePins.__init__" (defArgs s_UnlikePins_init) (defBody s_UnlikePins_init) (defScope s_UnlikePins_init) [("__class__", cc)] .none kV dc pm an (.ref cda) ct), sl⟩) (hcd : PySem.W.codeIn K (.ref cda) "UnlikePins.__init__" = true)
    (n1 : PySem.W.findIn K (.ref D) "one" = some none) (n2 : PySem.W.findIn K (.ref D) "other" = some none) :
    FnOk P w K mg base CX0 1 f (PySem.W.fnX "__init__" "UnlikePins.__init__" (defArgs s_UnlikePins_init) (defBody s_UnlikePins_init) (defScope s_UnlikePins_init) [("__class__", cc)] .none kV dc pm an (.ref cda) ct) ["self", "one", "other"] (spErr D ["one", "other"]) := by
  refine fn_err (N := ["self", "one", "other", "__class__"]) (ps := ["self", "one", "other"]) T lk hcd sn_UnlikePins rfl rfl rfl (fun vs H Q E h => ?_) (fun A outer s H vs Q E hr h => ?_)
  · obtain ⟨a, ys, rfl, hl, _⟩ := h
    show ys.length + 1 = _
    rw [hl]
    rfl
  · obtain ⟨a, ys, rfl, hl, hs, ha, q⟩ := h
    match ys, hl with
    | [y1, y2], _ =>
      obtain ⟨i1, rfl, h1⟩ := hs y1 (by simp)
      have l1 := txt_len h1
      obtain ⟨i2, rfl, h2⟩ := hs y2 (by simp)
      have l2 := txt_len h2
      refine ⟨a, _, _, rfl, ha, pa_cons (pe_joined (PJ.cons pe_str (PJ.cons (pe_fmtR (pv 1)) (PJ.cons pe_str (PJ.cons (pe_fmtR (pv 2)) PJ.nil))))) pa_nil, (pss_cons (ps_ost (pv 0) (pv 1)) (pss_one (ps_ost (pv 0) (pv 2)))), ?_⟩
      have e0 : (Str.empty).length = 0 := rfl
      have c1 : (Str.ofString "one ").length ≤ 100 := by decide +kernel
      have c2 : (Str.ofString ", other ").length ≤ 100 := by decide +kernel
      refine ⟨_, rfl, ?_, _, rfl, .inr ⟨i1, rfl, by omega, _, rfl, ?_, _, rfl, ?_, _, rfl, .inr ⟨i2, rfl, by omega, _, rfl, ?_, ⟨by show 1 ≤ 1000; decide, ha, ?_⟩⟩⟩⟩
      all_goals first | (simp only [strLen_append, sizeLine_eq, e0] at *; (first | omega | (show _ ≤ _; omega))) | skip
      refine ⟨_, rfl, _, rfl, a, D, rfl, T.oex, n1, .inl ⟨ha, fun dx nd ne => ?_⟩⟩
      refine ⟨_, rfl, _, rfl, a, D, rfl, T.oex, n2, .inr ⟨dx, [("one", .int i1)], ?_, ?_, ?_, ?_⟩⟩
      · first | exact upd_same | (rw [upd_ne ne.symm]; exact upd_same)
      · first | exact upd_same | (rw [upd_ne ne]; exact upd_same)
      · simp
      refine q dx _ nd ne fun b => ?_
      by_cases hb : b = dx
      · subst hb
        rw [if_pos rfl]
        first | (rw [upd_ne ne, upd_same]; rfl) | (rw [upd_same]; rfl)
      · rw [if_neg hb]
        by_cases hb2 : b = a
        · subst hb2
          rw [if_pos rfl]
          first | (rw [upd_same]) | (rw [upd_ne hb, upd_same]) | (rw [upd_ne hb, upd_ne hb, upd_same])
        · rw [if_neg hb2]
          repeat (first | rw [upd_ne hb] | rw [upd_ne hb2])
end
end Own

/-! Own errors raised where nothing is handled (their context is None), so that defs may be called where they are caught. -/
namespace Own
open PySem PySem.Spec PyProof.Rows L2 NdefX
section
variable {X : Cx} {pins : List (Addr × Obj)} {σ : L2.St} {H : Hp} {s : Shared} {Q : XK} {D f : Addr} {k : Nat} {fd : FuncData} {ps nm : List Str} {ys : List V} {us : List Value} {x : Str}
/-- the call of the class -/
theorem err_made (T : OexC X.K D) (R : ErrT X.K X.mg x D f) (F1 : FnOk X.prog X.w X.K X.mg X.base CX0 k f fd ps (spErr D nm)) (hr : Room (k + 1) X.A) (hb : Binds X.K fd ps []) (I : Inv X pins σ H s) (r : Vals ys us) (hl : ys.length = nm.length) (hz : nm.length ≤ 1000)
    (hs : ∀ y ∈ ys, Shw y) (q : ∀ d, H d = none → Q (.ref D) (some d) (upd H d (.xd (flE nm ys)))) : wpAny (model X.prog X.w) X.A (call (.ref D) us) (L2N.MkP X pins σ Q) X.xe s := by
  obtain ⟨nn, qq, N, bs, bm, sn, sub, ab, col, dd, k0, k1, k2, k3, k5, hC, hbm⟩ := T.cls
  obtain ⟨hp, g, dr, tk, os⟩ := s
  -- where the error comes to stand
  have far : hp.objs.size ≤ hp.objs.size + 1 := Nat.le_succ _
  have free : H (hp.objs.size + 1) = none := I.hok.fresh far
  obtain ⟨_, ask⟩ := rd_err (D := D) hl hz hs q
  have ask := ask _ free
  rw [List.append_nil] at ask
  have old : ∀ b o, hp.get? b = some o → ((hp.push (PySem.W.kdv_tup us)).push (PySem.HandSPX.excO D hp.objs.size)).get? b = some o := fun b o e => Heap.get?_push_of_some _ (Heap.get?_push_of_some _ e)
  have here : ((hp.push (PySem.W.kdv_tup us)).push (PySem.HandSPX.excO D hp.objs.size)).get? (hp.objs.size + 1) = some (PySem.HandSPX.excO D hp.objs.size) := by heap_get
  have J : Inv X pins σ (upd H (hp.objs.size + 1) (exo (hp.objs.size + 1) D none)) ⟨(hp.push (PySem.W.kdv_tup us)).push (PySem.HandSPX.excO D hp.objs.size), g, dr, tk, os⟩ := I.laid (t' := tk) (a := hp.objs.size + 1) (o := exo (hp.objs.size + 1) D none) old far (exo_ok here)
  have vals : Vals (V.ref (hp.objs.size + 1) :: ys) (Value.ref (hp.objs.size + 1) :: us) := .cons rfl r
  have len : (Value.ref (hp.objs.size + 1) :: us).length = ps.length := by
    rw [← vals.length]
    exact F1.len _ _ _ _ ask
  have few : us.length ≤ sizeLine := by
    rw [← Paired.length r, hl]
    exact Nat.le_trans hz (by decide)
  have bind := hb _ (Value.ref (hp.objs.size + 1) :: us) J.kIn (by rw [List.append_nil]; exact len)
  rw [List.append_nil] at bind
  have run := F1.run _ X.stack _ _ ⟨Value.ref (hp.objs.size + 1) :: us, []⟩ _ _ _ (fun _ _ _ => False) (hr.make D us []) (J.env0.make D us []) bind vals ask
  refine wpAny_call (PySem.HandSPX.call_own F.excBase_ValueError (fun Y => PySem.HandSPX.refsVE_contains Y bm hbm) (I.kIn _ _ hC) (PySem.W.looks_findIn I.kIn R.i) (fun self => PySem.W.bind_fn I.kIn self R.t) few (codeAny_mono run fun res s' back => ?_))
  cases res with
  | error er => exact back.elim
  | ok fl =>
    cases fl with
    | ret u =>
      obtain ⟨v, H2, os2, bare2, un2, hok2, rv, ev, d, fs, ea, ed, hd1, q2⟩ := back
      subst ev
      obtain ⟨h2, g2, d2, t2, os'⟩ := s'
      obtain ⟨t0, G, K1, kG, ge, hoe, na⟩ := mk_end0 (d2 := d2) (t2 := t2) I far old un2 hok2 os2 bare2 ea ed hd1
      exact ⟨rv, hp.objs.size + 1, _, _, ⟨G, g2, d2, t2, os'⟩, _, .ref D, some d, rfl, K1, kG, ge, hoe, ⟨rfl, rfl, fun vs e => by cases e; rfl⟩, rfl, rfl, na, rfl, bare2, raises_own T.exC T.tyC, q2⟩
    | next => exact back.elim
    | brk => exact back.elim
    | cont => exact back.elim
end
/-- raise X(e, ..): the fields are shown -/
def tErr (D : Addr) (nm : List Str) (ta : TA) : L2.St → Hp → XK → Prop := fun σ H Q => ta σ H fun ys H1 => ys.length = nm.length ∧ nm.length ≤ 1000 ∧ (∀ y ∈ ys, Shw y) ∧ ∀ d, H1 d = none → Q (.ref D) (some d) (upd H1 d (.xd (flE nm ys)))
section
variable {X : Cx} {W : WX} {x : Str} {D f : Addr} {k : Nat} {fd : FuncData} {ps nm : List Str} {e : Expr} {es : List Expr} {ta : TA} {p pos pos' : Pos}
theorem pmk_err (T : OexC X.K D) (R : ErrT X.K X.mg x D f) (F1 : FnOk X.prog X.w X.K X.mg X.base CX0 k f fd ps (spErr D nm)) (hr : Room (k + 1) X.A) (hb : Binds X.K fd ps []) (hg : Gl X x) (ha : PA X (e :: es) ta)
    (hdb : (x == ("__debug__" : Str)) = false := by decide)
    (he : starEach (e :: es) X.env = (false, eval e X.env) :: starEach es X.env := by rfl)
    (hpl : (backTo pos (starEach es X.env)).any (·.1) = false := by rfl) :
    L2N.PMk X (.Call (.Name x p) (e :: es) [] pos) (tErr D nm ta) := by
  intro pins s σ H Q I h
  refine wpAny_Call_Name_kw (ld_glob I hg R.g ?_ hdb)
  refine PySem.W.callWith_K (h₀ := X.base) I.ok.mod.kin T.kC (thn (ha.run pos pins s σ H _ I h) fun us s1 ⟨ys, H1, I1, r, hl, hz, hs, q⟩ => ⟨I1.kIn, ?_⟩) he hpl
  exact err_made T R F1 hr hb I1 r hl hz hs q
theorem ps_errN (hc : X.calm = true) (tk : L2N.Takes X W) (T : OexC X.K D) (R : ErrT X.K X.mg x D f) (F1 : FnOk X.prog X.w X.K X.mg X.base CX0 k f fd ps (spErr D nm)) (hr : Room (k + 1) X.A) (hb : Binds X.K fd ps []) (hg : Gl X x) (ha : PA X (e :: es) ta)
    (hdb : (x == ("__debug__" : Str)) = false := by decide)
    (he : starEach (e :: es) X.env = (false, eval e X.env) :: starEach es X.env := by rfl)
    (hpl : (backTo pos (starEach es X.env)).any (·.1) = false := by rfl) :
    PS X (.Raise (some (.Call (.Name x p) (e :: es) [] pos)) none pos') (fun _ σ H => tErr D nm ta σ H fun cls d H' => W cls d σ H') :=
  L2N.ps_raise hc tk (pmk_err T R F1 hr hb hg ha hdb he hpl)
/-- nothing is let out -/
theorem passN : Passes (L2N.CX X.prog X.w) X E0 := fun _ _ _ _ _ _ _ ⟨_, _, _, _, _, _, _, _, _, _, _, _, z⟩ => z.elim
theorem takesN : L2N.Takes X (fun _ _ _ _ => False) := fun _ _ ⟨_, _, _, _, _, _, _, _, _, _, _, _, _, _, _, _, z⟩ => z.elim
theorem pass0A {σ : L2.St} : PassesAt CX0 X σ E0 := fun pins H s e s' I h => pass0 pins σ H s e s' I h
end
section
variable {P : Program} {w : World} {K : PySem.W.Frag} {mg : Str → Option Value} {base : Heap}
/-- a def that may raise, by its body -/
theorem okN {x qual : Str} {st : Stmt} {f : Addr} {fd : FuncData} {N ps : List Str} {k : Nat} {sp : Sp} (F : Fun K x qual st f fd) (S : FnScope N ps (defScope st)) (len : ∀ vs H Q E, sp vs H Q E → vs.length = ps.length)
    (hbody : ∀ (cdv : Value) (A : Around) (outer : List Env) (s : Shared) (H : Hp) (vs : List V) (Q : VK) (E : XK), Room k (A.deeper (envOfC qual (defScope st) s.heap.objs.size f cdv)) → sp vs H Q E →
      ∃ t, PSs (cxOf (L2N.CX P w) P w K mg base N qual (defScope st) f cdv A outer s H E) (defBody st) t ∧ t { nx := fun _ H' => Q .non H', rt := Q } (start N vs) H) : FnOk P w K mg base (L2N.CX P w) (k + 1) f fd ps sp := by
  obtain ⟨_, _, _, _, _, _, cdv, _, _, rfl, lk, hcd⟩ := F.ex
  exact fn_of lk hcd S len (hbody cdv)
/-- a def called where an error is handled, by its body; it raises nothing -/
theorem okH {x qual : Str} {st : Stmt} {f : Addr} {fd : FuncData} {N ps : List Str} {k : Nat} {sp : Sp} (F : Fun K x qual st f fd) (S : FnScope N ps (defScope st)) (len : ∀ vs H Q E, sp vs H Q E → vs.length = ps.length)
    (hbody : ∀ (cdv : Value) (A : Around) (outer : List Env) (s : Shared) (H : Hp) (vs : List V) (Q : VK) (E : XK) (p : Addr × Obj), L2H.HotC (L2H.cxH CX0 P w K mg base N qual (defScope st) f cdv A outer s H E p).nox → L2H.RoomH k (A.deeper (envOfC qual (defScope st) s.heap.objs.size f cdv)) → sp vs H Q E →
      ∃ t, PSs (L2H.cxH CX0 P w K mg base N qual (defScope st) f cdv A outer s H E p).nox (defBody st) t ∧ t { nx := fun _ H' => Q .non H', rt := Q } (start N vs) H) : L2H.FnH P w K mg base CX0 (k + 1) f fd ps sp := by
  obtain ⟨_, _, _, _, _, _, cdv, _, _, rfl, lk, hcd⟩ := F.ex
  refine L2H.fn_ofH lk hcd S len fun A outer s H vs Q E p hot hr h => ?_
  obtain ⟨t, ht, q⟩ := hbody cdv A outer s H vs Q E p ⟨p, hot, List.mem_cons_self⟩ hr h
  exact ⟨t, ht.nox, q⟩
end
/-- isinstance(e, c), e the caught error -/
def rIsX (K : PySem.W.Frag) (D a : Addr) (cls : Value) (d : Option Addr) : List V → Hp → VK → Prop := fun xs H Q => cls = .ref D ∧ ∃ (dd : Addr) (c : V) (cv : Value) (b : Bool) (fs : List (Str × V)), d = some dd ∧ xs = [.ref a, c] ∧ H dd = some (.xd fs) ∧ (∀ u, RelV c u → u = cv) ∧ PySem.W.kitOne K (.ref D) cv = some b ∧ Q (.bl b) H
theorem call_isX {X : Cx} {a D : Addr} {oe : Obj} {cls : Value} {d : Option Addr} {pn : List (Addr × Obj)} (C : ExcC X.K D) (hz : Zc cls d oe) (hf : ∃ vs, oe.data = .fields vs) : CallR (X.suite a ((a, oe) :: pn)) (.builtin "isinstance") (rIsX X.K D a cls d) := by
  intro pins s σ H xs us Q I r h
  obtain ⟨ec, dd, c, cv, b, fs, ed, ex, hd, hcv, e, q⟩ := h
  subst ec ed
  exact call_isD C hz hf pins s σ H xs us Q I r ⟨c, cv, b, fs, ex, hd, hcv, e, q⟩
/-- the suite's context bears the handled error -/
theorem hotS {X : Cx} {a : Addr} {oe : Obj} {cls : Value} {d : Option Addr} {pn : List (Addr × Obj)} (hz : L2N.Zn cls d oe) (hf : ∃ vs, oe.data = .fields vs) : L2H.HotC (X.suite a ((a, oe) :: pn)) := by
  obtain ⟨vs, e⟩ := hf
  exact ⟨(a, oe), ⟨rfl, vs, e, hz.2.2 vs e⟩, List.mem_cons_self⟩
end Own

namespace Own
open PySem PySem.Spec PyProof.Rows L2
def rLenS (K : PySem.W.Frag) : List V → Hp → VK → Prop := fun xs H Q => ∃ p ys, xs = [V.ref p] ∧ (SqL K H p ys ∨ SqT K H p ys) ∧ Q (.int (ys.length : Int)) H
theorem cr_lenS {X : Cx} : CallR X (.builtin "len") (rLenS X.K) := call_len_seq
theorem gl_nat {n : Int} (f : Int → Int) {i : Nat} (h : i < n.toNat) : (gl n f)[i]? = some (.int (f (0 + (i : Int)))) := by
  unfold gl
  rw [List.getElem?_map, List.getElem?_range h, Int.zero_add]
  rfl
theorem gl_atI {n x : Int} (g : Int → Int) (h0 : 0 ≤ x) (h1 : x < n) : atI (gl n g) x = some (.int (g x)) := by
  obtain ⟨k, rfl⟩ : ∃ k : Nat, x = (k : Int) := ⟨x.toNat, by omega⟩
  refine atI_nat ?_
  unfold gl
  rw [List.getElem?_map, List.getElem?_range (by omega)]
  rfl
theorem TabAt.row {H : Hp} {a : Addr} {sz x : Int} {f : Int → Int → Int} (h : TabAt H a sz f) (h0 : 0 ≤ x) (h1 : x < sz) : ∃ r, (∃ vs, H a = some (.tup vs) ∧ atI vs x = some (.ref r)) ∧ H r = some (.tup (gl sz (f x))) := by
  obtain ⟨vs, e, l, r⟩ := h
  obtain ⟨k, rfl⟩ : ∃ k : Nat, x = (k : Int) := ⟨x.toNat, by omega⟩
  obtain ⟨b, e1, e2⟩ := r k (by omega)
  exact ⟨b, ⟨vs, e, atI_nat e1⟩, e2⟩
theorem hi_in {n : Int} (h0 : 0 ≤ n) (h1 : n ≤ 1000) : 0 < hi n 1 ∧ hi n 1 ≤ 1000 := by
  rcases lo_hi n 1 with h | h <;> omega
/-! ### the first bar -/
/-- r tells the first two gaps at which g is more than f -/
def IsBar (sz : Int) (f g : Int → Int → Int) : Option (Int × Int) → Prop
  | none => ∀ i j, 0 ≤ i → i < j → j < sz → g i j ≤ f i j
  | some p => (0 ≤ p.1 ∧ p.1 < p.2 ∧ p.2 < sz ∧ f p.1 p.2 < g p.1 p.2) ∧ ∀ i j, 0 ≤ i → i < j → j < sz → (i < p.1 ∨ (i = p.1 ∧ j < p.2)) → g i j ≤ f i j
theorem bar_uniq {sz : Int} {f g : Int → Int → Int} : ∀ {r s : Option (Int × Int)}, IsBar sz f g r → IsBar sz f g s → r = s
  | none, none, _, _ => rfl
  | none, some q, h, k => absurd (h q.1 q.2 k.1.1 k.1.2.1 k.1.2.2.1) (by have := k.1.2.2.2; omega)
  | some p, none, h, k => absurd (k p.1 p.2 h.1.1 h.1.2.1 h.1.2.2.1) (by have := h.1.2.2.2; omega)
  | some p, some q, h, k => by
    have h1 := h.2 q.1 q.2 k.1.1 k.1.2.1 k.1.2.2.1
    have k1 := k.2 p.1 p.2 h.1.1 h.1.2.1 h.1.2.2.1
    have hh := h.1.2.2.2
    have kk := k.1.2.2.2
    have : p.1 = q.1 ∧ p.2 = q.2 := by
      by_cases a : p.1 < q.1
      · have := k1 (.inl a)
        omega
      · by_cases b : q.1 < p.1
        · have := h1 (.inl b)
          omega
        · have e : p.1 = q.1 := by omega
          by_cases c : p.2 < q.2
          · have := k1 (.inr ⟨e, c⟩)
            omega
          · by_cases d : q.2 < p.2
            · have := h1 (.inr ⟨e.symm, d⟩)
              omega
            · omega
    exact congrArg some (Prod.ext this.1 this.2)
def BarV (H : Hp) (v : V) (r : Option (Int × Int)) : Prop := (v = .non ∧ r = none) ∨ ∃ (p : Addr) (a b : Int), v = .ref p ∧ H p = some (.tup [.int a, .int b]) ∧ r = some (a, b)
theorem BarV.same {H H' : Hp} {v : V} {r : Option (Int × Int)} (h : BarV H v r) (s : Same H H') : BarV H' v r := by
  rcases h with h | ⟨p, a, b, h1, h2, h3⟩
  · exact .inl h
  · exact .inr ⟨p, a, b, h1, s _ _ h2, h3⟩
theorem BarV.eqv {H : Hp} {v w : V} {r : Option (Int × Int)} (h : BarV H v r) (k : BarV H w r) : EqV 1 H v w := by
  rcases h with ⟨rfl, e⟩ | ⟨p, a, b, rfl, h2, h3⟩
  · rcases k with ⟨rfl, _⟩ | ⟨_, _, _, _, _, k3⟩
    · exact EqV.non
    · rw [e] at k3
      cases k3
  · rcases k with ⟨_, k3⟩ | ⟨q, c, d, rfl, k2, k3⟩
    · rw [h3] at k3
      cases k3
    · rw [h3] at k3
      cases k3
      exact EqV.ints (ns := [a, b]) h2 k2 (by show 2 ≤ 1000; decide)
/-- nothing found before the place (i, j) -/
def NoBar (sz : Int) (f g : Int → Int → Int) (i j : Int) : Prop := ∀ x y, 0 ≤ x → x < y → y < sz → (x < i ∨ (x = i ∧ y < j)) → g x y ≤ f x y
/-! ### the odd pins -/
def oddl (f : Nat → Bool) (i : Nat) : List Int := ((List.range i).filter f).map fun j : Nat => (j : Int)
theorem oddl_step (f : Nat → Bool) (i : Nat) : oddl f (i + 1) = if f i = true then oddl f i ++ [(i : Int)] else oddl f i := by
  unfold oddl
  rw [List.range_succ, List.filter_append]
  by_cases h : f i = true
  · rw [if_pos h, List.filter_cons, if_pos h, List.map_append]
    rfl
  · rw [if_neg h, List.filter_cons, if_neg h, List.filter_nil, List.append_nil]
theorem oddl_len (f : Nat → Bool) (i : Nat) : (oddl f i).length ≤ i := by
  unfold oddl
  rw [List.length_map]
  have := List.length_filter_le f (List.range i)
  rw [List.length_range] at this
  exact this
def odf (e w : Int → Int) (j : Nat) : Bool := decide ((e (j : Int) - w (j : Int)) % 2 = 1)
def odds (n : Int) (e w : Int → Int) : List Int := oddl (odf e w) n.toNat
section
variable {P : Program} {w : World} {K : PySem.W.Frag} {mg : Str → Option Value} {base : Heap} {C : Addr}
/-- what must be known of UnlikePins -/
structure UnlC (K : PySem.W.Frag) (mg : Str → Option Value) (D f_u : Addr) (d_u : FuncData) : Prop where
  T : OexC K D
  R : ErrT K mg "UnlikePins" D f_u
  b : Binds K d_u ["self", "one", "other"] []
abbrev GU (P : Program) (w : World) (K : PySem.W.Frag) (mg : Str → Option Value) (base : Heap) (D f_u : Addr) (d_u : FuncData) : Prop := FnOk P w K mg base CX0 1 f_u d_u ["self", "one", "other"] (spErr D ["one", "other"])
/-- unlike rims: the error -/
def Unl (D : Addr) (n m : Int) (H : Hp) (E : XK) : Prop := n ≠ m → ∀ d, H d = none → E (.ref D) (some d) (upd H d (.xd (flE ["one", "other"] [.int n, .int m])))
theorem Unl.eq {D : Addr} {n : Int} {H : Hp} {E : XK} : Unl D n n H E := fun h => absurd rfl h
theorem shw_small {n : Int} (h0 : 0 ≤ n) (h1 : n ≤ 1000) : Shw (.int n) := Shw.of (by omega) (by omega)
def spLikeX (D : Addr) : Sp := fun vs H Q E => ∃ n m : Int, vs = [.int n, .int m] ∧ (0 ≤ n ∧ n ≤ 1000) ∧ (0 ≤ m ∧ m ≤ 1000) ∧ (n = m → Q .non H) ∧ Unl D n m H E
theorem ok_likeX {f f_u D : Addr} {fd d_u : FuncData} (F : Fun K "check_like" "check_like" s_check_like f fd) (U : UnlC K mg D f_u d_u) (G_u : GU P w K mg base D f_u d_u) : FnOk P w K mg base (L2N.CX P w) 3 f fd ["one", "other"] (spLikeX D) := by
  refine okN F sc_check_like (fun vs H Q E h => ?_) (fun cdv A outer s H vs Q E hr h => ?_)
  · obtain ⟨n, m, rfl, _⟩ := h
    rfl
  · obtain ⟨n, m, rfl, hn, hm, q, e⟩ := h
    refine ⟨_, (pss_one (ps_if (pt_cmpR op_ne (pv 0) (pv 1) (nomark _)) (pss_one (ps_errN rfl (L2N.takes_of rfl rfl rfl rfl) U.T U.R G_u hr U.b (by rfl) (pa_cons (pv 0) (pa_cons (pv 1) pa_nil)))) pss_nil)), ?_⟩
    refine ⟨_, rfl, _, rfl, rfl, _, rfl, ?_⟩
    by_cases c : n = m
    · subst c
      rw [show (!decide (V.int n = V.int n)) = false by rw [decide_eq_true rfl]; rfl]
      exact q rfl
    · rw [show (!decide (V.int n = V.int m)) = true by rw [decide_eq_false fun z => c (V.int.inj z)]; rfl]
      refine ⟨_, rfl, _, rfl, rfl, by decide, fun y hy => ?_, fun d nd => e c d nd⟩
      simp only [List.mem_cons, List.not_mem_nil, or_false] at hy
      rcases hy with rfl | rfl
      · exact shw_small hn.1 hn.2
      · exact shw_small hm.1 hm.2
def spFb : Sp := fun vs H Q _ => ∃ (n : Int) (u v : Addr) (f g : Int → Int → Int), vs = [.int n, .ref u, .ref v] ∧ 0 ≤ n ∧ n ≤ 1000 ∧ TabAt H u (hi n 1) f ∧ TabAt H v (hi n 1) g ∧ ∀ H' x r, Same H H' → IsBar (hi n 1) f g r → BarV H' x r → Q x H'
theorem ok_fb {f : Addr} {fd : FuncData} (F : Fun K "first_bar" "first_bar" s_first_bar f fd) (T : Bi mg) {f_g : Addr} {d_g : FuncData} (D_g : Df K mg "gaps" s_gaps ["pins"] f_g d_g) (G_g : FnOk P w K mg base CX0 1 f_g d_g ["pins"] spGaps) : FnOk P w K mg base CX0 2 f fd ["pins", "held", "wished"] spFb := by
  refine F.ok sc_first_bar (fun vs H Q E h => ?_) (fun cdv A outer s H vs Q E hr h => ?_)
  · obtain ⟨n, u, v, f, g, rfl, _⟩ := h
    rfl
  · obtain ⟨n, u, v, fF, gG, rfl, n0, n1, hu, hv, q⟩ := h
    refine ⟨_, (pss_cons (ps_for PassesOwn.never rfl (pi_range1 (by rfl) T.b_range (pa_cons (pe_call G_g hr (by rfl) D_g.g D_g.F.kp D_g.b .nil pass0 (pa_cons (pv 0) pa_nil)) pa_nil)) (pg_name (i := 3) sc_first_bar.nd rfl (.inl rfl))
        (pss_one (ps_for PassesOwn.never rfl (pi_range2 (by rfl) T.b_range (pa_cons (pe_op op_add (pv 3) pe_int) (pa_cons (pe_call G_g hr (by rfl) D_g.g D_g.F.kp D_g.b .nil pass0 (pa_cons (pv 0) pa_nil)) pa_nil))) (pg_name (i := 4) sc_first_bar.nd rfl (.inl rfl))
        (pss_one (ps_if (pt_cmpR op_gt (pe_ix (r := rIxT K) ix_tup (pe_ix (r := rIxT K) ix_tup (pv 2) (pv 3) (fun _ _ => rfl)) (pv 4) (fun _ _ => rfl)) (pe_ix (r := rIxT K) ix_tup (pe_ix (r := rIxT K) ix_tup (pv 1) (pv 3) (fun _ _ => rfl)) (pv 4) (fun _ _ => rfl)) (nomark _)) (pss_one (ps_ret (pe_tup (pa_cons (pv 3) (pa_cons (pv 4) pa_nil))))) pss_nil)))))
        (pss_one (ps_ret pe_non))), ?_⟩
    have hz := hi_in n0 n1
    refine ⟨_, rfl, n, rfl, ?_⟩
    generalize hsz : hi n 1 = sz at hz hu hv q ⊢
    refine ⟨sz, rfl, by omega, by omega, for_range (lo := 0) (n := sz.toNat) (fun i σ H' => (∃ y3 y4, σ = [some (.int n), some (.ref u), some (.ref v), y3, y4]) ∧ H' = H ∧ NoBar sz fF gG (i : Int) 0) ⟨⟨_, _, rfl⟩, rfl, fun x y h0 _ _ h => by omega⟩ (fun i σ H' hi p => ?_) (fun σ H' p => ?_)⟩
    · obtain ⟨⟨y3, y4, rfl⟩, rfl, hno⟩ := p
      rw [Int.zero_add]
      refine ⟨_, rfl, _, _, rfl, rfl, _, rfl, n, rfl, ?_⟩
      rw [hsz]
      refine ⟨_, sz, rfl, ⟨by omega, by omega, by omega, by omega⟩, ?_⟩
      have ki : (sz - ((i : Int) + 1)).toNat = sz.toNat - (i + 1) := by omega
      rw [ki]
      refine for_range (lo := (i : Int) + 1) (n := sz.toNat - (i + 1)) (fun j σ H1 => (∃ y4, σ = [some (.int n), some (.ref u), some (.ref v), some (.int (i : Int)), y4]) ∧ H1 = H' ∧ NoBar sz fF gG (i : Int) ((i : Int) + 1 + (j : Int))) ⟨⟨_, rfl⟩, rfl, fun x y h0 h1 h2 h => ?_⟩ (fun j σ H1 hj p => ?_) (fun σ H1 p => ?_)
      · rcases h with h | h
        · exact hno x y h0 h1 h2 (.inl h)
        · omega
      · obtain ⟨⟨y4, rfl⟩, rfl, hno⟩ := p
        have i0 : (0 : Int) ≤ (i : Int) := by omega
        have i1 : (i : Int) < sz := by omega
        have j1 : (i : Int) + 1 + (j : Int) < sz := by omega
        generalize hjj : (i : Int) + 1 + (j : Int) = jj at hno j1 ⊢
        obtain ⟨r1, ⟨vs1, e1, a1⟩, b1⟩ := hv.row i0 i1
        obtain ⟨r2, ⟨vs2, e2, a2⟩, b2⟩ := hu.row i0 i1
        refine ⟨_, rfl, _, rfl, v, _, _, _, rfl, rfl, .inl (.inl e1), a1, _, rfl, r1, _, _, _, rfl, rfl, .inl (.inl b1), gl_atI _ (by omega) j1, ?_⟩
        refine ⟨_, rfl, _, rfl, u, _, _, _, rfl, rfl, .inl (.inl e2), a2, _, rfl, r2, _, _, _, rfl, rfl, .inl (.inl b2), gl_atI _ (by omega) j1, ?_⟩
        refine ⟨_, _, rfl, rfl, _, rfl, ite2 (fun e => ?_) (fun e => ?_)⟩
        · have lt : fF (i : Int) jj < gG (i : Int) jj := of_decide_eq_true e
          refine ⟨_, rfl, _, rfl, by show 2 ≤ sizeLine; decide, fun p np => ?_⟩
          refine q _ _ (some ((i : Int), jj)) (same_upd np) ⟨⟨i0, by show (i : Int) < jj; omega, j1, lt⟩, fun x y h0 h1 h2 h => hno x y h0 h1 h2 h⟩ (.inr ⟨p, _, _, rfl, upd_same, rfl⟩)
        · have ge : ¬ fF (i : Int) jj < gG (i : Int) jj := fun z => e (decide_eq_true z)
          refine ⟨⟨_, rfl⟩, rfl, fun x y h0 h1 h2 h => ?_⟩
          by_cases c : x < (i : Int) ∨ (x = (i : Int) ∧ y < jj)
          · exact hno x y h0 h1 h2 c
          · have ex : x = (i : Int) := by omega
            have ey : y = jj := by omega
            rw [ex, ey]
            omega
      · obtain ⟨⟨y4, rfl⟩, rfl, hno⟩ := p
        refine ⟨⟨_, _, rfl⟩, rfl, fun x y h0 h1 h2 h => hno x y h0 h1 h2 ?_⟩
        omega
    · obtain ⟨_, rfl, hno⟩ := p
      exact q _ _ none (Same.refl _) (fun i j h0 h1 h2 => hno i j h0 h1 h2 (.inl (by omega))) (.inl ⟨rfl, rfl⟩)
def spOddp : Sp := fun vs H Q _ => ∃ (u v : Addr) (n : Int) (e w : Int → Int), vs = [.ref u, .ref v] ∧ 0 ≤ n ∧ n ≤ 1000 ∧ H u = some (.lst (gl n e)) ∧ H v = some (.lst (gl n w)) ∧ ∀ H' x, Same H H' → H' x = some (.tup ((odds n e w).map V.int)) → Q (.ref x) H'
theorem ok_oddp {f : Addr} {fd : FuncData} (F : Fun K "odd_pins" "odd_pins" s_odd_pins f fd) (T : Bi mg) (T_en : mg "enumerate" = none) : FnOk P w K mg base CX0 1 f fd ["ends", "wished"] spOddp := by
  refine F.ok sc_odd_pins (fun vs H Q E h => ?_) (fun cdv A outer s H vs Q E hr h => ?_)
  · obtain ⟨u, v, n, e, w, rfl, _⟩ := h
    rfl
  · obtain ⟨u, v, n, e, w, rfl, n0, n1, hu, hv, q⟩ := h
    refine ⟨_, (pss_one (ps_ret (pe_callTy call_tuple_of (by rfl) T.b_tuple (by decide +kernel) (pa_cons (pe_lc (own := [("pin", 2), ("many", 3)]) (g := gTup K 2 (gCons (gName 2) (gCons (gName 3) gNil))) rfl sc_odd_pins.nd (pi_enum (by rfl) T_en (pa_cons (pv 0) pa_nil)) (blkOk_by (own := [("pin", 2), ("many", 3)]) (N := ["ends", "wished", "pin", "many"]) (sc := defScope s_odd_pins) (by decide +kernel)) (fun _ _ _ _ _ => (pg_tup (by rfl) (pgs_cons (pg_name (i := 2) sc_odd_pins.nd rfl (.inl rfl)) (pgs_cons (pg_name (i := 3) sc_odd_pins.nd rfl (.inl rfl)) pgs_nil)))) (fun _ _ _ _ _ => pts_one (pt_cmpR op_eq (pe_op op_mod (pe_op op_sub (pv 3) (pe_ix (r := rIxL K) ix_list (pv 1) (pv 2) (fun _ _ => rfl))) pe_int) pe_int (nomark _))) (fun _ _ _ _ _ => (pv 2))) pa_nil)))), ?_⟩
    refine ⟨_, rfl, u, gl n e, rfl, .inl (.inl hu), fun O hO => ?_⟩
    refine lc_it walk_enum (fun i H2 => Same H H2 ∧ H2 O = some (.lst ((oddl (odf e w) i).map V.int))) ⟨same_upd hO, upd_same⟩ (fun i H2 _ p => .inl (.inl (p.1 _ _ hu))) (fun i x H2 H2' hi p y => ?_) (fun H2 p => ?_)
    · obtain ⟨s2, eO⟩ := p
      obtain ⟨t, x1, x2, rfl, nt, rfl, h1, h2⟩ := y
      rw [gl_len] at hi
      have h2 : (gl n e)[i]? = some x2 := h2
      rw [gl_nat _ hi, Int.zero_add] at h2
      obtain rfl : V.int (i : Int) = x1 := Option.some.inj h1
      obtain rfl : V.int (e (i : Int)) = x2 := Option.some.inj h2
      have st := same_upd (o := .tup [V.int (i : Nat), V.int (e (i : Int))]) nt
      have eO2 := st _ _ eO
      refine ⟨t, _, rfl, .inl (.inl upd_same), rfl, _, _, rfl, _, _, rfl, rfl, rfl, ?_⟩
      refine ⟨_, rfl, _, rfl, _, rfl, v, _, _, _, rfl, rfl, .inl (.inl (st _ _ (s2 _ _ hv))), gl_atI (x := (i : Int)) _ (by omega) (by omega), _, _, rfl, rfl, _, _, rfl, rfl, by show (0 : Int) < 2; decide, rfl, _, rfl, ite2 (fun c => ?_) (fun c => ?_)⟩
      · have hc : odf e w i = true := decide_eq_true (V.int.inj (of_decide_eq_true c))
        refine ⟨_, rfl, _, eO2, ?_, same_put (H1 := H) hO (s2.trans st), ?_⟩
        · rw [List.length_map]
          have := oddl_len (odf e w) i
          exact small1000 (by omega)
        · rw [upd_same, oddl_step, if_pos hc, List.map_append]
          rfl
      · have hc : ¬ odf e w i = true := fun z => c (decide_eq_true (congrArg V.int (of_decide_eq_true z)))
        refine ⟨s2.trans st, ?_⟩
        rw [oddl_step, if_neg hc]
        exact eO2
    · obtain ⟨s2, eO⟩ := p
      rw [gl_len] at eO
      refine ⟨O, _, rfl, .inl ⟨.inl (.inl eO), fun c nc => ?_⟩⟩
      exact q _ c (s2.trans (same_upd nc)) upd_same
end
end Own

namespace Own
open PySem PySem.Spec PyProof.Rows L2
section
variable {P : Program} {w : World} {K : PySem.W.Frag} {mg : Str → Option Value} {base : Heap} {C D : Addr}
theorem ok_tabof {f : Addr} {fd : FuncData} (F : Fun K "table_of" "table_of" s_table_of f fd) (L : LotC K mg C) {f_t : Addr} {d_t : FuncData} (D_t : Df K mg "table_rows" s_table_rows ["pins", "cords"] f_t d_t) (G_t : FnOk P w K mg base CX0 2 f_t d_t ["pins", "cords"] spTable) : FnOk P w K mg base CX0 3 f fd ["lot"] (spTab C) := by
  refine F.ok sc_table_of (fun vs H Q E h => ?_) (fun cdv A outer s H vs Q E hr h => ?_)
  · obtain ⟨p, n, cs, rfl, _⟩ := h
    rfl
  · obtain ⟨p, n, cs, rfl, hL, n0, n1, hG, q⟩ := h
    obtain ⟨dx, c, e, t⟩ := hL
    refine ⟨_, (pss_one (ps_ret (pe_call G_t (hr.mono (by decide)) (by rfl) D_t.g D_t.F.kp D_t.b .nil pass0 (pa_cons (pe_fld (pv 0) rfl) (pa_cons (pe_fld (pv 0) rfl) pa_nil))))), ?_⟩
    exact ⟨_, rfl, p, C, dx, _, _, rfl, e, L.cl, L.nP, flds_pins _ _, _, rfl, p, C, dx, _, _, rfl, e, L.cl, L.nC, flds_cords _ _, n, c, cs, rfl, n0, n1, t, hG, q⟩
/-- two lots -/
structure Two (n m : Int) (cs ds : List Tr) : Prop where
  n0 : 0 ≤ n
  n1 : n ≤ 1000
  m0 : 0 ≤ m
  m1 : m ≤ 1000
  g : Good n cs
  h : Good m ds
def spBarX (C D : Addr) : Sp := fun vs H Q E => ∃ (p o : Addr) (n m : Int) (cs ds : List Tr), vs = [.ref p, .ref o] ∧ LotAt C H p n cs ∧ LotAt C H o m ds ∧ Two n m cs ds ∧ (n = m → ∀ H' x r, Same H H' → IsBar (hi n 1) (tabE cs) (tabE ds) r → BarV H' x r → Q x H') ∧ Unl D n m H E
theorem ok_barX {f : Addr} {fd : FuncData} (F : Fun K "bar" "bar" s_bar f fd) (L : LotC K mg C) {f_k : Addr} {d_k : FuncData} (D_k : Df K mg "check_like" s_check_like ["one", "other"] f_k d_k) (G_k : FnOk P w K mg base (L2N.CX P w) 3 f_k d_k ["one", "other"] (spLikeX D)) {f_f : Addr} {d_f : FuncData} (D_f : Df K mg "first_bar" s_first_bar ["pins", "held", "wished"] f_f d_f) (G_f : FnOk P w K mg base CX0 2 f_f d_f ["pins", "held", "wished"] spFb) {f_to : Addr} {d_to : FuncData} (D_to : Df K mg "table_of" s_table_of ["lot"] f_to d_to) (G_to : FnOk P w K mg base CX0 3 f_to d_to ["lot"] (spTab C)) : FnOk P w K mg base (L2N.CX P w) 5 f fd ["lot", "wishes"] (spBarX C D) := by
  refine okN F sc_bar (fun vs H Q E h => ?_) (fun cdv A outer s H vs Q E hr h => ?_)
  · obtain ⟨p, o, n, m, cs, ds, rfl, _⟩ := h
    rfl
  ·
    obtain ⟨p, o, n, m, cs, ds, rfl, hp, ho, B, q, u⟩ := h
    refine ⟨_, (pss_cons (ps_expr (pe_call G_k (hr.mono (by decide)) (by rfl) D_k.g D_k.F.kp D_k.b .nil (L2N.passes_call (L2N.takes_of rfl rfl rfl rfl) (fun _ _ _ _ h => h)) (pa_cons (pe_fld (pv 0) rfl) (pa_cons (pe_fld (pv 1) rfl) pa_nil))))
        (pss_one (ps_ret (pe_call G_f (hr.mono (by decide)) (by rfl) D_f.g D_f.F.kp D_f.b .nil pass0 (pa_cons (pe_fld (pv 0) rfl) (pa_cons (pe_call G_to (hr.mono (by decide)) (by rfl) D_to.g D_to.F.kp D_to.b .nil pass0 (pa_cons (pv 0) pa_nil)) (pa_cons (pe_call G_to (hr.mono (by decide)) (by rfl) D_to.g D_to.F.kp D_to.b .nil pass0 (pa_cons (pv 1) pa_nil)) pa_nil))))))), ?_⟩
    obtain ⟨dx, c, e1, t1⟩ := id hp
    obtain ⟨dy, c2, e2, t2⟩ := id ho
    refine ⟨_, rfl, p, C, dx, _, _, rfl, e1, L.cl, L.nP, flds_pins _ _, _, rfl, o, C, dy, _, _, rfl, e2, L.cl, L.nP, flds_pins _ _, n, m, rfl, ⟨B.n0, B.n1⟩, ⟨B.m0, B.m1⟩, fun e => ?_, u⟩
    subst e
    replace q := q rfl
    refine ⟨_, rfl, p, C, dx, _, _, rfl, e1, L.cl, L.nP, flds_pins _ _, _, rfl, p, n, cs, rfl, hp, B.n0, B.n1, B.g, fun H1 a s1 h1 => ?_⟩
    refine ⟨_, rfl, o, n, ds, rfl, ho.same s1, B.n0, B.n1, B.h, fun H2 b s2 h2 => ?_⟩
    exact ⟨n, a, b, _, _, rfl, B.n0, B.n1, h1.same s2, h2, fun H3 x r s3 hb hv => q H3 x r ((s1.trans s2).trans s3) hb hv⟩
def spOddX (C D : Addr) : Sp := fun vs H Q E => ∃ (p o : Addr) (n m : Int) (cs ds : List Tr), vs = [.ref p, .ref o] ∧ LotAt C H p n cs ∧ LotAt C H o m ds ∧ Two n m cs ds ∧ (n = m → ∀ H' x, Same H H' → H' x = some (.tup ((odds n (endsOf cs) (endsOf ds)).map V.int)) → Q (.ref x) H') ∧ Unl D n m H E
theorem ok_oddX {f : Addr} {fd : FuncData} (F : Fun K "odd" "odd" s_odd f fd) (L : LotC K mg C) {f_k : Addr} {d_k : FuncData} (D_k : Df K mg "check_like" s_check_like ["one", "other"] f_k d_k) (G_k : FnOk P w K mg base (L2N.CX P w) 3 f_k d_k ["one", "other"] (spLikeX D)) {f_o : Addr} {d_o : FuncData} (D_o : Df K mg "odd_pins" s_odd_pins ["ends", "wished"] f_o d_o) (G_o : FnOk P w K mg base CX0 1 f_o d_o ["ends", "wished"] spOddp) {f_e : Addr} {d_e : FuncData} (D_e : Df K mg "ends_at_pins" s_ends_at_pins ["pins", "cords"] f_e d_e) (G_e : FnOk P w K mg base CX0 1 f_e d_e ["pins", "cords"] spEap) : FnOk P w K mg base (L2N.CX P w) 5 f fd ["lot", "wishes"] (spOddX C D) := by
  refine okN F sc_odd (fun vs H Q E h => ?_) (fun cdv A outer s H vs Q E hr h => ?_)
  · obtain ⟨p, o, n, m, cs, ds, rfl, _⟩ := h
    rfl
  ·
    obtain ⟨p, o, n, m, cs, ds, rfl, hp, ho, B, q, u⟩ := h
    refine ⟨_, (pss_cons (ps_expr (pe_call G_k (hr.mono (by decide)) (by rfl) D_k.g D_k.F.kp D_k.b .nil (L2N.passes_call (L2N.takes_of rfl rfl rfl rfl) (fun _ _ _ _ h => h)) (pa_cons (pe_fld (pv 0) rfl) (pa_cons (pe_fld (pv 1) rfl) pa_nil))))
        (pss_one (ps_ret (pe_call G_o (hr.mono (by decide)) (by rfl) D_o.g D_o.F.kp D_o.b .nil pass0 (pa_cons (pe_call G_e (hr.mono (by decide)) (by rfl) D_e.g D_e.F.kp D_e.b .nil pass0 (pa_cons (pe_fld (pv 0) rfl) (pa_cons (pe_fld (pv 0) rfl) pa_nil))) (pa_cons (pe_call G_e (hr.mono (by decide)) (by rfl) D_e.g D_e.F.kp D_e.b .nil pass0 (pa_cons (pe_fld (pv 1) rfl) (pa_cons (pe_fld (pv 1) rfl) pa_nil))) pa_nil)))))), ?_⟩
    obtain ⟨dx, c, e1, t1⟩ := id hp
    obtain ⟨dy, c2, e2, t2⟩ := id ho
    refine ⟨_, rfl, p, C, dx, _, _, rfl, e1, L.cl, L.nP, flds_pins _ _, _, rfl, o, C, dy, _, _, rfl, e2, L.cl, L.nP, flds_pins _ _, n, m, rfl, ⟨B.n0, B.n1⟩, ⟨B.m0, B.m1⟩, fun e => ?_, u⟩
    subst e
    replace q := q rfl
    refine ⟨_, rfl, p, C, dx, _, _, rfl, e1, L.cl, L.nP, flds_pins _ _, _, rfl, p, C, dx, _, _, rfl, e1, L.cl, L.nC, flds_cords _ _, n, c, cs, rfl, B.n0, B.n1, t1, B.g.vld, fun H1 a s1 na ha => ?_⟩
    refine ⟨_, rfl, o, C, dy, _, _, rfl, (s1 _ _ e2), L.cl, L.nP, flds_pins _ _, _, rfl, o, C, dy, _, _, rfl, (s1 _ _ e2), L.cl, L.nC, flds_cords _ _, n, c2, ds, rfl, B.n0, B.n1, t2.same s1, B.h.vld, fun H2 b s2 nb hb => ?_⟩
    exact ⟨a, b, n, _, _, rfl, B.n0, B.n1, s2 _ _ ha, hb, fun H3 x s3 hx => q H3 x ((s1.trans s2).trans s3) hx⟩
def spInX (C D : Addr) : Sp := fun vs H Q E => ∃ (p o : Addr) (n m : Int) (cs ds : List Tr), vs = [.ref p, .ref o] ∧ LotAt C H p n cs ∧ LotAt C H o m ds ∧ Two n m cs ds ∧ (n = m → ∀ H' b, Same H H' → (∀ r, IsBar (hi n 1) (tabE cs) (tabE ds) r → b = (r.isNone && (odds n (endsOf cs) (endsOf ds)).isEmpty)) → Q (.bl b) H') ∧ Unl D n m H E
theorem ok_inX {f : Addr} {fd : FuncData} (F : Fun K "__contains__" "Lot.__contains__" s_Lot_contains f fd) (L : LotC K mg C) {f_k : Addr} {d_k : FuncData} (D_k : Df K mg "check_like" s_check_like ["one", "other"] f_k d_k) (G_k : FnOk P w K mg base (L2N.CX P w) 3 f_k d_k ["one", "other"] (spLikeX D)) {f_f : Addr} {d_f : FuncData} (D_f : Df K mg "first_bar" s_first_bar ["pins", "held", "wished"] f_f d_f) (G_f : FnOk P w K mg base CX0 2 f_f d_f ["pins", "held", "wished"] spFb) {f_t : Addr} {d_t : FuncData} (D_t : Df K mg "table_rows" s_table_rows ["pins", "cords"] f_t d_t) (G_t : FnOk P w K mg base CX0 2 f_t d_t ["pins", "cords"] spTable) {f_o : Addr} {d_o : FuncData} (D_o : Df K mg "odd_pins" s_odd_pins ["ends", "wished"] f_o d_o) (G_o : FnOk P w K mg base CX0 1 f_o d_o ["ends", "wished"] spOddp) {f_e : Addr} {d_e : FuncData} (D_e : Df K mg "ends_at_pins" s_ends_at_pins ["pins", "cords"] f_e d_e) (G_e : FnOk P w K mg base CX0 1 f_e d_e ["pins", "cords"] spEap) : FnOk P w K mg base (L2N.CX P w) 5 f fd ["self", "wishes"] (spInX C D) := by
  refine okN F sc_Lot_contains (fun vs H Q E h => ?_) (fun cdv A outer s H vs Q E hr h => ?_)
  · obtain ⟨p, o, n, m, cs, ds, rfl, _⟩ := h
    rfl
  ·
    obtain ⟨p, o, n, m, cs, ds, rfl, hp, ho, B, q, u⟩ := h
    refine ⟨_, (pss_cons (ps_expr (pe_call G_k (hr.mono (by decide)) (by rfl) D_k.g D_k.F.kp D_k.b .nil (L2N.passes_call (L2N.takes_of rfl rfl rfl rfl) (fun _ _ _ _ h => h)) (pa_cons (pe_fld (pv 0) rfl) (pa_cons (pe_fld (pv 1) rfl) pa_nil))))
        (pss_cons (ps_if (pt_truth (pe_call G_o (hr.mono (by decide)) (by rfl) D_o.g D_o.F.kp D_o.b .nil pass0 (pa_cons (pe_call G_e (hr.mono (by decide)) (by rfl) D_e.g D_e.F.kp D_e.b .nil pass0 (pa_cons (pe_fld (pv 0) rfl) (pa_cons (pe_fld (pv 0) rfl) pa_nil))) (pa_cons (pe_call G_e (hr.mono (by decide)) (by rfl) D_e.g D_e.F.kp D_e.b .nil pass0 (pa_cons (pe_fld (pv 0) rfl) (pa_cons (pe_fld (pv 1) rfl) pa_nil))) pa_nil))) (fun _ => rfl)) (pss_one (ps_ret pe_bl)) pss_nil)
        (pss_one (ps_ret (pe_cmpR op_isN (pe_call G_f (hr.mono (by decide)) (by rfl) D_f.g D_f.F.kp D_f.b .nil pass0 (pa_cons (pe_fld (pv 0) rfl) (pa_cons (pe_call G_t (hr.mono (by decide)) (by rfl) D_t.g D_t.F.kp D_t.b .nil pass0 (pa_cons (pe_fld (pv 0) rfl) (pa_cons (pe_fld (pv 0) rfl) pa_nil))) (pa_cons (pe_call G_t (hr.mono (by decide)) (by rfl) D_t.g D_t.F.kp D_t.b .nil pass0 (pa_cons (pe_fld (pv 0) rfl) (pa_cons (pe_fld (pv 1) rfl) pa_nil))) pa_nil)))) pe_non (nomark _)))))), ?_⟩
    obtain ⟨dx, c, e1, t1⟩ := id hp
    obtain ⟨dy, c2, e2, t2⟩ := id ho
    refine ⟨_, rfl, p, C, dx, _, _, rfl, e1, L.cl, L.nP, flds_pins _ _, _, rfl, o, C, dy, _, _, rfl, e2, L.cl, L.nP, flds_pins _ _, n, m, rfl, ⟨B.n0, B.n1⟩, ⟨B.m0, B.m1⟩, fun e => ?_, u⟩
    subst e
    replace q := q rfl
    refine ⟨_, rfl, p, C, dx, _, _, rfl, e1, L.cl, L.nP, flds_pins _ _, _, rfl, p, C, dx, _, _, rfl, e1, L.cl, L.nC, flds_cords _ _, n, c, cs, rfl, B.n0, B.n1, t1, B.g.vld, fun H1 a s1 na ha => ?_⟩
    refine ⟨_, rfl, p, C, dx, _, _, rfl, (s1 _ _ e1), L.cl, L.nP, flds_pins _ _, _, rfl, o, C, dy, _, _, rfl, (s1 _ _ e2), L.cl, L.nC, flds_cords _ _, n, c2, ds, rfl, B.n0, B.n1, t2.same s1, B.h.vld, fun H2 b s2 nb hb => ?_⟩
    refine ⟨a, b, n, _, _, rfl, B.n0, B.n1, s2 _ _ ha, hb, fun H3 x s3 hx => ?_⟩
    have sA := (s1.trans s2).trans s3
    refine ⟨!((odds n (endsOf cs) (endsOf ds)).map V.int).isEmpty, .inr (.inl ⟨_, .inl (.inl hx), rfl⟩), ite2 (fun k => ?_) (fun k => ?_)⟩
    · have k2 : (odds n (endsOf cs) (endsOf ds)).isEmpty = false := by
        cases hh : odds n (endsOf cs) (endsOf ds) with
        | nil => rw [hh] at k; cases k
        | cons y ys => rfl
      exact q H3 false sA fun r _ => by rw [k2, Bool.and_false]
    · have k2 : (odds n (endsOf cs) (endsOf ds)).isEmpty = true := by
        cases hh : odds n (endsOf cs) (endsOf ds) with
        | nil => rfl
        | cons y ys => rw [hh] at k; exact absurd rfl k
      refine ⟨_, rfl, p, C, dx, _, _, rfl, (sA _ _ e1), L.cl, L.nP, flds_pins _ _, _, rfl, p, C, dx, _, _, rfl, (sA _ _ e1), L.cl, L.nP, flds_pins _ _, _, rfl, p, C, dx, _, _, rfl, (sA _ _ e1), L.cl, L.nC, flds_cords _ _, n, c, cs, rfl, B.n0, B.n1, t1.same sA, B.g, fun H4 u4 s4 h4 => ?_⟩
      refine ⟨_, rfl, p, C, dx, _, _, rfl, (s4 _ _ (sA _ _ e1)), L.cl, L.nP, flds_pins _ _, _, rfl, o, C, dy, _, _, rfl, (s4 _ _ (sA _ _ e2)), L.cl, L.nC, flds_cords _ _, n, c2, ds, rfl, B.n0, B.n1, (t2.same sA).same s4, B.h, fun H5 u5 s5 h5 => ?_⟩
      refine ⟨n, u4, u5, _, _, rfl, B.n0, B.n1, h4.same s5, h5, fun H6 x r s6 hr6 hb6 => ?_⟩
      rcases hb6 with ⟨rfl, rfl⟩ | ⟨p6, a6, b6, rfl, _, rfl⟩
      · refine ⟨rfl, ?_⟩
        rw [decide_eq_true rfl]
        refine q H6 true (((sA.trans s4).trans s5).trans s6) fun r hr => ?_
        rw [← bar_uniq hr6 hr, k2]
        rfl
      · refine ⟨rfl, ?_⟩
        rw [decide_eq_false fun z => by cases z]
        refine q H6 false (((sA.trans s4).trans s5).trans s6) fun r hr => ?_
        rw [← bar_uniq hr6 hr, k2]
        rfl
end
end Own

namespace Own
open PySem PySem.Spec PyProof.Rows L2
section
variable {P : Program} {w : World} {K : PySem.W.Frag} {mg : Str → Option Value} {base : Heap} {C : Addr}
def capd (l : List Tr) : List Tr := l.map fun t => (t.1, t.2.1, if 999999900 < t.2.2 then 999999900 else t.2.2)
theorem capd_good {n : Int} {l : List Tr} (g : Good n l) : Good n (capd l) := by
  refine ⟨?_, fun e he => ?_⟩
  · have : (capd l).map pr = l.map pr := by
      unfold capd
      rw [List.map_map]
      rfl
    rw [this]
    exact g.srt
  · obtain ⟨t, ht, rfl⟩ := List.mem_map.mp he
    obtain ⟨a, b, c, d⟩ := g.ord t ht
    refine ⟨a, b, c, ?_⟩
    show 1 ≤ if 999999900 < t.2.2 then 999999900 else t.2.2
    split
    · decide
    · exact d
theorem capd_le (l : List Tr) : ∀ t ∈ capd l, t.2.2 ≤ 999999900 := fun e he => by
  obtain ⟨t, _, rfl⟩ := List.mem_map.mp he
  show (if 999999900 < t.2.2 then 999999900 else t.2.2) ≤ 999999900
  split <;> omega
def spLLot (K : PySem.W.Frag) : Sp := fun vs H Q _ => ∃ (l : Addr) (ns : List Int) (st ct : Nat) (n : Int), vs = [.ref l, .int (st : Int), .int (ct : Int), .int n] ∧ SqL K H l (ns.map V.int) ∧ ns.length ≤ 1000 ∧ st ≤ 100 ∧ ct ≤ 100 ∧ 0 ≤ n ∧ n ≤ 1000 ∧ ∀ H' c r, Same H H' → Trip H' c r → Good n r → r.length ≤ ct → (∀ t ∈ r, t.2.2 ≤ 999999900) → Q (.ref c) H'
theorem digs4 {ds : List Int} {a b c d : Int} (h : Digs ds [a, b, c, d]) : ∃ w x y z, ds = [w, x, y, z] ∧ (0 ≤ w ∧ w < a) ∧ (0 ≤ x ∧ x < b) ∧ (0 ≤ y ∧ y < c) ∧ (0 ≤ z ∧ z < d) := by
  have hl := h.1
  match ds, hl with
  | [w, x, y, z], _ => exact ⟨w, x, y, z, rfl, h.2 0 w a rfl rfl, h.2 1 x b rfl rfl, h.2 2 y c rfl rfl, h.2 3 z d rfl rfl⟩
theorem ok_llot {f : Addr} {fd : FuncData} (F : Fun K "_law_lot" "_law_lot" s__law_lot f fd) (T : Bi mg) {f_d : Addr} {d_d : FuncData} (D_d : Df K mg "_law_digits" s__law_digits ["_law_cell_here", "_law_sizes"] f_d d_d) (G_d : FnOk P w K mg base CX0 1 f_d d_d ["_law_cell_here", "_law_sizes"] (spDigs K))
    {f_c : Addr} {d_c : FuncData} (D_c : Df K mg "_law_cell" s__law_cell ["_law_script", "_law_k"] f_c d_c) (G_c : FnOk P w K mg base CX0 1 f_c d_c ["_law_script", "_law_k"] (spCell K)) {f_n : Addr} {d_n : FuncData} (D_n : Df K mg "_law_norm" s__law_norm ["_law_triples"] f_n d_n) (G_n : FnOk P w K mg base CX0 1 f_n d_n ["_law_triples"] (spNorm K)) : FnOk P w K mg base CX0 2 f fd ["_law_script", "_law_start", "_law_count", "_law_pins_here"] (spLLot K) := by
  refine F.ok sc__law_lot (fun vs H Q E h => ?_) (fun cdv A outer s H vs Q E hr h => ?_)
  · obtain ⟨l, ns, st, ct, n, rfl, _⟩ := h
    rfl
  · obtain ⟨l, ns, st, ct, n, rfl, hs, hn, hst, hct, n0, n1, q⟩ := h
    refine ⟨_, (pss_cons (ps_set (i := 4) sc__law_lot.nd rfl (.inl rfl) (pe_lst pa_nil))
        (pss_cons (ps_for PassesOwn.never rfl (pi_range1 (by rfl) T.b_range (pa_cons (pv 2) pa_nil)) (pg_name (i := 5) sc__law_lot.nd rfl (.inl rfl))
        (pss_one (ps_if (pt_cmpR op_ge (pv 3) pe_int (nomark _)) (pss_cons (ps_set (i := 6) sc__law_lot.nd rfl (.inl rfl) (pe_call G_d (hr.mono (by decide)) (by rfl) D_d.g D_d.F.kp D_d.b .nil pass0 (pa_cons (pe_call G_c (hr.mono (by decide)) (by rfl) D_c.g D_c.F.kp D_c.b .nil pass0 (pa_cons (pv 0) (pa_cons (pe_op op_add (pv 1) (pv 5)) pa_nil))) (pa_cons (pe_lst (pa_cons (pv 3) (pa_cons (pe_op op_sub (pv 3) pe_int) (pa_cons pe_int (pa_cons pe_int pa_nil))))) pa_nil))))
        (pss_cons (ps_set (i := 7) sc__law_lot.nd rfl (.inl rfl) (pe_op op_modN (pe_callTy call_int1 (by rfl) T.b_int (by decide +kernel) (pa_cons (pe_op op_add (pe_op op_add (pe_ix (r := rIxL K) ix_list (pv 6) pe_int (fun _ _ => rfl)) pe_int) (pe_ix (r := rIxL K) ix_list (pv 6) pe_int (fun _ _ => rfl))) pa_nil)) (pv 3)))
        (pss_one (ps_expr (pe_bm PySem.F.plainAttrs_list PySem.F.slot_list_append PySem.F.type_list_append mt_append (pv 4) (pa_cons (pe_tup (pa_cons (pe_ix (r := rIxL K) ix_list (pv 6) pe_int (fun _ _ => rfl)) (pa_cons (pv 7) (pa_cons (pe_op op_add pe_int (pe_op op_modN (pe_callTy call_int1 (by rfl) T.b_int (by decide +kernel) (pa_cons (pe_ix (r := rIxL K) ix_list (pv 6) pe_int (fun _ _ => rfl)) pa_nil)) (pe_ix (r := rIxL K) ix_list (pe_lst (pa_cons pe_int (pa_cons pe_int (pa_cons pe_int (pa_cons pe_int (pa_cons pe_int (pa_cons pe_int pa_nil))))))) (pe_ix (r := rIxL K) ix_list (pv 6) pe_int (fun _ _ => rfl)) (fun _ _ => rfl)))) pa_nil)))) pa_nil)))))) pss_nil)))
        (pss_one (ps_ret (pe_callTy call_tuple_of (by rfl) T.b_tuple (by decide +kernel) (pa_cons (pe_lc (own := [("_law_c", 8)]) (g := gName 8) (tt := tYes) rfl sc__law_lot.nd (pi_tup (pe_call G_n hr (by rfl) D_n.g D_n.F.kp D_n.b .nil pass0 (pa_cons (pv 4) pa_nil))) (blkOk_by (own := [("_law_c", 8)]) (N := ["_law_script", "_law_start", "_law_count", "_law_pins_here", "_law_row", "_law_k", "_law_draw", "_law_other", "_law_c"]) (sc := defScope s__law_lot) (by decide +kernel)) (fun _ _ _ _ _ => (pg_name (i := 8) sc__law_lot.nd rfl (.inl rfl))) (fun _ _ _ _ _ => pts_nil) (fun _ _ _ _ _ => (pe_tup (pa_cons (pe_ix (r := rIxT K) ix_tup (pv 8) pe_int (fun _ _ => rfl)) (pa_cons (pe_ix (r := rIxT K) ix_tup (pv 8) pe_int (fun _ _ => rfl)) (pa_cons (pe_callB (call_min2 rfl) (by rfl) T.b_min (by decide +kernel) (pa_cons (pe_ix (r := rIxT K) ix_tup (pv 8) pe_int (fun _ _ => rfl)) (pa_cons pe_int pa_nil))) pa_nil)))))) pa_nil)))))), ?_⟩
    refine ⟨Nat.zero_le _, fun R hR => ?_⟩
    have sR : Same H (upd H R (.lst [])) := same_upd hR
    refine ⟨_, rfl, (ct : Int), rfl, by omega, by omega, for_range (lo := 0) (n := (ct : Int).toNat) (fun i σ H2 => ∃ (vs : List V) (tr : List Tr) (y3 y4 y5 y6 : Option V), σ = [some (.ref l), some (.int (st : Int)), some (.int (ct : Int)), some (.int n), some (.ref R), y3, y4, y5, y6] ∧ Same H H2 ∧ H2 R = some (.lst vs) ∧ TrV H2 vs tr ∧ (∀ t ∈ tr, Vld n t) ∧ tr.length ≤ i) ⟨[], [], none, none, none, none, rfl, sR, upd_same, TrV.nil, by simp, Nat.le_refl _⟩ (fun i σ H2 hi pv => ?_) (fun σ H2 pv => ?_)⟩
    · obtain ⟨vs, tr, y3, y4, y5, y6, rfl, s2, eR, tV, hV, hl2⟩ := pv
      refine ⟨_, rfl, n, 2, rfl, rfl, _, rfl, ite2 (fun e => ?_) (fun e => ?_)⟩
      · have n2 : 2 ≤ n := of_decide_eq_true e
        refine ⟨_, rfl, _, rfl, _, rfl, _, _, rfl, rfl, l, ns, st + i, ?_, s2.seq hs, by omega, hn, fun c2 => ?_⟩
        · show [V.ref l, V.int ((st : Int) + (0 + (i : Int)))] = _
          rw [show (st : Int) + (0 + (i : Int)) = ((st + i : Nat) : Int) by omega]
        refine ⟨_, rfl, _, rfl, n, 1, rfl, rfl, ?_⟩
        refine ⟨by show 4 ≤ sizeLine; decide, fun b2 nb2 => ⟨c2, b2, [n, n - 1, 6, 999999900], rfl, .inl (.inl upd_same), by show 4 ≤ 1000; decide, fun x hx => ?_, fun H3 p3 ds3 s3 np3 ep3 dg3 => ?_⟩⟩
        · simp only [List.mem_cons, List.not_mem_nil, or_false] at hx
          omega
        obtain ⟨d0, d1, d2, d3, rfl, h0, h1, h2, h3⟩ := digs4 dg3
        have s23 : Same H2 H3 := (same_upd nb2).trans s3
        have qp : SqL K H3 p3 [.int d0, .int d1, .int d2, .int d3] := .inl (.inl ep3)
        have a0 : atI [V.int d0, .int d1, .int d2, .int d3] 0 = some (.int d0) := atI_nat (j := 0) rfl
        have a1 : atI [V.int d0, .int d1, .int d2, .int d3] 1 = some (.int d1) := atI_nat (j := 1) rfl
        have a2 : atI [V.int d0, .int d1, .int d2, .int d3] 2 = some (.int d2) := atI_nat (j := 2) rfl
        have a3 : atI [V.int d0, .int d1, .int d2, .int d3] 3 = some (.int d3) := atI_nat (j := 3) rfl
        refine ⟨_, rfl, p3, _, 0, _, rfl, rfl, qp, a0, _, _, rfl, rfl, _, rfl, p3, _, 1, _, rfl, rfl, qp, a1, _, _, rfl, rfl, .inl ⟨_, rfl, _, rfl, _, _, rfl, rfl, by omega, ?_⟩⟩
        have eR3 := s23 _ _ eR
        have hoth : 0 ≤ (d0 + 1 + d1).fmod n ∧ (d0 + 1 + d1).fmod n < n ∧ d0 ≠ (d0 + 1 + d1).fmod n := by
          have hm := fmod_in (d0 + 1 + d1) (show 0 < n by omega)
          refine ⟨hm.1, hm.2, ?_⟩
          by_cases hx : d0 + 1 + d1 < n
          · rw [fmod_lo (by omega) hx]
            omega
          · rw [fmod_hi (by omega) (by omega)]
            omega
        obtain ⟨z, ez, zpos⟩ : ∃ z : Int, atI [V.int 3, .int 3, .int 3, .int 3, .int 1000, .int (999999900)] d2 = some (.int z) ∧ 0 < z := by
          have hd : d2 = ((0 : Nat) : Int) ∨ d2 = ((1 : Nat) : Int) ∨ d2 = ((2 : Nat) : Int) ∨ d2 = ((3 : Nat) : Int) ∨ d2 = ((4 : Nat) : Int) ∨ d2 = ((5 : Nat) : Int) := by omega
          rcases hd with e | e | e | e | e | e <;> rw [e] <;> exact ⟨_, atI_nat rfl, by decide⟩
        refine ⟨_, rfl, .inl ⟨rfl, _, .inl (.inl eR3)⟩, _, rfl, p3, _, 0, _, rfl, rfl, qp, a0, _, rfl, _, rfl, p3, _, 3, _, rfl, rfl, qp, a3, .inl ⟨_, rfl, ?_⟩⟩
        refine ⟨by show 6 ≤ sizeLine; decide, fun g ng => ⟨_, rfl, p3, _, 2, _, rfl, rfl, (same_upd ng).seq qp, a2, g, _, d2, _, rfl, rfl, .inl (.inl upd_same), ez, _, _, rfl, rfl, by omega, ?_⟩⟩
        have hz := fmod_in d3 zpos
        refine ⟨_, _, rfl, rfl, by show 3 ≤ sizeLine; decide, fun v nv => ?_⟩
        have sg := (same_upd (o := .lst [.int 3, .int 3, .int 3, .int 3, .int 1000, .int (999999900)]) ng).trans (same_upd (o := .tup [.int d0, .int ((d0 + 1 + d1).fmod n), .int (1 + d3.fmod z)]) nv)
        have eR4 := sg _ _ eR3
        refine ⟨R, _, _, rfl, rfl, eR4, ?_, ?_⟩
        · rw [tV.1]
          exact small1000 (by omega)
        have nvR : v ≠ R := fun zz => by
          rw [zz] at nv
          exact nomatch ((same_upd ng _ _ eR3).symm.trans nv)
        refine ⟨vs ++ [.ref v], tr ++ [(d0, (d0 + 1 + d1).fmod n, 1 + d3.fmod z)], _, _, _, _, rfl, same_put (H1 := H) hR (s2.trans (s23.trans sg)), upd_same, ?_, fun t ht => ?_, ?_⟩
        · refine ((tV.same (s23.trans sg)).sameT (sameT_put eR4 (Same.refl _))).snoc ?_
          rw [upd_ne nvR, upd_same]
        · rcases List.mem_append.mp ht with ht | ht
          · exact hV t ht
          · rw [List.mem_singleton.mp ht]
            exact ⟨h0.1, h0.2, hoth.1, hoth.2.1, hoth.2.2, by show 1 ≤ 1 + d3.fmod z; omega⟩
        · rw [List.length_append]
          show tr.length + 1 ≤ i + 1
          omega
      · exact ⟨vs, tr, _, _, _, _, rfl, s2, eR, tV, hV, by omega⟩
    · obtain ⟨vs, tr, y3, y4, y5, y6, rfl, s2, eR, tV, hV, hl2⟩ := pv
      refine ⟨_, rfl, R, vs, tr, rfl, .inl (.inl (.inl eR)), tV, by omega, fun H3 c r s3 hc hi => ?_⟩
      have hi := hi.norm fun t ht => (hV t ht).2.2.2.2.2
      have hg := hi.good hV
      have hlr : r.length ≤ ct := Nat.le_trans hi.len (by omega)
      obtain ⟨xs, ec, tc⟩ := id hc
      have ha := s2.trans s3
      refine ⟨c, rfl, ⟨xs, .inl (.inl ec)⟩, fun D hD => ?_⟩
      refine lc_tup (K := K) (a := c) (xs := xs) (fun i H4 => Same H3 H4 ∧ ∃ ws, H4 D = some (.lst ws) ∧ TrV H4 ws ((capd r).take i)) ⟨same_upd hD, [], upd_same, TrV.nil⟩ (fun i H4 _ p => .inl (.inl (p.1 _ _ ec))) (fun i x H4 hxi pv => ?_) (fun H4 pv => ?_)
      · obtain ⟨s4, ws, eD, tW⟩ := pv
        obtain ⟨u, t, rfl, hti, hu⟩ := (tc.same s4).at_ hxi
        have qu : SqT K H4 u (tv t) := .inl (.inl hu)
        have a0 : atI (tv t) 0 = some (.int t.1) := atI_nat (j := 0) rfl
        have a1 : atI (tv t) 1 = some (.int t.2.1) := atI_nat (j := 1) rfl
        have a2 : atI (tv t) 2 = some (.int t.2.2) := atI_nat (j := 2) rfl
        refine ⟨rfl, ?_⟩
        refine ⟨_, rfl, u, _, 0, _, rfl, rfl, qu, a0, _, rfl, u, _, 1, _, rfl, rfl, qu, a1, _, rfl, u, _, 2, _, rfl, rfl, qu, a2, _, _, rfl, by show 3 ≤ sizeLine; decide, fun v nv => ?_⟩
        have sv := same_upd (o := .tup [.int t.1, .int t.2.1, .int (if 999999900 < t.2.2 then 999999900 else t.2.2)]) nv
        have hri : (capd r)[i]? = some (t.1, t.2.1, if 999999900 < t.2.2 then 999999900 else t.2.2) := by
          unfold capd
          rw [List.getElem?_map, hti]
          rfl
        have nD : v ≠ D := fun z => by
          rw [z, eD] at nv
          cases nv
        refine ⟨ws, sv _ _ eD, ?_, same_put (H1 := H3) hD (s4.trans sv), _, upd_same, ?_⟩
        · rw [tW.1, List.length_take]
          have : (capd r).length = r.length := List.length_map _
          exact Nat.lt_of_le_of_lt (Nat.min_le_right _ _) (small1000 (by omega))
        · rw [List.take_add_one, hri]
          refine (tW.sameT (sameT_put eD sv)).snoc ?_
          rw [upd_ne nD, upd_same]
      · obtain ⟨s4, ws, eD, tW⟩ := pv
        have hlen : xs.length = (capd r).length := by
          rw [tc.1]
          exact (List.length_map _).symm
        rw [hlen, List.take_length] at tW
        refine ⟨D, ws, rfl, .inl ⟨.inl (.inl eD), fun c2 nc => ?_⟩⟩
        exact q _ c2 (capd r) ((ha.trans s4).trans (same_upd nc)) ⟨ws, upd_same, tW.same (same_upd nc)⟩ (capd_good hg) (by rw [show (capd r).length = r.length from List.length_map _]; exact hlr) (capd_le r)
def spLotIs (C : Addr) : Sp := fun vs H Q _ => ∃ (p : Addr) (n : Int) (c : Addr) (cs : List Tr), vs = [.ref p, .int n, .ref c] ∧ LotAt C H p n cs ∧ Trip H c cs ∧ cs.length ≤ 1000 ∧ Q (.bl true) H
theorem ok_lotis {f : Addr} {fd : FuncData} (F : Fun K "_law_lot_is" "_law_lot_is" s__law_lot_is f fd) (L : LotC K mg C) {f_s : Addr} {d_s : FuncData} (D_s : Df K mg "_law_same" s__law_same ["_law_value", "_law_due"] f_s d_s) (G_s0 : FnOk P w K mg base CX0 2 f_s d_s ["_law_value", "_law_due"] (spSame 0)) (G_s2 : FnOk P w K mg base CX0 4 f_s d_s ["_law_value", "_law_due"] (spSame 2)) : FnOk P w K mg base CX0 5 f fd ["_law_thing", "_law_pins_here", "_law_bunch"] (spLotIs C) := by
  refine F.ok sc__law_lot_is (fun vs H Q E h => ?_) (fun cdv A outer s H vs Q E hr h => ?_)
  · obtain ⟨p, n, c, cs, rfl, _⟩ := h
    rfl
  · obtain ⟨p, n, c, cs, rfl, hL, hc, hl, q⟩ := h
    refine ⟨_, (pss_one (ps_ret (pe_and (pe_call G_s0 (hr.mono (by decide)) (by rfl) D_s.g D_s.F.kp D_s.b .nil pass0 (pa_cons (pe_fld (pv 0) rfl) (pa_cons (pv 1) pa_nil))) (pe_one (pe_call G_s2 hr (by rfl) D_s.g D_s.F.kp D_s.b .nil pass0 (pa_cons (pe_fld (pv 0) rfl) (pa_cons (pv 2) pa_nil))))))), ?_⟩
    obtain ⟨dx, c2, e, t⟩ := hL
    refine ⟨_, rfl, p, C, dx, _, _, rfl, e, L.cl, L.nP, flds_pins _ _, _, rfl, _, _, rfl, EqV.int n, true, rfl, ?_⟩
    exact ⟨_, rfl, p, C, dx, _, _, rfl, e, L.cl, L.nC, flds_cords _ _, _, rfl, _, _, rfl, EqV.trip t hc hl, q⟩

def spLEnds : Sp := fun vs H Q _ => ∃ (c : Addr) (cs : List Tr) (x : Int), vs = [.ref c, .int x] ∧ Trip H c cs ∧ Q (.int (endsOf cs x)) H
theorem ok_lends {f : Addr} {fd : FuncData} (F : Fun K "_law_ends" "_law_ends" s__law_ends f fd) : FnOk P w K mg base CX0 1 f fd ["_law_bunch", "_law_pin"] spLEnds := by
  refine F.ok sc__law_ends (fun vs H Q E h => ?_) (fun cdv A outer s H vs Q E hr h => ?_)
  · obtain ⟨c, cs, x, rfl, _⟩ := h
    rfl
  · obtain ⟨c, cs, x, rfl, hc, q⟩ := h
    refine ⟨_, (pss_cons (ps_set (i := 2) sc__law_ends.nd rfl (.inl rfl) pe_int)
        (pss_cons (ps_for PassesOwn.never rfl (pi_tup (pv 0)) (pg_name (i := 3) sc__law_ends.nd rfl (.inl rfl))
        (pss_one (ps_if (PW.pt (pw_or (pt_cmpR op_eq (pv 1) (pe_ix (r := rIxT K) ix_tup (pv 3) pe_int (fun _ _ => rfl)) (nomark _)) (pw_or1 (pt_cmpR op_eq (pv 1) (pe_ix (r := rIxT K) ix_tup (pv 3) pe_int (fun _ _ => rfl)) (nomark _))))) (pss_one (ps_set (i := 2) sc__law_ends.nd rfl (.inl rfl) (pe_op op_add (pv 2) (pe_ix (r := rIxT K) ix_tup (pv 3) pe_int (fun _ _ => rfl))))) pss_nil)))
        (pss_one (ps_ret (pv 2))))), ?_⟩
    obtain ⟨vs, ec, tc⟩ := id hc
    refine ⟨_, rfl, c, rfl, ⟨vs, .inl (.inl ec)⟩, for_tup (xs := vs) (fun i σ H' => (∃ y3, σ = [some (.ref c), some (.int x), some (.int (endsOf (cs.take i) x)), y3]) ∧ H' = H) ⟨⟨_, rfl⟩, rfl⟩ (fun i σ H' _ p => by rw [p.2]; exact .inl (.inl ec)) (fun i y σ H' hxi p => ?_) (fun σ H' p => ?_)⟩
    · obtain ⟨⟨y3, rfl⟩, rfl⟩ := p
      obtain ⟨u, t, rfl, hti, hu⟩ := tc.at_ hxi
      have qu : SqT K H' u (tv t) := .inl (.inl hu)
      have a0 : atI (tv t) 0 = some (.int t.1) := atI_nat (j := 0) rfl
      have a1 : atI (tv t) 1 = some (.int t.2.1) := atI_nat (j := 1) rfl
      have a2 : atI (tv t) 2 = some (.int t.2.2) := atI_nat (j := 2) rfl
      have et : endsOf (cs.take (i + 1)) x = endsOf (cs.take i) x + (if t.1 = x ∨ t.2.1 = x then t.2.2 else 0) := by
        rw [List.take_add_one, hti]
        exact endsOf_snoc _ _ _
      refine ⟨_, rfl, _, rfl, u, _, 0, _, rfl, rfl, qu, a0, rfl, _, rfl, ite2 (fun e => ?_) (fun e => ?_)⟩
      · have e1 : x = t.1 := V.int.inj (of_decide_eq_true e)
        refine ⟨_, rfl, _, rfl, u, _, 2, _, rfl, rfl, qu, a2, _, _, rfl, rfl, ⟨some (.ref u), ?_⟩, rfl⟩
        rw [et, if_pos (.inl e1.symm)]
        rfl
      · have e1 : ¬ x = t.1 := fun z => e (decide_eq_true (congrArg V.int z))
        refine ⟨_, rfl, _, rfl, u, _, 1, _, rfl, rfl, qu, a1, rfl, _, rfl, ite2 (fun e => ?_) (fun e => ?_)⟩
        · have e2 : x = t.2.1 := V.int.inj (of_decide_eq_true e)
          refine ⟨_, rfl, _, rfl, u, _, 2, _, rfl, rfl, qu, a2, _, _, rfl, rfl, ⟨some (.ref u), ?_⟩, rfl⟩
          rw [et, if_pos (.inr e2.symm)]
          rfl
        · have e2 : ¬ x = t.2.1 := fun z => e (decide_eq_true (congrArg V.int z))
          refine ⟨⟨some (.ref u), ?_⟩, rfl⟩
          rw [et, if_neg (fun z => by rcases z with z | z; exact e1 z.symm; exact e2 z.symm), Int.add_zero]
          rfl
    · obtain ⟨⟨y3, rfl⟩, rfl⟩ := p
      rw [tc.1, List.take_length]
      exact ⟨_, rfl, q⟩
def spLBar : Sp := fun vs H Q _ => ∃ (sz : Int) (u v : Addr) (f g : Int → Int → Int), vs = [.ref u, .ref v] ∧ 0 < sz ∧ sz ≤ 1000 ∧ TabAt H u sz f ∧ TabAt H v sz g ∧ ∀ H' x r, Same H H' → IsBar sz f g r → BarV H' x r → Q x H'
theorem ok_lbar {f : Addr} {fd : FuncData} (F : Fun K "_law_bar" "_law_bar" s__law_bar f fd) (T : Bi mg) : FnOk P w K mg base CX0 1 f fd ["_law_held", "_law_wished"] spLBar := by
  refine F.ok sc__law_bar (fun vs H Q E h => ?_) (fun cdv A outer s H vs Q E hr h => ?_)
  · obtain ⟨sz, u, v, f, g, rfl, _⟩ := h
    rfl
  · obtain ⟨sz, u, v, fF, gG, rfl, n0, n1, hu, hv, q⟩ := h
    refine ⟨_, (pss_cons (ps_for PassesOwn.never rfl (pi_range1 (by rfl) T.b_range (pa_cons (pe_callB cr_lenS (by rfl) T.b_len PySem.boot_len (pa_cons (pv 0) pa_nil)) pa_nil)) (pg_name (i := 2) sc__law_bar.nd rfl (.inl rfl))
        (pss_one (ps_for PassesOwn.never rfl (pi_range2 (by rfl) T.b_range (pa_cons (pe_op op_add (pv 2) pe_int) (pa_cons (pe_callB cr_lenS (by rfl) T.b_len PySem.boot_len (pa_cons (pv 0) pa_nil)) pa_nil))) (pg_name (i := 3) sc__law_bar.nd rfl (.inl rfl))
        (pss_one (ps_if (pt_cmpR op_gt (pe_ix (r := rIxT K) ix_tup (pe_ix (r := rIxT K) ix_tup (pv 1) (pv 2) (fun _ _ => rfl)) (pv 3) (fun _ _ => rfl)) (pe_ix (r := rIxT K) ix_tup (pe_ix (r := rIxT K) ix_tup (pv 0) (pv 2) (fun _ _ => rfl)) (pv 3) (fun _ _ => rfl)) (nomark _)) (pss_one (ps_ret (pe_tup (pa_cons (pv 2) (pa_cons (pv 3) pa_nil))))) pss_nil)))))
        (pss_one (ps_ret pe_non))), ?_⟩
    obtain ⟨us, eu, lu, _⟩ := id hu
    refine ⟨_, rfl, u, us, rfl, .inr (.inl (.inl eu)), ?_⟩
    rw [show (us.length : Int) = sz by omega]
    refine ⟨sz, rfl, by omega, by omega, for_range (lo := 0) (n := sz.toNat) (fun i σ H' => (∃ y3 y4, σ = [some (.ref u), some (.ref v), y3, y4]) ∧ H' = H ∧ NoBar sz fF gG (i : Int) 0) ⟨⟨_, _, rfl⟩, rfl, fun x y h0 _ _ h => by omega⟩ (fun i σ H' hi p => ?_) (fun σ H' p => ?_)⟩
    · obtain ⟨⟨y3, y4, rfl⟩, rfl, hno⟩ := p
      rw [Int.zero_add]
      obtain ⟨us, eu, lu, _⟩ := id hu
      refine ⟨_, rfl, _, _, rfl, rfl, _, rfl, u, us, rfl, .inr (.inl (.inl eu)), ?_⟩
      rw [show (us.length : Int) = sz by omega]
      refine ⟨_, sz, rfl, ⟨by omega, by omega, by omega, by omega⟩, ?_⟩
      have ki : (sz - ((i : Int) + 1)).toNat = sz.toNat - (i + 1) := by omega
      rw [ki]
      refine for_range (lo := (i : Int) + 1) (n := sz.toNat - (i + 1)) (fun j σ H1 => (∃ y4, σ = [some (.ref u), some (.ref v), some (.int (i : Int)), y4]) ∧ H1 = H' ∧ NoBar sz fF gG (i : Int) ((i : Int) + 1 + (j : Int))) ⟨⟨_, rfl⟩, rfl, fun x y h0 h1 h2 h => ?_⟩ (fun j σ H1 hj p => ?_) (fun σ H1 p => ?_)
      · rcases h with h | h
        · exact hno x y h0 h1 h2 (.inl h)
        · omega
      · obtain ⟨⟨y4, rfl⟩, rfl, hno⟩ := p
        have i0 : (0 : Int) ≤ (i : Int) := by omega
        have i1 : (i : Int) < sz := by omega
        have j1 : (i : Int) + 1 + (j : Int) < sz := by omega
        generalize hjj : (i : Int) + 1 + (j : Int) = jj at hno j1 ⊢
        obtain ⟨r1, ⟨vs1, e1, a1⟩, b1⟩ := hv.row i0 i1
        obtain ⟨r2, ⟨vs2, e2, a2⟩, b2⟩ := hu.row i0 i1
        refine ⟨_, rfl, _, rfl, v, _, _, _, rfl, rfl, .inl (.inl e1), a1, _, rfl, r1, _, _, _, rfl, rfl, .inl (.inl b1), gl_atI _ (by omega) j1, ?_⟩
        refine ⟨_, rfl, _, rfl, u, _, _, _, rfl, rfl, .inl (.inl e2), a2, _, rfl, r2, _, _, _, rfl, rfl, .inl (.inl b2), gl_atI _ (by omega) j1, ?_⟩
        refine ⟨_, _, rfl, rfl, _, rfl, ite2 (fun e => ?_) (fun e => ?_)⟩
        · have lt : fF (i : Int) jj < gG (i : Int) jj := of_decide_eq_true e
          refine ⟨_, rfl, _, rfl, by show 2 ≤ sizeLine; decide, fun p np => ?_⟩
          refine q _ _ (some ((i : Int), jj)) (same_upd np) ⟨⟨i0, by show (i : Int) < jj; omega, j1, lt⟩, fun x y h0 h1 h2 h => hno x y h0 h1 h2 h⟩ (.inr ⟨p, _, _, rfl, upd_same, rfl⟩)
        · have ge : ¬ fF (i : Int) jj < gG (i : Int) jj := fun z => e (decide_eq_true z)
          refine ⟨⟨_, rfl⟩, rfl, fun x y h0 h1 h2 h => ?_⟩
          by_cases c : x < (i : Int) ∨ (x = (i : Int) ∧ y < jj)
          · exact hno x y h0 h1 h2 c
          · have ex : x = (i : Int) := by omega
            have ey : y = jj := by omega
            rw [ex, ey]
            omega
      · obtain ⟨⟨y4, rfl⟩, rfl, hno⟩ := p
        refine ⟨⟨_, _, rfl⟩, rfl, fun x y h0 h1 h2 h => hno x y h0 h1 h2 ?_⟩
        omega
    · obtain ⟨_, rfl, hno⟩ := p
      exact q _ _ none (Same.refl _) (fun i j h0 h1 h2 => hno i j h0 h1 h2 (.inl (by omega))) (.inl ⟨rfl, rfl⟩)
def spLOdd : Sp := fun vs H Q _ => ∃ (n : Int) (c d : Addr) (cs ds : List Tr), vs = [.int n, .ref c, .ref d] ∧ 0 ≤ n ∧ n ≤ 1000 ∧ Trip H c cs ∧ Trip H d ds ∧ ∀ H' x, Same H H' → H' x = some (.tup ((odds n (endsOf cs) (endsOf ds)).map V.int)) → Q (.ref x) H'
theorem ok_lodd {f : Addr} {fd : FuncData} (F : Fun K "_law_odd" "_law_odd" s__law_odd f fd) (T : Bi mg) {f_e : Addr} {d_e : FuncData} (D_e : Df K mg "_law_ends" s__law_ends ["_law_bunch", "_law_pin"] f_e d_e) (G_e : FnOk P w K mg base CX0 1 f_e d_e ["_law_bunch", "_law_pin"] spLEnds) : FnOk P w K mg base CX0 2 f fd ["_law_pins_here", "_law_one", "_law_two"] spLOdd := by
  refine F.ok sc__law_odd (fun vs H Q E h => ?_) (fun cdv A outer s H vs Q E hr h => ?_)
  · obtain ⟨n, c, d, cs, ds, rfl, _⟩ := h
    rfl
  · obtain ⟨n, c, d, cs, ds, rfl, n0, n1, hc, hd, q⟩ := h
    refine ⟨_, (pss_one (ps_ret (pe_callTy call_tuple_of (by rfl) T.b_tuple (by decide +kernel) (pa_cons (pe_lc (own := [("_law_p", 3)]) (g := gName 3) rfl sc__law_odd.nd (pi_range1 (by rfl) T.b_range (pa_cons (pv 0) pa_nil)) (blkOk_by (own := [("_law_p", 3)]) (N := ["_law_pins_here", "_law_one", "_law_two", "_law_p"]) (sc := defScope s__law_odd) (by decide +kernel)) (fun _ _ _ _ _ => (pg_name (i := 3) sc__law_odd.nd rfl (.inl rfl))) (fun _ _ _ _ _ => pts_one (pt_cmpR op_eq (pe_op op_mod (pe_callTy call_int1 (by rfl) T.b_int (by decide +kernel) (pa_cons (pe_op op_sub (pe_call G_e hr (by rfl) D_e.g D_e.F.kp D_e.b .nil pass0 (pa_cons (pv 1) (pa_cons (pv 3) pa_nil))) (pe_call G_e hr (by rfl) D_e.g D_e.F.kp D_e.b .nil pass0 (pa_cons (pv 2) (pa_cons (pv 3) pa_nil)))) pa_nil)) pe_int) pe_int (nomark _))) (fun _ _ _ _ _ => (pv 3))) pa_nil)))), ?_⟩
    refine ⟨_, rfl, n, rfl, by omega, by omega, fun O hO => ?_⟩
    refine lc_range (lo := 0) (n := n.toNat) (fun i H2 => Same H H2 ∧ H2 O = some (.lst ((oddl (odf (endsOf cs) (endsOf ds)) i).map V.int))) ⟨same_upd hO, upd_same⟩ (fun i H2 hi p => ?_) (fun H2 p => ?_)
    · obtain ⟨s2, eO⟩ := p
      rw [Int.zero_add]
      refine ⟨rfl, ?_⟩
      refine ⟨_, rfl, _, rfl, c, cs, _, rfl, hc.same s2, _, rfl, _, rfl, d, ds, _, rfl, hd.same s2, _, _, rfl, rfl, .inl ⟨_, rfl, _, _, rfl, rfl, by show (0 : Int) < 2; decide, rfl, _, rfl, ite2 (fun e => ?_) (fun e => ?_)⟩⟩
      · have hc : odf (endsOf cs) (endsOf ds) i = true := decide_eq_true (V.int.inj (of_decide_eq_true e))
        refine ⟨_, rfl, _, eO, ?_, same_put (H1 := H) hO s2, ?_⟩
        · rw [List.length_map]
          have := oddl_len (odf (endsOf cs) (endsOf ds)) i
          exact small1000 (by omega)
        · rw [upd_same, oddl_step, if_pos hc, List.map_append]
          rfl
      · have hc : ¬ odf (endsOf cs) (endsOf ds) i = true := fun z => e (decide_eq_true (congrArg V.int (of_decide_eq_true z)))
        refine ⟨s2, ?_⟩
        rw [oddl_step, if_neg hc]
        exact eO
    · obtain ⟨s2, eO⟩ := p
      refine ⟨O, _, rfl, .inl ⟨.inl (.inl eO), fun c nc => ?_⟩⟩
      exact q _ c (s2.trans (same_upd nc)) upd_same
end
end Own

namespace Own
open PySem PySem.Spec PyProof.Rows L2
/-! ### the moves of the law -/
def sel (t : Tr) (i : Int) : Int := if i = 0 then t.1 else t.2.1
theorem cut2 (t : Tr) : cutV (tv t) none (some 2) = [.int t.1, .int t.2.1] := rfl
theorem part2 (t : Tr) : ¬ (HT.sIx (tv t).length 0 none = 0 ∧ HT.sIx (tv t).length (tv t).length (some 2) = (tv t).length) := by
  show ¬ (HT.sIx 3 0 none = 0 ∧ HT.sIx 3 3 (some 2) = 3)
  decide
theorem sel_at {t : Tr} {i : Int} (h : i = 0 ∨ i = 1) : atI (tv t) i = some (.int (sel t i)) := by
  rcases h with rfl | rfl
  · exact atI_nat (j := 0) rfl
  · exact atI_nat (j := 1) rfl
/-- a move: two pairs of different pins -/
structure MvI (n a b c d : Int) : Prop where
  a0 : 0 ≤ a
  a1 : a < n
  b0 : 0 ≤ b
  b1 : b < n
  c0 : 0 ≤ c
  c1 : c < n
  d0 : 0 ≤ d
  d1 : d < n
  ab : a ≠ b
  cd : c ≠ d
def MvOk (n : Int) (H : Hp) (v : V) : Prop := ∃ (u : Addr) (a b c d : Int), v = .ref u ∧ H u = some (.tup [.int a, .int b, .int c, .int d]) ∧ MvI n a b c d
theorem MvOk.sameT {n : Int} {H H' : Hp} {v : V} (s : SameT H H') (h : MvOk n H v) : MvOk n H' v := by
  obtain ⟨u, a, b, c, d, rfl, e, m⟩ := h
  exact ⟨u, a, b, c, d, rfl, s _ _ e, m⟩
theorem toT {H H' : Hp} (s : Same H H') : SameT H H' := fun b o e => s _ _ e
theorem sel_ok {n : Int} {t : Tr} {i j : Int} (v : Vld n t) (h : (i = 0 ∧ j = 1) ∨ (i = 1 ∧ j = 0)) : (0 ≤ sel t i ∧ sel t i < n) ∧ (0 ≤ sel t j ∧ sel t j < n) ∧ sel t i ≠ sel t j := by
  obtain ⟨v0, v1, v2, v3, v4, v5⟩ := v
  rcases h with ⟨rfl, rfl⟩ | ⟨rfl, rfl⟩
  · exact ⟨⟨v0, v1⟩, ⟨v2, v3⟩, v4⟩
  · exact ⟨⟨v2, v3⟩, ⟨v0, v1⟩, fun z => v4 z.symm⟩
def WayAt (H : Hp) (v : V) : Prop := ∃ (u : Addr) (i j k l : Int), v = .ref u ∧ H u = some (.tup [.int i, .int j, .int k, .int l]) ∧ ((i = 0 ∧ j = 1) ∨ (i = 1 ∧ j = 0)) ∧ ((k = 0 ∧ l = 1) ∨ (k = 1 ∧ l = 0))
section
variable {P : Program} {w : World} {K : PySem.W.Frag} {mg : Str → Option Value} {base : Heap} {C : Addr}
def spCross : Sp := fun vs H Q _ => ∃ a b c d : Int, vs = [.int a, .int b, .int c, .int d] ∧ ∀ H' x, Same H H' → Q (.bl x) H'
theorem ok_cross {f : Addr} {fd : FuncData} (F : Fun K "_law_cross" "_law_cross" s__law_cross f fd) (T : Bi mg) : FnOk P w K mg base CX0 1 f fd ["_law_a", "_law_b", "_law_c", "_law_d"] spCross := by
  refine F.ok sc__law_cross (fun vs H Q E h => ?_) (fun cdv A outer s H vs Q E hr h => ?_)
  · obtain ⟨a, b, c, d, rfl, _⟩ := h
    rfl
  · obtain ⟨a, b, c, d, rfl, q⟩ := h
    refine ⟨_, (pss_cons (ps_if (PW.pt (pw_or (pt_cmpR op_in_seq (pv 0) (pe_lst (pa_cons (pv 1) (pa_cons (pv 2) (pa_cons (pv 3) pa_nil)))) (by rfl)) (pw_or (pt_cmpR op_in_seq (pv 1) (pe_lst (pa_cons (pv 2) (pa_cons (pv 3) pa_nil))) (by rfl)) (pw_or1 (pt_cmpR op_eq (pv 2) (pv 3) (nomark _)))))) (pss_one (ps_ret pe_bl)) pss_nil)
        (pss_one (ps_ret (pe_cmpR op_ne (pe_chain op_lt op_lt (pe_callB (call_min2 rfl) (by rfl) T.b_min (by decide +kernel) (pa_cons (pv 0) (pa_cons (pv 1) pa_nil))) (pv 2) (pe_callB (call_max2 rfl) (by rfl) T.b_max (by decide +kernel) (pa_cons (pv 0) (pa_cons (pv 1) pa_nil)))) (pe_chain op_lt op_lt (pe_callB (call_min2 rfl) (by rfl) T.b_min (by decide +kernel) (pa_cons (pv 0) (pa_cons (pv 1) pa_nil))) (pv 3) (pe_callB (call_max2 rfl) (by rfl) T.b_max (by decide +kernel) (pa_cons (pv 0) (pa_cons (pv 1) pa_nil)))) (nomark _))))), ?_⟩
    refine ⟨_, rfl, _, rfl, _, rfl, _, rfl, by show 3 ≤ sizeLine; decide, fun p1 n1 => ⟨p1, _, rfl, .inl (.inl (.inl upd_same)), rfl, rfl, _, rfl, ite2 (fun e => ?_) (fun e => ?_)⟩⟩
    · exact q _ _ (same_upd n1)
    refine ⟨_, rfl, _, rfl, _, rfl, by show 2 ≤ sizeLine; decide, fun p2 n2 => ⟨p2, _, rfl, .inl (.inl (.inl upd_same)), rfl, rfl, _, rfl, ite2 (fun e => ?_) (fun e => ?_)⟩⟩
    · exact q _ _ ((same_upd n1).trans (same_upd n2))
    have sA := (same_upd (H := H) (o := .lst [.int b, .int c, .int d]) n1).trans (same_upd (o := .lst [.int c, .int d]) n2)
    refine ⟨_, rfl, _, rfl, rfl, _, rfl, ite2 (fun e => ?_) (fun e => ?_)⟩
    · exact q _ _ sA
    refine ⟨_, rfl, _, rfl, _, _, rfl, _, rfl, _, _, rfl, rfl, _, rfl, ite2 (fun _ => ⟨_, rfl, _, rfl, _, _, rfl, _, _, rfl, rfl, ?_⟩) (fun _ => ?_)⟩
    all_goals exact ⟨_, rfl, _, rfl, _, _, rfl, _, rfl, _, _, rfl, rfl, _, rfl, ite2 (fun _ => ⟨_, rfl, _, rfl, _, _, rfl, _, _, rfl, rfl, rfl, q _ _ sA⟩) (fun _ => ⟨rfl, q _ _ sA⟩)⟩
def spMoves : Sp := fun vs H Q _ => ∃ (c : Addr) (n : Int) (cs : List Tr), vs = [.ref c] ∧ Trip H c cs ∧ Good n cs ∧ cs.length ≤ 60 ∧ ∀ H' F vs, Same H H' → H' F = some (.lst vs) → vs.length ≤ 20000 → (∀ v ∈ vs, MvOk n H' v) → Q (.ref F) H'
theorem ok_moves {f : Addr} {fd : FuncData} (F : Fun K "_law_moves" "_law_moves" s__law_moves f fd) (T : Bi mg) {f_x : Addr} {d_x : FuncData} (D_x : Df K mg "_law_cross" s__law_cross ["_law_a", "_law_b", "_law_c", "_law_d"] f_x d_x) (G_x : FnOk P w K mg base CX0 1 f_x d_x ["_law_a", "_law_b", "_law_c", "_law_d"] spCross) : FnOk P w K mg base CX0 2 f fd ["_law_bunch"] spMoves := by
  refine F.ok sc__law_moves (fun vs H Q E h => ?_) (fun cdv A outer s H vs Q E hr h => ?_)
  · obtain ⟨c, n, cs, rfl, _⟩ := h
    rfl
  · obtain ⟨c, n, cs, rfl, hc, hG, hl, q⟩ := h
    have hu64 : (A.deeper (envOfC "_law_moves" (defScope s__law_moves) s.heap.objs.size f cdv)).units + 64 < cLine := hr.units
    refine ⟨_, (pss_cons (ps_set (i := 1) sc__law_moves.nd rfl (.inl rfl) (pe_lst pa_nil))
        (pss_cons (ps_for PassesOwn.never rfl (pi_tup (pv 0)) (pg_name (i := 2) sc__law_moves.nd rfl (.inl rfl))
        (pss_one (ps_for PassesOwn.never rfl (pi_tup (pv 0)) (pg_name (i := 3) sc__law_moves.nd rfl (.inl rfl))
        (pss_one (ps_if (PW.pt (pw_or (pt_cmpR (op_neD hu64) (pe_slice sl_tup (pv 2) po_none (po_some pe_int)) (pe_slice sl_tup (pv 3) po_none (po_some pe_int)) (nomark _)) (pw_or1 (pt_cmpR op_ge (pe_ix (r := rIxT K) ix_tup (pv 2) pe_int (fun _ _ => rfl)) pe_int (nomark _))))) (pss_one (ps_for PassesOwn.never rfl (pi_list (pe_lst (pa_cons (pe_tup (pa_cons pe_int (pa_cons pe_int (pa_cons pe_int (pa_cons pe_int pa_nil))))) (pa_cons (pe_tup (pa_cons pe_int (pa_cons pe_int (pa_cons pe_int (pa_cons pe_int pa_nil))))) (pa_cons (pe_tup (pa_cons pe_int (pa_cons pe_int (pa_cons pe_int (pa_cons pe_int pa_nil))))) (pa_cons (pe_tup (pa_cons pe_int (pa_cons pe_int (pa_cons pe_int (pa_cons pe_int pa_nil))))) pa_nil)))))) (pg_name (i := 4) sc__law_moves.nd rfl (.inl rfl))
        (pss_cons (ps_set (i := 5) sc__law_moves.nd rfl (.inl rfl) (pe_tup (pa_cons (pe_ix (r := rIxT K) ix_tup (pv 2) (pe_ix (r := rIxT K) ix_tup (pv 4) pe_int (fun _ _ => rfl)) (fun _ _ => rfl)) (pa_cons (pe_ix (r := rIxT K) ix_tup (pv 2) (pe_ix (r := rIxT K) ix_tup (pv 4) pe_int (fun _ _ => rfl)) (fun _ _ => rfl)) (pa_cons (pe_ix (r := rIxT K) ix_tup (pv 3) (pe_ix (r := rIxT K) ix_tup (pv 4) pe_int (fun _ _ => rfl)) (fun _ _ => rfl)) (pa_cons (pe_ix (r := rIxT K) ix_tup (pv 3) (pe_ix (r := rIxT K) ix_tup (pv 4) pe_int (fun _ _ => rfl)) (fun _ _ => rfl)) pa_nil))))))
        (pss_one (ps_if (PW.pt (pw_or (pt_cmpR op_eq (pe_ix (r := rIxT K) ix_tup (pv 5) pe_int (fun _ _ => rfl)) (pe_ix (r := rIxT K) ix_tup (pv 5) pe_int (fun _ _ => rfl)) (nomark _)) (pw_or1 (pt_val (pe_call G_x (hr.mono (by decide)) (by rfl) D_x.g D_x.F.kp D_x.b .nil pass0 (pa_cons (pe_ix (r := rIxT K) ix_tup (pv 5) pe_int (fun _ _ => rfl)) (pa_cons (pe_ix (r := rIxT K) ix_tup (pv 5) pe_int (fun _ _ => rfl)) (pa_cons (pe_ix (r := rIxT K) ix_tup (pv 5) pe_int (fun _ _ => rfl)) (pa_cons (pe_ix (r := rIxT K) ix_tup (pv 5) pe_int (fun _ _ => rfl)) pa_nil))))))))) (pss_one (ps_expr (pe_bm PySem.F.plainAttrs_list PySem.F.slot_list_append PySem.F.type_list_append mt_append (pv 1) (pa_cons (pv 5) pa_nil)))) pss_nil))))) pss_nil)))))
        (pss_one (ps_ret (pv 1))))), ?_⟩
    refine ⟨Nat.zero_le _, fun R hR => ?_⟩
    have sR : Same H (upd H R (.lst [])) := same_upd hR
    obtain ⟨cv, ec, tc⟩ := id hc
    have hcv : cv.length = cs.length := tc.1
    refine ⟨_, rfl, c, rfl, ⟨cv, .inl (.inl (sR _ _ ec))⟩, for_tup (xs := cv) (fun i σ H2 => ∃ (vs : List V) (y2 y3 y4 y5 : Option V), σ = [some (.ref c), some (.ref R), y2, y3, y4, y5] ∧ Same H H2 ∧ H2 R = some (.lst vs) ∧ vs.length ≤ 240 * i ∧ ∀ v ∈ vs, MvOk n H2 v) ⟨[], none, none, none, none, rfl, sR, upd_same, Nat.le_refl _, by simp⟩ (fun i σ H2 _ p => by
      obtain ⟨_, _, _, _, _, _, s2, _⟩ := p
      exact .inl (.inl (s2 _ _ ec))) (fun i x σ H2 hxi p => ?_) (fun σ H2 p => ?_)⟩
    · obtain ⟨vs, y2, y3, y4, y5, rfl, s2, eR, l2, m2⟩ := p
      obtain ⟨u1, t1, rfl, ht1, e1⟩ := tc.at_ hxi
      have hi : i < cv.length := (List.getElem?_eq_some_iff.mp hxi).1
      have v1 := hG.vld t1 (List.mem_of_getElem? ht1)
      refine ⟨_, rfl, c, rfl, ⟨cv, .inl (.inl (s2 _ _ ec))⟩, for_tup (xs := cv) (fun j σ H3 => ∃ (vs : List V) (y3 y4 y5 : Option V), σ = [some (.ref c), some (.ref R), some (.ref u1), y3, y4, y5] ∧ Same H H3 ∧ H3 R = some (.lst vs) ∧ vs.length ≤ 240 * i + 4 * j ∧ ∀ v ∈ vs, MvOk n H3 v) ⟨vs, y3, y4, y5, rfl, s2, eR, l2, m2⟩ (fun j σ H3 _ p => by
        obtain ⟨_, _, _, _, _, s3, _⟩ := p
        exact .inl (.inl (s3 _ _ ec))) (fun j x σ H3 hxj p => ?_) (fun σ H3 p => ?_)⟩
      · obtain ⟨vs, y3, y4, y5, rfl, s3, eR, l3, m3⟩ := p
        obtain ⟨u2, t2, rfl, ht2, e2⟩ := (tc.same s3).at_ hxj
        have hj : j < cv.length := (List.getElem?_eq_some_iff.mp hxj).1
        have v2 := hG.vld t2 (List.mem_of_getElem? ht2)
        have f1 := e1
        have f2 : H u2 = some (.tup (tv t2)) := by
          obtain ⟨u, t, h, h2, h3⟩ := tc.at_ hxj
          cases h
          rw [ht2] at h2
          cases h2
          exact h3
        replace e1 := s3 _ _ e1
        refine ⟨_, rfl, _, rfl, u1, _, rfl, .inl (.inl e1), part2 t1, fun p1 np1 => ⟨_, rfl, _, rfl, u2, _, rfl, .inl (.inl (same_upd np1 _ _ e2)), part2 t2, fun p2 np2 => ?_⟩⟩
        rw [cut2 t1] at np2 ⊢
        rw [cut2 t2]
        have s5 := (same_upd (o := .tup [.int t1.1, .int t1.2.1]) np1).trans (same_upd (o := .tup [.int t2.1, .int t2.2.1]) np2)
        have d1 : Dp K (upd (upd H3 p1 (.tup [.int t1.1, .int t1.2.1])) p2 (.tup [.int t2.1, .int t2.2.1])) (.ref p1) (pd (t1.1, t1.2.1)) := .tup (.inl (.inl (same_upd np2 _ _ upd_same))) (.cons (.int _) (.cons (.int _) .nil))
        have d2 : Dp K (upd (upd H3 p1 (.tup [.int t1.1, .int t1.2.1])) p2 (.tup [.int t2.1, .int t2.2.1])) (.ref p2) (pd (t2.1, t2.2.1)) := .tup (.inl (.inl upd_same)) (.cons (.int _) (.cons (.int _) .nil))
        refine ⟨pd (t1.1, t1.2.1), pd (t2.1, t2.2.1), d1, d2, shaped_pd _, shaped_pd _, _, rfl, ?_⟩
        clear d1 d2
        generalize upd (upd H3 p1 (.tup [.int t1.1, .int t1.2.1])) p2 (.tup [.int t2.1, .int t2.2.1]) = H5 at s5 ⊢
        refine ite2 (fun _ => ?_) (fun _ => ⟨_, rfl, u1, _, 2, _, rfl, rfl, .inl (.inl (s5 _ _ e1)), atI_nat (j := 2) rfl, _, _, rfl, rfl, _, rfl, ite2 (fun _ => ?_) (fun _ => ?_)⟩)
        · have eu1 := s5 _ _ e1
          have eu2 := s5 _ _ e2
          refine ⟨by show 4 ≤ sizeLine; decide, fun w1 n1 => ⟨by show 4 ≤ sizeLine; decide, fun w2 n2 => ⟨by show 4 ≤ sizeLine; decide, fun w3 n3 => ⟨by show 4 ≤ sizeLine; decide, fun w4 n4 => ⟨by show 4 ≤ sizeLine; decide, fun W nW => ?_⟩⟩⟩⟩⟩
          have g1 := same_upd (o := .tup [.int 0, .int 1, .int 0, .int 1]) n1
          have g2 := same_upd (o := .tup [.int 0, .int 1, .int 1, .int 0]) n2
          have g3 := same_upd (o := .tup [.int 1, .int 0, .int 0, .int 1]) n3
          have g4 := same_upd (o := .tup [.int 1, .int 0, .int 1, .int 0]) n4
          have g5 := same_upd (o := .lst [.ref w1, .ref w2, .ref w3, .ref w4]) nW
          have sW := (((g1.trans g2).trans g3).trans g4).trans g5
          have nWR : W ≠ R := fun z => by
            have := (((g1.trans g2).trans g3).trans g4) _ _ (s5 _ _ eR)
            rw [z, this] at nW
            cases nW
          generalize hH6 : upd _ W (.lst [.ref w1, .ref w2, .ref w3, .ref w4]) = H6 at g5 sW ⊢
          have eW6 : H6 W = some (.lst [.ref w1, .ref w2, .ref w3, .ref w4]) := by rw [← hH6]; exact upd_same
          have hw6 : ∀ v ∈ [V.ref w1, .ref w2, .ref w3, .ref w4], WayAt H6 v := fun v hv => by
            simp only [List.mem_cons, List.not_mem_nil, or_false] at hv
            rcases hv with rfl | rfl | rfl | rfl
            · exact ⟨w1, _, _, _, _, rfl, ((g2.trans g3).trans g4 |>.trans g5) _ _ upd_same, by omega, by omega⟩
            · exact ⟨w2, _, _, _, _, rfl, ((g3.trans g4).trans g5) _ _ upd_same, by omega, by omega⟩
            · exact ⟨w3, _, _, _, _, rfl, (g4.trans g5) _ _ upd_same, by omega, by omega⟩
            · exact ⟨w4, _, _, _, _, rfl, g5 _ _ upd_same, by omega, by omega⟩
          refine ⟨W, rfl, ⟨_, .inl (.inl eW6)⟩, for_list (K := K) (a := W) (xs := [.ref w1, .ref w2, .ref w3, .ref w4]) (fun k σ H7 => ∃ (vs : List V) (y4 y5 : Option V), σ = [some (.ref c), some (.ref R), some (.ref u1), some (.ref u2), y4, y5] ∧ Same H H7 ∧ H7 W = some (.lst [.ref w1, .ref w2, .ref w3, .ref w4]) ∧ (∀ v ∈ [V.ref w1, .ref w2, .ref w3, .ref w4], WayAt H7 v) ∧ H7 R = some (.lst vs) ∧ vs.length ≤ 240 * i + 4 * j + k ∧ ∀ v ∈ vs, MvOk n H7 v) ⟨vs, y4, y5, rfl, (s3.trans s5).trans sW, eW6, hw6, sW _ _ (s5 _ _ eR), l3, fun v hv => (m3 v hv).sameT (toT (s5.trans sW))⟩ (fun k σ H7 _ p => by
            obtain ⟨_, _, _, _, _, eW, _⟩ := p
            exact .inl (.inl eW)) (fun k x σ H7 hxk p => ?_) (fun σ H7 p => ?_)⟩
          · obtain ⟨vs7, y4, y5, rfl, s7, eW, hw7, eR7, l7, m7⟩ := p
            have hk : k < 4 := (List.getElem?_eq_some_iff.mp hxk).1
            obtain ⟨uw, i0, i1, i2, i3, rfl, ew, h01, h23⟩ := hw7 x (List.mem_of_getElem? hxk)
            have o1 := sel_ok v1 h01
            have o2 := sel_ok v2 h23
            have ok : MvI n (sel t1 i0) (sel t1 i1) (sel t2 i2) (sel t2 i3) := ⟨o1.1.1, o1.1.2, o1.2.1.1, o1.2.1.2, o2.1.1, o2.1.2, o2.2.1.1, o2.2.1.2, o1.2.2, o2.2.2⟩
            have qw : SqT K H7 uw [.int i0, .int i1, .int i2, .int i3] := .inl (.inl ew)
            have q1 : SqT K H7 u1 (tv t1) := .inl (.inl (s7 _ _ f1))
            have q2 : SqT K H7 u2 (tv t2) := .inl (.inl (s7 _ _ f2))
            have a0 : atI [V.int i0, .int i1, .int i2, .int i3] 0 = some (.int i0) := atI_nat (j := 0) rfl
            have a1 : atI [V.int i0, .int i1, .int i2, .int i3] 1 = some (.int i1) := atI_nat (j := 1) rfl
            have a2 : atI [V.int i0, .int i1, .int i2, .int i3] 2 = some (.int i2) := atI_nat (j := 2) rfl
            have a3 : atI [V.int i0, .int i1, .int i2, .int i3] 3 = some (.int i3) := atI_nat (j := 3) rfl
            refine ⟨_, rfl, _, rfl, uw, _, 0, _, rfl, rfl, qw, a0, u1, _, i0, _, rfl, rfl, q1, sel_at (by omega), _, rfl, _, rfl, uw, _, 1, _, rfl, rfl, qw, a1, u1, _, i1, _, rfl, rfl, q1, sel_at (by omega), _, rfl, _, rfl, uw, _, 2, _, rfl, rfl, qw, a2, u2, _, i2, _, rfl, rfl, q2, sel_at (by omega), _, rfl, _, rfl, uw, _, 3, _, rfl, rfl, qw, a3, u2, _, i3, _, rfl, rfl, q2, sel_at (by omega), by show 4 ≤ sizeLine; decide, fun m nm => ?_⟩
            have gm := same_upd (o := .tup [.int (sel t1 i0), .int (sel t1 i1), .int (sel t2 i2), .int (sel t2 i3)]) nm
            have em : upd H7 m (.tup [.int (sel t1 i0), .int (sel t1 i1), .int (sel t2 i2), .int (sel t2 i3)]) m = some (.tup [.int (sel t1 i0), .int (sel t1 i1), .int (sel t2 i2), .int (sel t2 i3)]) := upd_same
            generalize upd H7 m (.tup [.int (sel t1 i0), .int (sel t1 i1), .int (sel t2 i2), .int (sel t2 i3)]) = H8 at gm em ⊢
            have qm : SqT K H8 m [.int (sel t1 i0), .int (sel t1 i1), .int (sel t2 i2), .int (sel t2 i3)] := .inl (.inl em)
            have b0 : atI [V.int (sel t1 i0), .int (sel t1 i1), .int (sel t2 i2), .int (sel t2 i3)] 0 = some (.int (sel t1 i0)) := atI_nat (j := 0) rfl
            have b1 : atI [V.int (sel t1 i0), .int (sel t1 i1), .int (sel t2 i2), .int (sel t2 i3)] 1 = some (.int (sel t1 i1)) := atI_nat (j := 1) rfl
            have b2 : atI [V.int (sel t1 i0), .int (sel t1 i1), .int (sel t2 i2), .int (sel t2 i3)] 2 = some (.int (sel t2 i2)) := atI_nat (j := 2) rfl
            have b3 : atI [V.int (sel t1 i0), .int (sel t1 i1), .int (sel t2 i2), .int (sel t2 i3)] 3 = some (.int (sel t2 i3)) := atI_nat (j := 3) rfl
            refine ⟨_, rfl, m, _, 1, _, rfl, rfl, qm, b1, _, rfl, m, _, 2, _, rfl, rfl, qm, b2, rfl, _, rfl, ite2 (fun _ => ?_) (fun _ => ⟨_, rfl, m, _, 0, _, rfl, rfl, qm, b0, _, rfl, m, _, 1, _, rfl, rfl, qm, b1, _, rfl, m, _, 2, _, rfl, rfl, qm, b2, _, rfl, m, _, 3, _, rfl, rfl, qm, b3, _, _, _, _, rfl, fun H9 x9 s9 => ⟨x9, rfl, ite2 (fun _ => ?_) (fun _ => ?_)⟩⟩)⟩
            · have s78 := gm
              have em8 := em
              have eR8 := s78 _ _ eR7
              refine ⟨_, rfl, .inl ⟨rfl, _, .inl (.inl eR8)⟩, _, rfl, R, _, _, rfl, rfl, eR8, Nat.lt_of_le_of_lt (show vs7.length ≤ 20000 by omega) (by decide), ?_⟩
              refine ⟨vs7 ++ [.ref m], some (.ref uw), some (.ref m), rfl, same_put (H1 := H) hR (s7.trans s78), ?_, fun v hv => ?_, upd_same, ?_, fun v hv => ?_⟩
              · rw [upd_ne nWR]
                exact s78 _ _ eW
              · obtain ⟨uv, i, j, k, l, rfl, e, h⟩ := hw7 v hv
                exact ⟨uv, i, j, k, l, rfl, sameT_put eR8 (Same.refl _) _ _ (s78 _ _ e), h⟩
              · rw [List.length_append]
                show vs7.length + 1 ≤ _
                omega
              · rcases List.mem_append.mp hv with hv | hv
                · exact (m7 v hv).sameT fun b o e => sameT_put eR8 (Same.refl _) _ _ (s78 _ _ e)
                · rw [List.mem_singleton.mp hv]
                  exact ⟨m, _, _, _, _, rfl, sameT_put eR8 (Same.refl _) _ _ em8, ok⟩
            · have s78 := gm.trans s9
              have em8 := s9 _ _ em
              have eR8 := s78 _ _ eR7
              refine ⟨_, rfl, .inl ⟨rfl, _, .inl (.inl eR8)⟩, _, rfl, R, _, _, rfl, rfl, eR8, Nat.lt_of_le_of_lt (show vs7.length ≤ 20000 by omega) (by decide), ?_⟩
              refine ⟨vs7 ++ [.ref m], some (.ref uw), some (.ref m), rfl, same_put (H1 := H) hR (s7.trans s78), ?_, fun v hv => ?_, upd_same, ?_, fun v hv => ?_⟩
              · rw [upd_ne nWR]
                exact s78 _ _ eW
              · obtain ⟨uv, i, j, k, l, rfl, e, h⟩ := hw7 v hv
                exact ⟨uv, i, j, k, l, rfl, sameT_put eR8 (Same.refl _) _ _ (s78 _ _ e), h⟩
              · rw [List.length_append]
                show vs7.length + 1 ≤ _
                omega
              · rcases List.mem_append.mp hv with hv | hv
                · exact (m7 v hv).sameT fun b o e => sameT_put eR8 (Same.refl _) _ _ (s78 _ _ e)
                · rw [List.mem_singleton.mp hv]
                  exact ⟨m, _, _, _, _, rfl, sameT_put eR8 (Same.refl _) _ _ em8, ok⟩
            · have s78 := gm.trans s9
              exact ⟨vs7, some (.ref uw), some (.ref m), rfl, s7.trans s78, s78 _ _ eW, fun v hv => by
                obtain ⟨uv, i, j, k, l, rfl, e, h⟩ := hw7 v hv
                exact ⟨uv, i, j, k, l, rfl, s78 _ _ e, h⟩, s78 _ _ eR7, by omega, fun v hv => (m7 v hv).sameT (toT s78)⟩
          · obtain ⟨vs7, y4, y5, rfl, s7, eW, hw7, eR7, l7, m7⟩ := p
            exact ⟨vs7, _, _, _, rfl, s7, eR7, by show vs7.length ≤ 240 * i + 4 * (j + 1); exact l7, m7⟩
        · have eu1 := s5 _ _ e1
          have eu2 := s5 _ _ e2
          refine ⟨by show 4 ≤ sizeLine; decide, fun w1 n1 => ⟨by show 4 ≤ sizeLine; decide, fun w2 n2 => ⟨by show 4 ≤ sizeLine; decide, fun w3 n3 => ⟨by show 4 ≤ sizeLine; decide, fun w4 n4 => ⟨by show 4 ≤ sizeLine; decide, fun W nW => ?_⟩⟩⟩⟩⟩
          have g1 := same_upd (o := .tup [.int 0, .int 1, .int 0, .int 1]) n1
          have g2 := same_upd (o := .tup [.int 0, .int 1, .int 1, .int 0]) n2
          have g3 := same_upd (o := .tup [.int 1, .int 0, .int 0, .int 1]) n3
          have g4 := same_upd (o := .tup [.int 1, .int 0, .int 1, .int 0]) n4
          have g5 := same_upd (o := .lst [.ref w1, .ref w2, .ref w3, .ref w4]) nW
          have sW := (((g1.trans g2).trans g3).trans g4).trans g5
          have nWR : W ≠ R := fun z => by
            have := (((g1.trans g2).trans g3).trans g4) _ _ (s5 _ _ eR)
            rw [z, this] at nW
            cases nW
          generalize hH6 : upd _ W (.lst [.ref w1, .ref w2, .ref w3, .ref w4]) = H6 at g5 sW ⊢
          have eW6 : H6 W = some (.lst [.ref w1, .ref w2, .ref w3, .ref w4]) := by rw [← hH6]; exact upd_same
          have hw6 : ∀ v ∈ [V.ref w1, .ref w2, .ref w3, .ref w4], WayAt H6 v := fun v hv => by
            simp only [List.mem_cons, List.not_mem_nil, or_false] at hv
            rcases hv with rfl | rfl | rfl | rfl
            · exact ⟨w1, _, _, _, _, rfl, ((g2.trans g3).trans g4 |>.trans g5) _ _ upd_same, by omega, by omega⟩
            · exact ⟨w2, _, _, _, _, rfl, ((g3.trans g4).trans g5) _ _ upd_same, by omega, by omega⟩
            · exact ⟨w3, _, _, _, _, rfl, (g4.trans g5) _ _ upd_same, by omega, by omega⟩
            · exact ⟨w4, _, _, _, _, rfl, g5 _ _ upd_same, by omega, by omega⟩
          refine ⟨W, rfl, ⟨_, .inl (.inl eW6)⟩, for_list (K := K) (a := W) (xs := [.ref w1, .ref w2, .ref w3, .ref w4]) (fun k σ H7 => ∃ (vs : List V) (y4 y5 : Option V), σ = [some (.ref c), some (.ref R), some (.ref u1), some (.ref u2), y4, y5] ∧ Same H H7 ∧ H7 W = some (.lst [.ref w1, .ref w2, .ref w3, .ref w4]) ∧ (∀ v ∈ [V.ref w1, .ref w2, .ref w3, .ref w4], WayAt H7 v) ∧ H7 R = some (.lst vs) ∧ vs.length ≤ 240 * i + 4 * j + k ∧ ∀ v ∈ vs, MvOk n H7 v) ⟨vs, y4, y5, rfl, (s3.trans s5).trans sW, eW6, hw6, sW _ _ (s5 _ _ eR), l3, fun v hv => (m3 v hv).sameT (toT (s5.trans sW))⟩ (fun k σ H7 _ p => by
            obtain ⟨_, _, _, _, _, eW, _⟩ := p
            exact .inl (.inl eW)) (fun k x σ H7 hxk p => ?_) (fun σ H7 p => ?_)⟩
          · obtain ⟨vs7, y4, y5, rfl, s7, eW, hw7, eR7, l7, m7⟩ := p
            have hk : k < 4 := (List.getElem?_eq_some_iff.mp hxk).1
            obtain ⟨uw, i0, i1, i2, i3, rfl, ew, h01, h23⟩ := hw7 x (List.mem_of_getElem? hxk)
            have o1 := sel_ok v1 h01
            have o2 := sel_ok v2 h23
            have ok : MvI n (sel t1 i0) (sel t1 i1) (sel t2 i2) (sel t2 i3) := ⟨o1.1.1, o1.1.2, o1.2.1.1, o1.2.1.2, o2.1.1, o2.1.2, o2.2.1.1, o2.2.1.2, o1.2.2, o2.2.2⟩
            have qw : SqT K H7 uw [.int i0, .int i1, .int i2, .int i3] := .inl (.inl ew)
            have q1 : SqT K H7 u1 (tv t1) := .inl (.inl (s7 _ _ f1))
            have q2 : SqT K H7 u2 (tv t2) := .inl (.inl (s7 _ _ f2))
            have a0 : atI [V.int i0, .int i1, .int i2, .int i3] 0 = some (.int i0) := atI_nat (j := 0) rfl
            have a1 : atI [V.int i0, .int i1, .int i2, .int i3] 1 = some (.int i1) := atI_nat (j := 1) rfl
            have a2 : atI [V.int i0, .int i1, .int i2, .int i3] 2 = some (.int i2) := atI_nat (j := 2) rfl
            have a3 : atI [V.int i0, .int i1, .int i2, .int i3] 3 = some (.int i3) := atI_nat (j := 3) rfl
            refine ⟨_, rfl, _, rfl, uw, _, 0, _, rfl, rfl, qw, a0, u1, _, i0, _, rfl, rfl, q1, sel_at (by omega), _, rfl, _, rfl, uw, _, 1, _, rfl, rfl, qw, a1, u1, _, i1, _, rfl, rfl, q1, sel_at (by omega), _, rfl, _, rfl, uw, _, 2, _, rfl, rfl, qw, a2, u2, _, i2, _, rfl, rfl, q2, sel_at (by omega), _, rfl, _, rfl, uw, _, 3, _, rfl, rfl, qw, a3, u2, _, i3, _, rfl, rfl, q2, sel_at (by omega), by show 4 ≤ sizeLine; decide, fun m nm => ?_⟩
            have gm := same_upd (o := .tup [.int (sel t1 i0), .int (sel t1 i1), .int (sel t2 i2), .int (sel t2 i3)]) nm
            have em : upd H7 m (.tup [.int (sel t1 i0), .int (sel t1 i1), .int (sel t2 i2), .int (sel t2 i3)]) m = some (.tup [.int (sel t1 i0), .int (sel t1 i1), .int (sel t2 i2), .int (sel t2 i3)]) := upd_same
            generalize upd H7 m (.tup [.int (sel t1 i0), .int (sel t1 i1), .int (sel t2 i2), .int (sel t2 i3)]) = H8 at gm em ⊢
            have qm : SqT K H8 m [.int (sel t1 i0), .int (sel t1 i1), .int (sel t2 i2), .int (sel t2 i3)] := .inl (.inl em)
            have b0 : atI [V.int (sel t1 i0), .int (sel t1 i1), .int (sel t2 i2), .int (sel t2 i3)] 0 = some (.int (sel t1 i0)) := atI_nat (j := 0) rfl
            have b1 : atI [V.int (sel t1 i0), .int (sel t1 i1), .int (sel t2 i2), .int (sel t2 i3)] 1 = some (.int (sel t1 i1)) := atI_nat (j := 1) rfl
            have b2 : atI [V.int (sel t1 i0), .int (sel t1 i1), .int (sel t2 i2), .int (sel t2 i3)] 2 = some (.int (sel t2 i2)) := atI_nat (j := 2) rfl
            have b3 : atI [V.int (sel t1 i0), .int (sel t1 i1), .int (sel t2 i2), .int (sel t2 i3)] 3 = some (.int (sel t2 i3)) := atI_nat (j := 3) rfl
            refine ⟨_, rfl, m, _, 1, _, rfl, rfl, qm, b1, _, rfl, m, _, 2, _, rfl, rfl, qm, b2, rfl, _, rfl, ite2 (fun _ => ?_) (fun _ => ⟨_, rfl, m, _, 0, _, rfl, rfl, qm, b0, _, rfl, m, _, 1, _, rfl, rfl, qm, b1, _, rfl, m, _, 2, _, rfl, rfl, qm, b2, _, rfl, m, _, 3, _, rfl, rfl, qm, b3, _, _, _, _, rfl, fun H9 x9 s9 => ⟨x9, rfl, ite2 (fun _ => ?_) (fun _ => ?_)⟩⟩)⟩
            · have s78 := gm
              have em8 := em
              have eR8 := s78 _ _ eR7
              refine ⟨_, rfl, .inl ⟨rfl, _, .inl (.inl eR8)⟩, _, rfl, R, _, _, rfl, rfl, eR8, Nat.lt_of_le_of_lt (show vs7.length ≤ 20000 by omega) (by decide), ?_⟩
              refine ⟨vs7 ++ [.ref m], some (.ref uw), some (.ref m), rfl, same_put (H1 := H) hR (s7.trans s78), ?_, fun v hv => ?_, upd_same, ?_, fun v hv => ?_⟩
              · rw [upd_ne nWR]
                exact s78 _ _ eW
              · obtain ⟨uv, i, j, k, l, rfl, e, h⟩ := hw7 v hv
                exact ⟨uv, i, j, k, l, rfl, sameT_put eR8 (Same.refl _) _ _ (s78 _ _ e), h⟩
              · rw [List.length_append]
                show vs7.length + 1 ≤ _
                omega
              · rcases List.mem_append.mp hv with hv | hv
                · exact (m7 v hv).sameT fun b o e => sameT_put eR8 (Same.refl _) _ _ (s78 _ _ e)
                · rw [List.mem_singleton.mp hv]
                  exact ⟨m, _, _, _, _, rfl, sameT_put eR8 (Same.refl _) _ _ em8, ok⟩
            · have s78 := gm.trans s9
              have em8 := s9 _ _ em
              have eR8 := s78 _ _ eR7
              refine ⟨_, rfl, .inl ⟨rfl, _, .inl (.inl eR8)⟩, _, rfl, R, _, _, rfl, rfl, eR8, Nat.lt_of_le_of_lt (show vs7.length ≤ 20000 by omega) (by decide), ?_⟩
              refine ⟨vs7 ++ [.ref m], some (.ref uw), some (.ref m), rfl, same_put (H1 := H) hR (s7.trans s78), ?_, fun v hv => ?_, upd_same, ?_, fun v hv => ?_⟩
              · rw [upd_ne nWR]
                exact s78 _ _ eW
              · obtain ⟨uv, i, j, k, l, rfl, e, h⟩ := hw7 v hv
                exact ⟨uv, i, j, k, l, rfl, sameT_put eR8 (Same.refl _) _ _ (s78 _ _ e), h⟩
              · rw [List.length_append]
                show vs7.length + 1 ≤ _
                omega
              · rcases List.mem_append.mp hv with hv | hv
                · exact (m7 v hv).sameT fun b o e => sameT_put eR8 (Same.refl _) _ _ (s78 _ _ e)
                · rw [List.mem_singleton.mp hv]
                  exact ⟨m, _, _, _, _, rfl, sameT_put eR8 (Same.refl _) _ _ em8, ok⟩
            · have s78 := gm.trans s9
              exact ⟨vs7, some (.ref uw), some (.ref m), rfl, s7.trans s78, s78 _ _ eW, fun v hv => by
                obtain ⟨uv, i, j, k, l, rfl, e, h⟩ := hw7 v hv
                exact ⟨uv, i, j, k, l, rfl, s78 _ _ e, h⟩, s78 _ _ eR7, by omega, fun v hv => (m7 v hv).sameT (toT s78)⟩
          · obtain ⟨vs7, y4, y5, rfl, s7, eW, hw7, eR7, l7, m7⟩ := p
            exact ⟨vs7, _, _, _, rfl, s7, eR7, by show vs7.length ≤ 240 * i + 4 * (j + 1); exact l7, m7⟩
        · exact ⟨vs, _, _, _, rfl, s3.trans s5, s5 _ _ eR, by omega, fun v hv => (m3 v hv).sameT (toT s5)⟩
      · obtain ⟨vs, y3, y4, y5, rfl, s3, eR, l3, m3⟩ := p
        exact ⟨vs, _, _, _, _, rfl, s3, eR, by omega, m3⟩
    · obtain ⟨vs, y2, y3, y4, y5, rfl, s2, eR, l2, m2⟩ := p
      exact ⟨_, rfl, q H2 R vs s2 eR (by omega) m2⟩
end
end Own

namespace Own
open PySem PySem.Spec PyProof.Rows L2
theorem TrV.app {H : Hp} {vs us : List V} {l m : List Tr} (h : TrV H vs l) (k : TrV H us m) : TrV H (vs ++ us) (l ++ m) := by
  refine ⟨by rw [List.length_append, List.length_append, h.1, k.1], fun i t e => ?_⟩
  by_cases hi : i < l.length
  · rw [List.getElem?_append_left hi] at e
    rw [List.getElem?_append_left (by rw [h.1]; exact hi)]
    exact h.2 i t e
  · rw [List.getElem?_append_right (by omega)] at e
    rw [List.getElem?_append_right (by rw [h.1]; omega), h.1]
    exact k.2 _ t e
section
variable {X : Cx}
/-- a method of a built-in type within a comprehension -/
theorem pe_asK {K : PySem.W.Frag} {e : Expr} {to : TE} {t : TA} {T : String} {r : V → List V → Hp → VK → Prop} (hK : X.K = K) (h : PE X e (tBM X.K T r to t)) : PE X e (tBM K T r to t) := by
  subst hK
  exact h
def rCatTr : R2 := fun x y H Q => ∃ a b l m, x = .ref a ∧ y = .ref b ∧ Trip H a l ∧ Trip H b m ∧ l.length + m.length ≤ 1000 ∧ ∀ H' p, Same H H' → Trip H' p (l ++ m) → Q (.ref p) H'
theorem op_catTr : OpR X (binaryOp .Add) rCatTr := by
  intro pins s σ H x y v u Q I rx ry h
  obtain ⟨a, b, l, m, rfl, rfl, ⟨xs, ea, ta⟩, ⟨ys, eb, tb⟩, hl, q⟩ := h
  refine op_catA pins s σ H _ _ v u Q I rx ry ⟨a, b, xs, ys, rfl, rfl, .inl (.inl ea), .inl (.inl eb), ?_, fun hx => ?_, fun hx hy => ?_, fun hx hy p np => ?_⟩
  · rw [ta.1, tb.1]
    exact Nat.le_trans hl (by decide)
  · have : l = [] := List.eq_nil_of_length_eq_zero (by rw [← ta.1, hx]; rfl)
    subst this
    exact q H b (Same.refl H) ⟨ys, eb, tb⟩
  · have : m = [] := List.eq_nil_of_length_eq_zero (by rw [← tb.1, hy]; rfl)
    subst this
    rw [List.append_nil] at q
    exact q H a (Same.refl H) ⟨xs, ea, ta⟩
  · exact q _ p (same_upd np) ⟨xs ++ ys, upd_same, (ta.same (same_upd np)).app (tb.same (same_upd np))⟩
end
/-! ### norm of entries with counts of any kind -/
theorem GN.len {l r : List Tr} (h : GN l r) : r.length ≤ l.length := by
  have := nodup_le (srt_nodup h.srt) fun p m => (h.mem p).mp m
  rw [List.length_map, List.length_map] at this
  exact Nat.le_trans this (List.length_filter_le _ _)
theorem GN.good {n : Int} {l r : List Tr} (h : GN l r) (o : ∀ t ∈ l, 0 ≤ t.1 ∧ t.1 < t.2.1 ∧ t.2.1 < n) (d : (l.map pr).Nodup) : Good n r := by
  refine ⟨h.srt, fun e he => ?_⟩
  obtain ⟨t, ht, ek⟩ := List.mem_map.mp ((h.mem (pr e)).mp (List.mem_map.mpr ⟨e, he, rfl⟩))
  obtain ⟨hl, hp⟩ := List.mem_filter.mp ht
  have hp : 0 < t.2.2 := of_decide_eq_true hp
  obtain ⟨o1, o2, o3⟩ := o t hl
  rw [ky_ord o2] at ek
  have e1 : (pr t).1 = (pr e).1 := congrArg Prod.fst ek
  have e2 : (pr t).2 = (pr e).2 := congrArg Prod.snd ek
  have e3 : e.2.2 = t.2.2 := by
    rw [h.cnt e he, ← ek]
    unfold tot
    rw [bk_bs _ fun x hx => (o x hx).2.1]
    exact (self_cnt d t hl).symm
  have e1 : t.1 = e.1 := e1
  have e2 : t.2.1 = e.2.1 := e2
  rw [← e1, ← e2, e3]
  exact ⟨o1, o2, o3, hp⟩
theorem pr_ord {n : Int} {l r : List Tr} (g : Good n r) (h : l.map pr = r.map pr) : (∀ t ∈ l, 0 ≤ t.1 ∧ t.1 < t.2.1 ∧ t.2.1 < n) ∧ (l.map pr).Nodup := by
  refine ⟨fun t ht => ?_, by rw [h]; exact srt_nodup g.srt⟩
  have : pr t ∈ r.map pr := by
    rw [← h]
    exact List.mem_map.mpr ⟨t, ht, rfl⟩
  obtain ⟨e, he, ee⟩ := List.mem_map.mp this
  have o := g.ord e he
  have e1 : (pr e).1 = (pr t).1 := congrArg Prod.fst ee
  have e2 : (pr e).2 = (pr t).2 := congrArg Prod.snd ee
  have e1 : e.1 = t.1 := e1
  have e2 : e.2.1 = t.2.1 := e2
  omega
theorem TrV.len {H : Hp} {vs : List V} {l : List Tr} (h : TrV H vs l) : vs.length = l.length := h.1
/-- a pair of pins of the rim -/
def PinP (n : Int) (H : Hp) (v : V) : Prop := ∃ (u : Addr) (x y : Int), v = .ref u ∧ H u = some (.tup [.int x, .int y]) ∧ 0 ≤ x ∧ x < n ∧ 0 ≤ y ∧ y < n
section
variable {P : Program} {w : World} {K : PySem.W.Frag} {mg : Str → Option Value} {base : Heap} {C : Addr}
def spMoved : Sp := fun vs H Q _ => ∃ (c : Addr) (n : Int) (cs : List Tr) (v : V), vs = [.ref c, v] ∧ Trip H c cs ∧ Good n cs ∧ cs.length ≤ 100 ∧ MvOk n H v ∧ ∀ H' x r, Same H H' → Trip H' x r → Good n r → r.length ≤ cs.length + 2 → Q (.ref x) H'
theorem ok_moved {f : Addr} {fd : FuncData} (F : Fun K "_law_moved" "_law_moved" s__law_moved f fd) (T : Bi mg) {f_n : Addr} {d_n : FuncData} (D_n : Df K mg "_law_norm" s__law_norm ["_law_triples"] f_n d_n) (G_n : FnOk P w K mg base CX0 1 f_n d_n ["_law_triples"] (spNorm K))  : FnOk P w K mg base CX0 2 f fd ["_law_bunch", "_law_move"] spMoved := by
  refine F.ok sc__law_moved (fun vs H Q E h => ?_) (fun cdv A outer s H vs Q E hr h => ?_)
  · obtain ⟨c, n, cs, v, rfl, _⟩ := h
    rfl
  · obtain ⟨c, n, cs, v, rfl, hc, hG, hl, hm, q⟩ := h
    have hu65 : (A.deeper (envOfC "_law_moved" (defScope s__law_moved) s.heap.objs.size f cdv)).units + 65 < cLine := by
      have := hr.un
      omega
    refine ⟨_, (pss_cons (ps_set (i := 2) sc__law_moved.nd rfl (.inl rfl) (pe_callTy call_list_of (by rfl) T.b_list (by decide +kernel) (pa_cons (pv 0) pa_nil)))
        (pss_cons (ps_for PassesOwn.never rfl (pi_list (pe_lst (pa_cons (pe_tup (pa_cons (pe_ix (r := rIxT K) ix_tup (pv 1) pe_int (fun _ _ => rfl)) (pa_cons (pe_ix (r := rIxT K) ix_tup (pv 1) pe_int (fun _ _ => rfl)) pa_nil))) (pa_cons (pe_tup (pa_cons (pe_ix (r := rIxT K) ix_tup (pv 1) pe_int (fun _ _ => rfl)) (pa_cons (pe_ix (r := rIxT K) ix_tup (pv 1) pe_int (fun _ _ => rfl)) pa_nil))) pa_nil)))) (pg_name (i := 3) sc__law_moved.nd rfl (.inl rfl))
        (pss_one (ps_if (pt_cmpR op_ne (pe_ix (r := rIxT K) ix_tup (pv 3) pe_int (fun _ _ => rfl)) (pe_ix (r := rIxT K) ix_tup (pv 3) pe_int (fun _ _ => rfl)) (nomark _)) (pss_one (ps_expr (pe_bm PySem.F.plainAttrs_list PySem.F.slot_list_append PySem.F.type_list_append mt_append (pv 2) (pa_cons (pe_tup (pa_cons (pe_ix (r := rIxT K) ix_tup (pv 3) pe_int (fun _ _ => rfl)) (pa_cons (pe_ix (r := rIxT K) ix_tup (pv 3) pe_int (fun _ _ => rfl)) (pa_cons pe_int pa_nil)))) pa_nil)))) pss_nil)))
        (pss_cons (ps_set (i := 4) sc__law_moved.nd rfl (.inr rfl) (pe_lst (pa_cons (pe_tup (pa_cons (pe_callB (call_min2 rfl) (by rfl) T.b_min (by decide +kernel) (pa_cons (pe_ix (r := rIxT K) ix_tup (pv 1) pe_int (fun _ _ => rfl)) (pa_cons (pe_ix (r := rIxT K) ix_tup (pv 1) pe_int (fun _ _ => rfl)) pa_nil))) (pa_cons (pe_callB (call_max2 rfl) (by rfl) T.b_max (by decide +kernel) (pa_cons (pe_ix (r := rIxT K) ix_tup (pv 1) pe_int (fun _ _ => rfl)) (pa_cons (pe_ix (r := rIxT K) ix_tup (pv 1) pe_int (fun _ _ => rfl)) pa_nil))) pa_nil))) (pa_cons (pe_tup (pa_cons (pe_callB (call_min2 rfl) (by rfl) T.b_min (by decide +kernel) (pa_cons (pe_ix (r := rIxT K) ix_tup (pv 1) pe_int (fun _ _ => rfl)) (pa_cons (pe_ix (r := rIxT K) ix_tup (pv 1) pe_int (fun _ _ => rfl)) pa_nil))) (pa_cons (pe_callB (call_max2 rfl) (by rfl) T.b_max (by decide +kernel) (pa_cons (pe_ix (r := rIxT K) ix_tup (pv 1) pe_int (fun _ _ => rfl)) (pa_cons (pe_ix (r := rIxT K) ix_tup (pv 1) pe_int (fun _ _ => rfl)) pa_nil))) pa_nil))) pa_nil))))
        (pss_one (ps_ret (pe_call G_n (hr.mono (by decide)) (by rfl) D_n.g D_n.F.kp D_n.b .nil pass0 (pa_cons (pe_lc (own := [("_law_c", 5)]) (g := gName 5) (tt := tYes) rfl sc__law_moved.nd (pi_tup (pe_call G_n (hr.mono (by decide)) (by rfl) D_n.g D_n.F.kp D_n.b .nil pass0 (pa_cons (pv 2) pa_nil))) (blkOk_by (own := [("_law_c", 5)]) (N := ["_law_bunch", "_law_move", "_law_triples", "_law_pair_here", "_law_taken", "_law_c"]) (sc := defScope s__law_moved) (by decide +kernel)) (fun _ _ _ _ _ => (pg_name (i := 5) sc__law_moved.nd rfl (.inl rfl))) (fun _ _ _ _ _ => pts_nil) (fun _ _ _ _ _ => (pe_tup (pa_cons (pe_ix (r := rIxT K) ix_tup (pv 5) pe_int (fun _ _ => rfl)) (pa_cons (pe_ix (r := rIxT K) ix_tup (pv 5) pe_int (fun _ _ => rfl)) (pa_cons (pe_op op_sub (pe_ix (r := rIxT K) ix_tup (pv 5) pe_int (fun _ _ => rfl)) (pe_asK (K := K) (r := rCntD K) rfl (pe_bm PySem.F.plainAttrs_list PySem.F.slot_list_count PySem.F.type_list_count (by exact mt_lcountD hu65) (pv 4) (pa_cons (pe_tup (pa_cons (pe_ix (r := rIxT K) ix_tup (pv 5) pe_int (fun _ _ => rfl)) (pa_cons (pe_ix (r := rIxT K) ix_tup (pv 5) pe_int (fun _ _ => rfl)) pa_nil))) pa_nil)))) pa_nil)))))) pa_nil))))))), ?_⟩
    obtain ⟨m, a, b, c1, d, rfl, em, ok⟩ := hm
    obtain ⟨cv, ec, tc⟩ := id hc
    refine ⟨_, rfl, c, cv, rfl, .inr (.inl (.inl ec)), fun L hL => ?_⟩
    have sL : Same H (upd H L (.lst cv)) := same_upd hL
    have qm : SqT K (upd H L (.lst cv)) m [.int a, .int b, .int c1, .int d] := .inl (.inl (sL _ _ em))
    have b0 : atI [V.int a, .int b, .int c1, .int d] 0 = some (.int a) := atI_nat (j := 0) rfl
    have b1 : atI [V.int a, .int b, .int c1, .int d] 1 = some (.int b) := atI_nat (j := 1) rfl
    have b2 : atI [V.int a, .int b, .int c1, .int d] 2 = some (.int c1) := atI_nat (j := 2) rfl
    have b3 : atI [V.int a, .int b, .int c1, .int d] 3 = some (.int d) := atI_nat (j := 3) rfl
    refine ⟨_, rfl, m, _, 0, _, rfl, rfl, qm, b0, _, rfl, m, _, 3, _, rfl, rfl, qm, b3, by show 2 ≤ sizeLine; decide, fun p1 n1 => ?_⟩
    have g1 := same_upd (o := .tup [.int a, .int d]) n1
    refine ⟨_, rfl, m, _, 1, _, rfl, rfl, .inl (.inl (g1 _ _ (sL _ _ em))), b1, _, rfl, m, _, 2, _, rfl, rfl, .inl (.inl (g1 _ _ (sL _ _ em))), b2, by show 2 ≤ sizeLine; decide, fun p2 n2 => ⟨by show 2 ≤ sizeLine; decide, fun W nW => ?_⟩⟩
    have g2 := same_upd (o := .tup [.int b, .int c1]) n2
    have g3 := same_upd (o := .lst [.ref p1, .ref p2]) nW
    have sW := (g1.trans g2).trans g3
    have nWL : W ≠ L := fun z => by
      have := (g1.trans g2) _ _ (upd_same (H := H) (a := L) (o := .lst cv))
      rw [z, this] at nW
      cases nW
    have eL0 := sW _ _ (upd_same (H := H) (a := L) (o := .lst cv))
    generalize hH6 : upd _ W (.lst [.ref p1, .ref p2]) = H6 at g3 sW eL0 ⊢
    have eW6 : H6 W = some (.lst [.ref p1, .ref p2]) := by rw [← hH6]; exact upd_same
    have hp6 : ∀ v ∈ [V.ref p1, .ref p2], PinP n H6 v := fun v hv => by
      simp only [List.mem_cons, List.not_mem_nil, or_false] at hv
      rcases hv with rfl | rfl
      · exact ⟨p1, _, _, rfl, (g2.trans g3) _ _ upd_same, ok.a0, ok.a1, ok.d0, ok.d1⟩
      · exact ⟨p2, _, _, rfl, g3 _ _ upd_same, ok.b0, ok.b1, ok.c0, ok.c1⟩
    refine ⟨W, rfl, ⟨_, .inl (.inl eW6)⟩, for_list (K := K) (a := W) (xs := [.ref p1, .ref p2]) (fun k σ H7 => ∃ (vs : List V) (tr : List Tr) (y3 y4 y5 : Option V), σ = [some (.ref c), some (.ref m), some (.ref L), y3, y4, y5] ∧ Same H H7 ∧ H7 W = some (.lst [.ref p1, .ref p2]) ∧ (∀ v ∈ [V.ref p1, .ref p2], PinP n H7 v) ∧ H7 L = some (.lst vs) ∧ TrV H7 vs tr ∧ (∀ t ∈ tr, Vld n t) ∧ tr.length ≤ cs.length + k) ⟨cv, cs, none, none, none, rfl, sL.trans sW, eW6, hp6, eL0, tc.same (sL.trans sW), hG.vld, Nat.le_refl _⟩ (fun k σ H7 _ p => by
      obtain ⟨_, _, _, _, _, _, _, eW, _⟩ := p
      exact .inl (.inl eW)) (fun k x σ H7 hxk p => ?_) (fun σ H7 p => ?_)⟩
    · obtain ⟨vs, tr, y3, y4, y5, rfl, s7, eW, hp7, eL, tV, hV, l7⟩ := p
      have hk : k < 2 := (List.getElem?_eq_some_iff.mp hxk).1
      obtain ⟨u, x, y, rfl, eu, x0, x1, y0, y1⟩ := hp7 _ (List.mem_of_getElem? hxk)
      have qu : SqT K H7 u [.int x, .int y] := .inl (.inl eu)
      have a0 : atI [V.int x, .int y] 0 = some (.int x) := atI_nat (j := 0) rfl
      have a1 : atI [V.int x, .int y] 1 = some (.int y) := atI_nat (j := 1) rfl
      refine ⟨_, rfl, u, _, 0, _, rfl, rfl, qu, a0, _, rfl, u, _, 1, _, rfl, rfl, qu, a1, rfl, _, rfl, ite2 (fun e => ?_) (fun e => ?_)⟩
      · have ne : x ≠ y := fun z => by
          subst z
          rw [decide_eq_true rfl] at e
          cases e
        refine ⟨_, rfl, .inl ⟨rfl, _, .inl (.inl eL)⟩, _, rfl, u, _, 0, _, rfl, rfl, qu, a0, _, rfl, u, _, 1, _, rfl, rfl, qu, a1, by show 3 ≤ sizeLine; decide, fun t nt => ?_⟩
        have gt := same_upd (o := .tup [.int x, .int y, .int 1]) nt
        have eL8 := gt _ _ eL
        have ntL : t ≠ L := fun z => by
          rw [z, eL] at nt
          cases nt
        refine ⟨L, _, _, rfl, rfl, eL8, ?_, ?_⟩
        · rw [tV.1]
          exact small1000 (by omega)
        refine ⟨vs ++ [.ref t], tr ++ [(x, y, 1)], some (.ref u), _, _, rfl, same_put (H1 := H) hL (s7.trans gt), ?_, fun v hv => ?_, upd_same, ?_, fun t' ht => ?_, ?_⟩
        · rw [upd_ne nWL]
          exact gt _ _ eW
        · obtain ⟨u2, x2, y2, rfl, e2, h⟩ := hp7 v hv
          exact ⟨u2, x2, y2, rfl, sameT_put eL8 (Same.refl _) _ _ (gt _ _ e2), h⟩
        · refine ((tV.same gt).sameT (sameT_put eL8 (Same.refl _))).snoc ?_
          rw [upd_ne ntL, upd_same]
        · rcases List.mem_append.mp ht with ht | ht
          · exact hV t' ht
          · rw [List.mem_singleton.mp ht]
            exact ⟨x0, x1, y0, y1, ne, Int.le_refl _⟩
        · rw [List.length_append]
          show tr.length + 1 ≤ _
          omega
      · exact ⟨vs, tr, some (.ref u), _, _, rfl, s7, eW, hp7, eL, tV, hV, by omega⟩
    · obtain ⟨vs, tr, y3, y4, y5, rfl, s7, eW, hp7, eL, tV, hV, l7⟩ := p
      replace l7 : tr.length ≤ cs.length + 2 := l7
      clear hp7 eW hp6 eW6 hH6
      have em7 := s7 _ _ em
      clear qm
      have qm : SqT K H7 m [.int a, .int b, .int c1, .int d] := .inl (.inl em7)
      refine ⟨_, rfl, m, _, 0, _, rfl, rfl, qm, b0, _, rfl, m, _, 1, _, rfl, rfl, qm, b1, _, _, rfl, _, rfl, m, _, 0, _, rfl, rfl, qm, b0, _, rfl, m, _, 1, _, rfl, rfl, qm, b1, _, _, rfl, by show 2 ≤ sizeLine; decide, fun t1 nt1 => ?_⟩
      have k1 := same_upd (o := .tup [.int ((if b < a then b else a)), .int ((if b > a then b else a))]) nt1
      have qm2 : SqT K (upd H7 t1 (.tup [.int ((if b < a then b else a)), .int ((if b > a then b else a))])) m [.int a, .int b, .int c1, .int d] := .inl (.inl (k1 _ _ em7))
      refine ⟨_, rfl, m, _, 2, _, rfl, rfl, qm2, b2, _, rfl, m, _, 3, _, rfl, rfl, qm2, b3, _, _, rfl, _, rfl, m, _, 2, _, rfl, rfl, qm2, b2, _, rfl, m, _, 3, _, rfl, rfl, qm2, b3, _, _, rfl, by show 2 ≤ sizeLine; decide, fun t2 nt2 => ⟨by show 2 ≤ sizeLine; decide, fun TK nTK => ?_⟩⟩
      have k2 := same_upd (o := .tup [.int ((if d < c1 then d else c1)), .int ((if d > c1 then d else c1))]) nt2
      have k3 := same_upd (o := .lst [.ref t1, .ref t2]) nTK
      have sK := (k1.trans k2).trans k3
      have et1 := (k2.trans k3) _ _ (upd_same (H := H7) (a := t1) (o := .tup [.int ((if b < a then b else a)), .int ((if b > a then b else a))]))
      have et2 := k3 _ _ (upd_same (a := t2) (o := .tup [.int ((if d < c1 then d else c1)), .int ((if d > c1 then d else c1))]))
      have eTK := upd_same (H := upd (upd H7 t1 (.tup [.int ((if b < a then b else a)), .int ((if b > a then b else a))])) t2 (.tup [.int ((if d < c1 then d else c1)), .int ((if d > c1 then d else c1))])) (a := TK) (o := .lst [.ref t1, .ref t2])
      generalize upd (upd (upd H7 t1 (.tup [.int ((if b < a then b else a)), .int ((if b > a then b else a))])) t2 (.tup [.int ((if d < c1 then d else c1)), .int ((if d > c1 then d else c1))])) TK (.lst [.ref t1, .ref t2]) = H8 at sK et1 et2 eTK ⊢
      clear k1 k2 k3 nt1 nt2 nTK qm qm2
      have eL8 := sK _ _ eL
      refine ⟨_, rfl, L, vs, tr, rfl, .inl (.inl (.inl eL8)), tV.same sK, by omega, fun H9 x r s9 hx hi => ?_⟩
      have hi := hi.norm fun t ht => (hV t ht).2.2.2.2.2
      have hg := hi.good hV
      have hlr := hi.len
      obtain ⟨xs, ex, tx⟩ := id hx
      refine ⟨x, rfl, ⟨xs, .inl (.inl ex)⟩, fun O hO => ?_⟩
      refine lc_tup (K := K) (a := x) (xs := xs) (fun i H4 => Same H9 H4 ∧ ∃ ws l, H4 O = some (.lst ws) ∧ TrV H4 ws l ∧ l.map pr = (r.take i).map pr) ⟨same_upd hO, [], [], upd_same, TrV.nil, rfl⟩ (fun i H4 _ p => .inl (.inl (p.1 _ _ ex))) (fun i x H4 hxi p => ?_) (fun H4 p => ?_)
      · obtain ⟨s4, ws, l4, eO, tW, el4⟩ := p
        obtain ⟨u, t, rfl, hti, hu⟩ := (tx.same s4).at_ hxi
        have qu : SqT K H4 u (tv t) := .inl (.inl hu)
        have a0 : atI (tv t) 0 = some (.int t.1) := atI_nat (j := 0) rfl
        have a1 : atI (tv t) 1 = some (.int t.2.1) := atI_nat (j := 1) rfl
        have a2 : atI (tv t) 2 = some (.int t.2.2) := atI_nat (j := 2) rfl
        have s94 := s9.trans s4
        refine ⟨rfl, ?_⟩
        refine ⟨_, rfl, u, _, 0, _, rfl, rfl, qu, a0, _, rfl, u, _, 1, _, rfl, rfl, qu, a1, _, rfl, u, _, 2, _, rfl, rfl, qu, a2, _, rfl, .inl ⟨rfl, _, .inl (.inl (s94 _ _ eTK))⟩, _, rfl, u, _, 0, _, rfl, rfl, qu, a0, _, rfl, u, _, 1, _, rfl, rfl, qu, a1, by show 2 ≤ sizeLine; decide, fun pt npt => ?_⟩
        have kp := same_upd (o := .tup [.int t.1, .int t.2.1]) npt
        have dA : Dp K (upd H4 pt (.tup [.int t.1, .int t.2.1])) (.ref t1) (pd ((if b < a then b else a), (if b > a then b else a))) := .tup (.inl (.inl (kp _ _ (s94 _ _ et1)))) (.cons (.int _) (.cons (.int _) .nil))
        have dB : Dp K (upd H4 pt (.tup [.int t.1, .int t.2.1])) (.ref t2) (pd ((if d < c1 then d else c1), (if d > c1 then d else c1))) := .tup (.inl (.inl (kp _ _ (s94 _ _ et2)))) (.cons (.int _) (.cons (.int _) .nil))
        have dC : Dp K (upd H4 pt (.tup [.int t.1, .int t.2.1])) (.ref pt) (pd (t.1, t.2.1)) := .tup (.inl (.inl upd_same)) (.cons (.int _) (.cons (.int _) .nil))
        refine ⟨TK, .ref pt, pd (t.1, t.2.1), [pd ((if b < a then b else a), (if b > a then b else a)), pd ((if d < c1 then d else c1), (if d > c1 then d else c1))], rfl, rfl, .lst (.inl (.inl (kp _ _ (s94 _ _ eTK)))) (.cons dA (.cons dB .nil)), dC, rfl, rfl, by show 1 ≤ 60; decide, fun kn => ?_⟩
        refine ⟨_, _, rfl, rfl, by show 3 ≤ sizeLine; decide, fun v nv => ?_⟩
        have sv := kp.trans (same_upd (o := .tup [.int t.1, .int t.2.1, .int (t.2.2 - (kn : Int))]) nv)
        have nD : v ≠ O := fun z => by
          rw [z, kp _ _ eO] at nv
          cases nv
        refine ⟨ws, sv _ _ eO, ?_, same_put (H1 := H9) hO (s4.trans sv), _, l4 ++ [(t.1, t.2.1, t.2.2 - (kn : Int))], upd_same, ?_, ?_⟩
        · have e := congrArg List.length el4
          rw [List.length_map, List.length_map, List.length_take] at e
          rw [tW.1]
          exact small1000 (by omega)
        · refine ((tW.same sv).sameT (sameT_put (sv _ _ eO) (Same.refl _))).snoc ?_
          rw [upd_ne nD, upd_same]
        · rw [List.map_append, el4, List.take_add_one, hti, List.map_append]
          rfl
      · obtain ⟨s4, ws, l4, eO, tW, el4⟩ := p
        rw [tx.1, List.take_length] at el4
        have e := congrArg List.length el4
        rw [List.length_map, List.length_map] at e
        refine ⟨O, ws, l4, rfl, .inl (.inl (.inl eO)), tW, by omega, fun H5 y r2 s5 hy h2 => ?_⟩
        obtain ⟨o1, o2⟩ := pr_ord hg el4
        refine q H5 y r2 (((s7.trans sK).trans s9).trans (fun b o eb => s5 _ _ (s4 _ _ eb))) hy (h2.good o1 o2) ?_
        have := h2.len
        omega
end
end Own

namespace Own
open PySem PySem.Spec PyProof.Rows L2
section
variable {X : Cx}
theorem op_eqDK {K : PySem.W.Frag} (hK : X.K = K) (hu : X.A.units + 64 < cLine) : OpR X (compareOp .Eq) (rEqD K) := by
  subst hK
  exact op_eqD hu
end
theorem digs9 {ds : List Int} {a b c d e f g h i : Int} (H : Digs ds [a, b, c, d, e, f, g, h, i]) : ∃ x0 x1 x2 x3 x4 x5 x6 x7 x8, ds = [x0, x1, x2, x3, x4, x5, x6, x7, x8] ∧ (0 ≤ x0 ∧ x0 < a) ∧ (0 ≤ x7 ∧ x7 < h) ∧ (0 ≤ x8 ∧ x8 < i) := by
  have hl := H.1
  match ds, hl with
  | [x0, x1, x2, x3, x4, x5, x6, x7, x8], _ => exact ⟨x0, x1, x2, x3, x4, x5, x6, x7, x8, rfl, H.2 0 x0 a rfl rfl, H.2 7 x7 h rfl rfl, H.2 8 x8 i rfl rfl⟩
theorem digAt {ds : List Int} {i : Int} (h0 : 0 ≤ i) (h1 : i < (ds.length : Int)) : ∃ y, atI (ds.map V.int) i = some (.int y) := by
  obtain ⟨j, rfl⟩ : ∃ j : Nat, i = (j : Int) := ⟨i.toNat, by omega⟩
  have hj : j < ds.length := by omega
  exact ⟨ds[j], atI_nat (by rw [List.getElem?_map, List.getElem?_eq_getElem hj]; rfl)⟩
def td (t : Tr) : PyData := .tuple [.int t.1, .int t.2.1, .int t.2.2]
theorem td_dp {K : PySem.W.Frag} {H : Hp} {u : Addr} {t : Tr} (h : H u = some (.tup (tv t))) : Dp K H (.ref u) (td t) := .tup (.inl (.inl h)) (.cons (.int _) (.cons (.int _) (.cons (.int _) .nil)))
theorem td_shaped (t : Tr) : SeqAt.shaped (td t) = true := by
  unfold SeqAt.shaped td
  simp [PyData.canLay0, PyData.canLayAll0, PyData.depth, PyData.depthAll]
section
variable {P : Program} {w : World} {K : PySem.W.Frag} {mg : Str → Option Value} {base : Heap} {C : Addr}
def spLed : Sp := fun vs H Q _ => ∃ (c : Addr) (n cell ex : Int) (cs : List Tr), vs = [.ref c, .int n, .int cell, .int ex] ∧ Trip H c cs ∧ Good n cs ∧ cs.length ≤ 40 ∧ 0 ≤ n ∧ n ≤ 40 ∧ 0 ≤ ex ∧ ∀ H' x r, Same H H' → Trip H' x r → Good n r → r.length ≤ cs.length + 13 → Q (.ref x) H'
theorem ok_led {f : Addr} {fd : FuncData} (F : Fun K "_law_led" "_law_led" s__law_led f fd) (T : Bi mg) {f_n : Addr} {d_n : FuncData} (D_n : Df K mg "_law_norm" s__law_norm ["_law_triples"] f_n d_n) (G_n : FnOk P w K mg base CX0 1 f_n d_n ["_law_triples"] (spNorm K)) {f_d : Addr} {d_d : FuncData} (D_d : Df K mg "_law_digits" s__law_digits ["_law_cell_here", "_law_sizes"] f_d d_d) (G_d : FnOk P w K mg base CX0 1 f_d d_d ["_law_cell_here", "_law_sizes"] (spDigs K)) {f_m : Addr} {d_m : FuncData} (D_m : Df K mg "_law_moves" s__law_moves ["_law_bunch"] f_m d_m) (G_m : FnOk P w K mg base CX0 2 f_m d_m ["_law_bunch"] spMoves) {f_v : Addr} {d_v : FuncData} (D_v : Df K mg "_law_moved" s__law_moved ["_law_bunch", "_law_move"] f_v d_v) (G_v : FnOk P w K mg base CX0 2 f_v d_v ["_law_bunch", "_law_move"] spMoved)  : FnOk P w K mg base CX0 3 f fd ["_law_bunch", "_law_pins_here", "_law_cell_here", "_law_extra"] spLed := by
  refine F.ok sc__law_led (fun vs H Q E h => ?_) (fun cdv A outer s H vs Q E hr h => ?_)
  · obtain ⟨c, n, cell, ex, cs, rfl, _⟩ := h
    rfl
  · obtain ⟨c, n, cell, ex, cs, rfl, hc, hGd, hl, n0, n1, ex0, q⟩ := h
    have hu64 : (A.deeper (envOfC "_law_led" (defScope s__law_led) s.heap.objs.size f cdv)).units + 64 < cLine := hr.units
    have hn1 : 0 < (if 1 > n then 1 else n) ∧ (if 1 > n then 1 else n) ≤ 40 ∧ (1 ≤ n → (if 1 > n then 1 else n) = n) := by
      split <;> omega
    have hn2 : 0 < (if 1 > n - 1 then 1 else n - 1) ∧ (if 1 > n - 1 then 1 else n - 1) ≤ 40 ∧ (2 ≤ n → (if 1 > n - 1 then 1 else n - 1) = n - 1) := by
      split <;> omega
    obtain ⟨tG, hG, qG⟩ : ∃ t, PSs (cxOf CX0 P w K mg base ["_law_bunch", "_law_pins_here", "_law_cell_here", "_law_extra", "_law_draw", "_law_row", "_law_k", "_law_plays", "_law_place", "_law_c"] "_law_led" (defScope s__law_led) f cdv A outer s H E).nox ((defBody s__law_led).drop 4) t ∧ ∀ (a cr : Addr) (ds : List Int) (r : List Tr) (y6 y7 : Option V) (H0 : Hp), Same H H0 → H0 a = some (.lst (ds.map V.int)) → ds.length = 9 → Trip H0 cr r → Good n r → r.length ≤ cs.length + 12 →
        t { nx := fun _ H' => Q .non H', rt := Q } [some (.ref c), some (.int n), some (.int cell), some (.int ex), some (.ref a), some (.ref cr), y6, y7, none, none] H0 := by
      refine ⟨_, (pss_cons (ps_if (PW.pt (pw_and (pt_cmpR op_eq (pv 3) pe_int (nomark _)) (pw_and1 (pt_cmpR op_gt (pe_callB cr_lenS (by rfl) T.b_len PySem.boot_len (pa_cons (pv 5) pa_nil)) pe_int (nomark _))))) (pss_cons (ps_set (i := 8) sc__law_led.nd rfl (.inr rfl) (pe_op op_modN (pe_callTy call_int1 (by rfl) T.b_int (by decide +kernel) (pa_cons (pe_ix (r := rIxL K) ix_list (pv 4) pe_int (fun _ _ => rfl)) pa_nil)) (pe_callB cr_lenS (by rfl) T.b_len PySem.boot_len (pa_cons (pv 5) pa_nil))))
        (pss_one (ps_ret (pe_call G_n (hr.mono (by decide)) (by rfl) D_n.g D_n.F.kp D_n.b .nil pass0 (pa_cons (pe_lc (own := [("_law_c", 9)]) (g := gName 9) (tt := tYes) rfl sc__law_led.nd (pi_tup (pv 5)) (blkOk_by (own := [("_law_c", 9)]) (N := ["_law_bunch", "_law_pins_here", "_law_cell_here", "_law_extra", "_law_draw", "_law_row", "_law_k", "_law_plays", "_law_place", "_law_c"]) (sc := defScope s__law_led) (by decide +kernel)) (fun _ _ _ _ _ => (pg_name (i := 9) sc__law_led.nd rfl (.inl rfl))) (fun _ _ _ _ _ => pts_nil) (fun _ _ _ _ _ => (pe_tup (pa_cons (pe_ix (r := rIxT K) ix_tup (pv 9) pe_int (fun _ _ => rfl)) (pa_cons (pe_ix (r := rIxT K) ix_tup (pv 9) pe_int (fun _ _ => rfl)) (pa_cons (pe_op op_sub (pe_ix (r := rIxT K) ix_tup (pv 9) pe_int (fun _ _ => rfl)) (pe_callTy call_int1 (by rfl) T.b_int (by decide +kernel) (pa_cons (pe_cmpR (by exact op_eqDK rfl hu64) (pv 9) (pe_ix (r := rIxT K) ix_tup (pv 5) (pv 8) (fun _ _ => rfl)) (nomark _)) pa_nil))) pa_nil)))))) pa_nil))))) pss_nil)
        (pss_one (ps_ret (pv 5)))), ?_⟩
      intro a cr ds r y6 y7 H0 s0 ea hd ht hg hl0
      obtain ⟨xs, ex_, tx⟩ := id ht
      refine ⟨_, rfl, rfl, _, rfl, ite2 (fun e => ?_) (fun e => ?_)⟩
      · refine ⟨_, rfl, cr, xs, rfl, .inr (.inl (.inl ex_)), _, _, rfl, rfl, _, rfl, ite2 (fun e2 => ?_) (fun e2 => ?_)⟩
        · have hpos : 0 < (xs.length : Int) := of_decide_eq_true e2
          obtain ⟨y, ey⟩ := digAt (ds := ds) (i := 7) (by omega) (by omega)
          refine ⟨_, rfl, a, _, 7, _, rfl, rfl, .inl (.inl ea), ey, .inl ⟨_, rfl, _, rfl, cr, xs, rfl, .inr (.inl (.inl ex_)), _, _, rfl, rfl, by omega, ?_⟩⟩
          have hm := fmod_in y hpos
          obtain ⟨zv, ez, hz⟩ : ∃ z, atI xs (y.fmod (xs.length : Int)) = some z ∧ z ∈ xs := by
            obtain ⟨j, hj⟩ : ∃ j : Nat, y.fmod (xs.length : Int) = (j : Int) := ⟨(y.fmod (xs.length : Int)).toNat, by omega⟩
            rw [hj]
            have hjl : j < xs.length := by omega
            exact ⟨xs[j], atI_nat (List.getElem?_eq_getElem hjl), List.getElem_mem hjl⟩
          obtain ⟨jz, hjz, ejz⟩ := List.mem_iff_getElem.mp hz
          obtain ⟨zu, zt, rfl, _, hzu⟩ := tx.at_ (i := jz) (x := zv) (by rw [List.getElem?_eq_getElem hjz, ejz])
          refine ⟨_, rfl, cr, rfl, ⟨xs, .inl (.inl ex_)⟩, fun O hO => ?_⟩
          refine lc_tup (K := K) (a := cr) (xs := xs) (fun i H4 => Same H0 H4 ∧ ∃ ws l, H4 O = some (.lst ws) ∧ TrV H4 ws l ∧ l.map pr = (r.take i).map pr) ⟨same_upd hO, [], [], upd_same, TrV.nil, rfl⟩ (fun i H4 _ p => .inl (.inl (p.1 _ _ ex_))) (fun i x H4 hxi p => ?_) (fun H4 p => ?_)
          · obtain ⟨s4, ws, l4, eO, tW, el4⟩ := p
            obtain ⟨u, t, rfl, hti, hu⟩ := (tx.same s4).at_ hxi
            have qu : SqT K H4 u (tv t) := .inl (.inl hu)
            have a0 : atI (tv t) 0 = some (.int t.1) := atI_nat (j := 0) rfl
            have a1 : atI (tv t) 1 = some (.int t.2.1) := atI_nat (j := 1) rfl
            have a2 : atI (tv t) 2 = some (.int t.2.2) := atI_nat (j := 2) rfl
            refine ⟨rfl, ?_⟩
            refine ⟨_, rfl, u, _, 0, _, rfl, rfl, qu, a0, _, rfl, u, _, 1, _, rfl, rfl, qu, a1, _, rfl, u, _, 2, _, rfl, rfl, qu, a2, _, rfl, _, rfl, _, rfl, cr, xs, _, _, rfl, rfl, .inl (.inl (s4 _ _ ex_)), ez, td t, td zt, td_dp hu, td_dp (s4 _ _ hzu), td_shaped _, td_shaped _, .inr ⟨_, rfl, ?_⟩⟩
            generalize (if PyData.eqv (td t) (td zt) = true then (1 : Int) else 0) = one
            refine ⟨_, _, rfl, rfl, by show 3 ≤ sizeLine; decide, fun v nv => ?_⟩
            have sv := same_upd (o := .tup [.int t.1, .int t.2.1, .int (t.2.2 - one)]) nv
            have nD : v ≠ O := fun z => by
              rw [z, eO] at nv
              cases nv
            refine ⟨ws, sv _ _ eO, ?_, same_put (H1 := H0) hO (s4.trans sv), _, l4 ++ [(t.1, t.2.1, t.2.2 - one)], upd_same, ?_, ?_⟩
            · have e := congrArg List.length el4
              rw [List.length_map, List.length_map, List.length_take] at e
              rw [tW.1]
              exact small1000 (by omega)
            · refine ((tW.same sv).sameT (sameT_put (sv _ _ eO) (Same.refl _))).snoc ?_
              rw [upd_ne nD, upd_same]
            · rw [List.map_append, el4, List.take_add_one, hti, List.map_append]
              rfl
          · obtain ⟨s4, ws, l4, eO, tW, el4⟩ := p
            rw [tx.1, List.take_length] at el4
            have e := congrArg List.length el4
            rw [List.length_map, List.length_map] at e
            refine ⟨O, ws, l4, rfl, .inl (.inl (.inl eO)), tW, by omega, fun H5 y r2 s5 hy h2 => ?_⟩
            obtain ⟨o1, o2⟩ := pr_ord hg el4
            refine q H5 y r2 (s0.trans (fun b o eb => s5 _ _ (s4 _ _ eb))) hy (h2.good o1 o2) ?_
            have := h2.len
            omega
        · exact ⟨_, rfl, q H0 cr r s0 ht hg (by omega)⟩
      · exact ⟨_, rfl, q H0 cr r s0 ht hg (by omega)⟩
    refine ⟨_, (pss_cons (ps_set (i := 4) sc__law_led.nd rfl (.inl rfl) (pe_call G_d (hr.mono (by decide)) (by rfl) D_d.g D_d.F.kp D_d.b .nil pass0 (pa_cons (pv 2) (pa_cons (pe_lst (pa_cons pe_int (pa_cons pe_int (pa_cons pe_int (pa_cons pe_int (pa_cons pe_int (pa_cons pe_int (pa_cons pe_int (pa_cons (pe_callB (call_max2 rfl) (by rfl) T.b_max (by decide +kernel) (pa_cons (pv 1) (pa_cons pe_int pa_nil))) (pa_cons (pe_callB (call_max2 rfl) (by rfl) T.b_max (by decide +kernel) (pa_cons (pe_op op_sub (pv 1) pe_int) (pa_cons pe_int pa_nil))) pa_nil)))))))))) pa_nil))))
        (pss_cons (ps_set (i := 5) sc__law_led.nd rfl (.inr rfl) (pv 0))
        (pss_cons (ps_for PassesOwn.never rfl (pi_range1 (by rfl) T.b_range (pa_cons (pe_callTy call_int1 (by rfl) T.b_int (by decide +kernel) (pa_cons (pe_ix (r := rIxL K) ix_list (pv 4) pe_int (fun _ _ => rfl)) pa_nil)) pa_nil)) (pg_name (i := 6) sc__law_led.nd rfl (.inl rfl))
        (pss_cons (ps_set (i := 7) sc__law_led.nd rfl (.inl rfl) (pe_call G_m (hr.mono (by decide)) (by rfl) D_m.g D_m.F.kp D_m.b .nil pass0 (pa_cons (pv 5) pa_nil)))
        (pss_one (ps_if (pt_cmpR op_gt (pe_callB cr_lenS (by rfl) T.b_len PySem.boot_len (pa_cons (pv 7) pa_nil)) pe_int (nomark _)) (pss_one (ps_set (i := 5) sc__law_led.nd rfl (.inr rfl) (pe_call G_v (hr.mono (by decide)) (by rfl) D_v.g D_v.F.kp D_v.b .nil pass0 (pa_cons (pv 5) (pa_cons (pe_ix (r := rIxL K) ix_list (pv 7) (pe_op op_modN (pe_callTy call_int1 (by rfl) T.b_int (by decide +kernel) (pa_cons (pe_ix (r := rIxL K) ix_list (pv 4) (pe_op op_add pe_int (pv 6)) (fun _ _ => rfl)) pa_nil)) (pe_callB cr_lenS (by rfl) T.b_len PySem.boot_len (pa_cons (pv 7) pa_nil))) (fun _ _ => rfl)) pa_nil))))) pss_nil))))
        (pss_cons (ps_if (PW.pt (pw_and (pt_cmpR op_in_seq (pv 3) (pe_lst (pa_cons pe_int (pa_cons pe_int pa_nil))) (by rfl)) (pw_and1 (pt_cmpR op_ge (pv 1) pe_int (nomark _))))) (pss_one (ps_ret (pe_call G_n (hr.mono (by decide)) (by rfl) D_n.g D_n.F.kp D_n.b .nil pass0 (pa_cons (pe_op op_catTr (pv 5) (pe_tup (pa_cons (pe_tup (pa_cons (pe_ix (r := rIxL K) ix_list (pv 4) pe_int (fun _ _ => rfl)) (pa_cons (pe_op op_modN (pe_callTy call_int1 (by rfl) T.b_int (by decide +kernel) (pa_cons (pe_op op_add (pe_op op_add (pe_ix (r := rIxL K) ix_list (pv 4) pe_int (fun _ _ => rfl)) pe_int) (pe_ix (r := rIxL K) ix_list (pv 4) pe_int (fun _ _ => rfl))) pa_nil)) (pv 1)) (pa_cons (pv 3) pa_nil)))) pa_nil))) pa_nil)))) pss_nil)
        hG)))), ?_⟩
    refine ⟨_, rfl, _, rfl, _, _, rfl, _, rfl, _, _, rfl, rfl, _, _, rfl, by show 9 ≤ sizeLine; decide, fun b nb => ⟨cell, b, [7, 1000, 1000, 1000, 1000, 1000, 1000, if 1 > n then 1 else n, if 1 > n - 1 then 1 else n - 1], rfl, .inl (.inl upd_same), by show 9 ≤ 1000; decide, fun x hx => ?_, fun H1 a dgs s1 na ea dg => ?_⟩⟩
    · simp only [List.mem_cons, List.not_mem_nil, or_false] at hx
      rcases hx with h | h | h | h | h | h | h | h | h <;> (try rw [h]) <;> first | omega | (subst h; decide)
    obtain ⟨x0, x1, x2, x3, x4, x5, x6, x7, x8, rfl, h0, h7, h8⟩ := digs9 dg
    have sA := (same_upd nb).trans s1
    have qa : ∀ {H2 : Hp}, Same H1 H2 → SqL K H2 a ([x0, x1, x2, x3, x4, x5, x6, x7, x8].map V.int) := fun {H2} s => .inl (.inl (s _ _ ea))
    have hc1 := hc.same sA
    refine ⟨_, rfl, ?_⟩
    refine ⟨_, rfl, a, _, 0, _, rfl, rfl, qa (Same.refl _), atI_nat (j := 0) rfl, .inl ⟨_, rfl, x0, rfl, by omega, by omega, for_range (lo := 0) (n := x0.toNat) (fun k σ H2 => ∃ (cr : Addr) (r : List Tr) (y6 y7 : Option V), σ = [some (.ref c), some (.int n), some (.int cell), some (.int ex), some (.ref a), some (.ref cr), y6, y7, none, none] ∧ Same H1 H2 ∧ Trip H2 cr r ∧ Good n r ∧ r.length ≤ cs.length + 2 * k) ⟨c, cs, none, none, rfl, Same.refl _, hc1, hGd, Nat.le_refl _⟩ (fun k σ H2 hk p => ?_) (fun σ H2 p => ?_)⟩⟩
    · obtain ⟨cr, r, y6, y7, rfl, s2, ht, hg, hl2⟩ := p
      have hk6 : k < 6 := by omega
      refine ⟨_, rfl, cr, n, r, rfl, ht, hg, by omega, fun H3 Fm vs s3 eF lF mF => ?_⟩
      refine ⟨_, rfl, Fm, vs, rfl, .inl (.inl (.inl eF)), _, _, rfl, rfl, _, rfl, ite2 (fun e => ?_) (fun e => ?_)⟩
      · have hpos : 0 < (vs.length : Int) := of_decide_eq_true e
        obtain ⟨y, ey⟩ := digAt (ds := [x0, x1, x2, x3, x4, x5, x6, x7, x8]) (i := 1 + (0 + (k : Int))) (by omega) (by show _ < ((9 : Nat) : Int); omega)
        have hm := fmod_in y hpos
        obtain ⟨zv, ez, hz⟩ : ∃ z, atI vs (y.fmod (vs.length : Int)) = some z ∧ z ∈ vs := by
          obtain ⟨j, hj⟩ : ∃ j : Nat, y.fmod (vs.length : Int) = (j : Int) := ⟨(y.fmod (vs.length : Int)).toNat, by omega⟩
          rw [hj]
          have hjl : j < vs.length := by omega
          exact ⟨vs[j], atI_nat (List.getElem?_eq_getElem hjl), List.getElem_mem hjl⟩
        refine ⟨_, rfl, _, rfl, _, rfl, _, rfl, _, _, rfl, rfl, a, _, _, _, rfl, rfl, qa (s2.trans s3), ey, .inl ⟨_, rfl, _, rfl, Fm, vs, rfl, .inl (.inl (.inl eF)), _, _, rfl, rfl, by omega, Fm, vs, _, _, rfl, rfl, .inl (.inl eF), ez, ?_⟩⟩
        exact ⟨cr, n, r, zv, rfl, ht.same s3, hg, by omega, mF _ hz, fun H4 x r4 s4 h4 g4 l4 => ⟨x, r4, _, _, rfl, (s2.trans s3).trans s4, h4, g4, by omega⟩⟩
      · exact ⟨cr, r, _, _, rfl, s2.trans s3, ht.same s3, hg, by omega⟩
    · obtain ⟨cr, r, y6, y7, rfl, s2, ht, hg, hl2⟩ := p
      have hl3 : r.length ≤ cs.length + 12 := by omega
      have sB := sA.trans s2
      refine ⟨_, rfl, by show 2 ≤ sizeLine; decide, fun p np => ⟨p, _, rfl, .inl (.inl (.inl upd_same)), rfl, rfl, _, rfl, ite2 (fun e => ?_) (fun e => ?_)⟩⟩
      · have sp := same_upd (o := .lst [.int 1, .int 2]) np
        have hex : 1 ≤ ex := by
          have e2 : inV (V.int ex) [V.int 1, V.int 2] = true := e
          simp [inV, eqV] at e2
          omega
        refine ⟨_, rfl, _, _, rfl, rfl, _, rfl, ite2 (fun e2 => ?_) (fun e2 => ?_)⟩
        · have n2 : 2 ≤ n := of_decide_eq_true e2
          have q1 : SqL K (upd H2 p (.lst [.int 1, .int 2])) a ([x0, x1, x2, x3, x4, x5, x6, x7, x8].map V.int) := qa (s2.trans sp)
          have a7 : atI ([x0, x1, x2, x3, x4, x5, x6, x7, x8].map V.int) 7 = some (.int x7) := atI_nat (j := 7) rfl
          have a8 : atI ([x0, x1, x2, x3, x4, x5, x6, x7, x8].map V.int) 8 = some (.int x8) := atI_nat (j := 8) rfl
          rw [hn1.2.2 (by omega)] at h7
          rw [hn2.2.2 n2] at h8
          have hm := fmod_in (x7 + 1 + x8) (show 0 < n by omega)
          have hne : x7 ≠ (x7 + 1 + x8).fmod n := by
            by_cases hx : x7 + 1 + x8 < n
            · rw [fmod_lo (by omega) hx]
              omega
            · rw [fmod_hi (by omega) (by omega)]
              omega
          refine ⟨_, rfl, _, rfl, a, _, 7, _, rfl, rfl, q1, a7, _, rfl, a, _, 7, _, rfl, rfl, q1, a7, _, _, rfl, rfl, _, rfl, a, _, 8, _, rfl, rfl, q1, a8, _, _, rfl, rfl, .inl ⟨_, rfl, _, rfl, _, _, rfl, rfl, by omega, _, rfl, by show 3 ≤ sizeLine; decide, fun t nt => ⟨by show 1 ≤ sizeLine; decide, fun T2 nT => ?_⟩⟩⟩
          have st := same_upd (o := .tup [.int x7, .int ((x7 + 1 + x8).fmod n), .int ex]) nt
          have sT := same_upd (o := .tup [.ref t]) nT
          have sC := (sp.trans st).trans sT
          have tT : Trip (upd (upd (upd H2 p (.lst [.int 1, .int 2])) t (.tup [.int x7, .int ((x7 + 1 + x8).fmod n), .int ex])) T2 (.tup [.ref t])) T2 [(x7, (x7 + 1 + x8).fmod n, ex)] := ⟨_, upd_same, (TrV.nil).snoc (sT _ _ upd_same)⟩
          refine ⟨cr, T2, r, _, rfl, rfl, ht.same sC, tT, by show r.length + 1 ≤ 1000; omega, fun H5 v5 s5 h5 => ?_⟩
          obtain ⟨ys, ey5, ty5⟩ := id h5
          have vld : ∀ t ∈ r ++ [(x7, (x7 + 1 + x8).fmod n, ex)], Vld n t := fun t' ht' => by
            rcases List.mem_append.mp ht' with h | h
            · exact hg.vld t' h
            · rw [List.mem_singleton.mp h]
              exact ⟨h7.1, h7.2, hm.1, hm.2, hne, hex⟩
          refine ⟨v5, ys, _, rfl, .inr (.inl (.inl ey5)), ty5, by rw [List.length_append]; show r.length + 1 ≤ 1000; omega, fun H6 v6 r6 s6 h6 g6 => ?_⟩
          have i6 := g6.norm fun t ht => (vld t ht).2.2.2.2.2
          refine q H6 v6 r6 (((sB.trans sC).trans s5).trans s6) h6 (i6.good vld) ?_
          have := g6.len
          rw [List.length_append] at this
          have l1 : ([(x7, (x7 + 1 + x8).fmod n, ex)] : List Tr).length = 1 := rfl
          omega
        · exact qG a cr _ r y6 y7 _ (sB.trans sp) ((s2.trans sp) _ _ ea) rfl (ht.same sp) hg hl3
      · have sp := same_upd (o := .lst [.int 1, .int 2]) np
        exact qG a cr _ r y6 y7 _ (sB.trans sp) ((s2.trans sp) _ _ ea) rfl (ht.same sp) hg hl3
end
end Own

namespace Own
open PySem PySem.Spec PyProof.Rows L2 L2H
section
variable {P : Program} {w : World} {K : PySem.W.Frag} {mg : Str → Option Value} {base : Heap} {C : Addr}
theorem okH_lwhole {f : Addr} {fd : FuncData} (F : Fun K "_law_whole" "_law_whole" s__law_whole f fd) (T : Bi mg) : L2H.FnH P w K mg base CX0 1 f fd ["_law_value"] spWhole := by
  refine okH F sc__law_whole (fun vs H Q E h => ?_) (fun cdv A outer s H vs Q E p hot hr h => ?_)
  · obtain ⟨i, rfl, _⟩ := h
    rfl
  · obtain ⟨i, rfl, q⟩ := h
    refine ⟨_, (pss_one (ps_ret (pe_and (pe_callB call_isi (by rfl) T.b_isinstance (by decide +kernel) (pa_cons (pv 0) (pa_cons (pe_bltn (v := .ty "int") (by rfl) T.b_int (by decide +kernel) rfl) pa_nil))) (pe_one (pe_not (pe_callB call_isi (by rfl) T.b_isinstance (by decide +kernel) (pa_cons (pv 0) (pa_cons (pe_bltn (v := .ty "bool") (by rfl) T.b_bool (by decide +kernel) rfl) pa_nil)))))))), ?_⟩
    refine ⟨_, rfl, _, _, _, _, true, rfl, .ty "int", .base (.int i), kit_ty (by decide +kernel), true, rfl, ?_⟩
    exact ⟨_, rfl, _, _, _, _, false, rfl, .ty "bool", .base (.int i), kit_ty (by decide +kernel), false, rfl, q⟩
theorem fnH_no {k : Nat} {f : Addr} {fd : FuncData} {ps : List Str} : L2H.FnH P w K mg base CX0 k f fd ps spNo := ⟨fun _ _ _ _ h => h.elim, fun _ _ _ _ _ _ _ _ _ _ _ _ _ _ _ _ h => h.elim⟩
/-- its body, with any promise for the call within -/
theorem sameH_body {f : Addr} {fd : FuncData} {k : Nat} {sp : Sp} {d : Nat} (D_s : Df K mg "_law_same" s__law_same ["_law_value", "_law_due"] f fd) (T : Bi mg) {f_w : Addr} {d_w : FuncData} (D_w : Df K mg "_law_whole" s__law_whole ["_law_value"] f_w d_w) (G_w : L2H.FnH P w K mg base CX0 1 f_w d_w ["_law_value"] spWhole)
    (G_s : L2H.FnH P w K mg base CX0 (k + 1) f fd ["_law_value", "_law_due"] sp) (hsp : ∀ e x y H Q, e + 1 ≤ d → EqV e H x y → Q (.bl true) H → sp [x, y] H Q E0) : L2H.FnH P w K mg base CX0 (k + 2) f fd ["_law_value", "_law_due"] (spSame d) := by
  refine okH D_s.F sc__law_same (fun vs H Q E h => ?_) (fun cdv A outer s H vs Q E p hot hr h => ?_)
  · obtain ⟨x, y, rfl, _⟩ := h
    rfl
  · obtain ⟨x, y, rfl, hxy, q⟩ := h
    refine ⟨_, (pss_cons (ps_if (pt_cmpR op_isN (pv 1) pe_non (nomark _)) (pss_one (ps_ret (pe_cmpR op_isN (pv 0) pe_non (nomark _)))) pss_nil)
        (pss_cons (ps_if (pt_val (pe_callB call_isi (by rfl) T.b_isinstance (by decide +kernel) (pa_cons (pv 1) (pa_cons (pe_bltn (v := .ty "bool") (by rfl) T.b_bool (by decide +kernel) rfl) pa_nil)))) (pss_one (ps_ret (pe_and (pe_callB call_isi (by rfl) T.b_isinstance (by decide +kernel) (pa_cons (pv 0) (pa_cons (pe_bltn (v := .ty "bool") (by rfl) T.b_bool (by decide +kernel) rfl) pa_nil))) (pe_one (pe_cmpR op_eq (pv 0) (pv 1) (nomark _)))))) pss_nil)
        (pss_cons (ps_if (pt_val (pe_callB call_isi (by rfl) T.b_isinstance (by decide +kernel) (pa_cons (pv 1) (pa_cons (pe_bltn (v := .ty "int") (by rfl) T.b_int (by decide +kernel) rfl) pa_nil)))) (pss_one (ps_ret (pe_and (pe_callH G_w (hr.mono (by omega)) hot (by rfl) D_w.g D_w.F.kp D_w.b (E := fun _ => E0) (fun _ => pass0A) (pa_cons (pv 0) pa_nil)) (pe_one (pe_cmpR op_eq (pv 0) (pv 1) (nomark _)))))) pss_nil)
        (pss_cons (ps_if (pt_val (pe_callB call_isi (by rfl) T.b_isinstance (by decide +kernel) (pa_cons (pv 1) (pa_cons (pe_bltn (v := .ty "str") (by rfl) T.b_str (by decide +kernel) rfl) pa_nil)))) (pss_one (ps_ret (pe_and (pe_callB call_isi (by rfl) T.b_isinstance (by decide +kernel) (pa_cons (pv 0) (pa_cons (pe_bltn (v := .ty "str") (by rfl) T.b_str (by decide +kernel) rfl) pa_nil))) (pe_one (pe_cmpR op_eq (pv 0) (pv 1) (nomark _)))))) pss_nil)
        (pss_cons (ps_if (PW.pt (pw_and (pt_val (pe_callB call_isi (by rfl) T.b_isinstance (by decide +kernel) (pa_cons (pv 1) (pa_cons (pe_bltn (v := .ty "list") (by rfl) T.b_list (by decide +kernel) rfl) pa_nil)))) (pw_and1 (pt_not (pt_val (pe_callB call_isi (by rfl) T.b_isinstance (by decide +kernel) (pa_cons (pv 0) (pa_cons (pe_bltn (v := .ty "list") (by rfl) T.b_list (by decide +kernel) rfl) pa_nil)))))))) (pss_one (ps_ret pe_bl)) pss_nil)
        (pss_cons (ps_if (PW.pt (pw_and (pt_val (pe_callB call_isi (by rfl) T.b_isinstance (by decide +kernel) (pa_cons (pv 1) (pa_cons (pe_bltn (v := .ty "tuple") (by rfl) T.b_tuple (by decide +kernel) rfl) pa_nil)))) (pw_and1 (pt_not (pt_val (pe_callB call_isi (by rfl) T.b_isinstance (by decide +kernel) (pa_cons (pv 0) (pa_cons (pe_bltn (v := .ty "tuple") (by rfl) T.b_tuple (by decide +kernel) rfl) pa_nil)))))))) (pss_one (ps_ret pe_bl)) pss_nil)
        (pss_cons (ps_if (pt_cmpR op_ne (pe_callB call_len_seq (by rfl) T.b_len PySem.boot_len (pa_cons (pv 0) pa_nil)) (pe_callB call_len_seq (by rfl) T.b_len PySem.boot_len (pa_cons (pv 1) pa_nil)) (nomark _)) (pss_one (ps_ret pe_bl)) pss_nil)
        (pss_cons (ps_forH PassesOwn.never hot (pi_range1H (by rfl) T.b_range (pa_cons (pe_callB call_len_seq (by rfl) T.b_len PySem.boot_len (pa_cons (pv 1) pa_nil)) pa_nil)) (pg_name (i := 2) sc__law_same.nd rfl (.inl rfl))
        (pss_one (ps_if (pt_not (pt_val (pe_callH G_s hr hot (by rfl) D_s.g D_s.F.kp D_s.b (E := fun _ => E0) (fun _ => pass0A) (pa_cons (pe_ix (r := rIxB K) ix_seqB (pv 0) (pv 2) (fun _ _ => rfl)) (pa_cons (pe_ix (r := rIxB K) ix_seqB (pv 1) (pv 2) (fun _ _ => rfl)) pa_nil))))) (pss_one (ps_ret pe_bl)) pss_nil)))
        (pss_one (ps_ret pe_bl)))))))))), ?_⟩
    rcases hxy.cases' with (⟨i, rfl, rfl⟩ | ⟨b, rfl, rfl⟩ | ⟨rfl, rfl⟩) | ⟨e, a, b, vs, us, hle, rfl, rfl, hab, hlen, hl, hel⟩
    · refine ⟨_, rfl, rfl, _, rfl, ?_⟩
      refine ⟨_, rfl, _, _, _, _, false, rfl, .ty "bool", .base (.int i), kit_ty (by decide +kernel), false, rfl, ?_⟩
      refine ⟨_, rfl, _, _, _, _, true, rfl, .ty "int", .base (.int i), kit_ty (by decide +kernel), true, rfl, ?_⟩
      refine ⟨_, rfl, i, rfl, true, rfl, ?_⟩
      refine ⟨_, rfl, _, rfl, rfl, ?_⟩
      rw [decide_eq_true rfl]
      exact q
    · refine ⟨_, rfl, rfl, _, rfl, ?_⟩
      refine ⟨_, rfl, _, _, _, _, true, rfl, .ty "bool", .base (.bl b), kit_ty (by decide +kernel), true, rfl, ?_⟩
      refine ⟨_, rfl, _, _, _, _, true, rfl, .ty "bool", .base (.bl b), kit_ty (by decide +kernel), true, rfl, ?_⟩
      refine ⟨_, rfl, _, rfl, rfl, ?_⟩
      rw [decide_eq_true rfl]
      exact q
    · refine ⟨_, rfl, rfl, _, rfl, ?_⟩
      exact ⟨_, rfl, rfl, q⟩
    · rcases hab with ⟨ha, hb⟩ | ⟨ha, hb⟩
      · have tA : TyX K H (.ref a) (.type "tuple") := .base (.tup ha)
        have tB : TyX K H (.ref b) (.type "tuple") := .base (.tup hb)
        have qA : SqB K H a vs := .inr (.inl (.inl ha))
        have qB : SqB K H b us := .inr (.inl (.inl hb))
        refine ⟨_, rfl, rfl, _, rfl, ?_⟩
        refine ⟨_, rfl, _, _, _, _, false, rfl, .ty "bool", tB, kit_ty (by decide +kernel), false, rfl, ?_⟩
        refine ⟨_, rfl, _, _, _, _, false, rfl, .ty "int", tB, kit_ty (by decide +kernel), false, rfl, ?_⟩
        refine ⟨_, rfl, _, _, _, _, false, rfl, .ty "str", tB, kit_ty (by decide +kernel), false, rfl, ?_⟩
        refine ⟨_, rfl, _, _, _, _, false, rfl, .ty "list", tB, kit_ty (by decide +kernel), false, rfl, ?_⟩
        refine ⟨_, rfl, _, _, _, _, true, rfl, .ty "tuple", tB, kit_ty (by decide +kernel), true, rfl, ?_⟩
        refine ⟨_, rfl, _, _, _, _, true, rfl, .ty "tuple", tA, kit_ty (by decide +kernel), true, rfl, ?_⟩
        refine ⟨_, rfl, a, _, rfl, qA, _, rfl, b, _, rfl, qB, rfl, _, rfl, ?_⟩
        rw [hlen]
        refine iteNS rfl ?_
        refine ⟨_, rfl, b, _, rfl, qB, _, rfl, by omega, by omega, ?_⟩
        rw [show ((us.length : Int)).toNat = us.length by omega]
        refine for_range (lo := 0) (n := us.length) (fun i σ H' => (∃ y2, σ = [some (.ref a), some (.ref b), y2]) ∧ H' = H) ⟨⟨_, rfl⟩, rfl⟩ (fun i σ H' hi p => ?_) (fun σ H' p => ?_)
        · obtain ⟨⟨y2, rfl⟩, rfl⟩ := p
          have hv : vs[i]? = some vs[i] := List.getElem?_eq_getElem (by omega)
          have hu : us[i]? = some us[i] := List.getElem?_eq_getElem hi
          refine ⟨_, rfl, _, rfl, a, _, _, _, rfl, rfl, qA, at_of (j := i) (by omega) hv, _, rfl, _, rfl, b, _, _, _, rfl, rfl, qB, at_of (j := i) (by omega) hu, ?_⟩
          exact hsp e _ _ _ _ hle (hel i _ _ hv hu) ⟨true, rfl, ⟨_, rfl⟩, rfl⟩
        · obtain ⟨_, rfl⟩ := p
          exact q
      · have tA : TyX K H (.ref a) (.type "list") := .base (.lst ha)
        have tB : TyX K H (.ref b) (.type "list") := .base (.lst hb)
        have qA : SqB K H a vs := .inl (.inl (.inl ha))
        have qB : SqB K H b us := .inl (.inl (.inl hb))
        refine ⟨_, rfl, rfl, _, rfl, ?_⟩
        refine ⟨_, rfl, _, _, _, _, false, rfl, .ty "bool", tB, kit_ty (by decide +kernel), false, rfl, ?_⟩
        refine ⟨_, rfl, _, _, _, _, false, rfl, .ty "int", tB, kit_ty (by decide +kernel), false, rfl, ?_⟩
        refine ⟨_, rfl, _, _, _, _, false, rfl, .ty "str", tB, kit_ty (by decide +kernel), false, rfl, ?_⟩
        refine ⟨_, rfl, _, _, _, _, true, rfl, .ty "list", tB, kit_ty (by decide +kernel), true, rfl, ?_⟩
        refine ⟨_, rfl, _, _, _, _, true, rfl, .ty "list", tA, kit_ty (by decide +kernel), true, rfl, ?_⟩
        refine ⟨_, rfl, _, _, _, _, false, rfl, .ty "tuple", tB, kit_ty (by decide +kernel), false, rfl, ?_⟩
        refine ⟨_, rfl, a, _, rfl, qA, _, rfl, b, _, rfl, qB, rfl, _, rfl, ?_⟩
        rw [hlen]
        refine iteNS rfl ?_
        refine ⟨_, rfl, b, _, rfl, qB, _, rfl, by omega, by omega, ?_⟩
        rw [show ((us.length : Int)).toNat = us.length by omega]
        refine for_range (lo := 0) (n := us.length) (fun i σ H' => (∃ y2, σ = [some (.ref a), some (.ref b), y2]) ∧ H' = H) ⟨⟨_, rfl⟩, rfl⟩ (fun i σ H' hi p => ?_) (fun σ H' p => ?_)
        · obtain ⟨⟨y2, rfl⟩, rfl⟩ := p
          have hv : vs[i]? = some vs[i] := List.getElem?_eq_getElem (by omega)
          have hu : us[i]? = some us[i] := List.getElem?_eq_getElem hi
          refine ⟨_, rfl, _, rfl, a, _, _, _, rfl, rfl, qA, at_of (j := i) (by omega) hv, _, rfl, _, rfl, b, _, _, _, rfl, rfl, qB, at_of (j := i) (by omega) hu, ?_⟩
          exact hsp e _ _ _ _ hle (hel i _ _ hv hu) ⟨true, rfl, ⟨_, rfl⟩, rfl⟩
        · obtain ⟨_, rfl⟩ := p
          exact q
theorem okH_same {f : Addr} {fd : FuncData} (D_s : Df K mg "_law_same" s__law_same ["_law_value", "_law_due"] f fd) (T : Bi mg) {f_w : Addr} {d_w : FuncData} (D_w : Df K mg "_law_whole" s__law_whole ["_law_value"] f_w d_w) (G_w : L2H.FnH P w K mg base CX0 1 f_w d_w ["_law_value"] spWhole) :
    ∀ d : Nat, L2H.FnH P w K mg base CX0 (d + 2) f fd ["_law_value", "_law_due"] (spSame d)
  | 0 => sameH_body (k := 0) D_s T D_w G_w (sp := spNo) fnH_no fun e x y H Q h => absurd h (by omega)
  | d + 1 => sameH_body (k := d + 1) D_s T D_w G_w (okH_same D_s T D_w G_w d) fun e x y H Q h h1 q => ⟨x, y, rfl, h1.le (by omega), q⟩
end
end Own

namespace Own
open PySem PySem.Spec PyProof.Rows L2
/-! ### three lots, their bunches and their tables -/
def tri (f : Nat → Addr) : List V := [.ref (f 0), .ref (f 1), .ref (f 2)]
theorem tri_at (f : Nat → Addr) {i : Nat} (h : i < 3) : atI (tri f) (i : Int) = some (.ref (f i)) := by
  have : i = 0 ∨ i = 1 ∨ i = 2 := by omega
  rcases this with rfl | rfl | rfl <;> exact atI_nat rfl
structure Tg (n : Int) (cs : Nat → List Tr) : Prop where
  n0 : 0 ≤ n
  n1 : n ≤ 40
  g : ∀ k, k < 3 → Good n (cs k)
  l : ∀ k, k < 3 → (cs k).length ≤ 60
structure Tri (C : Addr) (n : Int) (Lp Bp Tp : Addr) (p c t : Nat → Addr) (cs : Nat → List Tr) (H : Hp) : Prop where
  eL : H Lp = some (.lst (tri p))
  eB : H Bp = some (.lst (tri c))
  eT : H Tp = some (.lst (tri t))
  lot : ∀ k, k < 3 → LotAt C H (p k) n (cs k)
  trip : ∀ k, k < 3 → Trip H (c k) (cs k)
  tab : ∀ k, k < 3 → TabAt H (t k) (hi n 1) (tabE (cs k))
theorem Tri.same {C : Addr} {n : Int} {Lp Bp Tp : Addr} {p c t : Nat → Addr} {cs : Nat → List Tr} {H H' : Hp} (W : Tri C n Lp Bp Tp p c t cs H) (s : Same H H') : Tri C n Lp Bp Tp p c t cs H' :=
  ⟨s _ _ W.eL, s _ _ W.eB, s _ _ W.eT, fun k h => (W.lot k h).same s, fun k h => (W.trip k h).same s, fun k h => (W.tab k h).same s⟩
theorem Tg.two {n : Int} {cs : Nat → List Tr} (G : Tg n cs) {i j : Nat} (hi : i < 3) (hj : j < 3) : Two n n (cs i) (cs j) := ⟨G.n0, by have := G.n1; omega, G.n0, by have := G.n1; omega, G.g i hi, G.g j hj⟩
theorem ints_dp {K : PySem.W.Frag} {H : Hp} : ∀ ns : List Int, DpAll K H (ns.map V.int) (ns.map PyData.int)
  | [] => .nil
  | n :: r => .cons (.int n) (ints_dp r)
theorem ints_ok : ∀ ns : List Int, PyData.canLayAll0 (ns.map PyData.int) = true ∧ PyData.depthAll (ns.map PyData.int) = 0
  | [] => ⟨rfl, rfl⟩
  | n :: r => by
    obtain ⟨h1, h2⟩ := ints_ok r
    refine ⟨?_, ?_⟩
    · show (PyData.canLay0 (.int n) && PyData.canLayAll0 (r.map PyData.int)) = true
      rw [h1]
      rfl
    · show max (PyData.depth (.int n)) (PyData.depthAll (r.map PyData.int)) = 0
      rw [h2]
      rfl
theorem ints_shaped (ns : List Int) : SeqAt.shaped (.tuple (ns.map PyData.int)) = true := by
  obtain ⟨h1, h2⟩ := ints_ok ns
  unfold SeqAt.shaped
  have e1 : PyData.canLay0 (.tuple (ns.map PyData.int)) = true := h1
  have e2 : PyData.depth (.tuple (ns.map PyData.int)) ≤ 64 := by
    show PyData.depthAll (ns.map PyData.int) + 1 ≤ 64
    omega
  rw [e1, decide_eq_true e2]
  rfl
theorem ints_nil (ns : List Int) : PyData.eqv (.tuple (ns.map PyData.int)) (.tuple []) = ns.isEmpty := by
  cases ns with
  | nil => simp [PyData.eqv, PyData.eqvAll]
  | cons n r => simp [PyData.eqv, PyData.eqvAll]
theorem odds_len {n : Int} {e w : Int → Int} (h : n ≤ 1000) : (odds n e w).length ≤ 1000 := Nat.le_trans (oddl_len _ _) (by omega)
section
variable {P : Program} {w : World} {K : PySem.W.Frag} {mg : Str → Option Value} {base : Heap} {C D : Addr}
def spPair (C : Addr) : Sp := fun vs H Q _ => ∃ (Lp Bp Tp : Addr) (n : Int) (i j : Nat) (p c t : Nat → Addr) (cs : Nat → List Tr), vs = [.ref Lp, .int n, .ref Bp, .ref Tp, .int (i : Int), .int (j : Int)] ∧ i < 3 ∧ j < 3 ∧ Tg n cs ∧ Tri C n Lp Bp Tp p c t cs H ∧ ∀ H', Same H H' → Q (.bl true) H'
theorem ok_pair {f : Addr} {fd : FuncData} (F : Fun K "_law_pair" "_law_pair" s__law_pair f fd) {f_br : Addr} {d_br : FuncData} (D_br : Df K mg "bar" s_bar ["lot", "wishes"] f_br d_br) (G_br : FnOk P w K mg base (L2N.CX P w) 5 f_br d_br ["lot", "wishes"] (spBarX C D)) {f_od : Addr} {d_od : FuncData} (D_od : Df K mg "odd" s_odd ["lot", "wishes"] f_od d_od) (G_od : FnOk P w K mg base (L2N.CX P w) 5 f_od d_od ["lot", "wishes"] (spOddX C D)) {f_in : Addr} {d_in : FuncData} (i_in : PySem.W.findIn K (.ref C) "__contains__" = some (some (.ref f_in))) (n_in : PySem.W.isFn K (.ref f_in) = true) (b_in : Binds K d_in ["self", "wishes"] []) (G_in : FnOk P w K mg base (L2N.CX P w) 5 f_in d_in ["self", "wishes"] (spInX C D)) {f_lb : Addr} {d_lb : FuncData} (D_lb : Df K mg "_law_bar" s__law_bar ["_law_held", "_law_wished"] f_lb d_lb) (G_lb : FnOk P w K mg base CX0 1 f_lb d_lb ["_law_held", "_law_wished"] spLBar) {f_lo : Addr} {d_lo : FuncData} (D_lo : Df K mg "_law_odd" s__law_odd ["_law_pins_here", "_law_one", "_law_two"] f_lo d_lo) (G_lo : FnOk P w K mg base CX0 2 f_lo d_lo ["_law_pins_here", "_law_one", "_law_two"] spLOdd) {f_s : Addr} {d_s : FuncData} (D_s : Df K mg "_law_same" s__law_same ["_law_value", "_law_due"] f_s d_s) (G_s2 : FnOk P w K mg base CX0 4 f_s d_s ["_law_value", "_law_due"] (spSame 2))  : FnOk P w K mg base CX0 7 f fd ["_law_lots", "_law_pins_here", "_law_bunch", "_law_tables", "_law_i", "_law_j"] (spPair C) := by
  refine F.ok sc__law_pair (fun vs H Q E h => ?_) (fun cdv A outer s H vs Q E hr h => ?_)
  · obtain ⟨_, _, _, _, _, _, _, _, _, _, rfl, _⟩ := h
    rfl
  · obtain ⟨Lp, Bp, Tp, n, i, j, p, c, t, cs, rfl, i3, j3, G, W, q⟩ := h
    have hu64 : (A.deeper (envOfC "_law_pair" (defScope s__law_pair) s.heap.objs.size f cdv)).units + 64 < cLine := hr.units
    have n0 := G.n0
    have n1 := G.n1
    have hz := hi_in n0 (show n ≤ 1000 by omega)
    refine ⟨_, (pss_cons (ps_set (i := 6) sc__law_pair.nd rfl (.inl rfl) (pe_call G_lb (hr.mono (by decide)) (by rfl) D_lb.g D_lb.F.kp D_lb.b .nil pass0 (pa_cons (pe_ix (r := rIxL K) ix_list (pv 3) (pv 4) (fun _ _ => rfl)) (pa_cons (pe_ix (r := rIxL K) ix_list (pv 3) (pv 5) (fun _ _ => rfl)) pa_nil))))
        (pss_cons (ps_set (i := 7) sc__law_pair.nd rfl (.inl rfl) (pe_call G_lo (hr.mono (by decide)) (by rfl) D_lo.g D_lo.F.kp D_lo.b .nil pass0 (pa_cons (pv 1) (pa_cons (pe_ix (r := rIxL K) ix_list (pv 2) (pv 4) (fun _ _ => rfl)) (pa_cons (pe_ix (r := rIxL K) ix_list (pv 2) (pv 5) (fun _ _ => rfl)) pa_nil)))))
        (pss_cons (ps_if (PW.pt (pw_or (pt_not (pt_val (pe_call G_s2 (hr.mono (by decide)) (by rfl) D_s.g D_s.F.kp D_s.b .nil pass0 (pa_cons (pe_call G_br (hr.mono (by decide)) (by rfl) D_br.g D_br.F.kp D_br.b .nil passN (pa_cons (pe_ix (r := rIxL K) ix_list (pv 0) (pv 4) (fun _ _ => rfl)) (pa_cons (pe_ix (r := rIxL K) ix_list (pv 0) (pv 5) (fun _ _ => rfl)) pa_nil))) (pa_cons (pv 6) pa_nil))))) (pw_or1 (pt_not (pt_val (pe_call G_s2 (hr.mono (by decide)) (by rfl) D_s.g D_s.F.kp D_s.b .nil pass0 (pa_cons (pe_call G_od (hr.mono (by decide)) (by rfl) D_od.g D_od.F.kp D_od.b .nil passN (pa_cons (pe_ix (r := rIxL K) ix_list (pv 0) (pv 4) (fun _ _ => rfl)) (pa_cons (pe_ix (r := rIxL K) ix_list (pv 0) (pv 5) (fun _ _ => rfl)) pa_nil))) (pa_cons (pv 7) pa_nil)))))))) (pss_one (ps_ret pe_bl)) pss_nil)
        (pss_one (ps_ret (pe_call G_s2 (hr.mono (by decide)) (by rfl) D_s.g D_s.F.kp D_s.b .nil pass0 (pa_cons (pe_ownIn i_in n_in G_in (hr.mono (by decide)) b_in (fun σ pins H s e s' I h => passN pins σ H s e s' I h) (pe_ix (r := rIxL K) ix_list (pv 0) (pv 5) (fun _ _ => rfl)) (pe_ix (r := rIxL K) ix_list (pv 0) (pv 4) (fun _ _ => rfl))) (pa_cons (pe_and (pe_cmpR op_isN (pv 6) pe_non (nomark _)) (pe_one (pe_cmpR (op_eqD hu64) (pv 7) (pe_tup pa_nil) (nomark _)))) pa_nil)))))))), ?_⟩
    refine ⟨_, rfl, _, rfl, Tp, _, _, _, rfl, rfl, .inl (.inl W.eT), tri_at t i3, _, rfl, _, rfl, Tp, _, _, _, rfl, rfl, .inl (.inl W.eT), tri_at t j3, hi n 1, t i, t j, _, _, rfl, hz.1, hz.2, W.tab i i3, W.tab j j3, fun H1 x r s1 hb hx => ?_⟩
    replace W := W.same s1
    refine ⟨_, rfl, _, rfl, _, rfl, Bp, _, _, _, rfl, rfl, .inl (.inl W.eB), tri_at c i3, _, rfl, _, rfl, Bp, _, _, _, rfl, rfl, .inl (.inl W.eB), tri_at c j3, n, c i, c j, cs i, cs j, rfl, n0, by omega, W.trip i i3, W.trip j j3, fun H2 y s2 hy => ?_⟩
    replace W := W.same s2
    replace hx := hx.same s2
    refine ⟨_, rfl, _, rfl, Lp, _, _, _, rfl, rfl, .inl (.inl W.eL), tri_at p i3, _, rfl, _, rfl, Lp, _, _, _, rfl, rfl, .inl (.inl W.eL), tri_at p j3, p i, p j, n, n, cs i, cs j, rfl, W.lot i i3, W.lot j j3, G.two i3 j3, fun _ => fun H3 x2 r2 s3 hb2 hx2 => ?_, Unl.eq⟩
    obtain rfl := bar_uniq hb hb2
    replace W := W.same s3
    replace hx := hx.same s3
    have hy3 := s3 _ _ hy
    refine ⟨_, rfl, _, _, rfl, (hx2.eqv hx).up, true, rfl, ?_⟩
    refine ⟨_, rfl, _, rfl, Lp, _, _, _, rfl, rfl, .inl (.inl W.eL), tri_at p i3, _, rfl, _, rfl, Lp, _, _, _, rfl, rfl, .inl (.inl W.eL), tri_at p j3, p i, p j, n, n, cs i, cs j, rfl, W.lot i i3, W.lot j j3, G.two i3 j3, fun _ => fun H4 y2 s4 hy2 => ?_, Unl.eq⟩
    replace W := W.same s4
    replace hx := hx.same s4
    have hy4 := s4 _ _ hy3
    refine ⟨_, rfl, _, _, rfl, (EqV.ints hy2 hy4 (odds_len (by omega))).up, true, rfl, ?_⟩
    obtain ⟨dxi, ci, ei, _⟩ := id (W.lot i i3)
    refine ⟨_, rfl, _, rfl, Lp, _, _, _, rfl, rfl, .inl (.inl W.eL), tri_at p j3, _, rfl, _, rfl, Lp, _, _, _, rfl, rfl, .inl (.inl W.eL), tri_at p i3, p i, dxi, _, rfl, ei, p i, p j, n, n, cs i, cs j, rfl, W.lot i i3, W.lot j j3, G.two i3 j3, fun _ => fun H5 b s5 hb5 => ⟨b, rfl, ?_⟩, Unl.eq⟩
    have eb := hb5 _ hb
    replace hx := hx.same s5
    have hy5 := s5 _ _ hy4
    have sA := (((s1.trans s2).trans s3).trans s4).trans s5
    rcases hx with ⟨rfl, rfl⟩ | ⟨px, ax, bx, rfl, _, rfl⟩
    · refine ⟨_, rfl, rfl, _, rfl, ?_⟩
      rw [decide_eq_true rfl]
      refine ⟨_, rfl, Nat.zero_le _, fun z nz => ?_⟩
      have sz := same_upd (o := .tup []) nz
      refine ⟨.tuple ((odds n (endsOf (cs i)) (endsOf (cs j))).map PyData.int), .tuple [], .tup (.inl (.inl (sz _ _ hy5))) (ints_dp _), .tup (.inl (.inl upd_same)) .nil, ints_shaped _, ints_shaped [], ?_⟩
      rw [ints_nil]
      refine ⟨_, _, rfl, ?_, q _ (sA.trans sz)⟩
      rw [eb]
      exact EqV.bl _
    · refine ⟨_, rfl, rfl, _, rfl, ?_⟩
      rw [decide_eq_false fun z => by cases z]
      refine ⟨_, _, rfl, ?_, q _ sA⟩
      rw [eb]
      exact EqV.bl _
/-- what the law knows of the errors -/
structure XcC (K : PySem.W.Frag) (D c_bps c_bp c_bg c_np c_re : Addr) : Prop where
  c : ExcC K D
  x : XfC K D
  n_one : PySem.W.findIn K (.ref D) "one" = some none
  n_other : PySem.W.findIn K (.ref D) "other" = some none
  k_bps : PySem.W.kitOne K (.ref D) (.ref c_bps) = some false
  k_bp : PySem.W.kitOne K (.ref D) (.ref c_bp) = some false
  k_bg : PySem.W.kitOne K (.ref D) (.ref c_bg) = some false
  k_np : PySem.W.kitOne K (.ref D) (.ref c_np) = some false
  k_re : PySem.W.kitOne K (.ref D) (.ref c_re) = some true
  k_ve : PySem.W.kitOne K (.ref D) (.type "ValueError") = some true
  ex : PySem.W.exmOne K (.ref D) (.ref D) = some true
theorem sc_unl : FnScope ["_law_thing", "_law_strange", "_law_pins_here", "_law_far", "_law_kind", "_law_told", "e"] ["_law_thing", "_law_strange", "_law_pins_here", "_law_far", "_law_kind"] (defScope s__law_unlike) := ⟨rfl, rfl, rfl, by decide +kernel, rfl, by decide +kernel, by decide +kernel⟩
def tUnl (K : PySem.W.Frag) (D c_bps c_bp c_bg c_np c_re a : Addr) (cls : Value) (d : Option Addr) : TS :=
  tSeq (tIfS (tOr (tB (tCB (rIsX K D a cls d) (tCons (tVar 6) (tCons (tC (.ref c_bps)) tNil)))) (tOr (tB (tCB (rIsX K D a cls d) (tCons (tVar 6) (tCons (tC (.ref c_bp)) tNil)))) (tOr (tB (tCB (rIsX K D a cls d) (tCons (tVar 6) (tCons (tC (.ref c_bg)) tNil)))) (tB (tCB (rIsX K D a cls d) (tCons (tVar 6) (tCons (tC (.ref c_np)) tNil))))))) (tRet (tC (.bl false))) tNext)
    (tSeq (tIfS (tOr (tNot (tB (tCB (rIsX K D a cls d) (tCons (tVar 6) (tCons (tC (.ref c_re)) tNil))))) (tNot (tB (tCB (rIsX K D a cls d) (tCons (tVar 6) (tCons (tC (.ty "ValueError")) tNil)))))) (tRet (tC (.bl false))) tNext)
      (tRet (tCallS (spSame 2) (fun _ => E0) (tCons (tLst (tCons (tXf a cls d D "one" (tVar 6)) (tCons (tXf a cls d D "other" (tVar 6)) tNil))) (tCons (tLst (tCons (tVar 2) (tCons (tVar 3) tNil))) tNil)))))
def spUnl (C : Addr) : Sp := fun vs H Q _ => ∃ (p o : Addr) (n m kd : Int) (cs ds : List Tr), vs = [.ref p, .ref o, .int n, .int m, .int kd] ∧ LotAt C H p n cs ∧ LotAt C H o m ds ∧ Two n m cs ds ∧ n ≠ m ∧ ∀ H', Same H H' → Q (.bl true) H'
theorem ok_unl {f : Addr} {fd : FuncData} (F : Fun K "_law_unlike" "_law_unlike" s__law_unlike f fd) (T : Bi mg) (T_ve : mg "ValueError" = none) {f_u : Addr} {d_u : FuncData} (U : UnlC K mg D f_u d_u) {c_bps c_bp c_bg c_np c_re : Addr} (X_c : XcC K D c_bps c_bp c_bg c_np c_re)
    (N_bps : mg "BadPins" = some (.ref c_bps)) (N_bp : mg "BadPin" = some (.ref c_bp)) (N_bg : mg "BadGap" = some (.ref c_bg)) (N_np : mg "NotPart" = some (.ref c_np)) (N_re : mg "RimError" = some (.ref c_re)) {f_br : Addr} {d_br : FuncData} (D_br : Df K mg "bar" s_bar ["lot", "wishes"] f_br d_br) (G_br : FnOk P w K mg base (L2N.CX P w) 5 f_br d_br ["lot", "wishes"] (spBarX C D)) {f_od : Addr} {d_od : FuncData} (D_od : Df K mg "odd" s_odd ["lot", "wishes"] f_od d_od) (G_od : FnOk P w K mg base (L2N.CX P w) 5 f_od d_od ["lot", "wishes"] (spOddX C D)) {f_in : Addr} {d_in : FuncData} (i_in : PySem.W.findIn K (.ref C) "__contains__" = some (some (.ref f_in))) (n_in : PySem.W.isFn K (.ref f_in) = true) (b_in : Binds K d_in ["self", "wishes"] []) (G_in : FnOk P w K mg base (L2N.CX P w) 5 f_in d_in ["self", "wishes"] (spInX C D)) {f_s : Addr} {d_s : FuncData} (D_s : Df K mg "_law_same" s__law_same ["_law_value", "_law_due"] f_s d_s) (H_s : L2H.FnH P w K mg base CX0 4 f_s d_s ["_law_value", "_law_due"] (spSame 2))  : FnOk P w K mg base CX0 7 f fd ["_law_thing", "_law_strange", "_law_pins_here", "_law_far", "_law_kind"] (spUnl C) := by
  refine F.ok sc_unl (fun vs H Q E h => ?_) (fun cdv A outer s H vs Q E hr h => ?_)
  · obtain ⟨_, _, _, _, _, _, _, rfl, _⟩ := h
    rfl
  · obtain ⟨p, o, n, m, kd, cs, ds, rfl, hp, ho, B, ne, q⟩ := h
    refine ⟨_, (pss_cons (L2N.ps_try_as (i := 6) (Wout := fun _ _ _ _ => False) rfl rfl sc_unl.nd rfl rfl ⟨by rfl, by decide, .inl U.R.g⟩ takesN
        (tb := fun W => tIfS (tTest (tOp rEq (tVar 4) (tC (.int 0)))) (tAsg (tCallS (spBarX C D) (WE W) (tCons (tVar 0) (tCons (tVar 1) tNil))) (gName 5)) (tIfS (tTest (tOp rEq (tVar 4) (tC (.int 1)))) (tAsg (tCallS (spOddX C D) (WE W) (tCons (tVar 0) (tCons (tVar 1) tNil))) (gName 5)) (tAsg (tOwnIn C (spInX C D) (WE W) (tVar 1) (tVar 0)) (gName 5))))
        (ts := fun a cls d => tUnl K D c_bps c_bp c_bg c_np c_re a cls d)
        (fun W pn xe tk _ => (pss_one (ps_if (pt_cmpR op_eq (pv 4) pe_int (nomark _)) (pss_one (ps_set (i := 5) sc_unl.nd rfl (.inl rfl) (by exact (pe_callS G_br (hr.mono (by decide)) (by rfl) D_br.g D_br.F.kp D_br.b (fun σ => L2N.passAt tk σ) (pa_cons (pv 0) (pa_cons (pv 1) pa_nil)))))) (pss_one (ps_if (pt_cmpR op_eq (pv 4) pe_int (nomark _)) (pss_one (ps_set (i := 5) sc_unl.nd rfl (.inl rfl) (by exact (pe_callS G_od (hr.mono (by decide)) (by rfl) D_od.g D_od.F.kp D_od.b (fun σ => L2N.passAt tk σ) (pa_cons (pv 0) (pa_cons (pv 1) pa_nil)))))) (pss_one (ps_set (i := 5) sc_unl.nd rfl (.inl rfl) (by exact (pe_ownIn i_in n_in G_in (hr.mono (by decide)) b_in (fun σ => L2N.passAt tk σ) (pv 1) (pv 0))))))))))
        (fun a oe cls d pn hz hf => (pss_cons (ps_if (PW.pt (pw_or (pt_val (pe_callB (call_isX X_c.c hz.zc hf) (by rfl) T.b_isinstance (by decide +kernel) (pa_cons (pv 6) (pa_cons (pe_glob (v := .ref c_bps) (by rfl) N_bps rfl) pa_nil)))) (pw_or (pt_val (pe_callB (call_isX X_c.c hz.zc hf) (by rfl) T.b_isinstance (by decide +kernel) (pa_cons (pv 6) (pa_cons (pe_glob (v := .ref c_bp) (by rfl) N_bp rfl) pa_nil)))) (pw_or (pt_val (pe_callB (call_isX X_c.c hz.zc hf) (by rfl) T.b_isinstance (by decide +kernel) (pa_cons (pv 6) (pa_cons (pe_glob (v := .ref c_bg) (by rfl) N_bg rfl) pa_nil)))) (pw_or1 (pt_val (pe_callB (call_isX X_c.c hz.zc hf) (by rfl) T.b_isinstance (by decide +kernel) (pa_cons (pv 6) (pa_cons (pe_glob (v := .ref c_np) (by rfl) N_np rfl) pa_nil))))))))) (pss_one (ps_ret pe_bl)) pss_nil) (pss_cons (ps_if (PW.pt (pw_or (pt_not (pt_val (pe_callB (call_isX X_c.c hz.zc hf) (by rfl) T.b_isinstance (by decide +kernel) (pa_cons (pv 6) (pa_cons (pe_glob (v := .ref c_re) (by rfl) N_re rfl) pa_nil))))) (pw_or1 (pt_not (pt_val (pe_callB (call_isX X_c.c hz.zc hf) (by rfl) T.b_isinstance (by decide +kernel) (pa_cons (pv 6) (pa_cons (pe_bltn (v := .ty "ValueError") (by rfl) T_ve (by decide +kernel) rfl) pa_nil)))))))) (pss_one (ps_ret pe_bl)) pss_nil) (pss_one (ps_ret (L2H.pe_callH H_s ⟨(L2H.RoomH.mono (j := 4) (L2H.roomH_of hr) (by decide)).dp, (L2H.RoomH.mono (j := 4) (L2H.roomH_of hr) (by decide)).un⟩ (hotS hz hf) (by rfl) D_s.g D_s.F.kp D_s.b (E := fun _ => E0) (fun _ => pass0A) (pa_cons (pe_lst (pa_cons (pe_xf X_c.x X_c.n_one hz.zc hf (pv 6)) (pa_cons (pe_xf X_c.x X_c.n_other hz.zc hf (pv 6)) pa_nil))) (pa_cons (pe_lst (pa_cons (pv 2) (pa_cons (pv 3) pa_nil))) pa_nil)))))))))
        (pss_one (ps_ret pe_bl))), ?_⟩
    have fin : ∀ d, H d = none → (wAs K (.ref D) 6 (fun a cls d => tUnl K D c_bps c_bp c_bg c_np c_re a cls d) (fun _ _ _ _ => False) { nx := fun σ' H' => (tRet (tC (.bl false))) { nx := fun _ H' => Q .non H', rt := Q } σ' H', rt := Q }) (.ref D) (some d) [some (.ref p), some (.ref o), some (.int n), some (.int m), some (.int kd), none, none] (upd H d (.xd (flE ["one", "other"] [.int n, .int m]))) := fun d nd => by
      refine ⟨true, X_c.ex, fun _ a na => ?_, fun z => by cases z⟩
      have sd := same_upd (o := .xd (flE ["one", "other"] [.int n, .int m])) nd
      have ed : upd H d (.xd (flE ["one", "other"] [.int n, .int m])) d = some (.xd (flE ["one", "other"] [.int n, .int m])) := upd_same
      refine ⟨_, rfl, rfl, d, .ref c_bps, .ref c_bps, false, _, rfl, rfl, ed, fun u h => h, X_c.k_bps, false, rfl, ?_⟩
      refine ⟨_, rfl, rfl, d, .ref c_bp, .ref c_bp, false, _, rfl, rfl, ed, fun u h => h, X_c.k_bp, false, rfl, ?_⟩
      refine ⟨_, rfl, rfl, d, .ref c_bg, .ref c_bg, false, _, rfl, rfl, ed, fun u h => h, X_c.k_bg, false, rfl, ?_⟩
      refine ⟨_, rfl, rfl, d, .ref c_np, .ref c_np, false, _, rfl, rfl, ed, fun u h => h, X_c.k_np, false, rfl, ?_⟩
      refine ⟨_, rfl, rfl, d, .ref c_re, .ref c_re, true, _, rfl, rfl, ed, fun u h => h, X_c.k_re, true, rfl, ?_⟩
      refine ⟨_, rfl, rfl, d, .ty "ValueError", .type "ValueError", true, _, rfl, rfl, ed, fun u h => h, X_c.k_ve, true, rfl, ?_⟩
      refine ⟨_, rfl, rfl, rfl, d, _, _, rfl, ed, rfl, _, rfl, rfl, rfl, d, _, _, rfl, ed, rfl, by show 2 ≤ sizeLine; decide, fun l1 n1 => ⟨_, rfl, _, rfl, by show 2 ≤ sizeLine; decide, fun l2 n2 => ?_⟩⟩
      have g1 := same_upd (o := .lst [.int n, .int m]) n1
      have g2 := same_upd (o := .lst [.int n, .int m]) n2
      refine ⟨_, _, rfl, .inl (.inr ⟨l1, l2, _, _, rfl, rfl, .inr ⟨g2 _ _ upd_same, upd_same⟩, rfl, by show 2 ≤ 1000; decide, fun i x y hx hy => ?_⟩), q _ ((sd.trans g1).trans g2)⟩
      rw [hx] at hy
      cases hy
      match i, hx with
      | 0, hx => cases hx; exact EqV.int _
      | 1, hx => cases hx; exact EqV.int _
    obtain ⟨dy, cy, ey, _⟩ := id hp
    refine ⟨_, rfl, rfl, _, rfl, ite2 (fun e => ?_) (fun e => ⟨_, rfl, rfl, _, rfl, ite2 (fun e2 => ?_) (fun e2 => ?_)⟩)⟩
    · exact ⟨_, rfl, _, rfl, p, o, n, m, cs, ds, rfl, hp, ho, B, fun z => absurd z ne, fun _ d nd => fin d nd⟩
    · exact ⟨_, rfl, _, rfl, p, o, n, m, cs, ds, rfl, hp, ho, B, fun z => absurd z ne, fun _ d nd => fin d nd⟩
    · exact ⟨_, rfl, _, rfl, p, dy, _, rfl, ey, p, o, n, m, cs, ds, rfl, hp, ho, B, fun z => absurd z ne, fun _ d nd => fin d nd⟩
end
end Own

namespace Own
open PySem PySem.Spec PyProof.Rows L2
/-! ### a call by keywords alone -/
section
variable {X : Cx} {CX : CXT} {k : Nat} {f : Addr} {fd : FuncData} {ps ks : List Str} {sp : Sp} {E : XK} {x : Str} {p pos : Pos} {kws : List Keyword} {tk : TA} {g : List Value → List Value → List Value} {gV : List V → List V → List V}
theorem pe_callK0 (F : FnOk X.prog X.w X.K X.mg X.base CX k f fd ps sp) (hr : Room k X.A) (hg : Gl X x) (hm : X.mg x = some (.ref f)) (hk : PySem.W.keepIn X.K (.ref f) = true) (hb : KBn X.K fd ps 0 ks g gV) (hx : Passes CX X E)
    (hkw : PK X kws tk) (hall : (backToKw pos (keywordEach kws X.env)).all (·.1.isSome) = true := by rfl) (hks : (backToKw pos (keywordEach kws X.env)).filterMap (·.1) = ks := by rfl)
    (hdb : (x == ("__debug__" : Str)) = false := by decide)
    (hpl : ((backTo pos (starEach [] X.env)).any (·.1) || (backToKw pos (keywordEach kws X.env)).any (·.1.isNone)) = false := by rfl) :
    PE X (.Call (.Name x p) [] kws pos) (tCallN 0 ks.length sp gV E tNil tk) := by
  refine ⟨fun pins s σ H Q I h => ?_⟩
  refine wpAny_Call_Name_kw (ld_glob I hg hm ?_ hdb)
  refine PySem.W.callWith_KW0 (h₀ := X.base) I.ok.mod.kin hk hall ?_ hpl
  refine thn (hkw.run pos pins s σ H _ I h) fun ws s2 ⟨zs, H2, I2, rz, l1, l2, q2⟩ => ⟨I2.kIn, ?_⟩
  rw [hks]
  exact run_fnN (us := []) (vs := []) F hr hb hx I2 .nil rz rfl l2 q2
end
theorem vals_rev {zs : List V} {ws : List Value} (r : Vals zs ws) : Vals zs.reverse ws.reverse := by
  induction r with
  | nil => exact .nil
  | cons h _ ih =>
    rw [List.reverse_cons, List.reverse_cons]
    exact ih.append (.cons h .nil)
section
variable {P : Program} {w : World} {K : PySem.W.Frag} {mg : Str → Option Value} {base : Heap}
theorem kb_same {x qual : Str} {st : Stmt} {f : Addr} {fd : FuncData} {ps : List Str} (F : Fun K x qual st f fd)
    (h : ∀ (kV doc pm : Value) (an : Option Addr) (cdv ct : Value) (ws : List Value), ws.length = ps.length → bindArgs (PySem.W.fnOf x qual (defArgs st) (defBody st) (defScope st) .none kV doc pm an cdv ct) ⟨[], ps.zip ws⟩ = pure (ps.zip ws)) :
    KBn K fd ps 0 ps (fun _ ws => ws) (fun _ zs => zs) := by
  obtain ⟨oc, od, kV, doc, pm, an, cdv, ct, osl, rfl, lk, hcd⟩ := F.ex
  refine ⟨fun s us ws _ hu hw => ?_, fun _ r => r⟩
  have e : us = [] := List.length_eq_zero_iff.mp hu
  subst e
  exact .of_eq (h kV doc pm an cdv ct ws hw)
theorem kb_swap {x qual a b : Str} {st : Stmt} {f : Addr} {fd : FuncData} (F : Fun K x qual st f fd)
    (h : ∀ (kV doc pm : Value) (an : Option Addr) (cdv ct : Value) (u v : Value), bindArgs (PySem.W.fnOf x qual (defArgs st) (defBody st) (defScope st) .none kV doc pm an cdv ct) ⟨[], [(b, u), (a, v)]⟩ = pure [(a, v), (b, u)]) :
    KBn K fd [a, b] 0 [b, a] (fun _ ws => ws.reverse) (fun _ zs => zs.reverse) := by
  obtain ⟨oc, od, kV, doc, pm, an, cdv, ct, osl, rfl, lk, hcd⟩ := F.ex
  refine ⟨fun s us ws _ hu hw => ?_, fun _ r => vals_rev r⟩
  have e : us = [] := List.length_eq_zero_iff.mp hu
  subst e
  match ws, hw with
  | [u, v], _ => exact .of_eq (h kV doc pm an cdv ct u v)
end
section
variable {P : Program} {w : World} {K : PySem.W.Frag} {mg : Str → Option Value} {base : Heap} {C D : Addr}
theorem TabAt.sameT {H H' : Hp} {a : Addr} {sz : Int} {f : Int → Int → Int} (h : TabAt H a sz f) (s : SameT H H') : TabAt H' a sz f := by
  obtain ⟨vs, e, l, r⟩ := h
  refine ⟨vs, s _ _ e, l, fun j hj => ?_⟩
  obtain ⟨b, e1, e2⟩ := r j hj
  exact ⟨b, e1, s _ _ e2⟩
theorem rd_make2 {n : Int} {a : Addr} {xs : List V} {l : List Tr} {H : Hp} {R : VK} {x dx : Addr} (hn : 0 ≤ n) (hB : SqB K H a xs) (hx : TrV H xs l) (hv : ∀ t ∈ l, Vld n t) (hl : l.length ≤ 1000) (nx : H x = none) (nd : H dx = none) (ne : dx ≠ x)
    (q : ∀ H' cs, Same H H' → LotAt C H' x n cs → IsNorm l cs → R .non H') : spInit K C (.ref x :: ([.int n, .ref a] ++ [])) (upd (upd H dx (.own x)) x (.ins C dx [])) R E0 := by
  have h := rd_make (C := C) (Q := fun v H' => v = V.ref x → R .non H') hn hB hx hv hl (fun H' y cs s hL hN e => by cases e; exact q H' cs s hL hN) x dx nx nd ne
  obtain ⟨p, dx', n', a', xs', l', e, h1, h2, h3, h4, h5, h6, h7⟩ := h
  exact ⟨p, dx', n', a', xs', l', e, h1, h2, h3, h4, h5, h6, fun H' c r k1 k2 k3 k4 => (h7 H' c r k1 k2 k3 k4).2 rfl⟩
theorem norm_nil {r : List Tr} (h : IsNorm [] r) : r = [] := List.eq_nil_of_length_eq_zero (Nat.le_zero.mp h.len)
theorem good_nil (n : Int) : Good n [] := ⟨List.Pairwise.nil, fun e he => by cases he⟩
theorem digs1 {ds : List Int} {a : Int} (h : Digs ds [a]) : ∃ w, ds = [w] ∧ 0 ≤ w ∧ w < a := by
  have hl := h.1
  match ds, hl with
  | [w], _ => exact ⟨w, rfl, h.2 0 w a rfl rfl⟩
def spLaw (K : PySem.W.Frag) : Sp := fun vs H Q _ => ∃ (l : Addr) (ns : List Int), vs = [.ref l] ∧ SqL K H l (ns.map V.int) ∧ ns.length ≤ 1000 ∧ ∀ H', Q (.bl true) H'
set_option maxHeartbeats 0 in
theorem ok_law {f : Addr} {fd : FuncData} (F : Fun K "law" "law" s_law f fd) (T : Bi mg) (L : LotC K mg C)
    {f_c : Addr} {d_c : FuncData} (D_c : Df K mg "_law_cell" s__law_cell ["_law_script", "_law_k"] f_c d_c) (G_c : FnOk P w K mg base CX0 1 f_c d_c ["_law_script", "_law_k"] (spCell K))
    {f_p : Addr} {d_p : FuncData} (D_p : Df K mg "_law_pins" s__law_pins ["_law_cell_here"] f_p d_p) (G_p : FnOk P w K mg base CX0 2 f_p d_p ["_law_cell_here"] (spPins K))
    {f_d : Addr} {d_d : FuncData} (D_d : Df K mg "_law_digits" s__law_digits ["_law_cell_here", "_law_sizes"] f_d d_d) (G_d : FnOk P w K mg base CX0 1 f_d d_d ["_law_cell_here", "_law_sizes"] (spDigs K))
    {f_l : Addr} {d_l : FuncData} (D_l : Df K mg "_law_lot" s__law_lot ["_law_script", "_law_start", "_law_count", "_law_pins_here"] f_l d_l) (G_l : FnOk P w K mg base CX0 2 f_l d_l ["_law_script", "_law_start", "_law_count", "_law_pins_here"] (spLLot K))
    {f_tb : Addr} {d_tb : FuncData} (D_tb : Df K mg "_law_table" s__law_table ["_law_pins_here", "_law_bunch"] f_tb d_tb) (G_tb : FnOk P w K mg base CX0 1 f_tb d_tb ["_law_pins_here", "_law_bunch"] spLTab)
    {f_le : Addr} {d_le : FuncData} (D_le : Df K mg "_law_led" s__law_led ["_law_bunch", "_law_pins_here", "_law_cell_here", "_law_extra"] f_le d_le) (G_le : FnOk P w K mg base CX0 3 f_le d_le ["_law_bunch", "_law_pins_here", "_law_cell_here", "_law_extra"] spLed)
    {f_pr : Addr} {d_pr : FuncData} (D_pr : Df K mg "_law_pair" s__law_pair ["_law_lots", "_law_pins_here", "_law_bunch", "_law_tables", "_law_i", "_law_j"] f_pr d_pr) (G_pr : FnOk P w K mg base CX0 7 f_pr d_pr ["_law_lots", "_law_pins_here", "_law_bunch", "_law_tables", "_law_i", "_law_j"] (spPair C))
    {f_un : Addr} {d_un : FuncData} (D_un : Df K mg "_law_unlike" s__law_unlike ["_law_thing", "_law_strange", "_law_pins_here", "_law_far", "_law_kind"] f_un d_un) (G_un : FnOk P w K mg base CX0 7 f_un d_un ["_law_thing", "_law_strange", "_law_pins_here", "_law_far", "_law_kind"] (spUnl C))
    {f_li : Addr} {d_li : FuncData} (D_li : Df K mg "_law_lot_is" s__law_lot_is ["_law_thing", "_law_pins_here", "_law_bunch"] f_li d_li) (G_li : FnOk P w K mg base CX0 5 f_li d_li ["_law_thing", "_law_pins_here", "_law_bunch"] (spLotIs C))
    {f_lb : Addr} {d_lb : FuncData} (D_lb : Df K mg "_law_bar" s__law_bar ["_law_held", "_law_wished"] f_lb d_lb) (G_lb : FnOk P w K mg base CX0 1 f_lb d_lb ["_law_held", "_law_wished"] spLBar)
    {f_lo : Addr} {d_lo : FuncData} (D_lo : Df K mg "_law_odd" s__law_odd ["_law_pins_here", "_law_one", "_law_two"] f_lo d_lo) (G_lo : FnOk P w K mg base CX0 2 f_lo d_lo ["_law_pins_here", "_law_one", "_law_two"] spLOdd)
    {f_s : Addr} {d_s : FuncData} (D_s : Df K mg "_law_same" s__law_same ["_law_value", "_law_due"] f_s d_s) (G_s2 : FnOk P w K mg base CX0 4 f_s d_s ["_law_value", "_law_due"] (spSame 2))
    {f_br : Addr} {d_br : FuncData} (D_br : Df K mg "bar" s_bar ["lot", "wishes"] f_br d_br) (G_br : FnOk P w K mg base (L2N.CX P w) 5 f_br d_br ["lot", "wishes"] (spBarX C D))
    {f_od : Addr} {d_od : FuncData} (D_od : Df K mg "odd" s_odd ["lot", "wishes"] f_od d_od) (G_od : FnOk P w K mg base (L2N.CX P w) 5 f_od d_od ["lot", "wishes"] (spOddX C D))
    {z f_i : Addr} {d_i : FuncData} (M_i : Mk K C f_i) (b_i : Binds K d_i ["self", "pins", "cords"] []) (b_1 : Binds K d_i ["self", "pins", "cords"] [.ref z]) (hz : ∀ H, SqT K H z []) (G_i : GI P w K mg base C f_i d_i) : FnOk P w K mg base CX0 9 f fd ["_law_script"] (spLaw K) := by
  have K_br := kb_same (ps := ["lot", "wishes"]) D_br.F fun _ _ _ _ _ _ ws hl => match ws, hl with | [_, _], _ => rfl
  have K_od := kb_swap (a := "lot") (b := "wishes") D_od.F fun _ _ _ _ _ _ _ _ => rfl
  refine F.ok sc_law (fun vs H Q E h => ?_) (fun cdv A outer s H vs Q E hr h => ?_)
  · obtain ⟨l, ns, rfl, _⟩ := h
    rfl
  · obtain ⟨l, ns, rfl, hs, hn, q⟩ := h
    obtain ⟨tZ, hZ, qZ⟩ : ∃ tR, PSs (cxOf CX0 P w K mg base ["_law_script", "_law_pins_here", "_law_held", "_law_kind", "_law_wished", "_law_third", "_law_bunch", "_law_lots", "_law_tables", "_law_i", "_law_far", "_law_strange", "_law_k", "_law_j", "_law_row"] "law" (defScope s_law) f cdv A outer s H E).nox ((defBody s_law).drop 13) tR ∧ ∀ (n kd : Int) (cs : Nat → List Tr) (Lp Bp Tp : Addr) (p c t : Nat → Addr) (y9 y10 y11 y12 y13 : Option V) (H0 : Hp), Tg n cs → Tri C n Lp Bp Tp p c t cs H0 → tR { nx := fun _ H' => Q .non H', rt := Q } [some (.ref l), some (.int n), some (.ref (c 0)), some (.int kd), some (.ref (c 1)), some (.ref (c 2)), some (.ref Bp), some (.ref Lp), some (.ref Tp), y9, y10, y11, y12, y13, none] H0 := by
      refine ⟨_, (pss_cons (ps_for PassesOwn.never rfl (pi_range1 (by rfl) T.b_range (pa_cons pe_int pa_nil)) (pg_name (i := 12) sc_law.nd rfl (.inl rfl))
        (pss_one (ps_if (pt_not (pt_val (pe_call G_li (hr.mono (by decide)) (by rfl) D_li.g D_li.F.kp D_li.b .nil pass0 (pa_cons (pe_ix (r := rIxL K) ix_list (pv 7) (pv 12) (fun _ _ => rfl)) (pa_cons (pv 1) (pa_cons (pe_ix (r := rIxL K) ix_list (pv 6) (pv 12) (fun _ _ => rfl)) pa_nil)))))) (pss_one (ps_ret pe_bl)) pss_nil)))
        (pss_cons (ps_if (PW.pt (pw_or (pt_not (pt_val (pe_call G_pr (hr.mono (by decide)) (by rfl) D_pr.g D_pr.F.kp D_pr.b .nil pass0 (pa_cons (pv 7) (pa_cons (pv 1) (pa_cons (pv 6) (pa_cons (pv 8) (pa_cons pe_int (pa_cons pe_int pa_nil))))))))) (pw_or1 (pt_not (pt_val (pe_call G_pr (hr.mono (by decide)) (by rfl) D_pr.g D_pr.F.kp D_pr.b .nil pass0 (pa_cons (pv 7) (pa_cons (pv 1) (pa_cons (pv 6) (pa_cons (pv 8) (pa_cons pe_int (pa_cons pe_int pa_nil)))))))))))) (pss_one (ps_ret pe_bl)) pss_nil)
        (pss_cons (ps_if (pt_not (pt_val (pe_call G_s2 (hr.mono (by decide)) (by rfl) D_s.g D_s.F.kp D_s.b .nil pass0 (pa_cons (pe_callK0 G_br (hr.mono (by decide)) (by rfl) D_br.g D_br.F.kp K_br passN (pk_cons (pe_ix (r := rIxL K) ix_list (pv 7) pe_int (fun _ _ => rfl)) (pk_cons (pe_ix (r := rIxL K) ix_list (pv 7) pe_int (fun _ _ => rfl)) pk_nil))) (pa_cons (pe_call G_lb (hr.mono (by decide)) (by rfl) D_lb.g D_lb.F.kp D_lb.b .nil pass0 (pa_cons (pe_ix (r := rIxL K) ix_list (pv 8) pe_int (fun _ _ => rfl)) (pa_cons (pe_ix (r := rIxL K) ix_list (pv 8) pe_int (fun _ _ => rfl)) pa_nil))) pa_nil))))) (pss_one (ps_ret pe_bl)) pss_nil)
        (pss_one (ps_ret (pe_call G_s2 (hr.mono (by decide)) (by rfl) D_s.g D_s.F.kp D_s.b .nil pass0 (pa_cons (pe_callK0 G_od (hr.mono (by decide)) (by rfl) D_od.g D_od.F.kp K_od passN (pk_cons (pe_ix (r := rIxL K) ix_list (pv 7) pe_int (fun _ _ => rfl)) (pk_cons (pe_ix (r := rIxL K) ix_list (pv 7) pe_int (fun _ _ => rfl)) pk_nil))) (pa_cons (pe_call G_lo (hr.mono (by decide)) (by rfl) D_lo.g D_lo.F.kp D_lo.b .nil pass0 (pa_cons (pv 1) (pa_cons (pv 2) (pa_cons (pv 4) pa_nil)))) pa_nil)))))))), ?_⟩
      intro n kd cs Lp Bp Tp p c t y9 y10 y11 y12 y13 H0 G W
      have n0 := G.n0
      have n1 := G.n1
      have hh := hi_in n0 (show n ≤ 1000 by omega)
      refine ⟨3, rfl, by decide, by decide, for_range (lo := 0) (n := 3) (fun i σ H2 => (∃ y12, σ = [some (.ref l), some (.int n), some (.ref (c 0)), some (.int kd), some (.ref (c 1)), some (.ref (c 2)), some (.ref Bp), some (.ref Lp), some (.ref Tp), y9, y10, y11, y12, y13, none]) ∧ Tri C n Lp Bp Tp p c t cs H2) ⟨⟨_, rfl⟩, W⟩ (fun i σ H2 hi pv => ?_) (fun σ H2 pv => ?_)⟩
      · obtain ⟨⟨y12, rfl⟩, W⟩ := pv
        rw [Int.zero_add]
        refine ⟨_, rfl, _, rfl, Lp, _, _, _, rfl, rfl, .inl (.inl W.eL), tri_at p hi, _, rfl, _, rfl, _, rfl, Bp, _, _, _, rfl, rfl, .inl (.inl W.eB), tri_at c hi, p i, n, c i, cs i, rfl, W.lot i hi, W.trip i hi, Nat.le_trans (G.l i hi) (by decide), true, rfl, ?_⟩
        exact ⟨⟨_, rfl⟩, W⟩
      · obtain ⟨⟨y12, rfl⟩, W⟩ := pv
        refine ⟨_, rfl, _, rfl, _, rfl, _, rfl, Lp, Bp, Tp, n, 0, 1, p, c, t, cs, rfl, by decide, by decide, G, W, fun H3 s3 => ⟨true, rfl, ?_⟩⟩
        replace W := W.same s3
        refine ⟨_, rfl, _, rfl, _, rfl, _, rfl, Lp, Bp, Tp, n, 1, 0, p, c, t, cs, rfl, by decide, by decide, G, W, fun H4 s4 => ⟨true, rfl, ?_⟩⟩
        replace W := W.same s4
        refine ⟨_, rfl, Lp, _, 0, _, rfl, rfl, .inl (.inl W.eL), tri_at p (i := 0) (by decide), _, rfl, Lp, _, 1, _, rfl, rfl, .inl (.inl W.eL), tri_at p (i := 1) (by decide), rfl, rfl, p 0, p 1, n, n, cs 0, cs 1, rfl, W.lot 0 (by decide), W.lot 1 (by decide), G.two (by decide) (by decide), fun _ => fun H5 x r s5 hb hx => ?_, Unl.eq⟩
        replace W := W.same s5
        refine ⟨_, rfl, Tp, _, 0, _, rfl, rfl, .inl (.inl W.eT), tri_at t (i := 0) (by decide), _, rfl, Tp, _, 1, _, rfl, rfl, .inl (.inl W.eT), tri_at t (i := 1) (by decide), hi n 1, t 0, t 1, _, _, rfl, hh.1, hh.2, W.tab 0 (by decide), W.tab 1 (by decide), fun H6 x6 r6 s6 hb6 hx6 => ?_⟩
        obtain rfl := bar_uniq hb hb6
        replace W := W.same s6
        refine ⟨_, _, rfl, ((hx.same s6).eqv hx6).up, true, rfl, ?_⟩
        refine ⟨_, rfl, Lp, _, 1, _, rfl, rfl, .inl (.inl W.eL), tri_at p (i := 1) (by decide), _, rfl, Lp, _, 0, _, rfl, rfl, .inl (.inl W.eL), tri_at p (i := 0) (by decide), rfl, rfl, p 0, p 1, n, n, cs 0, cs 1, rfl, W.lot 0 (by decide), W.lot 1 (by decide), G.two (by decide) (by decide), fun _ => fun H7 x7 s7 hx7 => ?_, Unl.eq⟩
        replace W := W.same s7
        refine ⟨_, rfl, _, rfl, _, rfl, n, c 0, c 1, cs 0, cs 1, rfl, n0, by omega, W.trip 0 (by decide), W.trip 1 (by decide), fun H8 x8 s8 hx8 => ?_⟩
        exact ⟨_, _, rfl, (EqV.ints (s8 _ _ hx7) hx8 (odds_len (by omega))).up, q _⟩
    obtain ⟨tY, hY, qY⟩ : ∃ tR, PSs (cxOf CX0 P w K mg base ["_law_script", "_law_pins_here", "_law_held", "_law_kind", "_law_wished", "_law_third", "_law_bunch", "_law_lots", "_law_tables", "_law_i", "_law_far", "_law_strange", "_law_k", "_law_j", "_law_row"] "law" (defScope s_law) f cdv A outer s H E).nox ((defBody s_law).drop 12) tR ∧ ∀ (n kd : Int) (cs : Nat → List Tr) (Lp Bp Tp : Addr) (p c t : Nat → Addr) (y9 : Option V) (m : Int) (sx : Addr) (es : List Tr) (y12 y13 : Option V) (H0 : Hp), Tg n cs → Tri C n Lp Bp Tp p c t cs H0 → LotAt C H0 sx m es → Good m es → 0 ≤ m → m ≤ 40 → n ≠ m → tR { nx := fun _ H' => Q .non H', rt := Q } [some (.ref l), some (.int n), some (.ref (c 0)), some (.int kd), some (.ref (c 1)), some (.ref (c 2)), some (.ref Bp), some (.ref Lp), some (.ref Tp), y9, some (.int m), some (.ref sx), y12, y13, none] H0 := by
      refine ⟨_, (pss_cons (ps_for PassesOwn.never rfl (pi_range1 (by rfl) T.b_range (pa_cons pe_int pa_nil)) (pg_name (i := 12) sc_law.nd rfl (.inl rfl))
        (pss_cons (ps_if (PW.pt (pw_or (pt_not (pt_val (pe_call G_un (hr.mono (by decide)) (by rfl) D_un.g D_un.F.kp D_un.b .nil pass0 (pa_cons (pe_ix (r := rIxL K) ix_list (pv 7) pe_int (fun _ _ => rfl)) (pa_cons (pv 11) (pa_cons (pv 1) (pa_cons (pv 10) (pa_cons (pv 12) pa_nil)))))))) (pw_or1 (pt_not (pt_val (pe_call G_un (hr.mono (by decide)) (by rfl) D_un.g D_un.F.kp D_un.b .nil pass0 (pa_cons (pv 11) (pa_cons (pe_ix (r := rIxL K) ix_list (pv 7) pe_int (fun _ _ => rfl)) (pa_cons (pv 10) (pa_cons (pv 1) (pa_cons (pv 12) pa_nil))))))))))) (pss_one (ps_ret pe_bl)) pss_nil)
        (pss_one (ps_if (PW.pt (pw_or (pt_not (pt_val (pe_call G_un (hr.mono (by decide)) (by rfl) D_un.g D_un.F.kp D_un.b .nil pass0 (pa_cons (pe_make M_i G_i (hr.mono (by decide)) (by rfl) L.g b_1 (show Vals [V.ref z] [Value.ref z] from .cons rfl .nil) pass0 (pa_cons (pv 1) pa_nil)) (pa_cons (pe_make M_i G_i (hr.mono (by decide)) (by rfl) L.g b_1 (show Vals [V.ref z] [Value.ref z] from .cons rfl .nil) pass0 (pa_cons (pv 10) pa_nil)) (pa_cons (pv 1) (pa_cons (pv 10) (pa_cons (pv 12) pa_nil)))))))) (pw_or1 (pt_not (pt_val (pe_call G_un (hr.mono (by decide)) (by rfl) D_un.g D_un.F.kp D_un.b .nil pass0 (pa_cons (pe_make M_i G_i (hr.mono (by decide)) (by rfl) L.g b_1 (show Vals [V.ref z] [Value.ref z] from .cons rfl .nil) pass0 (pa_cons (pv 10) pa_nil)) (pa_cons (pe_ix (r := rIxL K) ix_list (pv 7) pe_int (fun _ _ => rfl)) (pa_cons (pv 10) (pa_cons (pv 1) (pa_cons (pv 12) pa_nil))))))))))) (pss_one (ps_ret pe_bl)) pss_nil))))
        hZ), ?_⟩
      intro n kd cs Lp Bp Tp p c t y9 m sx es y12 y13 H0 G W hS hE m0 m1 hne
      have n0 := G.n0
      have n1 := G.n1
      have nen : m ≠ n := fun z => hne z.symm
      refine ⟨3, rfl, by decide, by decide, for_range (lo := 0) (n := 3) (fun i σ H2 => (∃ y12, σ = [some (.ref l), some (.int n), some (.ref (c 0)), some (.int kd), some (.ref (c 1)), some (.ref (c 2)), some (.ref Bp), some (.ref Lp), some (.ref Tp), y9, some (.int m), some (.ref sx), y12, y13, none]) ∧ Tri C n Lp Bp Tp p c t cs H2 ∧ LotAt C H2 sx m es) ⟨⟨_, rfl⟩, W, hS⟩ (fun i σ H2 hi pv => ?_) (fun σ H2 pv => ?_)⟩
      · obtain ⟨⟨y12, rfl⟩, W, hS⟩ := pv
        rw [Int.zero_add]
        refine ⟨_, rfl, Lp, _, 0, _, rfl, rfl, .inl (.inl W.eL), tri_at p (i := 0) (by decide), _, rfl, _, rfl, _, rfl, _, rfl, p 0, sx, n, m, (i : Int), cs 0, es, rfl, W.lot 0 (by decide), hS, ⟨n0, by omega, m0, by omega, G.g 0 (by decide), hE⟩, hne, fun H3 s3 => ⟨true, rfl, ?_⟩⟩
        replace W := W.same s3
        replace hS := hS.same s3
        refine ⟨_, rfl, _, rfl, Lp, _, 1, _, rfl, rfl, .inl (.inl W.eL), tri_at p (i := 1) (by decide), _, rfl, _, rfl, _, rfl, sx, p 1, m, n, (i : Int), es, cs 1, rfl, hS, W.lot 1 (by decide), ⟨m0, by omega, n0, by omega, hE, G.g 1 (by decide)⟩, nen, fun H4 s4 => ⟨true, rfl, ?_⟩⟩
        replace W := W.same s4
        replace hS := hS.same s4
        refine ⟨_, rfl, ?_⟩
        refine fun x dx nx nd ne => rd_make2 (C := C) (l := []) (xs := []) n0 (.inr (hz _)) TrV.nil (by simp) (Nat.zero_le _) nx nd ne fun H5 r5 s5 hx5 hN5 => ⟨rfl, ?_⟩
        obtain rfl : r5 = [] := norm_nil hN5
        replace W := W.same s5
        replace hS := hS.same s5
        refine ⟨_, rfl, ?_⟩
        refine fun y dy nx nd ne2 => rd_make2 (C := C) (l := []) (xs := []) m0 (.inr (hz _)) TrV.nil (by simp) (Nat.zero_le _) nx nd ne2 fun H6 r6 s6 hx6 hN6 => ⟨rfl, ?_⟩
        obtain rfl : r6 = [] := norm_nil hN6
        replace W := W.same s6
        replace hS := hS.same s6
        refine ⟨_, rfl, _, rfl, _, rfl, x, y, n, m, (i : Int), [], [], rfl, hx5.same s6, hx6, ⟨n0, by omega, m0, by omega, good_nil n, good_nil m⟩, hne, fun H7 s7 => ⟨true, rfl, ?_⟩⟩
        replace W := W.same s7
        replace hS := hS.same s7
        refine ⟨_, rfl, ?_⟩
        refine fun v dv nx nd ne2 => rd_make2 (C := C) (l := []) (xs := []) m0 (.inr (hz _)) TrV.nil (by simp) (Nat.zero_le _) nx nd ne2 fun H8 r8 s8 hx8 hN8 => ⟨rfl, ?_⟩
        obtain rfl : r8 = [] := norm_nil hN8
        replace W := W.same s8
        replace hS := hS.same s8
        refine ⟨_, rfl, Lp, _, 2, _, rfl, rfl, .inl (.inl W.eL), tri_at p (i := 2) (by decide), _, rfl, _, rfl, _, rfl, v, p 2, m, n, (i : Int), [], cs 2, rfl, hx8, W.lot 2 (by decide), ⟨m0, by omega, n0, by omega, good_nil m, G.g 2 (by decide)⟩, nen, fun H9 s9 => ⟨true, rfl, ?_⟩⟩
        exact ⟨⟨_, rfl⟩, W.same s9, hS.same s9⟩
      · obtain ⟨⟨y12, rfl⟩, W, hS⟩ := pv
        exact qZ n kd cs Lp Bp Tp p c t _ _ _ _ _ H2 G W
    obtain ⟨tX, hX, qX⟩ : ∃ tR, PSs (cxOf CX0 P w K mg base ["_law_script", "_law_pins_here", "_law_held", "_law_kind", "_law_wished", "_law_third", "_law_bunch", "_law_lots", "_law_tables", "_law_i", "_law_far", "_law_strange", "_law_k", "_law_j", "_law_row"] "law" (defScope s_law) f cdv A outer s H E).nox ((defBody s_law).drop 10) tR ∧ ∀ (n kd : Int) (cs : Nat → List Tr) (Lp Bp Tp : Addr) (p c t : Nat → Addr) (y9 y10 y11 y12 y13 : Option V) (H0 : Hp), Tg n cs → Tri C n Lp Bp Tp p c t cs H0 → SqL K H0 l (ns.map V.int) → tR { nx := fun _ H' => Q .non H', rt := Q } [some (.ref l), some (.int n), some (.ref (c 0)), some (.int kd), some (.ref (c 1)), some (.ref (c 2)), some (.ref Bp), some (.ref Lp), some (.ref Tp), y9, y10, y11, y12, y13, none] H0 := by
      refine ⟨_, (pss_cons (ps_set (i := 10) sc_law.nd rfl (.inl rfl) (pe_op op_mod (pe_callTy call_int1 (by rfl) T.b_int (by decide +kernel) (pa_cons (pe_op op_add (pe_op op_add (pv 1) pe_int) (pe_op op_mod (pe_callTy call_int1 (by rfl) T.b_int (by decide +kernel) (pa_cons (pe_call G_c (hr.mono (by decide)) (by rfl) D_c.g D_c.F.kp D_c.b .nil pass0 (pa_cons (pv 0) (pa_cons pe_int pa_nil))) pa_nil)) pe_int)) pa_nil)) pe_int))
        (pss_cons (ps_set (i := 11) sc_law.nd rfl (.inl rfl) (pe_make M_i G_i (hr.mono (by decide)) (by rfl) L.g b_i .nil pass0 (pa_cons (pv 10) (pa_cons (pe_slice sl_list (pe_lst (pa_cons (pe_tup (pa_cons pe_int (pa_cons pe_int (pa_cons pe_int pa_nil)))) pa_nil)) po_none (po_some (pe_callTy call_int1 (by rfl) T.b_int (by decide +kernel) (pa_cons (pe_cmpR op_ge (pv 10) pe_int (nomark _)) pa_nil)))) pa_nil))))
        hY)), ?_⟩
      intro n kd cs Lp Bp Tp p c t y9 y10 y11 y12 y13 H0 G W hs
      have n0 := G.n0
      have n1 := G.n1
      refine ⟨_, rfl, _, _, rfl, rfl, _, rfl, l, ns, 7, rfl, hs, by decide, hn, fun c7 => .inl ⟨_, rfl, _, _, rfl, rfl, by show (0 : Int) < 40; decide, _, _, rfl, rfl, .inl ⟨_, rfl, _, _, rfl, rfl, by show (0 : Int) < 41; decide, ?_⟩⟩⟩
      have m0 : 0 ≤ (n + 1 + c7 % 40) % 41 := by omega
      have m1 : (n + 1 + c7 % 40) % 41 ≤ 40 := by omega
      have hne : n ≠ (n + 1 + c7 % 40) % 41 := by omega
      generalize hm : (n + 1 + c7 % 40) % 41 = m at m0 m1 hne ⊢
      show (tSeq _ _) _ [some (.ref l), some (.int n), some (.ref (c 0)), some (.int kd), some (.ref (c 1)), some (.ref (c 2)), some (.ref Bp), some (.ref Lp), some (.ref Tp), y9, some (.int ((n + 1 + c7 % 40) % 41)), y11, y12, y13, none] _
      rw [hm]
      refine ⟨_, rfl, by show 3 ≤ sizeLine; decide, fun t1 nt1 => ⟨by show 1 ≤ sizeLine; decide, fun l1 nl1 => ⟨_, rfl, _, _, rfl, rfl, .inr ⟨_, rfl, _, rfl, l1, _, rfl, .inl (.inl upd_same), fun v nv => ?_⟩⟩⟩⟩
      have k1 := same_upd (o := .tup [.int 0, .int 1, .int 1]) nt1
      have k2 := same_upd (o := .lst [.ref t1]) nl1
      have hcut : ∀ b : Bool, cutV [V.ref t1] none (some (if b = true then 1 else 0)) = if b = true then [V.ref t1] else [] := fun b => by cases b <;> rfl
      rw [hcut]
      have k3 := same_upd (o := .lst (if decide (2 ≤ m) = true then [V.ref t1] else [])) nv
      have et := (k2.trans k3) _ _ (upd_same (H := H0) (a := t1) (o := .tup [.int 0, .int 1, .int 1]))
      have kA := (k1.trans k2).trans k3
      have htv : ∀ {H' : Hp}, H' t1 = some (.tup [.int 0, .int 1, .int 1]) → TrV H' (if decide (2 ≤ m) = true then [V.ref t1] else []) (if decide (2 ≤ m) = true then [(0, 1, 1)] else []) := fun {H'} e => by
        cases decide (2 ≤ m) with
        | true => exact TrV.nil.snoc e
        | false => exact TrV.nil
      have hvl : ∀ t ∈ (if decide (2 ≤ m) = true then [((0 : Int), (1 : Int), (1 : Int))] else []), Vld m t := fun t ht => by
        by_cases h2 : 2 ≤ m
        · rw [decide_eq_true h2, if_pos rfl, List.mem_singleton] at ht
          subst ht
          unfold Vld
          simp
          omega
        · rw [decide_eq_false h2] at ht
          cases ht
      have hln : (if decide (2 ≤ m) = true then [((0 : Int), (1 : Int), (1 : Int))] else []).length ≤ 1000 := by
        cases decide (2 ≤ m) <;> decide
      refine fun x dx nx nd ne => rd_make2 (C := C) m0 (.inl (.inl (.inl upd_same))) (htv et) hvl hln nx nd ne fun H1 r s1 hL hN => ⟨rfl, ?_⟩
      exact qY n kd cs Lp Bp Tp p c t y9 m x r y12 y13 H1 G (W.same (kA.trans s1)) hL (hN.good hvl) m0 m1 hne
    obtain ⟨tW, hW, qW⟩ : ∃ tR, PSs (cxOf CX0 P w K mg base ["_law_script", "_law_pins_here", "_law_held", "_law_kind", "_law_wished", "_law_third", "_law_bunch", "_law_lots", "_law_tables", "_law_i", "_law_far", "_law_strange", "_law_k", "_law_j", "_law_row"] "law" (defScope s_law) f cdv A outer s H E).nox ((defBody s_law).drop 9) tR ∧ ∀ (n kd : Int) (cs : Nat → List Tr) (Lp Bp Tp : Addr) (p c t : Nat → Addr) (y9 y10 y11 y12 y13 : Option V) (H0 : Hp), Tg n cs → Tri C n Lp Bp Tp p c t cs H0 → SqL K H0 l (ns.map V.int) → tR { nx := fun _ H' => Q .non H', rt := Q } [some (.ref l), some (.int n), some (.ref (c 0)), some (.int kd), some (.ref (c 1)), some (.ref (c 2)), some (.ref Bp), some (.ref Lp), some (.ref Tp), y9, y10, y11, y12, y13, none] H0 := by
      refine ⟨_, (pss_cons (ps_for PassesOwn.never rfl (pi_range1 (by rfl) T.b_range (pa_cons pe_int pa_nil)) (pg_name (i := 9) sc_law.nd rfl (.inl rfl))
        (pss_one (ps_for PassesOwn.never rfl (pi_range1 (by rfl) T.b_range (pa_cons pe_int pa_nil)) (pg_name (i := 13) sc_law.nd rfl (.inl rfl))
        (pss_one (ps_if (pt_not (pt_val (pe_call G_pr (hr.mono (by decide)) (by rfl) D_pr.g D_pr.F.kp D_pr.b .nil pass0 (pa_cons (pv 7) (pa_cons (pv 1) (pa_cons (pv 6) (pa_cons (pv 8) (pa_cons (pv 9) (pa_cons (pv 13) pa_nil))))))))) (pss_one (ps_ret pe_bl)) pss_nil)))))
        hX), ?_⟩
      intro n kd cs Lp Bp Tp p c t y9 y10 y11 y12 y13 H0 G W hs
      refine ⟨3, rfl, by decide, by decide, for_range (lo := 0) (n := 3) (fun i σ H2 => (∃ y9 y13, σ = [some (.ref l), some (.int n), some (.ref (c 0)), some (.int kd), some (.ref (c 1)), some (.ref (c 2)), some (.ref Bp), some (.ref Lp), some (.ref Tp), y9, y10, y11, y12, y13, none]) ∧ Tri C n Lp Bp Tp p c t cs H2 ∧ SqL K H2 l (ns.map V.int)) ⟨⟨_, _, rfl⟩, W, hs⟩ (fun i σ H2 hi pv => ?_) (fun σ H2 pv => ?_)⟩
      · obtain ⟨⟨y9, y13, rfl⟩, W, hs⟩ := pv
        rw [Int.zero_add]
        refine ⟨3, rfl, by decide, by decide, for_range (lo := 0) (n := 3) (fun j σ H2 => (∃ y13, σ = [some (.ref l), some (.int n), some (.ref (c 0)), some (.int kd), some (.ref (c 1)), some (.ref (c 2)), some (.ref Bp), some (.ref Lp), some (.ref Tp), some (.int (i : Int)), y10, y11, y12, y13, none]) ∧ Tri C n Lp Bp Tp p c t cs H2 ∧ SqL K H2 l (ns.map V.int)) ⟨⟨_, rfl⟩, W, hs⟩ (fun j σ H2 hj pv => ?_) (fun σ H2 pv => ?_)⟩
        · obtain ⟨⟨y13, rfl⟩, W, hs⟩ := pv
          rw [Int.zero_add]
          refine ⟨_, rfl, _, rfl, _, rfl, _, rfl, _, rfl, _, rfl, Lp, Bp, Tp, n, i, j, p, c, t, cs, rfl, hi, hj, G, W, fun H3 s3 => ⟨true, rfl, ?_⟩⟩
          exact ⟨⟨_, rfl⟩, W.same s3, s3.seq hs⟩
        · obtain ⟨⟨y13, rfl⟩, W, hs⟩ := pv
          exact ⟨⟨_, _, rfl⟩, W, hs⟩
      · obtain ⟨⟨y9, y13, rfl⟩, W, hs⟩ := pv
        exact qX n kd cs Lp Bp Tp p c t _ _ _ _ _ H2 G W hs
    obtain ⟨tV, hV, qV⟩ : ∃ tR, PSs (cxOf CX0 P w K mg base ["_law_script", "_law_pins_here", "_law_held", "_law_kind", "_law_wished", "_law_third", "_law_bunch", "_law_lots", "_law_tables", "_law_i", "_law_far", "_law_strange", "_law_k", "_law_j", "_law_row"] "law" (defScope s_law) f cdv A outer s H E).nox ((defBody s_law).drop 6) tR ∧ ∀ (n kd : Int) (cs : Nat → List Tr) (c : Nat → Addr) (H0 : Hp), Tg n cs → (∀ k, k < 3 → Trip H0 (c k) (cs k)) → SqL K H0 l (ns.map V.int) → tR { nx := fun _ H' => Q .non H', rt := Q } [some (.ref l), some (.int n), some (.ref (c 0)), some (.int kd), some (.ref (c 1)), some (.ref (c 2)), none, none, none, none, none, none, none, none, none] H0 := by
      refine ⟨_, (pss_cons (ps_set (i := 6) sc_law.nd rfl (.inl rfl) (pe_lst (pa_cons (pv 2) (pa_cons (pv 4) (pa_cons (pv 5) pa_nil)))))
        (pss_cons (ps_set (i := 7) sc_law.nd rfl (.inl rfl) (pe_lst (pa_cons (pe_make M_i G_i (hr.mono (by decide)) (by rfl) L.g b_i .nil pass0 (pa_cons (pv 1) (pa_cons (pv 2) pa_nil))) (pa_cons (pe_make M_i G_i (hr.mono (by decide)) (by rfl) L.g b_i .nil pass0 (pa_cons (pv 1) (pa_cons (pe_callTy call_list_of (by rfl) T.b_list (by decide +kernel) (pa_cons (pv 4) pa_nil)) pa_nil))) (pa_cons (pe_make M_i G_i (hr.mono (by decide)) (by rfl) L.g b_i .nil pass0 (pa_cons (pv 1) (pa_cons (pv 5) pa_nil))) pa_nil)))))
        (pss_cons (ps_setLc (i := 8) (own := [("_law_row", 14)]) (g := gName 14) (tt := tYes) rfl sc_law.nd rfl rfl (sw_true rfl rfl rfl (by decide +kernel)) (pi_list (pv 6)) (blkOk_by (own := [("_law_row", 14)]) (N := ["_law_script", "_law_pins_here", "_law_held", "_law_kind", "_law_wished", "_law_third", "_law_bunch", "_law_lots", "_law_tables", "_law_i", "_law_far", "_law_strange", "_law_k", "_law_j", "_law_row"]) (sc := defScope s_law) (by decide +kernel)) (fun _ _ _ _ _ => (pg_name (i := 14) sc_law.nd rfl (.inl rfl))) (fun _ _ _ _ _ => pts_nil) (fun _ _ _ _ _ => (pe_call G_tb (hr.mono (by decide)) (by rfl) D_tb.g D_tb.F.kp D_tb.b .nil pass0 (pa_cons (pv 1) (pa_cons (pv 14) pa_nil)))))
        hW))), ?_⟩
      intro n kd cs c H0 G ht hs
      have n0 := G.n0
      have n1 := G.n1
      refine ⟨_, rfl, _, rfl, _, rfl, by show 3 ≤ sizeLine; decide, fun Bp nB => ?_⟩
      have kB := same_upd (o := .lst (tri c)) nB
      have eB : upd H0 Bp (.lst (tri c)) Bp = some (.lst (tri c)) := upd_same
      show (tSeq _ _) _ [some (.ref l), some (.int n), some (.ref (c 0)), some (.int kd), some (.ref (c 1)), some (.ref (c 2)), some (.ref Bp), none, none, none, none, none, none, none, none] (upd H0 Bp (.lst (tri c)))
      generalize upd H0 Bp (.lst (tri c)) = HB at kB eB ⊢
      replace hs := kB.seq hs
      replace ht : ∀ k, k < 3 → Trip HB (c k) (cs k) := fun k h => (ht k h).same kB
      clear kB nB
      obtain ⟨v0, b0, w0⟩ := (ht 0 (by decide)).sq (K := K)
      refine ⟨_, rfl, _, rfl, ?_⟩
      refine fun x0 dx0 nx0 nd0 ne0 => rd_make2 (C := C) n0 b0 w0 (G.g 0 (by decide)).vld (Nat.le_trans (G.l 0 (by decide)) (by decide)) nx0 nd0 ne0 fun H_0 r0 s0 hL0 hN0 => ⟨rfl, ?_⟩
      obtain rfl : r0 = cs 0 := norm_uniq hN0 (G.g 0 (by decide)).self
      have ht0 : ∀ k, k < 3 → Trip H_0 (c k) (cs k) := fun k h => (ht k h).same s0
      obtain ⟨v1, e1, w1⟩ := ht0 1 (by decide)
      refine ⟨_, rfl, _, rfl, c 1, v1, rfl, .inr (.inl (.inl e1)), fun q1 nq1 => ?_⟩
      have kq := same_upd (o := .lst v1) nq1
      refine fun x1 dx1 nx1 nd1 ne1 => rd_make2 (C := C) n0 (.inl (.inl (.inl upd_same))) (w1.same kq) (G.g 1 (by decide)).vld (Nat.le_trans (G.l 1 (by decide)) (by decide)) nx1 nd1 ne1 fun H_1 r1 s1 hL1 hN1 => ⟨rfl, ?_⟩
      obtain rfl : r1 = cs 1 := norm_uniq hN1 (G.g 1 (by decide)).self
      have sb := (s0.trans kq).trans s1
      obtain ⟨v2, b2, w2⟩ := ((ht 2 (by decide)).same sb).sq (K := K)
      refine ⟨_, rfl, _, rfl, ?_⟩
      refine fun x2 dx2 nx2 nd2 ne2 => rd_make2 (C := C) n0 b2 w2 (G.g 2 (by decide)).vld (Nat.le_trans (G.l 2 (by decide)) (by decide)) nx2 nd2 ne2 fun H_2 r2 s2 hL2 hN2 => ⟨rfl, ?_⟩
      obtain rfl : r2 = cs 2 := norm_uniq hN2 (G.g 2 (by decide)).self
      have sc := sb.trans s2
      have lot : ∀ k, k < 3 → LotAt C H_2 ((fun k => if k = 0 then x0 else if k = 1 then x1 else x2) k) n (cs k) := fun k h => by
        have : k = 0 ∨ k = 1 ∨ k = 2 := by omega
        rcases this with rfl | rfl | rfl
        · exact ((hL0.same kq).same s1).same s2
        · exact hL1.same s2
        · exact hL2
      generalize hp : (fun k : Nat => if k = 0 then x0 else if k = 1 then x1 else x2) = p at lot
      have ep : [V.ref x0, .ref x1, .ref x2] = tri p := by rw [← hp]; rfl
      refine ⟨by show 3 ≤ sizeLine; decide, fun Lp nL => ?_⟩
      rw [ep]
      have kL := same_upd (o := .lst (tri p)) nL
      have eL : upd H_2 Lp (.lst (tri p)) Lp = some (.lst (tri p)) := upd_same
      generalize upd H_2 Lp (.lst (tri p)) = HL at kL eL ⊢
      have sd := sc.trans kL
      replace eB := sd _ _ eB
      replace hs := sd.seq hs
      replace ht : ∀ k, k < 3 → Trip HL (c k) (cs k) := fun k h => (ht k h).same sd
      replace lot : ∀ k, k < 3 → LotAt C HL (p k) n (cs k) := fun k h => (lot k h).same kL
      clear hL0 hL1 hL2 hN0 hN1 hN2 nL kL kq nq1 sb sc sd s0 s1 s2 ht0 e1 w1 b0 w0 b2 w2 hp ep
      refine ⟨_, rfl, Bp, rfl, ⟨_, .inl (.inl eB)⟩, fun O hO => ?_⟩
      refine lc_list (K := K) (a := Bp) (xs := tri c) (fun i H4 => Same HL H4 ∧ ∃ us : List Addr, H4 O = some (.lst (us.map V.ref)) ∧ us.length = i ∧ ∀ (k : Nat) (u : Addr), us[k]? = some u → TabAt H4 u (hi n 1) (tabE (cs k))) ⟨same_upd hO, [], upd_same, rfl, by simp⟩ (fun i H4 _ pv => .inl (.inl (pv.1 _ _ eB))) (fun i x H4 hxi pv => ?_) (fun H4 pv => ?_)
      · obtain ⟨s4, us, eO, hu, tb⟩ := pv
        have hi3 : i < 3 := (List.getElem?_eq_some_iff.mp hxi).1
        have hx : x = .ref (c i) := by
          have : i = 0 ∨ i = 1 ∨ i = 2 := by omega
          rcases this with rfl | rfl | rfl <;> exact (Option.some.inj hxi).symm
        subst hx
        refine ⟨rfl, ?_⟩
        refine ⟨_, rfl, _, rfl, n, c i, cs i, rfl, n0, by omega, (ht i hi3).same s4, G.g i hi3, Nat.le_trans (G.l i hi3) (by decide), fun H5 u s5 h5 => ?_⟩
        have eO5 := s5 _ _ eO
        refine ⟨_, eO5, ?_, same_put (H1 := HL) hO (s4.trans s5), us ++ [u], ?_, ?_, fun k u2 hk => ?_⟩
        · rw [List.length_map, hu]
          exact Nat.lt_of_lt_of_le hi3 (by decide)
        · rw [upd_same, List.map_append]
          rfl
        · rw [List.length_append, hu]
          rfl
        · by_cases hki : k < us.length
          · rw [List.getElem?_append_left hki] at hk
            exact ((tb k u2 hk).same s5).sameT (sameT_put eO5 (Same.refl _))
          · rw [List.getElem?_append_right (by omega)] at hk
            have hk0 : k - us.length = 0 := by
              cases hh : k - us.length with
              | zero => rfl
              | succ m =>
                rw [hh] at hk
                simp at hk
            rw [hk0] at hk
            obtain rfl : u = u2 := Option.some.inj hk
            have : k = i := by omega
            subst this
            exact h5.sameT (sameT_put eO5 (Same.refl _))
      · obtain ⟨s4, us, eO, hu, tb⟩ := pv
        match us, hu with
        | [u0, u1, u2], _ =>
          have W : Tri C n Lp Bp O p c (fun k => if k = 0 then u0 else if k = 1 then u1 else u2) cs H4 := ⟨s4 _ _ eL, s4 _ _ eB, eO, fun k h => (lot k h).same s4, fun k h => (ht k h).same s4, fun k h => by
            have : k = 0 ∨ k = 1 ∨ k = 2 := by omega
            rcases this with rfl | rfl | rfl
            · exact tb 0 u0 rfl
            · exact tb 1 u1 rfl
            · exact tb 2 u2 rfl⟩
          exact qW n kd cs Lp Bp O p c _ none none none none none H4 G W (s4.seq hs)
    obtain ⟨tU, hU, qU⟩ : ∃ tR, PSs (cxOf CX0 P w K mg base ["_law_script", "_law_pins_here", "_law_held", "_law_kind", "_law_wished", "_law_third", "_law_bunch", "_law_lots", "_law_tables", "_law_i", "_law_far", "_law_strange", "_law_k", "_law_j", "_law_row"] "law" (defScope s_law) f cdv A outer s H E).nox ((defBody s_law).drop 5) tR ∧ ∀ (n kd : Int) (c0 c1 : Addr) (cs0 cs1 : List Tr) (H0 : Hp), 0 ≤ n → n ≤ 40 → Good n cs0 → Good n cs1 → cs0.length ≤ 8 → cs1.length ≤ 21 → Trip H0 c0 cs0 → Trip H0 c1 cs1 → SqL K H0 l (ns.map V.int) → tR { nx := fun _ H' => Q .non H', rt := Q } [some (.ref l), some (.int n), some (.ref c0), some (.int kd), some (.ref c1), none, none, none, none, none, none, none, none, none, none] H0 := by
      refine ⟨_, (pss_cons (ps_set (i := 5) sc_law.nd rfl (.inl rfl) (pe_call G_le (hr.mono (by decide)) (by rfl) D_le.g D_le.F.kp D_le.b .nil pass0 (pa_cons (pv 4) (pa_cons (pv 1) (pa_cons (pe_call G_c (hr.mono (by decide)) (by rfl) D_c.g D_c.F.kp D_c.b .nil pass0 (pa_cons (pv 0) (pa_cons pe_int pa_nil))) (pa_cons (pe_ix (r := rIxL K) ix_list (pe_lst (pa_cons pe_int (pa_cons pe_int (pa_cons pe_int (pa_cons pe_int pa_nil))))) (pe_op op_mod (pe_callTy call_int1 (by rfl) T.b_int (by decide +kernel) (pa_cons (pe_call G_c (hr.mono (by decide)) (by rfl) D_c.g D_c.F.kp D_c.b .nil pass0 (pa_cons (pv 0) (pa_cons pe_int pa_nil))) pa_nil)) pe_int) (fun _ _ => rfl)) pa_nil))))))
        hV), ?_⟩
      intro n kd c0 c1 cs0 cs1 H0 n0 n1 g0 g1 l0 l1 h0 h1 hs
      refine ⟨_, rfl, _, rfl, _, rfl, l, ns, 5, rfl, hs, by decide, hn, fun c5 => ⟨by show 4 ≤ sizeLine; decide, fun b nb => ?_⟩⟩
      have kb := same_upd (o := .lst [.int 0, .int 0, .int 2, .int 1]) nb
      refine ⟨_, rfl, l, ns, 6, rfl, kb.seq hs, by decide, hn, fun c6 => .inl ⟨_, rfl, _, _, rfl, rfl, by show (0 : Int) < 4; decide, ?_⟩⟩
      obtain ⟨ex, eex, ex0⟩ : ∃ y, atI [V.int 0, .int 0, .int 2, .int 1] (c6 % 4) = some (.int y) ∧ 0 ≤ y := by
        have : c6 % 4 = 0 ∨ c6 % 4 = 1 ∨ c6 % 4 = 2 ∨ c6 % 4 = 3 := by omega
        rcases this with e | e | e | e <;> rw [e]
        · exact ⟨_, atI_nat (j := 0) rfl, by decide⟩
        · exact ⟨_, atI_nat (j := 1) rfl, by decide⟩
        · exact ⟨_, atI_nat (j := 2) rfl, by decide⟩
        · exact ⟨_, atI_nat (j := 3) rfl, by decide⟩
      refine ⟨b, _, _, _, rfl, rfl, .inl (.inl upd_same), eex, c1, n, c5, ex, cs1, rfl, h1.same kb, g1, by omega, n0, n1, ex0, fun H2 c2 r2 s2 h2 g2 l2 => ?_⟩
      have sA := kb.trans s2
      refine qV n kd (fun k : Nat => if k = 0 then cs0 else if k = 1 then cs1 else r2) (fun k : Nat => if k = 0 then c0 else if k = 1 then c1 else c2) H2 ⟨n0, n1, fun k h => ?_, fun k h => ?_⟩ (fun k h => ?_) (sA.seq hs)
      · have : k = 0 ∨ k = 1 ∨ k = 2 := by omega
        rcases this with rfl | rfl | rfl
        · exact g0
        · exact g1
        · exact g2
      · have : k = 0 ∨ k = 1 ∨ k = 2 := by omega
        rcases this with rfl | rfl | rfl
        · show cs0.length ≤ 60
          omega
        · show cs1.length ≤ 60
          omega
        · show r2.length ≤ 60
          omega
      · have : k = 0 ∨ k = 1 ∨ k = 2 := by omega
        rcases this with rfl | rfl | rfl
        · exact h0.same sA
        · exact h1.same sA
        · exact h2
    refine ⟨_, (pss_cons (ps_set (i := 1) sc_law.nd rfl (.inr rfl) (pe_call G_p (hr.mono (by decide)) (by rfl) D_p.g D_p.F.kp D_p.b .nil pass0 (pa_cons (pe_call G_c (hr.mono (by decide)) (by rfl) D_c.g D_c.F.kp D_c.b .nil pass0 (pa_cons (pv 0) (pa_cons pe_int pa_nil))) pa_nil)))
        (pss_cons (ps_set (i := 2) sc_law.nd rfl (.inl rfl) (pe_call G_l (hr.mono (by decide)) (by rfl) D_l.g D_l.F.kp D_l.b .nil pass0 (pa_cons (pv 0) (pa_cons pe_int (pa_cons (pe_ix (r := rIxL K) ix_list (pe_call G_d (hr.mono (by decide)) (by rfl) D_d.g D_d.F.kp D_d.b .nil pass0 (pa_cons (pe_call G_c (hr.mono (by decide)) (by rfl) D_c.g D_c.F.kp D_c.b .nil pass0 (pa_cons (pv 0) (pa_cons pe_int pa_nil))) (pa_cons (pe_lst (pa_cons pe_int pa_nil)) pa_nil))) pe_int (fun _ _ => rfl)) (pa_cons (pv 1) pa_nil))))))
        (pss_cons (ps_set (i := 3) sc_law.nd rfl (.inl rfl) (pe_op op_mod (pe_callTy call_int1 (by rfl) T.b_int (by decide +kernel) (pa_cons (pe_call G_c (hr.mono (by decide)) (by rfl) D_c.g D_c.F.kp D_c.b .nil pass0 (pa_cons (pv 0) (pa_cons pe_int pa_nil))) pa_nil)) pe_int))
        (pss_cons (ps_set (i := 4) sc_law.nd rfl (.inl rfl) (pe_call G_l (hr.mono (by decide)) (by rfl) D_l.g D_l.F.kp D_l.b .nil pass0 (pa_cons (pv 0) (pa_cons pe_int (pa_cons (pe_ix (r := rIxL K) ix_list (pe_call G_d (hr.mono (by decide)) (by rfl) D_d.g D_d.F.kp D_d.b .nil pass0 (pa_cons (pe_call G_c (hr.mono (by decide)) (by rfl) D_c.g D_c.F.kp D_c.b .nil pass0 (pa_cons (pv 0) (pa_cons pe_int pa_nil))) (pa_cons (pe_lst (pa_cons pe_int pa_nil)) pa_nil))) pe_int (fun _ _ => rfl)) (pa_cons (pv 1) pa_nil))))))
        (pss_cons (ps_if (pt_cmpR op_ge (pv 3) pe_int (nomark _)) (pss_one (ps_set (i := 4) sc_law.nd rfl (.inl rfl) (pe_call G_le (hr.mono (by decide)) (by rfl) D_le.g D_le.F.kp D_le.b .nil pass0 (pa_cons (pv 2) (pa_cons (pv 1) (pa_cons (pe_call G_c (hr.mono (by decide)) (by rfl) D_c.g D_c.F.kp D_c.b .nil pass0 (pa_cons (pv 0) (pa_cons pe_int pa_nil))) (pa_cons (pe_ix (r := rIxL K) ix_list (pe_lst (pa_cons pe_int (pa_cons pe_int (pa_cons pe_int (pa_cons pe_int (pa_cons pe_int (pa_cons pe_int (pa_cons pe_int (pa_cons pe_int pa_nil))))))))) (pv 3) (fun _ _ => rfl)) pa_nil))))))) pss_nil)
        hU))))), ?_⟩
    refine ⟨_, rfl, l, ns, 0, rfl, hs, by decide, hn, fun k0 => ⟨k0, rfl, fun H1 n s1 n0 n40 => ?_⟩⟩
    replace hs := s1.seq hs
    -- the first lot
    refine ⟨_, rfl, _, rfl, l, ns, 1, rfl, hs, by decide, hn, fun k1 => ⟨by show 1 ≤ sizeLine; decide, fun b1 nb1 => ⟨k1, b1, [9], rfl, .inl (.inl upd_same), by decide, by decide, fun H2 a1 ds1 s2 na1 ea1 dg1 => ?_⟩⟩⟩
    obtain ⟨w1, rfl, w10, w11⟩ := digs1 dg1
    obtain ⟨j1, rfl⟩ : ∃ j : Nat, w1 = (j : Int) := ⟨w1.toNat, by omega⟩
    replace hs := ((same_upd (o := .lst [.int 9]) nb1).trans s2).seq hs
    refine ⟨a1, _, 0, _, rfl, rfl, .inl (.inl ea1), atI_nat (j := 0) rfl, _, rfl, l, ns, 8, j1, n, rfl, hs, hn, by decide, by omega, n0, by omega, fun H3 c0 cs0 s3 h0 g0 l0 _ => ?_⟩
    replace hs := s3.seq hs
    -- the kind
    refine ⟨_, rfl, l, ns, 3, rfl, hs, by decide, hn, fun k3 => .inl ⟨_, rfl, _, _, rfl, rfl, by show (0 : Int) < 8; decide, ?_⟩⟩
    -- the second lot
    refine ⟨_, rfl, _, rfl, l, ns, 2, rfl, hs, by decide, hn, fun k2 => ⟨by show 1 ≤ sizeLine; decide, fun b2 nb2 => ⟨k2, b2, [7], rfl, .inl (.inl upd_same), by decide, by decide, fun H4 a2 ds2 s4 na2 ea2 dg2 => ?_⟩⟩⟩
    obtain ⟨w2, rfl, w20, w21⟩ := digs1 dg2
    obtain ⟨j2, rfl⟩ : ∃ j : Nat, w2 = (j : Int) := ⟨w2.toNat, by omega⟩
    have kb := (same_upd (o := .lst [.int 7]) nb2).trans s4
    replace hs := kb.seq hs
    replace h0 := h0.same kb
    refine ⟨a2, _, 0, _, rfl, rfl, .inl (.inl ea2), atI_nat (j := 0) rfl, _, rfl, l, ns, 16, j2, n, rfl, hs, hn, by decide, by omega, n0, by omega, fun H5 c1 cs1 s5 h1 g1 l1 _ => ?_⟩
    replace hs := s5.seq hs
    replace h0 := h0.same s5
    refine ⟨_, rfl, _, _, rfl, rfl, _, rfl, ite2 (fun e => ?_) (fun e => ?_)⟩
    · refine ⟨_, rfl, _, rfl, _, rfl, l, ns, 4, rfl, hs, by decide, hn, fun k4 => ⟨by show 8 ≤ sizeLine; decide, fun b3 nb3 => ?_⟩⟩
      have kc := same_upd (o := .lst [.int 0, .int 0, .int 0, .int 0, .int 0, .int 1, .int 2, .int 3]) nb3
      obtain ⟨ex, eex, ex0⟩ : ∃ y, atI [V.int 0, .int 0, .int 0, .int 0, .int 0, .int 1, .int 2, .int 3] (k3 % 8) = some (.int y) ∧ 0 ≤ y := by
        have : k3 % 8 = 0 ∨ k3 % 8 = 1 ∨ k3 % 8 = 2 ∨ k3 % 8 = 3 ∨ k3 % 8 = 4 ∨ k3 % 8 = 5 ∨ k3 % 8 = 6 ∨ k3 % 8 = 7 := by omega
        rcases this with e | e | e | e | e | e | e | e <;> rw [e]
        · exact ⟨_, atI_nat (j := 0) rfl, by decide⟩
        · exact ⟨_, atI_nat (j := 1) rfl, by decide⟩
        · exact ⟨_, atI_nat (j := 2) rfl, by decide⟩
        · exact ⟨_, atI_nat (j := 3) rfl, by decide⟩
        · exact ⟨_, atI_nat (j := 4) rfl, by decide⟩
        · exact ⟨_, atI_nat (j := 5) rfl, by decide⟩
        · exact ⟨_, atI_nat (j := 6) rfl, by decide⟩
        · exact ⟨_, atI_nat (j := 7) rfl, by decide⟩
      refine ⟨_, rfl, b3, _, _, _, rfl, rfl, .inl (.inl upd_same), eex, c0, n, k4, ex, cs0, rfl, h0.same kc, g0, by omega, n0, n40, ex0, fun H6 c2 cs2 s6 h2 g2 l2 => ?_⟩
      exact qU n _ c0 c2 cs0 cs2 H6 n0 n40 g0 g2 (by omega) (by omega) ((h0.same kc).same s6) h2 ((kc.trans s6).seq hs)
    · exact qU n _ c0 c1 cs0 cs1 H5 n0 n40 g0 g1 (by omega) (by omega) h0 h1 hs
end
end Own

namespace Own
open PySem PySem.Spec PyProof.Rows L2
/-! ### an own error's class and its base -/
theorem sup_of {K : PySem.W.Frag} {D R N M : Addr} {n1 n2 n3 n4 : Str} {b1 b2 s1 s2 bm : List Value} {h1 h2 a1 a2 : Bool} {l1 l2 : List Str} {c1 c2 : Option Bool} {d1 d2 : Option Addr} {k0 k1 k2 k3 k5 j0 j1 j2 j3 j5 : Option Value} {i1 i2 : String} {v : Option Value}
    (lD : K.lookup D = some (excClassObj n1 n2 D N b1 (.ref R :: bm) h1 l1 s1 a1 c1 d1 k0 k1 k2 k3 k5 i1)) (lR : K.lookup R = some (excClassObj n3 n4 R M b2 bm h2 l2 s2 a2 c2 d2 j0 j1 j2 j3 j5 i2)) (iR : PySem.W.findIn K (.ref R) "__init__" = some v) : PySem.W.ks_superIn K D D "__init__" = some v := by
  have iR : (match K.lookup R with
      | some ⟨_, _, .cls cd, _⟩ => PySem.W.alongIn K "__init__" cd.mro
      | _ => none) = some v := iR
  rw [lR] at iR
  unfold PySem.W.ks_superIn PySem.W.clsIn
  rw [lD]
  have e : ((Value.ref D :: .ref R :: bm).dropWhile (· != .ref D)).drop 1 = .ref R :: bm := by simp [List.dropWhile]
  show PySem.W.alongIn K "__init__" (((Value.ref D :: .ref R :: bm).dropWhile (· != .ref D)).drop 1) = some v
  rw [e]
  exact iR
theorem kit_ref {K : PySem.W.Frag} {D c : Addr} {b : Bool} (hd : PySem.W.subIn K (.ref D) (.ref D) = some true) (h1 : PySem.W.isClsIn K c = true) (h2 : PySem.W.typeIn K (.ref c) = some (.type "type")) (h3 : PySem.W.subIn K (.ref D) (.ref c) = some b) : PySem.W.kitOne K (.ref D) (.ref c) = some b := by
  unfold PySem.W.kitOne
  by_cases h : (Value.ref D == Value.ref c) = true
  · rw [if_pos h]
    have e : D = c := Value.ref.inj (beq_iff_eq.mp h)
    subst e
    exact hd.symm.trans h3
  · rw [if_neg h]
    show (if ((PySem.W.clsIn K c).isSome && PySem.W.typeIn K (.ref c) == some (.type "type")) = true then PySem.W.subIn K (.ref D) (.ref c) else none) = some b
    have e : ((PySem.W.clsIn K c).isSome && PySem.W.typeIn K (.ref c) == some (.type "type")) = true := by
      have h1 : (PySem.W.clsIn K c).isSome = true := h1
      rw [h1, h2]
      rfl
    rw [if_pos e]
    exact h3
theorem kit_ve {K : PySem.W.Frag} {D : Addr} {b : Bool} (h : PySem.W.subIn K (.ref D) (.type "ValueError") = some b) : PySem.W.kitOne K (.ref D) (.type "ValueError") = some b := by
  unfold PySem.W.kitOne
  rw [if_neg fun z : (Value.ref D == Value.type "ValueError") = true => by cases beq_iff_eq.mp z]
  show (if PySem.W.kitMeta "ValueError" = true then PySem.W.subIn K (.ref D) (.type "ValueError") else none) = some b
  rw [if_pos (by decide +kernel)]
  exact h
/-! ### what the top has left -/
theorem df_mk {K : PySem.W.Frag} {mg : Str → Option Value} {x : Str} {st : Stmt} {ps : List Str} {h : Heap} {f : Addr} {oc : Value} {od an : Option Addr} {osl : Array (Option Value)} {kV doc pm cdv ct : Value} (X : K.In h) (G : h.Ns mainGlobals mg)
    (a : PySem.W.nsIn K mainGlobals x = some (some (.ref f))) (l : K.lookup f = some ⟨oc, od, .func (PySem.W.fnOf x x (defArgs st) (defBody st) (defScope st) .none kV doc pm an cdv ct), osl⟩) (c : PySem.W.codeIn K cdv x = true) (k : PySem.W.keepIn K (.ref f) = true)
    (b : ∀ (kV doc pm : Value) (an : Option Addr) (cdv ct : Value) (us : List Value), us.length = ps.length → bindArgs (PySem.W.fnOf x x (defArgs st) (defBody st) (defScope st) .none kV doc pm an cdv ct) ⟨us, []⟩ = pure (ps.zip us)) :
    Df K mg x st ps f (PySem.W.fnOf x x (defArgs st) (defBody st) (defScope st) .none kV doc pm an cdv ct) :=
  ⟨fun_mk l c k, PySem.W.mg_of X G a, (fun_mk l c k).binds b⟩
set_option maxHeartbeats 0 in
theorem all_mk {lw : PySem.W.OpenLaw} {w : World} {K : PySem.W.Frag} {h : Heap} {mg : Str → Option Value} {fa C  z T_d f1 f2 f3 f4 f5 f6 f7 f8 f9 f10 f11 f12 f13 f14 f15 f16 f17 f18 f19 f20 f21 f22 f23 f24 f25 f26 f27 f28 f29 f30 f31 f32 f33 f34 f35 f36 f37 f38 D cc cda fU c_bps c_bp c_bg c_np c_re ND NR : Addr} {nmD qD nmR qR fileC : Str} {niR : String} {bsR subR : List Value} {snR : List Str} {abR hdR : Bool} {colR : Option Bool} {ddR : Option Addr} {m0r m1r m2r m3r m5r : Option Value} {bsD subD : List Value} {snD : List Str} {abD : Bool} {colD : Option Bool} {ddD odU anU cldC cdd : Option Addr} {m0 m1 m2 m3 m5 : Option Value} {ocU kVU dcU pmU ctU clC ccl2 : Value} {slU cslC ccs : Array (Option Value)} {vsC : Array Value} {tfC : Tok} (X : K.In h) (G : h.Ns mainGlobals mg) (hfa : mg "law" = some (.ref fa))
    {odT odz od1 an1 od2 an2 od3 an3 od4 an4 od5 an5 od6 an6 od7 an7 od8 an8 od9 an9 od10 an10 od11 an11 od12 an12 od13 an13 od14 an14 od15 an15 od16 an16 od17 an17 od18 an18 od19 an19 od20 an20 od21 an21 od22 an22 od23 an23 od24 an24 od25 an25 od26 an26 od27 an27 od28 an28 od29 an29 od30 an30 od31 an31 od32 an32 od33 an33 od34 an34 od35 an35 od36 an36 od37 an37 od38 an38 : Option Addr} {slT slz sl1 sl2 sl3 sl4 sl5 sl6 sl7 sl8 sl9 sl10 sl11 sl12 sl13 sl14 sl15 sl16 sl17 sl18 sl19 sl20 sl21 sl22 sl23 sl24 sl25 sl26 sl27 sl28 sl29 sl30 sl31 sl32 sl33 sl34 sl35 sl36 sl37 sl38 : Array (Option Value)} {ocT oc1 kV1 dc1 pm1 cd1 ct1 oc2 kV2 dc2 pm2 cd2 ct2 oc3 kV3 dc3 pm3 cd3 ct3 oc4 kV4 dc4 pm4 cd4 ct4 oc5 kV5 dc5 pm5 cd5 ct5 oc6 kV6 dc6 pm6 cd6 ct6 oc7 kV7 dc7 pm7 cd7 ct7 oc8 kV8 dc8 pm8 cd8 ct8 oc9 kV9 dc9 pm9 cd9 ct9 oc10 kV10 dc10 pm10 cd10 ct10 oc11 kV11 dc11 pm11 cd11 ct11 oc12 kV12 dc12 pm12 cd12 ct12 oc13 kV13 dc13 pm13 cd13 ct13 oc14 kV14 dc14 pm14 cd14 ct14 oc15 kV15 dc15 pm15 cd15 ct15 oc16 kV16 dc16 pm16 cd16 ct16 oc17 kV17 dc17 pm17 cd17 ct17 oc18 kV18 dc18 pm18 cd18 ct18 oc19 kV19 dc19 pm19 cd19 ct19 oc20 kV20 dc20 pm20 cd20 ct20 oc21 kV21 dc21 pm21 cd21 ct21 oc22 kV22 dc22 pm22 cd22 ct22 oc23 kV23 dc23 pm23 cd23 ct23 oc24 kV24 dc24 pm24 cd24 ct24 oc25 kV25 dc25 pm25 cd25 ct25 oc26 kV26 dc26 pm26 cd26 ct26 oc27 kV27 dc27 pm27 cd27 ct27 oc28 kV28 dc28 pm28 cd28 ct28 oc29 kV29 dc29 pm29 cd29 ct29 oc30 kV30 dc30 pm30 cd30 ct30 oc31 kV31 dc31 pm31 cd31 ct31 oc32 kV32 dc32 pm32 cd32 ct32 oc33 kV33 dc33 pm33 cd33 ct33 oc34 kV34 dc34 pm34 cd34 ct34 oc35 kV35 dc35 pm35 cd35 ct35 oc36 kV36 dc36 pm36 cd36 ct36 oc37 kV37 dc37 pm37 cd37 ct37 oc38 kV38 dc38 pm38 cd38 ct38 : Value} {nT nz : Nat}
    (a1 : PySem.W.nsIn K mainGlobals "gaps" = some (some (.ref f1)))
    (l1 : K.lookup f1 = some ⟨oc1, od1, .func (PySem.W.fnOf "gaps" "gaps" (defArgs s_gaps) (defBody s_gaps) (defScope s_gaps) .none kV1 dc1 pm1 an1 cd1 ct1), sl1⟩)
    (c1 : PySem.W.codeIn K cd1 "gaps" = true)
    (k1 : PySem.W.keepIn K (.ref f1) = true)
    (a2 : PySem.W.nsIn K mainGlobals "is_whole" = some (some (.ref f2)))
    (l2 : K.lookup f2 = some ⟨oc2, od2, .func (PySem.W.fnOf "is_whole" "is_whole" (defArgs s_is_whole) (defBody s_is_whole) (defScope s_is_whole) .none kV2 dc2 pm2 an2 cd2 ct2), sl2⟩)
    (c2 : PySem.W.codeIn K cd2 "is_whole" = true)
    (k2 : PySem.W.keepIn K (.ref f2) = true)
    (a3 : PySem.W.nsIn K mainGlobals "is_sequence" = some (some (.ref f3)))
    (l3 : K.lookup f3 = some ⟨oc3, od3, .func (PySem.W.fnOf "is_sequence" "is_sequence" (defArgs s_is_sequence) (defBody s_is_sequence) (defScope s_is_sequence) .none kV3 dc3 pm3 an3 cd3 ct3), sl3⟩)
    (c3 : PySem.W.codeIn K cd3 "is_sequence" = true)
    (k3 : PySem.W.keepIn K (.ref f3) = true)
    (a4 : PySem.W.nsIn K mainGlobals "is_below" = some (some (.ref f4)))
    (l4 : K.lookup f4 = some ⟨oc4, od4, .func (PySem.W.fnOf "is_below" "is_below" (defArgs s_is_below) (defBody s_is_below) (defScope s_is_below) .none kV4 dc4 pm4 an4 cd4 ct4), sl4⟩)
    (c4 : PySem.W.codeIn K cd4 "is_below" = true)
    (k4 : PySem.W.keepIn K (.ref f4) = true)
    (a5 : PySem.W.nsIn K mainGlobals "check_pins" = some (some (.ref f5)))
    (l5 : K.lookup f5 = some ⟨oc5, od5, .func (PySem.W.fnOf "check_pins" "check_pins" (defArgs s_check_pins) (defBody s_check_pins) (defScope s_check_pins) .none kV5 dc5 pm5 an5 cd5 ct5), sl5⟩)
    (c5 : PySem.W.codeIn K cd5 "check_pins" = true)
    (k5 : PySem.W.keepIn K (.ref f5) = true)
    (a6 : PySem.W.nsIn K mainGlobals "check_like" = some (some (.ref f6)))
    (l6 : K.lookup f6 = some ⟨oc6, od6, .func (PySem.W.fnOf "check_like" "check_like" (defArgs s_check_like) (defBody s_check_like) (defScope s_check_like) .none kV6 dc6 pm6 an6 cd6 ct6), sl6⟩)
    (c6 : PySem.W.codeIn K cd6 "check_like" = true)
    (k6 : PySem.W.keepIn K (.ref f6) = true)
    (a7 : PySem.W.nsIn K mainGlobals "is_entry" = some (some (.ref f7)))
    (l7 : K.lookup f7 = some ⟨oc7, od7, .func (PySem.W.fnOf "is_entry" "is_entry" (defArgs s_is_entry) (defBody s_is_entry) (defScope s_is_entry) .none kV7 dc7 pm7 an7 cd7 ct7), sl7⟩)
    (c7 : PySem.W.codeIn K cd7 "is_entry" = true)
    (k7 : PySem.W.keepIn K (.ref f7) = true)
    (a8 : PySem.W.nsIn K mainGlobals "gathered" = some (some (.ref f8)))
    (l8 : K.lookup f8 = some ⟨oc8, od8, .func (PySem.W.fnOf "gathered" "gathered" (defArgs s_gathered) (defBody s_gathered) (defScope s_gathered) .none kV8 dc8 pm8 an8 cd8 ct8), sl8⟩)
    (c8 : PySem.W.codeIn K cd8 "gathered" = true)
    (k8 : PySem.W.keepIn K (.ref f8) = true)
    (a9 : PySem.W.nsIn K mainGlobals "ends_at_pins" = some (some (.ref f9)))
    (l9 : K.lookup f9 = some ⟨oc9, od9, .func (PySem.W.fnOf "ends_at_pins" "ends_at_pins" (defArgs s_ends_at_pins) (defBody s_ends_at_pins) (defScope s_ends_at_pins) .none kV9 dc9 pm9 an9 cd9 ct9), sl9⟩)
    (c9 : PySem.W.codeIn K cd9 "ends_at_pins" = true)
    (k9 : PySem.W.keepIn K (.ref f9) = true)
    (a10 : PySem.W.nsIn K mainGlobals "cord_grid" = some (some (.ref f10)))
    (l10 : K.lookup f10 = some ⟨oc10, od10, .func (PySem.W.fnOf "cord_grid" "cord_grid" (defArgs s_cord_grid) (defBody s_cord_grid) (defScope s_cord_grid) .none kV10 dc10 pm10 an10 cd10 ct10), sl10⟩)
    (c10 : PySem.W.codeIn K cd10 "cord_grid" = true)
    (k10 : PySem.W.keepIn K (.ref f10) = true)
    (a11 : PySem.W.nsIn K mainGlobals "sums_before" = some (some (.ref f11)))
    (l11 : K.lookup f11 = some ⟨oc11, od11, .func (PySem.W.fnOf "sums_before" "sums_before" (defArgs s_sums_before) (defBody s_sums_before) (defScope s_sums_before) .none kV11 dc11 pm11 an11 cd11 ct11), sl11⟩)
    (c11 : PySem.W.codeIn K cd11 "sums_before" = true)
    (k11 : PySem.W.keepIn K (.ref f11) = true)
    (a12 : PySem.W.nsIn K mainGlobals "table_rows" = some (some (.ref f12)))
    (l12 : K.lookup f12 = some ⟨oc12, od12, .func (PySem.W.fnOf "table_rows" "table_rows" (defArgs s_table_rows) (defBody s_table_rows) (defScope s_table_rows) .none kV12 dc12 pm12 an12 cd12 ct12), sl12⟩)
    (c12 : PySem.W.codeIn K cd12 "table_rows" = true)
    (k12 : PySem.W.keepIn K (.ref f12) = true)
    (a13 : PySem.W.nsIn K mainGlobals "first_bar" = some (some (.ref f13)))
    (l13 : K.lookup f13 = some ⟨oc13, od13, .func (PySem.W.fnOf "first_bar" "first_bar" (defArgs s_first_bar) (defBody s_first_bar) (defScope s_first_bar) .none kV13 dc13 pm13 an13 cd13 ct13), sl13⟩)
    (c13 : PySem.W.codeIn K cd13 "first_bar" = true)
    (k13 : PySem.W.keepIn K (.ref f13) = true)
    (a14 : PySem.W.nsIn K mainGlobals "odd_pins" = some (some (.ref f14)))
    (l14 : K.lookup f14 = some ⟨oc14, od14, .func (PySem.W.fnOf "odd_pins" "odd_pins" (defArgs s_odd_pins) (defBody s_odd_pins) (defScope s_odd_pins) .none kV14 dc14 pm14 an14 cd14 ct14), sl14⟩)
    (c14 : PySem.W.codeIn K cd14 "odd_pins" = true)
    (k14 : PySem.W.keepIn K (.ref f14) = true)
    (a15 : PySem.W.nsIn K mainGlobals "table_of" = some (some (.ref f15)))
    (l15 : K.lookup f15 = some ⟨oc15, od15, .func (PySem.W.fnOf "table_of" "table_of" (defArgs s_table_of) (defBody s_table_of) (defScope s_table_of) .none kV15 dc15 pm15 an15 cd15 ct15), sl15⟩)
    (c15 : PySem.W.codeIn K cd15 "table_of" = true)
    (k15 : PySem.W.keepIn K (.ref f15) = true)
    (a16 : PySem.W.nsIn K mainGlobals "bar" = some (some (.ref f16)))
    (l16 : K.lookup f16 = some ⟨oc16, od16, .func (PySem.W.fnOf "bar" "bar" (defArgs s_bar) (defBody s_bar) (defScope s_bar) .none kV16 dc16 pm16 an16 cd16 ct16), sl16⟩)
    (c16 : PySem.W.codeIn K cd16 "bar" = true)
    (k16 : PySem.W.keepIn K (.ref f16) = true)
    (a17 : PySem.W.nsIn K mainGlobals "odd" = some (some (.ref f17)))
    (l17 : K.lookup f17 = some ⟨oc17, od17, .func (PySem.W.fnOf "odd" "odd" (defArgs s_odd) (defBody s_odd) (defScope s_odd) .none kV17 dc17 pm17 an17 cd17 ct17), sl17⟩)
    (c17 : PySem.W.codeIn K cd17 "odd" = true)
    (k17 : PySem.W.keepIn K (.ref f17) = true)
    (a18 : PySem.W.nsIn K mainGlobals "_law_whole" = some (some (.ref f18)))
    (l18 : K.lookup f18 = some ⟨oc18, od18, .func (PySem.W.fnOf "_law_whole" "_law_whole" (defArgs s__law_whole) (defBody s__law_whole) (defScope s__law_whole) .none kV18 dc18 pm18 an18 cd18 ct18), sl18⟩)
    (c18 : PySem.W.codeIn K cd18 "_law_whole" = true)
    (k18 : PySem.W.keepIn K (.ref f18) = true)
    (a19 : PySem.W.nsIn K mainGlobals "_law_cell" = some (some (.ref f19)))
    (l19 : K.lookup f19 = some ⟨oc19, od19, .func (PySem.W.fnOf "_law_cell" "_law_cell" (defArgs s__law_cell) (defBody s__law_cell) (defScope s__law_cell) .none kV19 dc19 pm19 an19 cd19 ct19), sl19⟩)
    (c19 : PySem.W.codeIn K cd19 "_law_cell" = true)
    (k19 : PySem.W.keepIn K (.ref f19) = true)
    (a20 : PySem.W.nsIn K mainGlobals "_law_digits" = some (some (.ref f20)))
    (l20 : K.lookup f20 = some ⟨oc20, od20, .func (PySem.W.fnOf "_law_digits" "_law_digits" (defArgs s__law_digits) (defBody s__law_digits) (defScope s__law_digits) .none kV20 dc20 pm20 an20 cd20 ct20), sl20⟩)
    (c20 : PySem.W.codeIn K cd20 "_law_digits" = true)
    (k20 : PySem.W.keepIn K (.ref f20) = true)
    (a21 : PySem.W.nsIn K mainGlobals "_law_same" = some (some (.ref f21)))
    (l21 : K.lookup f21 = some ⟨oc21, od21, .func (PySem.W.fnOf "_law_same" "_law_same" (defArgs s__law_same) (defBody s__law_same) (defScope s__law_same) .none kV21 dc21 pm21 an21 cd21 ct21), sl21⟩)
    (c21 : PySem.W.codeIn K cd21 "_law_same" = true)
    (k21 : PySem.W.keepIn K (.ref f21) = true)
    (a22 : PySem.W.nsIn K mainGlobals "_law_norm" = some (some (.ref f22)))
    (l22 : K.lookup f22 = some ⟨oc22, od22, .func (PySem.W.fnOf "_law_norm" "_law_norm" (defArgs s__law_norm) (defBody s__law_norm) (defScope s__law_norm) .none kV22 dc22 pm22 an22 cd22 ct22), sl22⟩)
    (c22 : PySem.W.codeIn K cd22 "_law_norm" = true)
    (k22 : PySem.W.keepIn K (.ref f22) = true)
    (a23 : PySem.W.nsIn K mainGlobals "_law_table" = some (some (.ref f23)))
    (l23 : K.lookup f23 = some ⟨oc23, od23, .func (PySem.W.fnOf "_law_table" "_law_table" (defArgs s__law_table) (defBody s__law_table) (defScope s__law_table) .none kV23 dc23 pm23 an23 cd23 ct23), sl23⟩)
    (c23 : PySem.W.codeIn K cd23 "_law_table" = true)
    (k23 : PySem.W.keepIn K (.ref f23) = true)
    (a24 : PySem.W.nsIn K mainGlobals "_law_ends" = some (some (.ref f24)))
    (l24 : K.lookup f24 = some ⟨oc24, od24, .func (PySem.W.fnOf "_law_ends" "_law_ends" (defArgs s__law_ends) (defBody s__law_ends) (defScope s__law_ends) .none kV24 dc24 pm24 an24 cd24 ct24), sl24⟩)
    (c24 : PySem.W.codeIn K cd24 "_law_ends" = true)
    (k24 : PySem.W.keepIn K (.ref f24) = true)
    (a25 : PySem.W.nsIn K mainGlobals "_law_lot_is" = some (some (.ref f25)))
    (l25 : K.lookup f25 = some ⟨oc25, od25, .func (PySem.W.fnOf "_law_lot_is" "_law_lot_is" (defArgs s__law_lot_is) (defBody s__law_lot_is) (defScope s__law_lot_is) .none kV25 dc25 pm25 an25 cd25 ct25), sl25⟩)
    (c25 : PySem.W.codeIn K cd25 "_law_lot_is" = true)
    (k25 : PySem.W.keepIn K (.ref f25) = true)
    (a26 : PySem.W.nsIn K mainGlobals "_law_pins" = some (some (.ref f26)))
    (l26 : K.lookup f26 = some ⟨oc26, od26, .func (PySem.W.fnOf "_law_pins" "_law_pins" (defArgs s__law_pins) (defBody s__law_pins) (defScope s__law_pins) .none kV26 dc26 pm26 an26 cd26 ct26), sl26⟩)
    (c26 : PySem.W.codeIn K cd26 "_law_pins" = true)
    (k26 : PySem.W.keepIn K (.ref f26) = true)
    (a27 : PySem.W.nsIn K mainGlobals "_law_lot" = some (some (.ref f27)))
    (l27 : K.lookup f27 = some ⟨oc27, od27, .func (PySem.W.fnOf "_law_lot" "_law_lot" (defArgs s__law_lot) (defBody s__law_lot) (defScope s__law_lot) .none kV27 dc27 pm27 an27 cd27 ct27), sl27⟩)
    (c27 : PySem.W.codeIn K cd27 "_law_lot" = true)
    (k27 : PySem.W.keepIn K (.ref f27) = true)
    (a28 : PySem.W.nsIn K mainGlobals "_law_cross" = some (some (.ref f28)))
    (l28 : K.lookup f28 = some ⟨oc28, od28, .func (PySem.W.fnOf "_law_cross" "_law_cross" (defArgs s__law_cross) (defBody s__law_cross) (defScope s__law_cross) .none kV28 dc28 pm28 an28 cd28 ct28), sl28⟩)
    (c28 : PySem.W.codeIn K cd28 "_law_cross" = true)
    (k28 : PySem.W.keepIn K (.ref f28) = true)
    (a29 : PySem.W.nsIn K mainGlobals "_law_moves" = some (some (.ref f29)))
    (l29 : K.lookup f29 = some ⟨oc29, od29, .func (PySem.W.fnOf "_law_moves" "_law_moves" (defArgs s__law_moves) (defBody s__law_moves) (defScope s__law_moves) .none kV29 dc29 pm29 an29 cd29 ct29), sl29⟩)
    (c29 : PySem.W.codeIn K cd29 "_law_moves" = true)
    (k29 : PySem.W.keepIn K (.ref f29) = true)
    (a30 : PySem.W.nsIn K mainGlobals "_law_moved" = some (some (.ref f30)))
    (l30 : K.lookup f30 = some ⟨oc30, od30, .func (PySem.W.fnOf "_law_moved" "_law_moved" (defArgs s__law_moved) (defBody s__law_moved) (defScope s__law_moved) .none kV30 dc30 pm30 an30 cd30 ct30), sl30⟩)
    (c30 : PySem.W.codeIn K cd30 "_law_moved" = true)
    (k30 : PySem.W.keepIn K (.ref f30) = true)
    (a31 : PySem.W.nsIn K mainGlobals "_law_led" = some (some (.ref f31)))
    (l31 : K.lookup f31 = some ⟨oc31, od31, .func (PySem.W.fnOf "_law_led" "_law_led" (defArgs s__law_led) (defBody s__law_led) (defScope s__law_led) .none kV31 dc31 pm31 an31 cd31 ct31), sl31⟩)
    (c31 : PySem.W.codeIn K cd31 "_law_led" = true)
    (k31 : PySem.W.keepIn K (.ref f31) = true)
    (a32 : PySem.W.nsIn K mainGlobals "_law_bar" = some (some (.ref f32)))
    (l32 : K.lookup f32 = some ⟨oc32, od32, .func (PySem.W.fnOf "_law_bar" "_law_bar" (defArgs s__law_bar) (defBody s__law_bar) (defScope s__law_bar) .none kV32 dc32 pm32 an32 cd32 ct32), sl32⟩)
    (c32 : PySem.W.codeIn K cd32 "_law_bar" = true)
    (k32 : PySem.W.keepIn K (.ref f32) = true)
    (a33 : PySem.W.nsIn K mainGlobals "_law_odd" = some (some (.ref f33)))
    (l33 : K.lookup f33 = some ⟨oc33, od33, .func (PySem.W.fnOf "_law_odd" "_law_odd" (defArgs s__law_odd) (defBody s__law_odd) (defScope s__law_odd) .none kV33 dc33 pm33 an33 cd33 ct33), sl33⟩)
    (c33 : PySem.W.codeIn K cd33 "_law_odd" = true)
    (k33 : PySem.W.keepIn K (.ref f33) = true)
    (a34 : PySem.W.nsIn K mainGlobals "_law_pair" = some (some (.ref f34)))
    (l34 : K.lookup f34 = some ⟨oc34, od34, .func (PySem.W.fnOf "_law_pair" "_law_pair" (defArgs s__law_pair) (defBody s__law_pair) (defScope s__law_pair) .none kV34 dc34 pm34 an34 cd34 ct34), sl34⟩)
    (c34 : PySem.W.codeIn K cd34 "_law_pair" = true)
    (k34 : PySem.W.keepIn K (.ref f34) = true)
    (a35 : PySem.W.nsIn K mainGlobals "_law_unlike" = some (some (.ref f35)))
    (l35 : K.lookup f35 = some ⟨oc35, od35, .func (PySem.W.fnOf "_law_unlike" "_law_unlike" (defArgs s__law_unlike) (defBody s__law_unlike) (defScope s__law_unlike) .none kV35 dc35 pm35 an35 cd35 ct35), sl35⟩)
    (c35 : PySem.W.codeIn K cd35 "_law_unlike" = true)
    (k35 : PySem.W.keepIn K (.ref f35) = true)
    (a36 : PySem.W.nsIn K mainGlobals "law" = some (some (.ref f36)))
    (l36 : K.lookup f36 = some ⟨oc36, od36, .func (PySem.W.fnOf "law" "law" (defArgs s_law) (defBody s_law) (defScope s_law) .none kV36 dc36 pm36 an36 cd36 ct36), sl36⟩)
    (c36 : PySem.W.codeIn K cd36 "law" = true)
    (k36 : PySem.W.keepIn K (.ref f36) = true)
    (aC : PySem.W.nsIn K mainGlobals "Lot" = some (some (.ref C)))
    (i37 : PySem.W.findIn K (.ref C) "__contains__" = some (some (.ref f37)))
    (n37 : PySem.W.isFn K (.ref f37) = true)
    (l37 : K.lookup f37 = some ⟨oc37, od37, .func (PySem.W.fnOf "__contains__" "Lot.__contains__" (defArgs s_Lot_contains) (defBody s_Lot_contains) (defScope s_Lot_contains) .none kV37 dc37 pm37 an37 cd37 ct37), sl37⟩)
    (c37 : PySem.W.codeIn K cd37 "Lot.__contains__" = true)
    (k37 : PySem.W.keepIn K (.ref f37) = true)
    (i38 : PySem.W.findIn K (.ref C) "__init__" = some (some (.ref f38)))
    (n38 : PySem.W.isFn K (.ref f38) = true)
    (l38 : K.lookup f38 = some ⟨oc38, od38, .func (PySem.W.fnOf "__init__" "Lot.__init__" (defArgs s_Lot_init) (defBody s_Lot_init) (defScope s_Lot_init) (.ref T_d) kV38 dc38 pm38 an38 cd38 ct38), sl38⟩)
    (c38 : PySem.W.codeIn K cd38 "Lot.__init__" = true)
    (k38 : PySem.W.keepIn K (.ref f38) = true)
    (lT : K.lookup T_d = some ⟨ocT, odT, .seq #[.ref z] nT, slT⟩)
    (lz : K.lookup z = some ⟨.type "tuple", odz, .seq #[] nz, slz⟩)
    (pg : PySem.W.plainGet K C Str.empty = true)
    (hd : PySem.W.hasDictIn K C = true)
    (po : PySem.W.plainOver K C = true)
    (sa : PySem.W.findIn K (.ref C) "__setattr__" = some (some (.builtin "object.__setattr__")))
    (mk : PySem.W.makesIn K C = true)
    (kc : PySem.W.keepIn K (.ref C) = true)
    (nP : PySem.W.findIn K (.ref C) "pins" = some none)
    (nC : PySem.W.findIn K (.ref C) "cords" = some none)
    (sf : PySem.W.selfFirst K C = true)
    (aD : PySem.W.nsIn K mainGlobals "UnlikePins" = some (some (.ref D)))
    (aBps : PySem.W.nsIn K mainGlobals "BadPins" = some (some (.ref c_bps)))
    (aBp : PySem.W.nsIn K mainGlobals "BadPin" = some (some (.ref c_bp)))
    (aBg : PySem.W.nsIn K mainGlobals "BadGap" = some (some (.ref c_bg)))
    (aNp : PySem.W.nsIn K mainGlobals "NotPart" = some (some (.ref c_np)))
    (aRe : PySem.W.nsIn K mainGlobals "RimError" = some (some (.ref c_re)))
    (lD : K.lookup D = some (excClassObj nmD qD D ND bsD [.ref c_re, .type "ValueError", .type "Exception", .type "BaseException", .type "object"] true snD subD abD colD ddD m0 m1 m2 m3 m5 "ValueError.__new__"))
    (saD : PySem.W.findIn K (.ref D) "__setattr__" = some (some (.builtin "object.__setattr__")))
    (eD : PySem.W.subIn K (.ref D) (.type "BaseException") = some true)
    (tD : PySem.W.typeIn K (.ref D) = some (.type "type"))
    (kD : PySem.W.keepIn K (.ref D) = true)
    (iU : PySem.W.findIn K (.ref D) "__init__" = some (some (.ref fU)))
    (tU : PySem.W.typeIn K (.ref fU) = some (.type "function"))
    (lU : K.lookup fU = some ⟨ocU, odU, .func (PySem.W.fnX "__init__" "UnlikePins.__init__" (defArgs s_UnlikePins_init) (defBody s_UnlikePins_init) (defScope s_UnlikePins_init) [("__class__", cc)] .none kVU dcU pmU anU (.ref cda) ctU), slU⟩)
    (cU : PySem.W.codeIn K (.ref cda) "UnlikePins.__init__" = true)
    (lcc : K.lookup cc = some ⟨clC, cldC, .cell (some (.ref D)), cslC⟩)
    (lcda : K.lookup cda = some ⟨ccl2, cdd, .fields vsC, ccs⟩)
    (cv : vsC[2]? = some (.str fileC tfC))
    (cf : ((lw.prog.main.file : Str) == fileC) = true)
    (lRe : K.lookup c_re = some (excClassObj nmR qR c_re NR bsR [.type "ValueError", .type "Exception", .type "BaseException", .type "object"] hdR snR subR abR colR ddR m0r m1r m2r m3r m5r niR))
    (iRe : PySem.W.findIn K (.ref c_re) "__init__" = some (some (.builtin "ValueError.__init__")))
    (veD : PySem.W.subIn K (.ref D) (.type "ValueError") = some true)
    (meD : PySem.W.mroIn K D (.ref D) = some true)
    (opD : PySem.W.nsIn K cStatics "thirdparty.any" = some none)
    (tpD : (lw.prog.main.scope.names.lookup ("super" : Str)).isSome = false)
    (n1D : PySem.W.findIn K (.ref D) "one" = some none)
    (n2D : PySem.W.findIn K (.ref D) "other" = some none)
    (gaD : PySem.W.findIn K (.ref D) "__getattribute__" = some (some (.builtin "BaseException.__getattribute__")))
    (ggD : PySem.W.findIn K (.ref D) "__getattr__" = some none)
    (hD : PySem.W.hasDictIn K D = true)
    (caD : PySem.W.findIn K (.ref D) "__class__" = some (some (.builtin "object.__class__")))
    (nD : PySem.W.specialIn K (.builtin "object.__class__") "__get__" = some (some (.builtin "getset_descriptor.__get__")))
    (kTD : PySem.W.takesIn K (.builtin "object.__class__") = some true)
    (moD : PySem.W.mroIn K D (.type "object") = some true)
    (sdD : PySem.W.subIn K (.ref D) (.ref D) = some true)
    (q1a : PySem.W.isClsIn K c_bps = true)
    (q1b : PySem.W.typeIn K (.ref c_bps) = some (.type "type"))
    (q1c : PySem.W.subIn K (.ref D) (.ref c_bps) = some false)
    (q2a : PySem.W.isClsIn K c_bp = true)
    (q2b : PySem.W.typeIn K (.ref c_bp) = some (.type "type"))
    (q2c : PySem.W.subIn K (.ref D) (.ref c_bp) = some false)
    (q3a : PySem.W.isClsIn K c_bg = true)
    (q3b : PySem.W.typeIn K (.ref c_bg) = some (.type "type"))
    (q3c : PySem.W.subIn K (.ref D) (.ref c_bg) = some false)
    (q4a : PySem.W.isClsIn K c_np = true)
    (q4b : PySem.W.typeIn K (.ref c_np) = some (.type "type"))
    (q4c : PySem.W.subIn K (.ref D) (.ref c_np) = some false)
    (q5a : PySem.W.isClsIn K c_re = true)
    (q5b : PySem.W.typeIn K (.ref c_re) = some (.type "type"))
    (q5c : PySem.W.subIn K (.ref D) (.ref c_re) = some true)
    (zS : PySem.W.nsIn K mainGlobals "super" = some none)
    (zE : PySem.W.nsIn K mainGlobals "enumerate" = some none)
    (zV : PySem.W.nsIn K mainGlobals "ValueError" = some none)
    (z0 : PySem.W.nsIn K mainGlobals "max" = some none)
    (z1 : PySem.W.nsIn K mainGlobals "min" = some none)
    (z2 : PySem.W.nsIn K mainGlobals "tuple" = some none)
    (z3 : PySem.W.nsIn K mainGlobals "range" = some none)
    (z4 : PySem.W.nsIn K mainGlobals "isinstance" = some none)
    (z5 : PySem.W.nsIn K mainGlobals "int" = some none)
    (z6 : PySem.W.nsIn K mainGlobals "bool" = some none)
    (z7 : PySem.W.nsIn K mainGlobals "len" = some none)
    (z8 : PySem.W.nsIn K mainGlobals "list" = some none)
    (z9 : PySem.W.nsIn K mainGlobals "str" = some none)
    (z10 : PySem.W.nsIn K mainGlobals "sorted" = some none)
    (z11 : PySem.W.nsIn K mainGlobals "sum" = some none) :
    ∃ fd : FuncData, (∀ (s : Shared) (v : Value), BindsTo s fd ⟨[v], []⟩ [("_law_script", v)]) ∧ ∀ base : Heap, K.In base → base.Ns mainGlobals mg → FnOk lw.prog w K mg base CX0 9 fa fd ["_law_script"] (spLaw K) := by
  have e := hfa.symm.trans (PySem.W.mg_of X G a36)
  cases e
  have D_gaps := df_mk (ps := ["pins"]) (st := s_gaps) X G a1 l1 c1 k1 fun _ _ _ _ _ _ us hl => match us, hl with | [_], _ => rfl
  have D_is_whole := df_mk (ps := ["value"]) (st := s_is_whole) X G a2 l2 c2 k2 fun _ _ _ _ _ _ us hl => match us, hl with | [_], _ => rfl
  have D_is_sequence := df_mk (ps := ["value"]) (st := s_is_sequence) X G a3 l3 c3 k3 fun _ _ _ _ _ _ us hl => match us, hl with | [_], _ => rfl
  have D_is_below := df_mk (ps := ["value", "bound"]) (st := s_is_below) X G a4 l4 c4 k4 fun _ _ _ _ _ _ us hl => match us, hl with | [_, _], _ => rfl
  have D_check_pins := df_mk (ps := ["pins"]) (st := s_check_pins) X G a5 l5 c5 k5 fun _ _ _ _ _ _ us hl => match us, hl with | [_], _ => rfl
  have D_check_like := df_mk (ps := ["one", "other"]) (st := s_check_like) X G a6 l6 c6 k6 fun _ _ _ _ _ _ us hl => match us, hl with | [_, _], _ => rfl
  have D_is_entry := df_mk (ps := ["pins", "entry"]) (st := s_is_entry) X G a7 l7 c7 k7 fun _ _ _ _ _ _ us hl => match us, hl with | [_, _], _ => rfl
  have D_gathered := df_mk (ps := ["pins", "entries"]) (st := s_gathered) X G a8 l8 c8 k8 fun _ _ _ _ _ _ us hl => match us, hl with | [_, _], _ => rfl
  have D_ends_at_pins := df_mk (ps := ["pins", "cords"]) (st := s_ends_at_pins) X G a9 l9 c9 k9 fun _ _ _ _ _ _ us hl => match us, hl with | [_, _], _ => rfl
  have D_cord_grid := df_mk (ps := ["pins", "cords"]) (st := s_cord_grid) X G a10 l10 c10 k10 fun _ _ _ _ _ _ us hl => match us, hl with | [_, _], _ => rfl
  have D_sums_before := df_mk (ps := ["row"]) (st := s_sums_before) X G a11 l11 c11 k11 fun _ _ _ _ _ _ us hl => match us, hl with | [_], _ => rfl
  have D_table_rows := df_mk (ps := ["pins", "cords"]) (st := s_table_rows) X G a12 l12 c12 k12 fun _ _ _ _ _ _ us hl => match us, hl with | [_, _], _ => rfl
  have D_first_bar := df_mk (ps := ["pins", "held", "wished"]) (st := s_first_bar) X G a13 l13 c13 k13 fun _ _ _ _ _ _ us hl => match us, hl with | [_, _, _], _ => rfl
  have D_odd_pins := df_mk (ps := ["ends", "wished"]) (st := s_odd_pins) X G a14 l14 c14 k14 fun _ _ _ _ _ _ us hl => match us, hl with | [_, _], _ => rfl
  have D_table_of := df_mk (ps := ["lot"]) (st := s_table_of) X G a15 l15 c15 k15 fun _ _ _ _ _ _ us hl => match us, hl with | [_], _ => rfl
  have D_bar := df_mk (ps := ["lot", "wishes"]) (st := s_bar) X G a16 l16 c16 k16 fun _ _ _ _ _ _ us hl => match us, hl with | [_, _], _ => rfl
  have D_odd := df_mk (ps := ["lot", "wishes"]) (st := s_odd) X G a17 l17 c17 k17 fun _ _ _ _ _ _ us hl => match us, hl with | [_, _], _ => rfl
  have D__law_whole := df_mk (ps := ["_law_value"]) (st := s__law_whole) X G a18 l18 c18 k18 fun _ _ _ _ _ _ us hl => match us, hl with | [_], _ => rfl
  have D__law_cell := df_mk (ps := ["_law_script", "_law_k"]) (st := s__law_cell) X G a19 l19 c19 k19 fun _ _ _ _ _ _ us hl => match us, hl with | [_, _], _ => rfl
  have D__law_digits := df_mk (ps := ["_law_cell_here", "_law_sizes"]) (st := s__law_digits) X G a20 l20 c20 k20 fun _ _ _ _ _ _ us hl => match us, hl with | [_, _], _ => rfl
  have D__law_same := df_mk (ps := ["_law_value", "_law_due"]) (st := s__law_same) X G a21 l21 c21 k21 fun _ _ _ _ _ _ us hl => match us, hl with | [_, _], _ => rfl
  have D__law_norm := df_mk (ps := ["_law_triples"]) (st := s__law_norm) X G a22 l22 c22 k22 fun _ _ _ _ _ _ us hl => match us, hl with | [_], _ => rfl
  have D__law_table := df_mk (ps := ["_law_pins_here", "_law_bunch"]) (st := s__law_table) X G a23 l23 c23 k23 fun _ _ _ _ _ _ us hl => match us, hl with | [_, _], _ => rfl
  have D__law_ends := df_mk (ps := ["_law_bunch", "_law_pin"]) (st := s__law_ends) X G a24 l24 c24 k24 fun _ _ _ _ _ _ us hl => match us, hl with | [_, _], _ => rfl
  have D__law_lot_is := df_mk (ps := ["_law_thing", "_law_pins_here", "_law_bunch"]) (st := s__law_lot_is) X G a25 l25 c25 k25 fun _ _ _ _ _ _ us hl => match us, hl with | [_, _, _], _ => rfl
  have D__law_pins := df_mk (ps := ["_law_cell_here"]) (st := s__law_pins) X G a26 l26 c26 k26 fun _ _ _ _ _ _ us hl => match us, hl with | [_], _ => rfl
  have D__law_lot := df_mk (ps := ["_law_script", "_law_start", "_law_count", "_law_pins_here"]) (st := s__law_lot) X G a27 l27 c27 k27 fun _ _ _ _ _ _ us hl => match us, hl with | [_, _, _, _], _ => rfl
  have D__law_cross := df_mk (ps := ["_law_a", "_law_b", "_law_c", "_law_d"]) (st := s__law_cross) X G a28 l28 c28 k28 fun _ _ _ _ _ _ us hl => match us, hl with | [_, _, _, _], _ => rfl
  have D__law_moves := df_mk (ps := ["_law_bunch"]) (st := s__law_moves) X G a29 l29 c29 k29 fun _ _ _ _ _ _ us hl => match us, hl with | [_], _ => rfl
  have D__law_moved := df_mk (ps := ["_law_bunch", "_law_move"]) (st := s__law_moved) X G a30 l30 c30 k30 fun _ _ _ _ _ _ us hl => match us, hl with | [_, _], _ => rfl
  have D__law_led := df_mk (ps := ["_law_bunch", "_law_pins_here", "_law_cell_here", "_law_extra"]) (st := s__law_led) X G a31 l31 c31 k31 fun _ _ _ _ _ _ us hl => match us, hl with | [_, _, _, _], _ => rfl
  have D__law_bar := df_mk (ps := ["_law_held", "_law_wished"]) (st := s__law_bar) X G a32 l32 c32 k32 fun _ _ _ _ _ _ us hl => match us, hl with | [_, _], _ => rfl
  have D__law_odd := df_mk (ps := ["_law_pins_here", "_law_one", "_law_two"]) (st := s__law_odd) X G a33 l33 c33 k33 fun _ _ _ _ _ _ us hl => match us, hl with | [_, _, _], _ => rfl
  have D__law_pair := df_mk (ps := ["_law_lots", "_law_pins_here", "_law_bunch", "_law_tables", "_law_i", "_law_j"]) (st := s__law_pair) X G a34 l34 c34 k34 fun _ _ _ _ _ _ us hl => match us, hl with | [_, _, _, _, _, _], _ => rfl
  have D__law_unlike := df_mk (ps := ["_law_thing", "_law_strange", "_law_pins_here", "_law_far", "_law_kind"]) (st := s__law_unlike) X G a35 l35 c35 k35 fun _ _ _ _ _ _ us hl => match us, hl with | [_, _, _, _, _], _ => rfl
  have T : Bi mg := ⟨PySem.W.mg_none_of X G z0, PySem.W.mg_none_of X G z1, PySem.W.mg_none_of X G z2, PySem.W.mg_none_of X G z3, PySem.W.mg_none_of X G z4, PySem.W.mg_none_of X G z5, PySem.W.mg_none_of X G z6, PySem.W.mg_none_of X G z7, PySem.W.mg_none_of X G z8, PySem.W.mg_none_of X G z9, PySem.W.mg_none_of X G z10, PySem.W.mg_none_of X G z11⟩
  have cl : Cls K C := ⟨pg, hd, po, sa⟩
  have L : LotC K mg C := ⟨cl, nP, nC, PySem.W.mg_of X G aC⟩
  have hz : ∀ H, SqT K H z [] := fun H => .inr ⟨_, #[], nz, lz, rfl, rfl, by decide, .nil⟩
  have F_Lot_contains : Fun K "__contains__" "Lot.__contains__" s_Lot_contains f37 _ := fun_mk l37 c37 k37
  have B_Lot_contains := F_Lot_contains.binds (ps := ["self", "wishes"]) fun _ _ _ _ _ _ us hl => match us, hl with | [_, _], _ => rfl
  have M_Lot_contains : Mt K C "__contains__" "Lot.__contains__" s_Lot_contains ["self", "wishes"] f37 _ := ⟨F_Lot_contains, ⟨i37, n37, k37⟩, B_Lot_contains⟩
  have FI_ : FI K z f38 _ := ⟨⟨_, _, _, _, _, _, _, _, _, _, rfl, l38, c38, .inr ⟨by simp, T_d, _, [.ref z], nT, rfl, lT, rfl, .cons rfl .nil⟩, .inl rfl⟩, k38⟩
  have MI : Mk K C f38 := ⟨mk, i38, n38, kc⟩
  obtain ⟨ds, vds, BI⟩ := FI_.binds1 (ps := ["self", "pins", "cords"]) 3 1 (by simp) rfl fun T kV doc pm an cdv ct us its h1 h2 => match us, h1, its, h2 with | [_, _, _], _, [_], _ => ⟨_, rfl, rfl⟩
  have eds : ds = [] := by cases vds; rfl
  subst eds
  obtain ⟨ds1, vds1, BD⟩ := FI_.binds1 (ps := ["self", "pins", "cords"]) 2 0 (by simp) rfl fun T kV doc pm an cdv ct us its h1 h2 => match us, h1, its, h2 with | [_, _], _, [_], _ => ⟨_, rfl, rfl⟩
  have eds1 : ds1 = [.ref z] := by
    cases vds1 with
    | cons r t =>
      cases t
      cases r
      rfl
  subst eds1
  have OX : OexC K D := ⟨⟨_, _, _, _, _, _, _, _, _, _, _, _, _, _, _, lD, rfl⟩, saD, eD, tD, kD⟩
  have EK : ErrK lw.prog K mg D cc cda := ⟨OX, ⟨_, _, _, lcc⟩, ⟨_, _, _, _, _, _, lcda, cv, cf⟩, sup_of lD lRe iRe, veD, meD, opD, PySem.W.mg_none_of X G zS, tpD⟩
  have BU : Binds K (PySem.W.fnX "__init__" "UnlikePins.__init__" (defArgs s_UnlikePins_init) (defBody s_UnlikePins_init) (defScope s_UnlikePins_init) [("__class__", cc)] .none kVU dcU pmU anU (.ref cda) ctU) ["self", "one", "other"] [] := Binds.all fun us hl => match us, hl with | [_, _, _], _ => rfl
  have UC : UnlC K mg D fU _ := ⟨OX, ⟨PySem.W.mg_of X G aD, iU, tU⟩, BU⟩
  have XX : XcC K D c_bps c_bp c_bg c_np c_re := ⟨⟨gaD, ggD, eD, hD, caD, nD, kTD, moD⟩, ⟨gaD, ggD, eD, hD⟩, n1D, n2D, kit_ref sdD q1a q1b q1c, kit_ref sdD q2a q2b q2c, kit_ref sdD q3a q3b q3c, kit_ref sdD q4a q4b q4c, kit_ref sdD q5a q5b q5c, kit_ve veD, PySem.W.exm_ref eD hD tD sdD⟩
  refine ⟨PySem.W.fnOf "law" "law" (defArgs s_law) (defBody s_law) (defScope s_law) .none kV36 dc36 pm36 an36 cd36 ct36, fun s v => .of_eq rfl, fun base _ _ => ?_⟩
  have Gckpins := ok_ckpins (P := lw.prog) (w := w) (mg := mg) (base := base) D_check_pins.F T D_is_whole
  have Gentry := ok_entry (P := lw.prog) (w := w) (mg := mg) (base := base) D_is_entry.F T D_is_whole D_is_below D_is_sequence
  have Ggath := ok_gathered (P := lw.prog) (w := w) (mg := mg) (base := base) D_gathered.F T D_is_entry Gentry
  have Ginit := ok_init (P := lw.prog) (w := w) (mg := mg) (base := base) FI_ T L D_check_pins Gckpins D_gathered Ggath
  have Geap := ok_eap (P := lw.prog) (w := w) (mg := mg) (base := base) D_ends_at_pins.F T
  have Ggaps := ok_gaps (P := lw.prog) (w := w) (mg := mg) (base := base) D_gaps.F T
  have Gsums := ok_sums (P := lw.prog) (w := w) (mg := mg) (base := base) D_sums_before.F T
  have Ggrid := ok_grid (P := lw.prog) (w := w) (mg := mg) (base := base) D_cord_grid.F T
  have Grows := ok_table (P := lw.prog) (w := w) (mg := mg) (base := base) D_table_rows.F T D_cord_grid Ggrid D_gaps Ggaps D_sums_before Gsums
  have Gtof := ok_tabof (P := lw.prog) (w := w) (mg := mg) (base := base) D_table_of.F L D_table_rows Grows
  have Gunl := ok_UnlikePins (P := lw.prog) (w := w) (mg := mg) (base := base) EK lU cU n1D n2D
  have Glike := ok_likeX (P := lw.prog) (w := w) (mg := mg) (base := base) D_check_like.F UC Gunl
  have Gfb := ok_fb (P := lw.prog) (w := w) (mg := mg) (base := base) D_first_bar.F T D_gaps Ggaps
  have Goddp := ok_oddp (P := lw.prog) (w := w) (mg := mg) (base := base) D_odd_pins.F T (PySem.W.mg_none_of X G zE)
  have Gbar := ok_barX (P := lw.prog) (w := w) (mg := mg) (base := base) D_bar.F L D_check_like Glike D_first_bar Gfb D_table_of Gtof
  have Godd := ok_oddX (P := lw.prog) (w := w) (mg := mg) (base := base) D_odd.F L D_check_like Glike D_odd_pins Goddp D_ends_at_pins Geap
  have Gin := ok_inX (P := lw.prog) (w := w) (mg := mg) (base := base) F_Lot_contains L D_check_like Glike D_first_bar Gfb D_table_rows Grows D_odd_pins Goddp D_ends_at_pins Geap
  have Gwh := ok_lwhole (P := lw.prog) (w := w) (mg := mg) (base := base) D__law_whole.F T
  have HWh := okH_lwhole (P := lw.prog) (w := w) (mg := mg) (base := base) D__law_whole.F T
  have Gcell := ok_cell (P := lw.prog) (w := w) (mg := mg) (base := base) D__law_cell.F T
  have Gdig := ok_digits (P := lw.prog) (w := w) (mg := mg) (base := base) D__law_digits.F T
  have Gsame := ok_same (P := lw.prog) (w := w) (mg := mg) (base := base) D__law_same T D__law_whole Gwh
  have HSame := okH_same (P := lw.prog) (w := w) (mg := mg) (base := base) D__law_same T D__law_whole HWh
  have Gpins := ok_pins (P := lw.prog) (w := w) (mg := mg) (base := base) D__law_pins.F T D__law_digits Gdig
  have Gnorm := ok_norm (P := lw.prog) (w := w) (mg := mg) (base := base) D__law_norm.F T
  have Gltab := ok_ltab (P := lw.prog) (w := w) (mg := mg) (base := base) D__law_table.F T
  have Gli := ok_lotis (P := lw.prog) (w := w) (mg := mg) (base := base) D__law_lot_is.F L D__law_same (Gsame 0) (Gsame 2)
  have Gllot := ok_llot (P := lw.prog) (w := w) (mg := mg) (base := base) D__law_lot.F T D__law_digits Gdig D__law_cell Gcell D__law_norm Gnorm
  have Glends := ok_lends (P := lw.prog) (w := w) (mg := mg) (base := base) D__law_ends.F
  have Glbar := ok_lbar (P := lw.prog) (w := w) (mg := mg) (base := base) D__law_bar.F T
  have Glodd := ok_lodd (P := lw.prog) (w := w) (mg := mg) (base := base) D__law_odd.F T D__law_ends Glends
  have Gcross := ok_cross (P := lw.prog) (w := w) (mg := mg) (base := base) D__law_cross.F T
  have Gmoves := ok_moves (P := lw.prog) (w := w) (mg := mg) (base := base) D__law_moves.F T D__law_cross Gcross
  have Gmoved := ok_moved (P := lw.prog) (w := w) (mg := mg) (base := base) D__law_moved.F T D__law_norm Gnorm
  have Gled := ok_led (P := lw.prog) (w := w) (mg := mg) (base := base) D__law_led.F T D__law_norm Gnorm D__law_digits Gdig D__law_moves Gmoves D__law_moved Gmoved
  have Gpair := ok_pair (P := lw.prog) (w := w) (mg := mg) (base := base) D__law_pair.F D_bar Gbar D_odd Godd i37 n37 B_Lot_contains Gin D__law_bar Glbar D__law_odd Glodd D__law_same (Gsame 2)
  have Gun := ok_unl (P := lw.prog) (w := w) (mg := mg) (base := base) D__law_unlike.F T (PySem.W.mg_none_of X G zV) UC XX (PySem.W.mg_of X G aBps) (PySem.W.mg_of X G aBp) (PySem.W.mg_of X G aBg) (PySem.W.mg_of X G aNp) (PySem.W.mg_of X G aRe) D_bar Gbar D_odd Godd i37 n37 B_Lot_contains Gin D__law_same (HSame 2)
  exact ok_law (fun_mk l36 c36 k36) T L D__law_cell Gcell D__law_pins Gpins D__law_digits Gdig D__law_lot Gllot D__law_table Gltab D__law_led Gled D__law_pair Gpair D__law_unlike Gun D__law_lot_is Gli D__law_bar Glbar D__law_odd Glodd D__law_same (Gsame 2) D_bar Gbar D_odd Godd MI BI BD hz Ginit
end Own

open PySem PySem.W PyProof.Rows
set_option maxRecDepth 100000 in
set_option maxHeartbeats 0 in
theorem PySem.Challenge.cw_rimcords_k06_bars_and_odds_holds : PySem.Challenge.rw_rimcords_k06_bars_and_odds.Holds := by
  w_on; o_law; k_head; (case hw => w_witness2)
  k_fill
  refine L2.walk_of (l := PySem.Challenge.rw_rimcords_k06_bars_and_odds) (n := 63) (k := 9) (x := "_law_script") (CX := fun _ => L2.CX0) (sp := fun w => Own.spLaw _) rfl (by decide) rfl ⟨rfl, by decide, by decide⟩ (fun w h Y => PySem.W.kIn_of Y) ?F (fun _ _ a ns hl _ hS => ⟨a, ns, rfl, hS, Nat.le_trans hl (by decide), fun _ => rfl⟩) (fun _ _ _ _ _ h => h)
  case F =>
    intro w mg fa h KX G hmg
    refine' Own.all_mk KX G hmg ?a1 ?l1 ?c1 ?k1 ?a2 ?l2 ?c2 ?k2 ?a3 ?l3 ?c3 ?k3 ?a4 ?l4 ?c4 ?k4 ?a5 ?l5 ?c5 ?k5 ?a6 ?l6 ?c6 ?k6 ?a7 ?l7 ?c7 ?k7 ?a8 ?l8 ?c8 ?k8 ?a9 ?l9 ?c9 ?k9 ?a10 ?l10 ?c10 ?k10 ?a11 ?l11 ?c11 ?k11 ?a12 ?l12 ?c12 ?k12 ?a13 ?l13 ?c13 ?k13 ?a14 ?l14 ?c14 ?k14 ?a15 ?l15 ?c15 ?k15 ?a16 ?l16 ?c16 ?k16 ?a17 ?l17 ?c17 ?k17 ?a18 ?l18 ?c18 ?k18 ?a19 ?l19 ?c19 ?k19 ?a20 ?l20 ?c20 ?k20 ?a21 ?l21 ?c21 ?k21 ?a22 ?l22 ?c22 ?k22 ?a23 ?l23 ?c23 ?k23 ?a24 ?l24 ?c24 ?k24 ?a25 ?l25 ?c25 ?k25 ?a26 ?l26 ?c26 ?k26 ?a27 ?l27 ?c27 ?k27 ?a28 ?l28 ?c28 ?k28 ?a29 ?l29 ?c29 ?k29 ?a30 ?l30 ?c30 ?k30 ?a31 ?l31 ?c31 ?k31 ?a32 ?l32 ?c32 ?k32 ?a33 ?l33 ?c33 ?k33 ?a34 ?l34 ?c34 ?k34 ?a35 ?l35 ?c35 ?k35 ?a36 ?l36 ?c36 ?k36 ?aC ?i37 ?n37 ?l37 ?c37 ?k37 ?i38 ?n38 ?l38 ?c38 ?k38 ?lT ?lz ?pg ?hd ?po ?sa ?mk ?kc ?nP ?nC ?sf ?aD ?aBps ?aBp ?aBg ?aNp ?aRe ?lD ?saD ?eD ?tD ?kD ?iU ?tU ?lU ?cU ?lcc ?lcda ?cv ?cf ?lRe ?iRe ?veD ?meD ?opD ?tpD ?n1D ?n2D ?gaD ?ggD ?hD ?caD ?nD ?kTD ?moD ?sdD ?q1a ?q1b ?q1c ?q2a ?q2b ?q2c ?q3a ?q3b ?q3c ?q4a ?q4b ?q4c ?q5a ?q5b ?q5c ?zS ?zE ?zV ?z0 ?z1 ?z2 ?z3 ?z4 ?z5 ?z6 ?z7 ?z8 ?z9 ?z10 ?z11
    (case a1 => k_is)
    (case l1 => k_is)
    (case c1 => k_is)
    (case k1 => k_is)
    (case a2 => k_is)
    (case l2 => k_is)
    (case c2 => k_is)
    (case k2 => k_is)
    (case a3 => k_is)
    (case l3 => k_is)
    (case c3 => k_is)
    (case k3 => k_is)
    (case a4 => k_is)
    (case l4 => k_is)
    (case c4 => k_is)
    (case k4 => k_is)
    (case a5 => k_is)
    (case l5 => k_is)
    (case c5 => k_is)
    (case k5 => k_is)
    (case a6 => k_is)
    (case l6 => k_is)
    (case c6 => k_is)
    (case k6 => k_is)
    (case a7 => k_is)
    (case l7 => k_is)
    (case c7 => k_is)
    (case k7 => k_is)
    (case a8 => k_is)
    (case l8 => k_is)
    (case c8 => k_is)
    (case k8 => k_is)
    (case a9 => k_is)
    (case l9 => k_is)
    (case c9 => k_is)
    (case k9 => k_is)
    (case a10 => k_is)
    (case l10 => k_is)
    (case c10 => k_is)
    (case k10 => k_is)
    (case a11 => k_is)
    (case l11 => k_is)
    (case c11 => k_is)
    (case k11 => k_is)
    (case a12 => k_is)
    (case l12 => k_is)
    (case c12 => k_is)
    (case k12 => k_is)
    (case a13 => k_is)
    (case l13 => k_is)
    (case c13 => k_is)
    (case k13 => k_is)
    (case a14 => k_is)
    (case l14 => k_is)
    (case c14 => k_is)
    (case k14 => k_is)
    (case a15 => k_is)
    (case l15 => k_is)
    (case c15 => k_is)
    (case k15 => k_is)
    (case a16 => k_is)
    (case l16 => k_is)
    (case c16 => k_is)
    (case k16 => k_is)
    (case a17 => k_is)
    (case l17 => k_is)
    (case c17 => k_is)
    (case k17 => k_is)
    (case a18 => k_is)
    (case l18 => k_is)
    (case c18 => k_is)
    (case k18 => k_is)
    (case a19 => k_is)
    (case l19 => k_is)
    (case c19 => k_is)
    (case k19 => k_is)
    (case a20 => k_is)
    (case l20 => k_is)
    (case c20 => k_is)
    (case k20 => k_is)
    (case a21 => k_is)
    (case l21 => k_is)
    (case c21 => k_is)
    (case k21 => k_is)
    (case a22 => k_is)
    (case l22 => k_is)
    (case c22 => k_is)
    (case k22 => k_is)
    (case a23 => k_is)
    (case l23 => k_is)
    (case c23 => k_is)
    (case k23 => k_is)
    (case a24 => k_is)
    (case l24 => k_is)
    (case c24 => k_is)
    (case k24 => k_is)
    (case a25 => k_is)
    (case l25 => k_is)
    (case c25 => k_is)
    (case k25 => k_is)
    (case a26 => k_is)
    (case l26 => k_is)
    (case c26 => k_is)
    (case k26 => k_is)
    (case a27 => k_is)
    (case l27 => k_is)
    (case c27 => k_is)
    (case k27 => k_is)
    (case a28 => k_is)
    (case l28 => k_is)
    (case c28 => k_is)
    (case k28 => k_is)
    (case a29 => k_is)
    (case l29 => k_is)
    (case c29 => k_is)
    (case k29 => k_is)
    (case a30 => k_is)
    (case l30 => k_is)
    (case c30 => k_is)
    (case k30 => k_is)
    (case a31 => k_is)
    (case l31 => k_is)
    (case c31 => k_is)
    (case k31 => k_is)
    (case a32 => k_is)
    (case l32 => k_is)
    (case c32 => k_is)
    (case k32 => k_is)
    (case a33 => k_is)
    (case l33 => k_is)
    (case c33 => k_is)
    (case k33 => k_is)
    (case a34 => k_is)
    (case l34 => k_is)
    (case c34 => k_is)
    (case k34 => k_is)
    (case a35 => k_is)
    (case l35 => k_is)
    (case c35 => k_is)
    (case k35 => k_is)
    (case a36 => k_is)
    (case l36 => k_is)
    (case c36 => k_is)
    (case k36 => k_is)
    (case aC => k_is)
    (case i37 => k_is)
    (case n37 => k_is)
    (case l37 => k_is)
    (case c37 => k_is)
    (case k37 => k_is)
    (case i38 => k_is)
    (case n38 => k_is)
    (case l38 => k_is)
    (case c38 => k_is)
    (case k38 => k_is)
    (case lT => k_is)
    (case lz => k_is)
    (case pg => k_is)
    (case hd => k_is)
    (case po => k_is)
    (case sa => k_is)
    (case mk => k_is)
    (case kc => k_is)
    (case nP => k_is)
    (case nC => k_is)
    (case sf => k_is)
    (case aD => k_is)
    (case aBps => k_is)
    (case aBp => k_is)
    (case aBg => k_is)
    (case aNp => k_is)
    (case aRe => k_is)
    (case lD => k_is)
    (case saD => k_is)
    (case eD => k_is)
    (case tD => k_is)
    (case kD => k_is)
    (case iU => k_is)
    (case tU => k_is)
    (case lU => k_is)
    (case cU => k_is)
    (case lcc => k_is)
    (case lcda => k_is)
    (case cv => first | rfl | decide +kernel)
    (case cf => first | rfl | decide +kernel)
    (case lRe => k_is)
    (case iRe => k_is)
    (case veD => k_is)
    (case meD => k_is)
    (case opD => k_is)
    (case tpD => first | rfl | decide +kernel)
    (case n1D => k_is)
    (case n2D => k_is)
    (case gaD => k_is)
    (case ggD => k_is)
    (case hD => k_is)
    (case caD => k_is)
    (case nD => k_is)
    (case kTD => k_is)
    (case moD => k_is)
    (case sdD => k_is)
    (case q1a => k_is)
    (case q1b => k_is)
    (case q1c => k_is)
    (case q2a => k_is)
    (case q2b => k_is)
    (case q2c => k_is)
    (case q3a => k_is)
    (case q3b => k_is)
    (case q3c => k_is)
    (case q4a => k_is)
    (case q4b => k_is)
    (case q4c => k_is)
    (case q5a => k_is)
    (case q5b => k_is)
    (case q5c => k_is)
    (case zS => k_is)
    (case zE => k_is)
    (case zV => k_is)
    (case z0 => k_is)
    (case z1 => k_is)
    (case z2 => k_is)
    (case z3 => k_is)
    (case z4 => k_is)
    (case z5 => k_is)
    (case z6 => k_is)
    (case z7 => k_is)
    (case z8 => k_is)
    (case z9 => k_is)
    (case z10 => k_is)
    (case z11 => k_is)
