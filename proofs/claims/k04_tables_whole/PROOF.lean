import PyProof.Rows.All
import Wide.All
import OpenK.AllK
import Wide.FinOn
import HandS.ForMost
import HandS.IsInst
import HandS.Style
import HandS.Defaults
import HandS.MakeKwOnly
import HandS.Conv
import HandS.Sort
import HandS.SortRule
import HandS.Deep
import HandS.Property
import HandS.TupSets
import HandS.Codes
import HandS.SlotsOwn
import HandS.TupAny
import KE.KOpsOwn
import HandS.DictComp
import HandS.Walk
import PySem.Challenge.RW_rimcords_k04_tables_whole
set_option Elab.async false
set_option linter.all false
set_option maxRecDepth 100000
/-! Rules of my own for the hand layer. -/
namespace Own
open PySem PySem.Spec PyProof.Rows L2
/-- the two ints of a pair that stands in the heap -/
def kOf (H : Hp) (v : V) : Int × Int := match v with
  | .ref a => match H a with
    | some (.tup [.int i, .int j]) => (i, j)
    | _ => (0, 0)
  | _ => (0, 0)
theorem kOf_at {H : Hp} {a : Addr} {i j : Int} (h : H a = some (.tup [.int i, .int j])) : kOf H (.ref a) = (i, j) := by
  show (match H a with | some (.tup [.int i, .int j]) => (i, j) | _ => (0, 0)) = (i, j)
  rw [h]
def rSortedDT : List V → Hp → VK → Prop := fun vs H Q => ∃ (d : Addr) (kvs : List (List Key × V)), vs = [V.ref d] ∧ Rd H d (.dT kvs) ∧ (∀ kv ∈ kvs, ∃ i j : Int, kv.1 = [Sum.inl i, Sum.inl j]) ∧
  ∀ (bs : List Addr) (ys : List V) (p : Addr), IsKeys H kvs bs → SrtO.Srtd (ltP (kOf H)) ys → SrtO.Stb (ltP (kOf H)) ys (bs.map V.ref) → H p = none → Q (.ref p) (upd H p (.lst ys))
section
variable {X : Cx}
theorem paired_right {α β : Type} {R : α → β → Prop} {xs : List α} {ys : List β} (h : Paired R xs ys) : ∀ y ∈ ys, ∃ x ∈ xs, R x y := by
  induction h with
  | nil => intro y hy; cases hy
  | cons h t ih =>
    intro y hy
    rcases List.mem_cons.mp hy with e | e
    · subst e
      exact ⟨_, List.mem_cons_self, h⟩
    · obtain ⟨x, hx, hr⟩ := ih y e
      exact ⟨x, List.mem_cons_of_mem _ hx, hr⟩
theorem cr_sortedDT (hc : X.calm = true) : CallR X (.builtin "sorted") rSortedDT := by
  intro pins s σ H xs us Q I r h
  obtain ⟨d, kvs, rfl, hd, hkv, q⟩ := h
  obtain ⟨u, rfl, rx⟩ := r.one
  cases rx
  obtain ⟨z, hs, ks, pr, o, es, ep, ho, hx, hdt, he, hn⟩ := (show ObjOk X.prog X.w H s.heap d (.dT kvs) from hd.ok I.hok)
  have l1 : es.size = ks.length := size_of_entries he
  have l2 : kvs.length = ks.length := Paired.length pr
  refine Calls.call_function_entry PyProof.Rows.kind_sorted PyProof.Rows.plain_sorted PyProof.Rows.entry_sorted (PyProof.Rows.args_sorted1 _) ?_
  unfold Builtin.«sorted»
  refine wpAny_bind (m := checkCount "sorted" 1 1 _) (wpAny_pure ?_)
  refine wpAny_bind (PySem.W.kdu_collect (A := X.A.in1) (kdl_raw hs hx hdt) (I.ok.hd hc) ho (by omega) fun h' tk acc' kp it => ?_)
  have ea : acc'.toList = ks.map fun x => Value.ref x.2.1 := by
    have hl : acc'.toList.length = ks.length := by rw [Array.length_toList, it.1]; exact l1
    apply List.ext_getElem?
    intro j
    rw [List.getElem?_map]
    cases hj : acc'.toList[j]? with
    | none =>
      have h1 := List.getElem?_eq_none_iff.mp hj
      rw [List.getElem?_eq_none (by omega)]
      all_goals rfl
    | some v =>
      obtain ⟨en, hen, hv⟩ := it.2 j v (by rw [← Array.getElem?_toList]; exact hj)
      have qe := entry_at he j
      rw [hen] at qe
      cases hb : ks[j]? with
      | none =>
        rw [hb] at qe
        exact nomatch (show some en = none from qe)
      | some b =>
        rw [hb] at qe
        have e2 : en = entryOfKey (tupleKind (mixKind X.prog X.w)) b := Option.some.inj qe
        rw [hv, e2]
        all_goals rfl
  have hal : acc'.toList.length ≤ sizeLine := by rw [ea, List.length_map]; omega
  have I1 : Inv X pins σ H { s with heap := h', toks := tk } := I.kept kp
  have keys := isKeys_of pr
  have hpair : ∀ v ∈ acc'.toList, ∃ t i j, v = Value.ref t ∧ H t = some (.tup [.int i, .int j]) := fun v hv => by
    rw [ea] at hv
    obtain ⟨x, hx, rfl⟩ := List.mem_map.mp hv
    obtain ⟨kv, hkm, hb⟩ := paired_right keys x.2.1 (List.mem_map.mpr ⟨x, hx, rfl⟩)
    obtain ⟨i, j, e⟩ := hkv kv hkm
    rw [e] at hb
    exact ⟨_, i, j, rfl, hb⟩
  refine wpAny_bind (wpAny_newList ?_ hal)
  have hoL : (h'.push (seqObj "list" acc'.toList.toArray 0)).get? h'.objs.size = some (seqObj "list" acc'.toList.toArray 0) := Heap.get?_push_size _ rfl
  have hp : ∀ v ∈ acc'.toList, Srt.IsPair (h'.push (seqObj "list" acc'.toList.toArray 0)) v (kOf H (backV v)).1 (kOf H (backV v)).2 := fun v hv => by
    obtain ⟨t, i, j, rfl, ht⟩ := hpair v hv
    obtain ⟨_, its2, r2, o, ho2, hc2, n2, hd2⟩ := I1.hok _ _ ht
    obtain ⟨u1, u2, rfl, ri, rj⟩ := vals2 r2
    obtain ⟨t1, rfl⟩ := ri
    obtain ⟨t2, rfl⟩ := rj
    rw [show backV (Value.ref t) = V.ref t from rfl, kOf_at ht]
    exact ⟨t, o, t1, t2, n2, rfl, Heap.get?_push_of_some _ ho2, hc2, hd2⟩
  show wpAny _ _ _ _ _ { s with heap := h'.push (seqObj "list" acc'.toList.toArray 0), toks := tk }
  refine wpAny_bind (wpAny_holding (wpAny_call_entry PyProof.Rows.slot_list_sort ⟨_, hoL, rfl⟩ PyProof.Rows.entry_list_sort
    (SrtO.list_sort_ord (s := { s with heap := h'.push (seqObj "list" acc'.toList.toArray 0), toks := tk }) (SrtO.swo_lex fun v => kOf H (backV v)) hoL hal (fun h2 => ?_) fun out hs hb => ⟨_, rfl, ?_⟩) (PyProof.Rows.args_list_sort _)))
  · refine SrtO.pairs_sortableO (s := { s with heap := h'.push (seqObj "list" acc'.toList.toArray 0), toks := tk }) (by omega) hp fun o e => ?_
    have e' : some o = some (seqObj "list" acc'.toList.toArray 0) := e.symm.trans hoL
    cases e'
    intro c
    exact absurd (Value.type.inj c) (by decide)
  · obtain ⟨e', he'⟩ := PyProof.Rows.sortedHeap_at (vs := acc'.toList) (out := out.toArray) hoL
    have hrefs : ∀ u ∈ out, ∃ a, u = Value.ref a := fun u hu => by
      obtain ⟨t, i, j, e, _⟩ := hpair u (hb.perm.mem_iff.mp hu)
      exact ⟨t, e⟩
    have hb2 : SrtO.Stb (ltP (kOf H)) (out.map backV) ((ks.map fun x => x.2.1).map V.ref) := by
      have e1 : ((ks.map fun x => x.2.1).map V.ref) = acc'.toList.map backV := by
        rw [ea, List.map_map, List.map_map]
        rfl
      rw [e1]
      exact SrtO.Stb.map (ltP_swo (kOf H)) backV hb
    have hlen : (out.map backV).length ≤ sizeLine := by
      rw [List.length_map, hb.perm.length_eq]
      exact hal
    refine wpAny_pure ⟨_, rfl, .ref h'.objs.size, upd H h'.objs.size (.lst (out.map backV)), I1.laid (t' := tk) (fun b u e => ?_) (Nat.le_refl _)
      (show ObjOk X.prog X.w _ _ _ (.lst (out.map backV)) from ⟨hlen, out, e', vals_back hrefs, by exact he'⟩), rfl, q _ _ _ keys (SrtO.srtd_map hs) hb2 (I1.hok.fresh (Nat.le_refl _))⟩
    have hbn : b < h'.objs.size := Heap.lt_size e
    rw [PyProof.Rows.sortedHeap_old (Nat.ne_of_lt hbn) (by rw [size_push']; exact Nat.lt_succ_of_lt hbn)]
    exact Heap.get?_push_of_some _ e
/-- len(o), o an instance of an own class with a __len__ -/
def rLenOwn (C : Addr) (sp : Sp) (E : XK) : List V → Hp → VK → Prop := fun vs H Q => ∃ (a dx : Addr) (fs : List (Str × V)), vs = [V.ref a] ∧ H a = some (.ins C dx fs) ∧ sp [V.ref a] H (fun v H' => ∃ n : Nat, v = .int (n : Int) ∧ n ≤ sizeLine ∧ Q (.int (n : Int)) H') E
theorem cr_lenOwn {CX : CXT} {k : Nat} {C f : Addr} {fd : FuncData} {ps : List Str} {sp : Sp} {E : XK} (hm : Meth X.K C "__len__" f) (F : FnOk X.prog X.w X.K X.mg X.base CX k f fd ps sp) (hr : Room (k + 1) X.A) (hb : Binds X.K fd ps []) (hx : Passes CX X.nox E) :
    CallR X (.builtin "len") (rLenOwn C sp E) := by
  intro pins s σ H xs us Q I r h
  obtain ⟨a, dx, fs, rfl, ea, q⟩ := h
  obtain ⟨u, rfl, rx⟩ := vals1 r
  cases rx
  obtain ⟨mA, O, _, _, _, _⟩ := ins_get I.hok ea
  obtain ⟨od, J, _⟩ := O.look
  have hl : [Value.ref a].length = ps.length := (F.len _ _ _ _ q : _)
  apply Calls.call_function_entry kind_len plain_len entry_len (args_len1 _)
  show wpAny _ _ (Builtin.«len» _) _ _ _
  unfold Builtin.«len»
  apply wpAny_bind (m := oneArg "len" _)
  apply wpAny_pure
  apply wpAny_bind (m := callSpecial? (.ref a) (Str.ofString "__len__"))
  apply PySem.W.special_fn I.kIn J hm.at_ (beq_iff_eq.mp hm.fn)
  apply wpAny_call
  refine codeAny_mono (F.run X.A.in1 X.stack s H ⟨[.ref a], []⟩ [.ref a] [V.ref a] _ E hr.in1 I.env0.in1 (hb s [.ref a] I.kIn hl) (.cons rfl .nil) q) fun r s' hq => ?_
  rcases r with e | fl
  · exact False.elim (hx pins σ H s e s' (I.wish _) hq)
  · cases fl <;> first | exact False.elim hq | skip
    rename_i u
    obtain ⟨v, H', I3, rv, n, ev, hn, q3⟩ := I.after hq
    subst ev
    obtain ⟨t, et⟩ := rv
    subst et
    have h63 : sizeLine < 2 ^ 63 := by decide
    apply wpAny_bind
    apply wpAny_holding
    apply wpAny_pure
    apply wpAny_bind
    apply wpAny_letGo
    show wpAny _ _ (if (n : Int) < 0 then _ else _) _ _ _
    rw [if_neg (by omega)]
    show wpAny _ _ (if (n : Int) ≥ 2 ^ 63 then _ else _) _ _ _
    rw [if_neg (by omega)]
    apply wpAny_bind
    apply wpAny_mkInt
    exact wpAny_pure ⟨_, rfl, .int (n : Int), H', I3.tok _, ⟨_, rfl⟩, q3⟩
/-- for x in xs, xs a list or a tuple -/
def iSeq (K : PySem.W.Frag) (ta : TE) : TI := fun σ H R => ta σ H fun x H1 => ∃ a, x = .ref a ∧ (((∃ xs, SqL K H1 a xs) ∧ R (Itl K a) H1) ∨ ((∃ xs, SqT K H1 a xs) ∧ R (Itt K a) H1))
theorem pi_seq {tg l : Expr} {tl : TE} (hl : PE X l tl) : PI X tg l (iSeq X.K tl) := by
  refine ⟨fun pins s σ H R I h => thn (hl.run pins s σ H _ I h) ?_⟩
  rintro v s1 ⟨x, H1, I1, r1, a, rfl, q | q⟩
  all_goals
    obtain ⟨⟨xs, hq⟩, q⟩ := q
    obtain rfl : v = Value.ref a := r1
    have fresh := I1.fpOk (Nat.le_refl s1.heap.objs.size) (I1.hok.fresh (Nat.le_refl _))
    have older : ∀ {u : Obj}, Inv X pins σ H1 { s1 with heap := s1.heap.push u, toks := s1.toks } := fun {u} => I1.kept (t' := s1.toks) fun b o e => Heap.get?_push_of_some _ e
  · obtain ⟨its, rv, p, hz⟩ := I1.list hq
    exact wpAny_pyIter_list p.isList ⟨_, [s1.heap.objs.size], _, _, H1, rfl, older, turn_list a _, ⟨_, Heap.get?_push_size _ rfl, rfl, rfl⟩, fun b hb => by rw [List.mem_singleton.mp hb]; exact fresh, q⟩
  · obtain ⟨its, rv, p, hz⟩ := I1.tuple hq
    exact wpAny_pyIter_tuple (show s1.heap.IsTuple a its.toArray from p) ⟨_, [s1.heap.objs.size], _, _, H1, rfl, older, turn_tuple a _, ⟨_, Heap.get?_push_size _ rfl, rfl, rfl⟩, fun b hb => by rw [List.mem_singleton.mp hb]; exact fresh, q⟩
/-- the loop's rule for both -/
def SqB (K : PySem.W.Frag) (H : Hp) (a : Addr) (xs : List V) : Prop := SqL K H a xs ∨ SqT K H a xs
end
end Own

/-! Lots of cords as plain lists. -/
namespace Own
/-- one entry: two pins and a number of cords -/
abbrev Tr := Int × Int × Int
def lo (a b : Int) : Int := if b < a then b else a
def hi (a b : Int) : Int := if b > a then b else a
theorem lo_hi (a b : Int) : (a ≤ b ∧ lo a b = a ∧ hi a b = b) ∨ (b < a ∧ lo a b = b ∧ hi a b = a) := by
  unfold lo hi
  by_cases h : b < a
  · right
    rw [if_pos h, if_neg (by omega)]
    omega
  · left
    rw [if_neg h]
    by_cases e : b > a
    · rw [if_pos e]
      omega
    · rw [if_neg e]
      omega
/-- its pins as they stand, and in order -/
def pr (t : Tr) : Int × Int := (t.1, t.2.1)
def ky (t : Tr) : Int × Int := (lo t.1 t.2.1, hi t.1 t.2.1)
def Lex (p q : Int × Int) : Prop := p.1 < q.1 ∨ (p.1 = q.1 ∧ p.2 < q.2)
/-- the cords of all entries that the test takes: by the pins as they stand, by the pins in order -/
def bs (f : Int × Int → Bool) : List Tr → Int
  | [] => 0
  | t :: r => (if f (pr t) = true then t.2.2 else 0) + bs f r
def bk (f : Int × Int → Bool) : List Tr → Int
  | [] => 0
  | t :: r => (if f (ky t) = true then t.2.2 else 0) + bk f r
def tot (p : Int × Int) (l : List Tr) : Int := bk (fun q => decide (q = p)) l
theorem bs_append (f : Int × Int → Bool) (l m : List Tr) : bs f (l ++ m) = bs f l + bs f m := by
  induction l with
  | nil => simp [bs]
  | cons t r ih =>
    rw [List.cons_append, bs, bs, ih]
    omega
theorem bk_append (f : Int × Int → Bool) (l m : List Tr) : bk f (l ++ m) = bk f l + bk f m := by
  induction l with
  | nil => simp [bk]
  | cons t r ih =>
    rw [List.cons_append, bk, bk, ih]
    omega
theorem bs_congr {f g : Int × Int → Bool} {l : List Tr} (h : ∀ t ∈ l, f (pr t) = g (pr t)) : bs f l = bs g l := by
  induction l with
  | nil => rfl
  | cons t r ih =>
    rw [bs, bs, h t List.mem_cons_self, ih fun u hu => h u (List.mem_cons_of_mem _ hu)]
/-- r is l in order: one entry for each two pins, the smaller pin first -/
structure IsNorm (l r : List Tr) : Prop where
  srt : (r.map pr).Pairwise Lex
  mem : ∀ p, p ∈ r.map pr ↔ p ∈ l.map ky
  cnt : ∀ e ∈ r, e.2.2 = tot (pr e) l
theorem lex_irr {p : Int × Int} : ¬ Lex p p := by
  unfold Lex
  omega
theorem lex_asym {p q : Int × Int} (h : Lex p q) : ¬ Lex q p := by
  unfold Lex at h ⊢
  omega
theorem sorted_uniq : ∀ {xs ys : List (Int × Int)}, xs.Pairwise Lex → ys.Pairwise Lex → (∀ p, p ∈ xs ↔ p ∈ ys) → xs = ys
  | [], [], _, _, _ => rfl
  | [], y :: ys, _, _, h => absurd ((h y).mpr List.mem_cons_self) (by simp)
  | x :: xs, [], _, _, h => absurd ((h x).mp List.mem_cons_self) (by simp)
  | x :: xs, y :: ys, hx, hy, h => by
    have hx1 := List.pairwise_cons.mp hx
    have hy1 := List.pairwise_cons.mp hy
    have e : x = y := by
      rcases List.mem_cons.mp ((h x).mp List.mem_cons_self) with e | m
      · exact e
      · rcases List.mem_cons.mp ((h y).mpr List.mem_cons_self) with e | m2
        · exact e.symm
        · exact absurd (hy1.1 x m) (lex_asym (hx1.1 y m2))
    subst e
    congr 1
    refine sorted_uniq hx1.2 hy1.2 fun p => ⟨fun m => ?_, fun m => ?_⟩
    · rcases List.mem_cons.mp ((h p).mp (List.mem_cons_of_mem _ m)) with e | m2
      · subst e
        exact absurd (hx1.1 p m) lex_irr
      · exact m2
    · rcases List.mem_cons.mp ((h p).mpr (List.mem_cons_of_mem _ m)) with e | m2
      · subst e
        exact absurd (hy1.1 p m) lex_irr
      · exact m2
theorem of_pairs {r : List Tr} {g : Int × Int → Int} (h : ∀ e ∈ r, e.2.2 = g (pr e)) : r = (r.map pr).map fun p => (p.1, p.2, g p) := by
  induction r with
  | nil => rfl
  | cons e r ih =>
    rw [List.map_cons, List.map_cons, ← ih fun u hu => h u (List.mem_cons_of_mem _ hu), ← h e List.mem_cons_self]
    rfl
theorem norm_uniq {l r s : List Tr} (h : IsNorm l r) (k : IsNorm l s) : r = s := by
  have e : r.map pr = s.map pr := sorted_uniq h.srt k.srt fun p => by rw [h.mem, k.mem]
  exact (of_pairs (g := fun p => tot p l) h.cnt).trans ((congrArg (List.map _) e).trans (of_pairs (g := fun p => tot p l) k.cnt).symm)
/-- the sum over a list of pairs, by their numbers in l -/
def ps (f : Int × Int → Bool) (l : List Tr) : List (Int × Int) → Int
  | [] => 0
  | p :: r => (if f p = true then tot p l else 0) + ps f l r
theorem ps_nil (f : Int × Int → Bool) (P : List (Int × Int)) : ps f [] P = 0 := by
  induction P with
  | nil => rfl
  | cons p r ih =>
    rw [ps, ih]
    show (if f p = true then (0 : Int) else 0) + 0 = 0
    split <;> rfl
theorem tot_cons (p : Int × Int) (t : Tr) (l : List Tr) : tot p (t :: l) = (if ky t = p then t.2.2 else 0) + tot p l := by
  unfold tot
  rw [bk]
  by_cases h : ky t = p <;> simp [h]
theorem ps_out (f : Int × Int → Bool) (t : Tr) (l : List Tr) {P : List (Int × Int)} (h : ky t ∉ P) : ps f (t :: l) P = ps f l P := by
  induction P with
  | nil => rfl
  | cons p r ih =>
    have hne : ¬ ky t = p := fun z => h (by rw [z]; exact List.mem_cons_self)
    have ht : tot p (t :: l) = tot p l := by
      rw [tot_cons, if_neg hne]
      omega
    rw [ps, ps, ih fun z => h (List.mem_cons_of_mem _ z), ht]
theorem ps_in (f : Int × Int → Bool) (t : Tr) (l : List Tr) {P : List (Int × Int)} (hn : P.Nodup) (h : ky t ∈ P) : ps f (t :: l) P = (if f (ky t) = true then t.2.2 else 0) + ps f l P := by
  induction P with
  | nil => cases h
  | cons p r ih =>
    have hc := List.nodup_cons.mp hn
    by_cases e : ky t = p
    · subst e
      rw [ps, ps, tot_cons, if_pos rfl, ps_out f t l hc.1]
      split <;> omega
    · have hr : ky t ∈ r := (List.mem_cons.mp h).resolve_left e
      rw [ps, ps, tot_cons, if_neg e, ih hc.2 hr]
      split <;> split <;> omega
theorem ps_all (f : Int × Int → Bool) {P : List (Int × Int)} (hn : P.Nodup) : ∀ {l : List Tr}, (∀ t ∈ l, ky t ∈ P) → ps f l P = bk f l
  | [], _ => ps_nil f P
  | t :: l, h => by
    rw [ps_in f t l hn (h t List.mem_cons_self), ps_all f hn fun u hu => h u (List.mem_cons_of_mem _ hu)]
    rfl
theorem srt_nodup {xs : List (Int × Int)} (h : xs.Pairwise Lex) : xs.Nodup := by
  refine List.Pairwise.imp ?_ h
  intro a b hab e
  subst e
  exact lex_irr hab
theorem bs_ps (f : Int × Int → Bool) {l r : List Tr} (h : ∀ e ∈ r, e.2.2 = tot (pr e) l) : bs f r = ps f l (r.map pr) := by
  induction r with
  | nil => rfl
  | cons e r ih =>
    rw [bs, List.map_cons, ps, ih fun u hu => h u (List.mem_cons_of_mem _ hu), h e List.mem_cons_self]
theorem bs_norm (f : Int × Int → Bool) {l r : List Tr} (h : IsNorm l r) : bs f r = bk f l := by
  rw [bs_ps f h.cnt, ps_all f (srt_nodup h.srt) fun t ht => (h.mem _).mpr (List.mem_map.mpr ⟨t, ht, rfl⟩)]
/-- an entry that may stand in a lot -/
def Vld (n : Int) (t : Tr) : Prop := 0 ≤ t.1 ∧ t.1 < n ∧ 0 ≤ t.2.1 ∧ t.2.1 < n ∧ t.1 ≠ t.2.1 ∧ 1 ≤ t.2.2
/-- a lot in order on n pins -/
structure Good (n : Int) (r : List Tr) : Prop where
  srt : (r.map pr).Pairwise Lex
  ord : ∀ e ∈ r, 0 ≤ e.1 ∧ e.1 < e.2.1 ∧ e.2.1 < n ∧ 1 ≤ e.2.2
theorem ky_ord {e : Tr} (h : e.1 < e.2.1) : ky e = pr e := by
  have := lo_hi e.1 e.2.1
  unfold ky pr
  rw [Prod.mk.injEq]
  omega
theorem Good.vld {n : Int} {r : List Tr} (g : Good n r) : ∀ e ∈ r, Vld n e := fun e h => by
  have := g.ord e h
  unfold Vld
  omega
theorem bk_bs (f : Int × Int → Bool) {r : List Tr} (h : ∀ e ∈ r, e.1 < e.2.1) : bk f r = bs f r := by
  induction r with
  | nil => rfl
  | cons e r ih => rw [bk, bs, ky_ord (h e List.mem_cons_self), ih fun u hu => h u (List.mem_cons_of_mem _ hu)]
theorem bs_none {f : Int × Int → Bool} {r : List Tr} (h : ∀ e ∈ r, f (pr e) = false) : bs f r = 0 := by
  induction r with
  | nil => rfl
  | cons e r ih =>
    rw [bs, h e List.mem_cons_self, ih fun u hu => h u (List.mem_cons_of_mem _ hu)]
    rfl
theorem self_cnt {r : List Tr} (h : (r.map pr).Nodup) : ∀ e ∈ r, e.2.2 = bs (fun q => decide (q = pr e)) r := by
  induction r with
  | nil => intro e he; cases he
  | cons t r ih =>
    have hc := List.nodup_cons.mp h
    intro e he
    rw [bs]
    rcases List.mem_cons.mp he with rfl | hr
    · rw [bs_none fun u hu => decide_eq_false fun z => hc.1 (by rw [← z]; exact List.mem_map.mpr ⟨u, hu, rfl⟩)]
      simp
    · have hne : ¬ pr t = pr e := fun z => hc.1 (by rw [z]; exact List.mem_map.mpr ⟨e, hr, rfl⟩)
      rw [← ih hc.2 e hr]
      simp [hne]
theorem Good.self {n : Int} {r : List Tr} (g : Good n r) : IsNorm r r := by
  have ho : ∀ e ∈ r, e.1 < e.2.1 := fun e h => (g.ord e h).2.1
  have hm : r.map ky = r.map pr := List.map_congr_left fun e h => ky_ord (ho e h)
  refine ⟨g.srt, fun p => by rw [hm], fun e h => ?_⟩
  unfold tot
  rw [bk_bs _ ho]
  exact self_cnt (srt_nodup g.srt) e h
theorem bk_pos {l : List Tr} (h : ∀ t ∈ l, 1 ≤ t.2.2) {p : Int × Int} (m : p ∈ l.map ky) : 1 ≤ tot p l := by
  have nn : ∀ {m : List Tr}, (∀ t ∈ m, 1 ≤ t.2.2) → 0 ≤ tot p m := by
    intro m hm
    induction m with
    | nil => exact Int.le_refl 0
    | cons t r ih =>
      have h1 := hm t List.mem_cons_self
      have h2 := ih fun u hu => hm u (List.mem_cons_of_mem _ hu)
      rw [tot_cons]
      split <;> omega
  induction l with
  | nil => cases m
  | cons t r ih =>
    have h1 := h t List.mem_cons_self
    have h2 := nn fun u hu => h u (List.mem_cons_of_mem _ hu)
    rw [tot_cons]
    rcases List.mem_cons.mp m with e | hr
    · rw [if_pos e.symm]
      omega
    · have h3 := ih (fun u hu => h u (List.mem_cons_of_mem _ hu)) hr
      split <;> omega
theorem IsNorm.good {n : Int} {l r : List Tr} (h : IsNorm l r) (v : ∀ t ∈ l, Vld n t) : Good n r := by
  refine ⟨h.srt, fun e he => ?_⟩
  have hm : pr e ∈ l.map ky := (h.mem _).mp (List.mem_map.mpr ⟨e, he, rfl⟩)
  have hp := bk_pos (fun t ht => (v t ht).2.2.2.2.2) hm
  rw [← h.cnt e he] at hp
  obtain ⟨t, ht, e1⟩ := List.mem_map.mp hm
  have hv := v t ht
  unfold Vld at hv
  have h1 := lo_hi t.1 t.2.1
  unfold ky pr at e1
  rw [Prod.mk.injEq] at e1
  omega
/-! ### renamed pins -/
def mp (g : Int → Int) (l : List Tr) : List Tr := l.map fun t => (g t.1, g t.2.1, t.2.2)
theorem bk_mp (g : Int → Int) (f : Int × Int → Bool) (l : List Tr) : bk f (mp g l) = bk (fun q => f (lo (g q.1) (g q.2), hi (g q.1) (g q.2))) l := by
  induction l with
  | nil => rfl
  | cons t r ih =>
    show (if f (ky (g t.1, g t.2.1, t.2.2)) = true then t.2.2 else 0) + bk f (mp g r) = _
    rw [ih, bk]
    have e : ky (g t.1, g t.2.1, t.2.2) = (lo (g (ky t).1) (g (ky t).2), hi (g (ky t).1) (g (ky t).2)) := by
      unfold ky
      dsimp only
      rcases lo_hi t.1 t.2.1 with h | h
      · rw [h.2.1, h.2.2]
      · rw [h.2.1, h.2.2]
        have a := lo_hi (g t.1) (g t.2.1)
        have b := lo_hi (g t.2.1) (g t.1)
        rw [Prod.mk.injEq]
        omega
    rw [e]
theorem mem_mp (g : Int → Int) {l r : List Tr} (h : ∀ p, p ∈ l.map ky ↔ p ∈ r.map ky) (p : Int × Int) : p ∈ (mp g l).map ky → p ∈ (mp g r).map ky := by
  have e : ∀ t : Tr, ky (g t.1, g t.2.1, t.2.2) = (lo (g (ky t).1) (g (ky t).2), hi (g (ky t).1) (g (ky t).2)) := fun t => by
    unfold ky
    dsimp only
    rcases lo_hi t.1 t.2.1 with h | h
    · rw [h.2.1, h.2.2]
    · rw [h.2.1, h.2.2]
      have a := lo_hi (g t.1) (g t.2.1)
      have b := lo_hi (g t.2.1) (g t.1)
      rw [Prod.mk.injEq]
      omega
  intro m
  obtain ⟨u, hu, e1⟩ := List.mem_map.mp m
  obtain ⟨t, ht, rfl⟩ := List.mem_map.mp hu
  obtain ⟨s, hs, e2⟩ := List.mem_map.mp ((h _).mp (List.mem_map.mpr ⟨t, ht, rfl⟩))
  refine List.mem_map.mpr ⟨_, List.mem_map.mpr ⟨s, hs, rfl⟩, ?_⟩
  rw [← e1, e, e, e2]
theorem norm_keys {n : Int} {l r : List Tr} (h : IsNorm l r) (g : Good n r) (p : Int × Int) : p ∈ l.map ky ↔ p ∈ r.map ky := by
  rw [← h.mem, List.map_congr_left fun e he => ky_ord (g.ord e he).2.1]
theorem norm_tot {n : Int} {l r : List Tr} (h : IsNorm l r) (g : Good n r) (f : Int × Int → Bool) : bk f r = bk f l := by
  rw [bk_bs f fun e he => (g.ord e he).2.1, bs_norm f h]
/-- renaming behind the ordering is renaming ahead of it -/
theorem norm_mp {n : Int} {l r x : List Tr} (h : IsNorm l r) (g : Good n r) (σ : Int → Int) (k : IsNorm (mp σ r) x) : IsNorm (mp σ l) x := by
  refine ⟨k.srt, fun p => (k.mem p).trans ⟨mem_mp σ (fun q => (norm_keys h g q).symm) p, mem_mp σ (norm_keys h g) p⟩, fun e he => ?_⟩
  rw [k.cnt e he]
  unfold tot
  rw [bk_mp, bk_mp, norm_tot h g]
theorem mp_mp (σ τ : Int → Int) (l : List Tr) : mp τ (mp σ l) = mp (fun x => τ (σ x)) l := by
  unfold mp
  rw [List.map_map]
  rfl
theorem mp_congr {σ τ : Int → Int} {n : Int} {l : List Tr} (v : ∀ t ∈ l, Vld n t) (h : ∀ x, 0 ≤ x → x < n → σ x = τ x) : mp σ l = mp τ l := by
  refine List.map_congr_left fun t ht => ?_
  have := v t ht
  unfold Vld at this
  rw [h t.1 (by omega) (by omega), h t.2.1 (by omega) (by omega)]
theorem mp_id {σ : Int → Int} {n : Int} {l : List Tr} (v : ∀ t ∈ l, Vld n t) (h : ∀ x, 0 ≤ x → x < n → σ x = x) : mp σ l = l := by
  rw [mp_congr (τ := fun x => x) v h]
  unfold mp
  exact List.map_id' l
theorem mp_vld {σ : Int → Int} {n : Int} {l : List Tr} (v : ∀ t ∈ l, Vld n t) (h : ∀ x, 0 ≤ x → x < n → 0 ≤ σ x ∧ σ x < n) (inj : ∀ x y, 0 ≤ x → x < n → 0 ≤ y → y < n → σ x = σ y → x = y) : ∀ t ∈ mp σ l, Vld n t := fun u hu => by
  obtain ⟨t, ht, rfl⟩ := List.mem_map.mp hu
  have hv := v t ht
  unfold Vld at hv ⊢
  have h1 := h t.1 (by omega) (by omega)
  have h2 := h t.2.1 (by omega) (by omega)
  have h3 := inj t.1 t.2.1 (by omega) (by omega) (by omega) (by omega)
  dsimp only
  refine ⟨h1.1, h1.2, h2.1, h2.2, fun z => hv.2.2.2.2.1 (h3 z), hv.2.2.2.2.2⟩
end Own

namespace Own
open PySem PySem.Spec PyProof.Rows L2
/-! ### the text by places -/
def top (i : Nat) : Stmt := PySem.Challenge.pw_rimcords_k04_tables_whole.main.body.getD i (.Pass ⟨0, 0, 0, 0⟩)
abbrev s__wall : Stmt := top 0
theorem sc__wall : FnScope ["k"] ["k"] (defScope s__wall) := ⟨rfl, rfl, rfl, by decide +kernel, rfl, by decide +kernel, by decide +kernel⟩
abbrev s_gaps : Stmt := top 10
theorem sc_gaps : FnScope ["pins"] ["pins"] (defScope s_gaps) := ⟨rfl, rfl, rfl, by decide +kernel, rfl, by decide +kernel, by decide +kernel⟩
abbrev s_is_whole : Stmt := top 12
theorem sc_is_whole : FnScope ["value"] ["value"] (defScope s_is_whole) := ⟨rfl, rfl, rfl, by decide +kernel, rfl, by decide +kernel, by decide +kernel⟩
abbrev s_is_sequence : Stmt := top 13
theorem sc_is_sequence : FnScope ["value"] ["value"] (defScope s_is_sequence) := ⟨rfl, rfl, rfl, by decide +kernel, rfl, by decide +kernel, by decide +kernel⟩
abbrev s_is_below : Stmt := top 14
theorem sc_is_below : FnScope ["value", "bound"] ["value", "bound"] (defScope s_is_below) := ⟨rfl, rfl, rfl, by decide +kernel, rfl, by decide +kernel, by decide +kernel⟩
abbrev s_check_pins : Stmt := top 15
theorem sc_check_pins : FnScope ["pins"] ["pins"] (defScope s_check_pins) := ⟨rfl, rfl, rfl, by decide +kernel, rfl, by decide +kernel, by decide +kernel⟩
abbrev s_check_pin : Stmt := top 16
theorem sc_check_pin : FnScope ["pins", "pin"] ["pins", "pin"] (defScope s_check_pin) := ⟨rfl, rfl, rfl, by decide +kernel, rfl, by decide +kernel, by decide +kernel⟩
abbrev s_check_like : Stmt := top 17
theorem sc_check_like : FnScope ["one", "other"] ["one", "other"] (defScope s_check_like) := ⟨rfl, rfl, rfl, by decide +kernel, rfl, by decide +kernel, by decide +kernel⟩
abbrev s_check_number : Stmt := top 18
theorem sc_check_number : FnScope ["number", "least"] ["number", "least"] (defScope s_check_number) := ⟨rfl, rfl, rfl, by decide +kernel, rfl, by decide +kernel, by decide +kernel⟩
abbrev s_is_entry : Stmt := top 20
theorem sc_is_entry : FnScope ["pins", "entry", "a", "b", "many"] ["pins", "entry"] (defScope s_is_entry) := ⟨rfl, rfl, rfl, by decide +kernel, rfl, by decide +kernel, by decide +kernel⟩
abbrev s_gathered : Stmt := top 21
theorem sc_gathered : FnScope ["pins", "entries", "held", "entry", "pair", "a", "b", "many"] ["pins", "entries"] (defScope s_gathered) := ⟨rfl, rfl, rfl, by decide +kernel, rfl, by decide +kernel, by decide +kernel⟩
abbrev s_by_pair : Stmt := top 22
theorem sc_by_pair : FnScope ["cords", "a", "b", "many"] ["cords"] (defScope s_by_pair) := ⟨rfl, rfl, rfl, by decide +kernel, rfl, by decide +kernel, by decide +kernel⟩
abbrev s_entries_of : Stmt := top 23
theorem sc_entries_of : FnScope ["held", "a", "b"] ["held"] (defScope s_entries_of) := ⟨rfl, rfl, rfl, by decide +kernel, rfl, by decide +kernel, by decide +kernel⟩
abbrev s_ends_at_pins : Stmt := top 24
theorem sc_ends_at_pins : FnScope ["pins", "cords", "ends", "a", "b", "many"] ["pins", "cords"] (defScope s_ends_at_pins) := ⟨rfl, rfl, rfl, by decide +kernel, rfl, by decide +kernel, by decide +kernel⟩
abbrev s_cord_grid : Stmt := top 25
theorem sc_cord_grid : FnScope ["pins", "cords", "rows", "a", "b", "many", "_"] ["pins", "cords"] (defScope s_cord_grid) := ⟨rfl, rfl, rfl, by decide +kernel, rfl, by decide +kernel, by decide +kernel⟩
abbrev s_sums_before : Stmt := top 26
theorem sc_sums_before : FnScope ["row", "sums", "total", "number"] ["row"] (defScope s_sums_before) := ⟨rfl, rfl, rfl, by decide +kernel, rfl, by decide +kernel, by decide +kernel⟩
abbrev s_table_rows : Stmt := top 27
theorem sc_table_rows : FnScope ["pins", "cords", "sums", "size", "rows", "i", "across", "j", "row", "_"] ["pins", "cords"] (defScope s_table_rows) := ⟨rfl, rfl, rfl, by decide +kernel, rfl, by decide +kernel, by decide +kernel⟩
abbrev s_first_bar : Stmt := top 28
theorem sc_first_bar : FnScope ["pins", "held", "wished", "i", "j"] ["pins", "held", "wished"] (defScope s_first_bar) := ⟨rfl, rfl, rfl, by decide +kernel, rfl, by decide +kernel, by decide +kernel⟩
abbrev s_odd_pins : Stmt := top 29
theorem sc_odd_pins : FnScope ["ends", "wished", "pin", "many"] ["ends", "wished"] (defScope s_odd_pins) := ⟨rfl, rfl, rfl, by decide +kernel, rfl, by decide +kernel, by decide +kernel⟩
abbrev s_Lot_init : Stmt := inClass (top 31) 0
theorem sc_Lot_init : FnScope ["self", "pins", "cords"] ["self", "pins", "cords"] (defScope s_Lot_init) := ⟨rfl, rfl, rfl, by decide +kernel, rfl, by decide +kernel, by decide +kernel⟩
abbrev s_Lot_table : Stmt := inClass (top 31) 1
theorem sc_Lot_table : FnScope ["self"] ["self"] (defScope s_Lot_table) := ⟨rfl, rfl, rfl, by decide +kernel, rfl, by decide +kernel, by decide +kernel⟩
abbrev s_Lot_ends : Stmt := inClass (top 31) 3
theorem sc_Lot_ends : FnScope ["self", "pin"] ["self", "pin"] (defScope s_Lot_ends) := ⟨rfl, rfl, rfl, by decide +kernel, rfl, by decide +kernel, by decide +kernel⟩
abbrev s_Lot_total : Stmt := inClass (top 31) 4
theorem sc_Lot_total : FnScope ["self", "entry"] ["self"] (defScope s_Lot_total) := ⟨rfl, rfl, rfl, by decide +kernel, rfl, by decide +kernel, by decide +kernel⟩
abbrev s_Lot_len : Stmt := inClass (top 31) 5
theorem sc_Lot_len : FnScope ["self"] ["self"] (defScope s_Lot_len) := ⟨rfl, rfl, rfl, by decide +kernel, rfl, by decide +kernel, by decide +kernel⟩
abbrev s_Lot_add : Stmt := inClass (top 31) 8
theorem sc_Lot_add : FnScope ["self", "other"] ["self", "other"] (defScope s_Lot_add) := ⟨rfl, rfl, rfl, by decide +kernel, rfl, by decide +kernel, by decide +kernel⟩
abbrev s_Lot_sub : Stmt := inClass (top 31) 9
theorem sc_Lot_sub : FnScope ["self", "other", "left", "a", "b", "many"] ["self", "other"] (defScope s_Lot_sub) := ⟨rfl, rfl, rfl, by decide +kernel, rfl, by decide +kernel, by decide +kernel⟩
abbrev s_Lot_mul : Stmt := inClass (top 31) 10
theorem sc_Lot_mul : FnScope ["self", "number", "a", "b", "many"] ["self", "number"] (defScope s_Lot_mul) := ⟨rfl, rfl, rfl, by decide +kernel, rfl, by decide +kernel, by decide +kernel⟩
abbrev s_table_of : Stmt := top 33
theorem sc_table_of : FnScope ["lot"] ["lot"] (defScope s_table_of) := ⟨rfl, rfl, rfl, by decide +kernel, rfl, by decide +kernel, by decide +kernel⟩
abbrev s__law_whole : Stmt := top 35
theorem sc__law_whole : FnScope ["_law_value"] ["_law_value"] (defScope s__law_whole) := ⟨rfl, rfl, rfl, by decide +kernel, rfl, by decide +kernel, by decide +kernel⟩
abbrev s__law_cell : Stmt := top 36
theorem sc__law_cell : FnScope ["_law_script", "_law_k", "_law_seed", "_law_cell_here"] ["_law_script", "_law_k"] (defScope s__law_cell) := ⟨rfl, rfl, rfl, by decide +kernel, rfl, by decide +kernel, by decide +kernel⟩
abbrev s__law_digits : Stmt := top 37
theorem sc__law_digits : FnScope ["_law_cell_here", "_law_sizes", "_law_row", "_law_rest", "_law_seed", "_law_k", "_law_size", "_law_twice"] ["_law_cell_here", "_law_sizes"] (defScope s__law_digits) := ⟨rfl, rfl, rfl, by decide +kernel, rfl, by decide +kernel, by decide +kernel⟩
abbrev s__law_same : Stmt := top 38
theorem sc__law_same : FnScope ["_law_value", "_law_due", "_law_k"] ["_law_value", "_law_due"] (defScope s__law_same) := ⟨rfl, rfl, rfl, by decide +kernel, rfl, by decide +kernel, by decide +kernel⟩
abbrev s__law_norm : Stmt := top 39
theorem sc__law_norm : FnScope ["_law_triples", "_law_pairs", "_law_entry", "_law_row", "_law_pair", "_law_low", "_law_high", "_law_many"] ["_law_triples"] (defScope s__law_norm) := ⟨rfl, rfl, rfl, by decide +kernel, rfl, by decide +kernel, by decide +kernel⟩
abbrev s__law_pins : Stmt := top 40
theorem sc__law_pins : FnScope ["_law_cell_here", "_law_row"] ["_law_cell_here"] (defScope s__law_pins) := ⟨rfl, rfl, rfl, by decide +kernel, rfl, by decide +kernel, by decide +kernel⟩
abbrev s__law_table : Stmt := top 41
theorem sc__law_table : FnScope ["_law_pins_here", "_law_bunch", "_law_size", "_law_table_here", "_law_i", "_law_met", "_law_step", "_law_j", "_law_row", "_law_entry"] ["_law_pins_here", "_law_bunch"] (defScope s__law_table) := ⟨rfl, rfl, rfl, by decide +kernel, rfl, by decide +kernel, by decide +kernel⟩
abbrev s__law_lot_is : Stmt := top 42
theorem sc__law_lot_is : FnScope ["_law_thing", "_law_pins_here", "_law_bunch"] ["_law_thing", "_law_pins_here", "_law_bunch"] (defScope s__law_lot_is) := ⟨rfl, rfl, rfl, by decide +kernel, rfl, by decide +kernel, by decide +kernel⟩
abbrev s__law_lot : Stmt := top 43
theorem sc__law_lot : FnScope ["_law_script", "_law_start", "_law_count", "_law_pins_here", "_law_row", "_law_k", "_law_draw", "_law_other", "_law_c"] ["_law_script", "_law_start", "_law_count", "_law_pins_here"] (defScope s__law_lot) := ⟨rfl, rfl, rfl, by decide +kernel, rfl, by decide +kernel, by decide +kernel⟩
abbrev s__law_told : Stmt := top 44
theorem sc__law_told : FnScope ["_law_thing", "_law_table_here"] ["_law_thing", "_law_table_here"] (defScope s__law_told) := ⟨rfl, rfl, rfl, by decide +kernel, rfl, by decide +kernel, by decide +kernel⟩
abbrev s__law_sum : Stmt := top 45
theorem sc__law_sum : FnScope ["_law_one", "_law_two", "_law_i", "_law_j"] ["_law_one", "_law_two"] (defScope s__law_sum) := ⟨rfl, rfl, rfl, by decide +kernel, rfl, by decide +kernel, by decide +kernel⟩
abbrev s__law_times : Stmt := top 46
theorem sc__law_times : FnScope ["_law_one", "_law_factor", "_law_i", "_law_j"] ["_law_one", "_law_factor"] (defScope s__law_times) := ⟨rfl, rfl, rfl, by decide +kernel, rfl, by decide +kernel, by decide +kernel⟩
abbrev s__law_mirror : Stmt := top 47
theorem sc__law_mirror : FnScope ["_law_table_here", "_law_i", "_law_j"] ["_law_table_here"] (defScope s__law_mirror) := ⟨rfl, rfl, rfl, by decide +kernel, rfl, by decide +kernel, by decide +kernel⟩
abbrev s_law : Stmt := top 48
theorem sc_law : FnScope ["_law_script", "_law_pins_here", "_law_held", "_law_wished", "_law_one", "_law_two", "_law_table_here", "_law_other", "_law_told_here", "_law_both", "_law_draw", "_law_factor", "_law_times_here", "_law_far", "_law_i", "_law_entry"] ["_law_script"] (defScope s_law) := ⟨rfl, rfl, rfl, by decide +kernel, rfl, by decide +kernel, by decide +kernel⟩
end Own

namespace Own
open PySem PySem.Spec PyProof.Rows L2
/-! ### heaps -/
theorem same_upd {H : Hp} {p : Addr} {o : HO} (h : H p = none) : Same H (upd H p o) := fun b x e => by
  rw [upd_ne (ne_of_none e h)]
  exact e
/-- a tuple of three ints -/
abbrev tv (t : Tr) : List V := [.int t.1, .int t.2.1, .int t.2.2]
def TrV (H : Hp) (vs : List V) (l : List Tr) : Prop := vs.length = l.length ∧ ∀ (i : Nat) (t : Tr), l[i]? = some t → ∃ b, vs[i]? = some (.ref b) ∧ H b = some (.tup (tv t))
def Trip (H : Hp) (a : Addr) (l : List Tr) : Prop := ∃ vs, H a = some (.tup vs) ∧ TrV H vs l
def TripL (H : Hp) (a : Addr) (l : List Tr) : Prop := ∃ vs, H a = some (.lst vs) ∧ TrV H vs l
theorem TrV.same {H H' : Hp} {vs : List V} {l : List Tr} (s : Same H H') (h : TrV H vs l) : TrV H' vs l := ⟨h.1, fun i t e => by
  obtain ⟨b, e1, e2⟩ := h.2 i t e
  exact ⟨b, e1, s _ _ e2⟩⟩
theorem Trip.same {H H' : Hp} {a : Addr} {l : List Tr} (s : Same H H') (h : Trip H a l) : Trip H' a l := by
  obtain ⟨vs, e, t⟩ := h
  exact ⟨vs, s _ _ e, t.same s⟩
theorem TripL.same {H H' : Hp} {a : Addr} {l : List Tr} (s : Same H H') (h : TripL H a l) : TripL H' a l := by
  obtain ⟨vs, e, t⟩ := h
  exact ⟨vs, s _ _ e, t.same s⟩
theorem TrV.nil {H : Hp} : TrV H [] [] := ⟨rfl, fun i t e => by simp at e⟩
theorem TrV.snoc {H : Hp} {vs : List V} {l : List Tr} {b : Addr} {t : Tr} (h : TrV H vs l) (e : H b = some (.tup (tv t))) : TrV H (vs ++ [.ref b]) (l ++ [t]) := by
  refine ⟨by rw [List.length_append, List.length_append, h.1]; rfl, fun i u hu => ?_⟩
  by_cases hi : i < l.length
  · rw [List.getElem?_append_left hi] at hu
    obtain ⟨c, e1, e2⟩ := h.2 i u hu
    exact ⟨c, by rw [List.getElem?_append_left (by rw [h.1]; exact hi)]; exact e1, e2⟩
  · rw [List.getElem?_append_right (by omega)] at hu
    have hi2 : i - l.length = 0 := by
      cases hk : i - l.length with
      | zero => rfl
      | succ k => rw [hk] at hu; simp at hu
    rw [hi2] at hu
    obtain rfl : t = u := Option.some.inj hu
    exact ⟨b, by rw [List.getElem?_append_right (by rw [h.1]; omega), h.1, hi2]; rfl, e⟩
theorem TrV.at_ {H : Hp} {vs : List V} {l : List Tr} (h : TrV H vs l) {i : Nat} {x : V} (e : vs[i]? = some x) : ∃ b t, x = .ref b ∧ l[i]? = some t ∧ H b = some (.tup (tv t)) := by
  have hi : i < l.length := by
    rw [← h.1]
    exact (List.getElem?_eq_some_iff.mp e).1
  obtain ⟨b, e1, e2⟩ := h.2 i l[i] (List.getElem?_eq_getElem hi)
  rw [e] at e1
  exact ⟨b, l[i], Option.some.inj e1, List.getElem?_eq_getElem hi, e2⟩
theorem SqB.same {K : PySem.W.Frag} {H H' : Hp} {a : Addr} {xs : List V} (s : Same H H') (h : SqB K H a xs) : SqB K H' a xs := by
  rcases h with h | ((h | ⟨o, h⟩) | h)
  · exact .inl (s.seq h)
  · exact .inr (.inl (.inl (s _ _ h)))
  · exact .inr (.inl (.inr ⟨o, s _ _ h⟩))
  · exact .inr (.inr h)
theorem Trip.sq {K : PySem.W.Frag} {H : Hp} {a : Addr} {l : List Tr} (h : Trip H a l) : ∃ vs, SqB K H a vs ∧ TrV H vs l := by
  obtain ⟨vs, e, t⟩ := h
  exact ⟨vs, .inr (.inl (.inl e)), t⟩
theorem TripL.sq {K : PySem.W.Frag} {H : Hp} {a : Addr} {l : List Tr} (h : TripL H a l) : ∃ vs, SqB K H a vs ∧ TrV H vs l := by
  obtain ⟨vs, e, t⟩ := h
  exact ⟨vs, .inl (.inl (.inl e)), t⟩
/-- a loop over a list or a tuple: what stood in Hb stands in each turn -/
theorem for_same {K : PySem.W.Frag} {a : Addr} {xs : List V} {g : TG} {tb : TS} {D : Ends} {σ : L2.St} {H Hb : Hp} (hB : SqB K Hb a xs) (Pv : Nat → L2.St → Hp → Prop) (h0 : Pv 0 σ H) (hk : ∀ i σ' H', Pv i σ' H' → Same Hb H')
    (hs : ∀ i x σ H, xs[i]? = some x → Pv i σ H → g x σ H fun σ2 H2 => tb { D with nx := Pv (i + 1), ct := Pv (i + 1), bk := D.nx } σ2 H2) (hd : ∀ σ H, Pv xs.length σ H → D.nx σ H) :
    ((∃ xs, SqL K H a xs) ∧ ∃ W : Nat → Nat → L2.St → Hp → Prop, (∃ m, W 0 m σ H) ∧ ∀ i m σ H, W i m σ H →
      ((Itl K a).stop i H ∧ D.nx σ H) ∨ ((Itl K a).go i H ∧ ∃ N : L2.St → Hp → Prop, (∀ σ' H', N σ' H' → ∃ m', m' < m ∧ W (i + 1) m' σ' H') ∧ ∀ x H', (Itl K a).yld i H x H' → g x σ H' fun σ2 H2 => tb { D with nx := N, ct := N, bk := D.nx } σ2 H2)) ∨
    ((∃ xs, SqT K H a xs) ∧ ∃ W : Nat → Nat → L2.St → Hp → Prop, (∃ m, W 0 m σ H) ∧ ∀ i m σ H, W i m σ H →
      ((Itt K a).stop i H ∧ D.nx σ H) ∨ ((Itt K a).go i H ∧ ∃ N : L2.St → Hp → Prop, (∀ σ' H', N σ' H' → ∃ m', m' < m ∧ W (i + 1) m' σ' H') ∧ ∀ x H', (Itt K a).yld i H x H' → g x σ H' fun σ2 H2 => tb { D with nx := N, ct := N, bk := D.nx } σ2 H2)) := by
  have tup : ∀ {H'}, SqT K Hb a xs → Same Hb H' → SqT K H' a xs := fun h s => by
    rcases h with (h | ⟨o, h⟩) | h
    · exact .inl (.inl (s _ _ h))
    · exact .inl (.inr ⟨o, s _ _ h⟩)
    · exact .inr h
  rcases hB with h | h
  · exact .inl ⟨⟨xs, (hk 0 σ H h0).seq h⟩, for_list Pv h0 (fun i σ' H' _ p => (hk i σ' H' p).seq h) hs hd⟩
  · exact .inr ⟨⟨xs, tup h (hk 0 σ H h0)⟩, for_tup Pv h0 (fun i σ' H' _ p => tup h (hk i σ' H' p)) hs hd⟩
theorem kitTrue {K : PySem.W.Frag} {t : Value} : PySem.W.kitOne K t t = some true := by
  unfold PySem.W.kitOne
  rw [if_pos (beq_self_eq_true t)]
section
variable {P : Program} {w : World} {K : PySem.W.Frag} {mg : Str → Option Value} {base : Heap}
structure Df (K : PySem.W.Frag) (mg : Str → Option Value) (x : Str) (st : Stmt) (ps : List Str) (f : Addr) (fd : FuncData) : Prop where
  F : Fun K x x st f fd
  g : mg x = some (.ref f)
  b : Binds K fd ps []
/-- the built-ins that the text calls -/
structure Bi (mg : Str → Option Value) : Prop where
  b_max : mg "max" = none
  b_min : mg "min" = none
  b_tuple : mg "tuple" = none
  b_range : mg "range" = none
  b_isinstance : mg "isinstance" = none
  b_int : mg "int" = none
  b_bool : mg "bool" = none
  b_len : mg "len" = none
  b_list : mg "list" = none
  b_str : mg "str" = none
  b_sorted : mg "sorted" = none
  b_sum : mg "sum" = none
/-! ### kinds -/
def spWhole : Sp := fun vs H Q _ => ∃ i : Int, vs = [.int i] ∧ Q (.bl true) H
theorem ok_whole {f : Addr} {fd : FuncData} (F : Fun K "is_whole" "is_whole" s_is_whole f fd) (T : Bi mg) : FnOk P w K mg base CX0 1 f fd ["value"] spWhole := by
  refine F.ok sc_is_whole (fun vs H Q E h => ?_) (fun cdv A outer s H vs Q E hr h => ?_)
  · obtain ⟨i, rfl, _⟩ := h
    rfl
  · obtain ⟨i, rfl, q⟩ := h
    refine ⟨_, (pss_one (ps_ret (pe_and (pe_callB call_isi (by rfl) T.b_isinstance (by decide +kernel) (pa_cons (pv 0) (pa_cons (pe_bltn (v := .ty "int") (by rfl) T.b_int (by decide +kernel) rfl) pa_nil))) (pe_one (pe_not (pe_callB call_isi (by rfl) T.b_isinstance (by decide +kernel) (pa_cons (pv 0) (pa_cons (pe_bltn (v := .ty "bool") (by rfl) T.b_bool (by decide +kernel) rfl) pa_nil)))))))), ?_⟩
    refine ⟨_, rfl, _, _, _, _, true, rfl, .ty "int", .base (.int i), kit_ty (by decide +kernel), true, rfl, ?_⟩
    exact ⟨_, rfl, _, _, _, _, false, rfl, .ty "bool", .base (.int i), kit_ty (by decide +kernel), false, rfl, q⟩
def spSeq : Sp := fun vs H Q _ => ∃ (a : Addr) (xs : List V), vs = [.ref a] ∧ H a = some (.tup xs) ∧ ∀ H', Same H H' → Q (.bl true) H'
theorem ok_seq {f : Addr} {fd : FuncData} (F : Fun K "is_sequence" "is_sequence" s_is_sequence f fd) (T : Bi mg) : FnOk P w K mg base CX0 1 f fd ["value"] spSeq := by
  refine F.ok sc_is_sequence (fun vs H Q E h => ?_) (fun cdv A outer s H vs Q E hr h => ?_)
  · obtain ⟨a, xs, rfl, _⟩ := h
    rfl
  · obtain ⟨a, xs, rfl, ha, q⟩ := h
    refine ⟨_, (pss_one (ps_ret (pe_callB call_isiT (by rfl) T.b_isinstance (by decide +kernel) (pa_cons (pv 0) (pa_cons (pe_tup (pa_cons (pe_bltn (v := .ty "list") (by rfl) T.b_list (by decide +kernel) rfl) (pa_cons (pe_bltn (v := .ty "tuple") (by rfl) T.b_tuple (by decide +kernel) rfl) pa_nil))) pa_nil))))), ?_⟩
    refine ⟨_, rfl, by show 2 ≤ sizeLine; decide, fun p np => ?_⟩
    have s1 : Same H (upd H p (.tup [.ty "list", .ty "tuple"])) := same_upd np
    exact ⟨_, p, _, _, _, true, rfl, upd_same, .cons (.ty "list") (.cons (.ty "tuple") .nil), .base (.tup (s1 _ _ ha)), kitAny_cons (b := false) (kit_ty (by decide +kernel)) (fun _ => kitAny_cons (b := true) (kit_ty (by decide +kernel)) (fun z => by cases z) (fun _ => rfl)) (fun z => by cases z), q _ s1⟩
def spBelow : Sp := fun vs H Q _ => ∃ x n : Int, vs = [.int x, .int n] ∧ 0 ≤ x ∧ x < n ∧ Q (.bl true) H
theorem ok_below {f : Addr} {fd : FuncData} (F : Fun K "is_below" "is_below" s_is_below f fd) (T : Bi mg) {f_w : Addr} {d_w : FuncData} (D_w : Df K mg "is_whole" s_is_whole ["value"] f_w d_w) : FnOk P w K mg base CX0 2 f fd ["value", "bound"] spBelow := by
  have G_w : FnOk P w K mg base CX0 1 f_w d_w ["value"] spWhole := ok_whole D_w.F T
  refine F.ok sc_is_below (fun vs H Q E h => ?_) (fun cdv A outer s H vs Q E hr h => ?_)
  · obtain ⟨x, n, rfl, _⟩ := h
    rfl
  · obtain ⟨x, n, rfl, h0, h1, q⟩ := h
    refine ⟨_, (pss_one (ps_ret (pe_and (pe_call G_w hr (by rfl) D_w.g D_w.F.kp D_w.b .nil pass0 (pa_cons (pv 0) pa_nil)) (pe_one (pe_chain op_le op_lt pe_int (pv 0) (pv 1)))))), ?_⟩
    refine ⟨_, rfl, x, rfl, true, rfl, ?_⟩
    refine ⟨_, rfl, 0, x, rfl, rfl, _, rfl, ?_⟩
    rw [decide_eq_true h0, if_pos rfl]
    refine ⟨_, rfl, x, n, rfl, rfl, ?_⟩
    show Q (.bl (decide (x < n))) H
    rw [decide_eq_true h1]
    exact q
def spCkPins : Sp := fun vs H Q _ => ∃ n : Int, vs = [.int n] ∧ 0 ≤ n ∧ Q .non H
theorem ok_ckpins {f : Addr} {fd : FuncData} (F : Fun K "check_pins" "check_pins" s_check_pins f fd) (T : Bi mg) {f_w : Addr} {d_w : FuncData} (D_w : Df K mg "is_whole" s_is_whole ["value"] f_w d_w) : FnOk P w K mg base CX0 2 f fd ["pins"] spCkPins := by
  have G_w : FnOk P w K mg base CX0 1 f_w d_w ["value"] spWhole := ok_whole D_w.F T
  refine F.ok sc_check_pins (fun vs H Q E h => ?_) (fun cdv A outer s H vs Q E hr h => ?_)
  · obtain ⟨n, rfl, _⟩ := h
    rfl
  · obtain ⟨n, rfl, h0, q⟩ := h
    refine ⟨_, (pss_one (ps_if (PW.pt (pw_or (pt_not (pt_val (pe_call G_w hr (by rfl) D_w.g D_w.F.kp D_w.b .nil pass0 (pa_cons (pv 0) pa_nil)))) (pw_or1 (pt_cmpR op_lt (pv 0) pe_int (nomark _))))) (pss_one ps_never) pss_nil)), ?_⟩
    refine ⟨_, rfl, n, rfl, true, rfl, ?_⟩
    refine ⟨_, rfl, n, 0, rfl, rfl, _, rfl, ?_⟩
    rw [decide_eq_false (by omega)]
    exact q
def spCkPin : Sp := fun vs H Q _ => ∃ n x : Int, vs = [.int n, .int x] ∧ 0 ≤ x ∧ x < n ∧ Q .non H
theorem ok_ckpin {f : Addr} {fd : FuncData} (F : Fun K "check_pin" "check_pin" s_check_pin f fd) (T : Bi mg) {f_w : Addr} {d_w : FuncData} (D_w : Df K mg "is_whole" s_is_whole ["value"] f_w d_w) {f_b : Addr} {d_b : FuncData} (D_b : Df K mg "is_below" s_is_below ["value", "bound"] f_b d_b) : FnOk P w K mg base CX0 3 f fd ["pins", "pin"] spCkPin := by
  have G_b : FnOk P w K mg base CX0 2 f_b d_b ["value", "bound"] spBelow := ok_below D_b.F T D_w
  refine F.ok sc_check_pin (fun vs H Q E h => ?_) (fun cdv A outer s H vs Q E hr h => ?_)
  · obtain ⟨n, x, rfl, _⟩ := h
    rfl
  · obtain ⟨n, x, rfl, h0, h1, q⟩ := h
    refine ⟨_, (pss_one (ps_if (pt_not (pt_val (pe_call G_b hr (by rfl) D_b.g D_b.F.kp D_b.b .nil pass0 (pa_cons (pv 1) (pa_cons (pv 0) pa_nil))))) (pss_one ps_never) pss_nil)), ?_⟩
    exact ⟨_, rfl, _, rfl, x, n, rfl, h0, h1, true, rfl, q⟩
def spEntry : Sp := fun vs H Q _ => ∃ (n : Int) (b : Addr) (t : Tr), vs = [.int n, .ref b] ∧ H b = some (.tup (tv t)) ∧ Vld n t ∧ ∀ H', Same H H' → Q (.bl true) H'
theorem ok_entry {f : Addr} {fd : FuncData} (F : Fun K "is_entry" "is_entry" s_is_entry f fd) (T : Bi mg) {f_w : Addr} {d_w : FuncData} (D_w : Df K mg "is_whole" s_is_whole ["value"] f_w d_w) {f_b : Addr} {d_b : FuncData} (D_b : Df K mg "is_below" s_is_below ["value", "bound"] f_b d_b) {f_q : Addr} {d_q : FuncData} (D_q : Df K mg "is_sequence" s_is_sequence ["value"] f_q d_q) : FnOk P w K mg base CX0 3 f fd ["pins", "entry"] spEntry := by
  have G_w : FnOk P w K mg base CX0 1 f_w d_w ["value"] spWhole := ok_whole D_w.F T
  have G_b : FnOk P w K mg base CX0 2 f_b d_b ["value", "bound"] spBelow := ok_below D_b.F T D_w
  have G_q : FnOk P w K mg base CX0 1 f_q d_q ["value"] spSeq := ok_seq D_q.F T
  refine F.ok sc_is_entry (fun vs H Q E h => ?_) (fun cdv A outer s H vs Q E hr h => ?_)
  · obtain ⟨n, b, t, rfl, _⟩ := h
    rfl
  · obtain ⟨n, b, t, rfl, hb, hv, q⟩ := h
    refine ⟨_, (pss_cons (ps_if (PW.pt (pw_or (pt_not (pt_val (pe_call G_q (hr.mono (by decide)) (by rfl) D_q.g D_q.F.kp D_q.b .nil pass0 (pa_cons (pv 1) pa_nil)))) (pw_or1 (pt_cmpR op_ne (pe_callB call_len_seq (by rfl) T.b_len PySem.boot_len (pa_cons (pv 1) pa_nil)) pe_int (nomark _))))) (pss_one (ps_ret pe_bl)) pss_nil)
        (pss_cons (ps_asg (pv 1) (pg_tup (by rfl) (pgs_cons (pg_name (i := 2) sc_is_entry.nd rfl (.inl rfl)) (pgs_cons (pg_name (i := 3) sc_is_entry.nd rfl (.inl rfl)) (pgs_cons (pg_name (i := 4) sc_is_entry.nd rfl (.inl rfl)) pgs_nil)))))
        (pss_one (ps_ret (pe_and (pe_call G_b hr (by rfl) D_b.g D_b.F.kp D_b.b .nil pass0 (pa_cons (pv 2) (pa_cons (pv 0) pa_nil))) (pe_and (pe_call G_b hr (by rfl) D_b.g D_b.F.kp D_b.b .nil pass0 (pa_cons (pv 3) (pa_cons (pv 0) pa_nil))) (pe_and (pe_cmpR op_ne (pv 2) (pv 3) (nomark _)) (pe_and (pe_call G_w (hr.mono (by decide)) (by rfl) D_w.g D_w.F.kp D_w.b .nil pass0 (pa_cons (pv 4) pa_nil)) (pe_one (pe_cmpR op_ge (pv 4) pe_int (nomark _))))))))))), ?_⟩
    obtain ⟨v0, v1, v2, v3, v4, v5⟩ := hv
    refine ⟨_, rfl, b, _, rfl, hb, fun H1 sm => ⟨true, rfl, ?_⟩⟩
    have hT : SqT K H1 b (tv t) := .inl (.inl (sm _ _ hb))
    refine ⟨_, rfl, b, _, rfl, .inr hT, rfl, _, rfl, iteNS rfl ?_⟩
    refine ⟨_, rfl, b, _, rfl, hT, rfl, _, _, rfl, _, _, rfl, _, _, rfl, rfl, ?_⟩
    refine ⟨_, rfl, _, rfl, t.1, n, rfl, v0, v1, true, rfl, ?_⟩
    refine ⟨_, rfl, _, rfl, t.2.1, n, rfl, v2, v3, true, rfl, ?_⟩
    refine ⟨_, rfl, _, rfl, rfl, _, rfl, ?_⟩
    rw [decide_eq_false (fun z => v4 (V.int.inj z))]
    refine ⟨_, rfl, t.2.2, rfl, true, rfl, ?_⟩
    refine ⟨_, rfl, t.2.2, 1, rfl, rfl, ?_⟩
    show Q (.bl (decide (1 ≤ t.2.2))) H1
    rw [decide_eq_true v5]
    exact q H1 sm
end
end Own

/-! The dict of a lot that is made. -/
namespace Own
open PySem PySem.Spec PyProof.Rows L2
def kk (p : Int × Int) : List Key := [.inl p.1, .inl p.2]
theorem kk_inj {p q : Int × Int} (h : kk p = kk q) : p = q := by
  unfold kk at h
  injection h with h1 h2
  injection h2 with h3 _
  injection h1 with h1
  injection h3 with h3
  exact Prod.ext h1 h3
structure DInv (kvs : List (List Key × V)) (m : List Tr) : Prop where
  val : ∀ p, valV kvs (kk p) = if p ∈ m.map ky then some (.int (tot p m)) else none
  frm : ∀ kv ∈ kvs, ∃ p, kv.1 = kk p
  nd : (kvs.map (·.1)).Nodup
theorem DInv.nil : DInv [] [] := ⟨fun p => rfl, fun kv (h : kv ∈ []) => absurd h List.not_mem_nil, List.nodup_nil⟩
theorem putK_keys {kvs : List (List Key × V)} {k : List Key} {v : V} : (∃ x, valV kvs k = some x) → (putK kvs k v).map (·.1) = kvs.map (·.1) := fun ⟨x, h⟩ => by
  unfold putK
  rw [valV_any, h]
  show (kvs.map _).map _ = _
  rw [List.map_map]
  refine List.map_congr_left fun kv _ => ?_
  show (if kv.1 = k then (kv.1, v) else kv).1 = kv.1
  split <;> rfl
theorem not_key {kvs : List (List Key × V)} {k : List Key} (h : valV kvs k = none) : k ∉ kvs.map (·.1) := fun m => by
  have a := valV_any k kvs
  rw [h] at a
  obtain ⟨kv, hm, e⟩ := List.mem_map.mp m
  have : (kvs.any fun kv => decide (kv.1 = k)) = true := List.any_eq_true.mpr ⟨kv, hm, decide_eq_true e⟩
  rw [this] at a
  cases a
theorem tot_snoc (p : Int × Int) (m : List Tr) (t : Tr) : tot p (m ++ [t]) = tot p m + (if ky t = p then t.2.2 else 0) := by
  unfold tot
  rw [bk_append]
  show _ + ((if decide (ky t = p) = true then t.2.2 else 0) + 0) = _
  by_cases h : ky t = p
  · rw [if_pos (decide_eq_true h), if_pos h]
    omega
  · rw [if_neg (by rw [decide_eq_false h]; decide), if_neg h]
    omega
theorem tot_out {p : Int × Int} {m : List Tr} (h : p ∉ m.map ky) : tot p m = 0 := by
  induction m with
  | nil => rfl
  | cons t r ih =>
    rw [tot_cons, ih fun z => h (by rw [List.map_cons]; exact List.mem_cons_of_mem _ z), if_neg fun z => h (by rw [List.map_cons, z]; exact List.mem_cons_self)]
    rfl
/-- what stands there, or 0 -/
theorem DInv.get {kvs : List (List Key × V)} {m : List Tr} (d : DInv kvs m) (p : Int × Int) : (valV kvs (kk p)).getD (.int 0) = .int (tot p m) := by
  rw [d.val]
  split
  · rfl
  · rename_i h
    rw [tot_out h]
    rfl
theorem DInv.put {kvs : List (List Key × V)} {m : List Tr} (d : DInv kvs m) (t : Tr) : DInv (putK kvs (kk (ky t)) (.int (tot (ky t) m + t.2.2))) (m ++ [t]) := by
  refine ⟨fun p => ?_, fun kv h => ?_, ?_⟩
  · rw [valV_put, d.val, tot_snoc, List.map_append]
    by_cases h : p = ky t
    · subst h
      rw [if_pos rfl, if_pos (List.mem_append_right _ (by rw [List.map_cons]; exact List.mem_cons_self)), if_pos rfl]
    · have hne : ¬ ky t = p := fun z => h z.symm
      rw [if_neg fun z : kk p = kk (ky t) => h (kk_inj z)]
      by_cases hm : p ∈ m.map ky
      · rw [if_pos hm, if_pos (List.mem_append_left _ hm), if_neg hne, Int.add_zero]
      · rw [if_neg hm, if_neg fun z => by
          rcases List.mem_append.mp z with z | z
          · exact hm z
          · exact h (List.mem_singleton.mp z)]
  · cases e : valV kvs (kk (ky t)) with
    | none =>
      rw [putK_new _ e] at h
      rcases List.mem_append.mp h with h | h
      · exact d.frm kv h
      · exact ⟨ky t, by rw [List.mem_singleton.mp h]⟩
    | some x =>
      have hk : kv.1 ∈ (putK kvs (kk (ky t)) (.int (tot (ky t) m + t.2.2))).map (·.1) := List.mem_map.mpr ⟨kv, h, rfl⟩
      rw [putK_keys ⟨x, e⟩] at hk
      obtain ⟨kv2, h2, e2⟩ := List.mem_map.mp hk
      obtain ⟨p, hp⟩ := d.frm kv2 h2
      exact ⟨p, by rw [← e2]; exact hp⟩
  · cases e : valV kvs (kk (ky t)) with
    | none =>
      rw [putK_new _ e, List.map_append]
      exact List.nodup_append.mpr ⟨d.nd, by simp, fun a ha b hb z => not_key e (by
        have hb2 : b = kk (ky t) := List.mem_singleton.mp hb
        rw [hb2] at z
        rw [← z]
        exact ha)⟩
    | some x =>
      rw [putK_keys ⟨x, e⟩]
      exact d.nd
theorem putK_len {kvs : List (List Key × V)} {k : List Key} {v : V} : (putK kvs k v).length ≤ kvs.length + 1 := by
  cases e : valV kvs k with
  | none =>
    rw [putK_new _ e, List.length_append]
    exact Nat.le_refl _
  | some x =>
    have := congrArg List.length (putK_keys (v := v) ⟨x, e⟩)
    rw [List.length_map, List.length_map] at this
    omega
theorem DInv.mem {kvs : List (List Key × V)} {m : List Tr} (d : DInv kvs m) (p : Int × Int) : kk p ∈ kvs.map (·.1) ↔ p ∈ m.map ky := by
  constructor
  · intro h
    by_cases hm : p ∈ m.map ky
    · exact hm
    · exact absurd h (not_key (by rw [d.val, if_neg hm]))
  · intro h
    have e := d.val p
    rw [if_pos h] at e
    have a := valV_any (kk p) kvs
    rw [e] at a
    obtain ⟨kv, hm, hk⟩ := List.any_eq_true.mp a
    exact List.mem_map.mpr ⟨kv, hm, of_decide_eq_true hk⟩
/-- the sorted keys, strictly in order -/
theorem sorted_lex {xs : List (Int × Int)} (hn : xs.Nodup) (hs : xs.Pairwise fun x y => SrtO.lexB y x = false) : xs.Pairwise Lex := by
  refine List.Pairwise.imp₂ (R := fun x y => SrtO.lexB y x = false) (S := fun x y => x ≠ y) ?_ hs hn
  intro a b h1 h2
  have h3 := SrtO.lexB_no.mp h1
  unfold Lex
  have h4 : ¬ (a.1 = b.1 ∧ a.2 = b.2) := fun z => h2 (Prod.ext z.1 z.2)
  omega
end Own

namespace Own
open PySem PySem.Spec PyProof.Rows L2
def SameT (H H' : Hp) : Prop := ∀ b o, H b = some (.tup o) → H' b = some (.tup o)
theorem TrV.sameT {H H' : Hp} {vs : List V} {l : List Tr} (s : SameT H H') (h : TrV H vs l) : TrV H' vs l := ⟨h.1, fun i t e => by
  obtain ⟨b, e1, e2⟩ := h.2 i t e
  exact ⟨b, e1, s _ _ e2⟩⟩
theorem sameT_put {H H' : Hp} {D : Addr} {vs ws : List V} (e : H D = some (.lst vs)) (s : Same H H') : SameT H (upd H' D (.lst ws)) := fun b o h => by
  have hb : b ≠ D := fun z => by
    rw [z, e] at h
    cases h
  rw [upd_ne hb]
  exact s _ _ h
theorem same_put {H H1 H' : Hp} {D : Addr} {o : HO} (n : H D = none) (s : Same H H') : Same H (upd H' D o) := fun b u h => by
  rw [upd_ne (ne_of_none h n)]
  exact s _ _ h
theorem keys_of {H : Hp} {kvs : List (List Key × V)} {bs : List Addr} (h : IsKeys H kvs bs) (f : ∀ kv ∈ kvs, ∃ p, kv.1 = kk p) : ((bs.map V.ref).map (kOf H)).map kk = kvs.map (·.1) ∧ ∀ b ∈ bs, ∃ p : Int × Int, H b = some (.tup [.int p.1, .int p.2]) := by
  unfold IsKeys at h
  induction h with
  | nil => exact ⟨rfl, fun b h => by cases h⟩
  | @cons kv b ks bs hb t ih =>
    obtain ⟨p, hp⟩ := f kv List.mem_cons_self
    rw [hp] at hb
    have hb2 : H b = some (.tup [.int p.1, .int p.2]) := hb
    obtain ⟨i1, i2⟩ := ih fun kv h => f kv (List.mem_cons_of_mem _ h)
    refine ⟨?_, fun c hc => ?_⟩
    · rw [List.map_cons, List.map_cons, List.map_cons, List.map_cons, i1, kOf_at hb2, hp]
    · rcases List.mem_cons.mp hc with e | e
      · exact ⟨p, by rw [e]; exact hb2⟩
      · exact i2 c e
section
variable {P : Program} {w : World} {K : PySem.W.Frag} {mg : Str → Option Value} {base : Heap}
/-! ### the entries of a lot, gathered -/
def spGathered (K : PySem.W.Frag) : Sp := fun vs H Q _ => ∃ (n : Int) (a : Addr) (xs : List V) (l : List Tr), vs = [.int n, .ref a] ∧ SqB K H a xs ∧ TrV H xs l ∧ (∀ t ∈ l, Vld n t) ∧ l.length ≤ 1000 ∧
  ∀ H' c r, Same H H' → H c = none → Trip H' c r → IsNorm l r → Q (.ref c) H'
theorem ok_gathered {f : Addr} {fd : FuncData} (F : Fun K "gathered" "gathered" s_gathered f fd) (T : Bi mg) {f_e : Addr} {d_e : FuncData} (D_e : Df K mg "is_entry" s_is_entry ["pins", "entry"] f_e d_e) (G_e : FnOk P w K mg base CX0 3 f_e d_e ["pins", "entry"] spEntry) :
    FnOk P w K mg base CX0 4 f fd ["pins", "entries"] (spGathered K) := by
  refine F.ok sc_gathered (fun vs H Q E h => ?_) (fun cdv A outer s H vs Q E hr h => ?_)
  · obtain ⟨n, a, xs, l, rfl, _⟩ := h
    rfl
  · obtain ⟨n, a, xs, l, rfl, hB, hx, hv, hl, q⟩ := h
    have hu := hu_of hr
    refine ⟨_, (pss_cons (ps_set (i := 2) sc_gathered.nd rfl (.inr rfl) pe_dnewT)
        (pss_cons (ps_for PassesOwn.never rfl (pi_seq (pv 1)) (pg_name (i := 3) sc_gathered.nd rfl (.inl rfl))
        (pss_cons (ps_if (pt_not (pt_val (pe_call G_e hr (by rfl) D_e.g D_e.F.kp D_e.b .nil pass0 (pa_cons (pv 0) (pa_cons (pv 3) pa_nil))))) (pss_one ps_never) pss_nil)
        (pss_cons (ps_asg (pv 3) (pg_tup (by rfl) (pgs_cons (pg_name (i := 5) sc_gathered.nd rfl (.inl rfl)) (pgs_cons (pg_name (i := 6) sc_gathered.nd rfl (.inl rfl)) (pgs_cons (pg_name (i := 7) sc_gathered.nd rfl (.inl rfl)) pgs_nil)))))
        (pss_cons (ps_set (i := 4) sc_gathered.nd rfl (.inl rfl) (pe_tup (pa_cons (pe_callB (call_min2 rfl) (by rfl) T.b_min (by decide +kernel) (pa_cons (pv 5) (pa_cons (pv 6) pa_nil))) (pa_cons (pe_callB (call_max2 rfl) (by rfl) T.b_max (by decide +kernel) (pa_cons (pv 5) (pa_cons (pv 6) pa_nil))) pa_nil))))
        (pss_one (ps_dput hu (pv 2) (pv 4) (pe_op op_add (pe_dget2 hu (pv 2) (pv 4) pe_int ⟨rfl, rfl, rfl, rfl⟩) (pv 7)) rfl))))))
        (pss_one (ps_ret (pe_callTy call_tuple_of (by rfl) T.b_tuple (by decide +kernel) (pa_cons (pe_lc (own := [("a", 5), ("b", 6)]) (g := gTup K 2 (gCons (gName 5) (gCons (gName 6) gNil))) (tt := tYes) rfl sc_gathered.nd (pi_list (pe_callB (cr_sortedDT rfl) (by rfl) T.b_sorted (by decide +kernel) (pa_cons (pv 2) pa_nil))) (blkOk_by (own := [("a", 5), ("b", 6)]) (N := ["pins", "entries", "held", "entry", "pair", "a", "b", "many"]) (sc := defScope s_gathered) (by decide +kernel)) (fun _ _ _ _ _ => (pg_tup (by rfl) (pgs_cons (pg_name (i := 5) sc_gathered.nd rfl (.inl rfl)) (pgs_cons (pg_name (i := 6) sc_gathered.nd rfl (.inl rfl)) pgs_nil)))) (fun _ _ _ _ _ => pts_nil) (fun _ _ _ _ _ => (pe_tup (pa_cons (pv 5) (pa_cons (pv 6) (pa_cons (pe_dget hu (pv 2) (pe_tup (pa_cons (pv 5) (pa_cons (pv 6) pa_nil))) (fun _ _ => rfl)) pa_nil)))))) pa_nil)))))), ?_⟩
    intro d hd
    refine ⟨_, rfl, a, rfl, for_same (Hb := H) hB (fun i σ H' => ∃ kvs y3 y4 y5 y6 y7, σ = [some (.int n), some (.ref a), some (.ref d), y3, y4, y5, y6, y7] ∧ H' d = some (.dT kvs) ∧ DInv kvs (l.take i) ∧ kvs.length ≤ i ∧ Same H H') ⟨[], none, none, none, none, none, rfl, upd_same, DInv.nil, Nat.le_refl _, same_upd hd⟩ (fun i σ' H' p => by obtain ⟨_, _, _, _, _, _, _, _, _, _, s⟩ := p; exact s) (fun i x σ H' hxi p => ?_) (fun σ H' p => ?_)⟩
    · obtain ⟨kvs, y3, y4, y5, y6, y7, rfl, ed, dI, klen, sm⟩ := p
      obtain ⟨b, t, rfl, hti, hb⟩ := (hx.same sm).at_ hxi
      have hil : i < l.length := (List.getElem?_eq_some_iff.mp hti).1
      have hvt : Vld n t := hv t (List.mem_of_getElem? hti)
      refine ⟨_, rfl, _, rfl, n, b, t, rfl, hb, hvt, fun H1 s1 => ⟨true, rfl, ?_⟩⟩
      refine ⟨_, rfl, b, _, rfl, .inl (.inl (s1 _ _ hb)), rfl, _, _, rfl, _, _, rfl, _, _, rfl, rfl, ?_⟩
      refine ⟨_, rfl, _, rfl, _, _, rfl, _, rfl, _, rfl, _, _, rfl, by show 2 ≤ sizeLine; decide, fun p np => ?_⟩
      have ed1 : (upd H1 p (.tup [.int (lo t.1 t.2.1), .int (hi t.1 t.2.1)])) d = some (.dT kvs) := by
        rw [upd_ne (ne_of_none (s1 _ _ ed) np)]
        exact s1 _ _ ed
      have ep : (upd H1 p (.tup [.int (lo t.1 t.2.1), .int (hi t.1 t.2.1)])) p = some (.tup ((kk (ky t)).map kV)) := upd_same
      refine ⟨_, rfl, d, rfl, .inr ⟨kvs, .inl ed1⟩, _, rfl, _, DGet.t ed1 ep, ?_⟩
      rw [dI.get]
      refine ⟨_, rfl, _, _, rfl, rfl, _, rfl, _, rfl, d, _, rfl, DPut.t ed1 ep (small1000 (by omega)), ?_⟩
      have hd1 : H1 d ≠ none := fun z => by rw [s1 _ _ ed] at z; cases z
      refine ⟨_, _, _, _, _, _, rfl, upd_same, ?_, Nat.le_trans putK_len (by omega), fun c o e => ?_⟩
      · rw [List.take_add_one, hti]
        exact dI.put t
      · rw [upd_ne (ne_of_none e hd)]
        exact same_upd np _ _ (s1 _ _ (sm _ _ e))
    · obtain ⟨kvs, y3, y4, y5, y6, y7, rfl, ed, dI, klen, sm⟩ := p
      rw [hx.1, List.take_length] at dI
      refine ⟨_, rfl, d, kvs, rfl, .inl ed, fun kv hkv => by obtain ⟨p, hp⟩ := dI.frm kv hkv; exact ⟨p.1, p.2, hp⟩, fun bs ys p0 hk hsrt hstb np0 => ?_⟩
      obtain ⟨kEq, kAt⟩ := keys_of hk dI.frm
      have hall : ∀ y ∈ ys, ∃ b, y = .ref b ∧ H' b = some (.tup [.int (kOf H' y).1, .int (kOf H' y).2]) := fun y hy => by
        obtain ⟨b, hb, rfl⟩ := List.mem_map.mp (hstb.perm.mem_iff.mp hy)
        obtain ⟨p, hp⟩ := kAt b hb
        exact ⟨b, rfl, by rw [kOf_at hp]; exact hp⟩
      have hperm : (ys.map (kOf H')).Perm ((bs.map V.ref).map (kOf H')) := hstb.perm.map _
      have hnd : (ys.map (kOf H')).Nodup := by
        refine hperm.nodup_iff.mpr ?_
        have := dI.nd
        rw [← kEq] at this
        unfold List.Nodup at this ⊢
        exact (List.pairwise_map.mp this).imp fun h e => h (congrArg kk e)
      have hmem : ∀ p, p ∈ ys.map (kOf H') ↔ p ∈ l.map ky := fun p => by
        rw [hperm.mem_iff, ← dI.mem p, ← kEq]
        exact ⟨fun m => List.mem_map.mpr ⟨p, m, rfl⟩, fun m => by
          obtain ⟨p2, m2, e2⟩ := List.mem_map.mp m
          rw [← kk_inj e2]
          exact m2⟩
      have hlex : (ys.map (kOf H')).Pairwise Lex := sorted_lex hnd (SrtO.srtd_map (lt := SrtO.lexB) (f := kOf H') hsrt)
      have hN : IsNorm l ((ys.map (kOf H')).map fun p => (p.1, p.2, tot p l)) := by
        have e1 : (((ys.map (kOf H')).map fun p => ((p.1, p.2, tot p l) : Tr))).map pr = ys.map (kOf H') := by
          rw [List.map_map]
          exact List.map_id' _
        refine ⟨by rw [e1]; exact hlex, fun p => by rw [e1]; exact hmem p, fun e he => ?_⟩
        obtain ⟨p, _, rfl⟩ := List.mem_map.mp he
        rfl
      have hylen : ys.length ≤ 1000 := by
        have h1 := hstb.perm.length_eq
        have h2 := congrArg List.length kEq
        rw [List.length_map] at h1
        rw [List.length_map, List.length_map, List.length_map, List.length_map] at h2
        rw [hx.1] at klen
        omega
      generalize hr0 : ((ys.map (kOf H')).map fun p => ((p.1, p.2, tot p l) : Tr)) = r at hN
      have hrl : r.length = ys.length := by rw [← hr0, List.length_map, List.length_map]
      have s0 : Same H' (upd H' p0 (.lst ys)) := same_upd np0
      refine ⟨p0, rfl, ⟨_, .inl (.inl upd_same)⟩, fun D hD => ?_⟩
      refine lc_list (K := K) (a := p0) (xs := ys) (fun i H2 => Same (upd H' p0 (.lst ys)) H2 ∧ ∃ vs, H2 D = some (.lst vs) ∧ TrV H2 vs (r.take i)) ⟨same_upd hD, [], upd_same, TrV.nil⟩ (fun i H2 _ p => .inl (.inl (p.1 _ _ upd_same))) (fun i x H2 hxi p => ?_) (fun H2 p => ?_)
      · obtain ⟨s2, vs, eD, tV⟩ := p
        obtain ⟨b, rfl, hb⟩ := hall x (List.mem_of_getElem? hxi)
        have hil : i < ys.length := (List.getElem?_eq_some_iff.mp hxi).1
        generalize hp : kOf H' (.ref b) = p at hb
        have hri : r[i]? = some (p.1, p.2, tot p l) := by
          rw [← hr0, List.getElem?_map, List.getElem?_map, hxi, ← hp]
          rfl
        have hpm : p ∈ l.map ky := (hmem p).mp (by rw [← hp]; exact List.mem_map.mpr ⟨_, List.mem_of_getElem? hxi, rfl⟩)
        have hval : valV kvs (kk p) = some (.int (tot p l)) := by
          rw [dI.val, if_pos hpm]
        have hb2 := s2 _ _ (s0 _ _ hb)
        have ed2 := s2 _ _ (s0 _ _ ed)
        refine ⟨b, _, rfl, .inl (.inl hb2), rfl, _, _, rfl, _, _, rfl, rfl, rfl, ?_⟩
        refine ⟨_, rfl, _, rfl, _, rfl, _, rfl, _, rfl, by show 2 ≤ sizeLine; decide, fun p1 np1 => ⟨d, .int (tot p l), rfl, ?_, ?_⟩⟩
        · have g := DGet.t (k := kk p) (b := p1) (H := upd H2 p1 (.tup [.int p.1, .int p.2])) (a := d) (kvs := kvs) (by rw [upd_ne (ne_of_none ed2 np1)]; exact ed2) upd_same
          rw [hval] at g
          exact g
        · refine ⟨by show 3 ≤ sizeLine; decide, fun p2 np2 => ?_⟩
          have s3 : Same H2 (upd (upd H2 p1 (.tup [.int p.1, .int p.2])) p2 (.tup [.int p.1, .int p.2, .int (tot p l)])) := (same_upd np1).trans (same_upd np2)
          refine ⟨vs, s3 _ _ eD, ?_, same_put (H1 := H2) hD (s2.trans s3), _, upd_same, ?_⟩
          · rw [tV.1, List.length_take]
            exact Nat.lt_of_le_of_lt (Nat.min_le_right _ _) (small1000 (by omega))
          · rw [List.take_add_one, hri]
            have nD : p2 ≠ D := fun z => by
              rw [z] at np2
              have := (same_upd (o := .tup [.int p.1, .int p.2]) np1) _ _ eD
              rw [this] at np2
              cases np2
            refine (tV.sameT (sameT_put eD s3)).snoc ?_
            rw [upd_ne nD, upd_same]
      · obtain ⟨s2, vs, eD, tV⟩ := p
        rw [← hrl, List.take_length] at tV
        refine ⟨D, vs, rfl, .inl ⟨.inl (.inl eD), fun c nc => ?_⟩⟩
        have sA : Same H (upd H2 c (.tup vs)) := ((sm.trans s0).trans s2).trans (same_upd nc)
        exact q _ c r sA (((sm.trans s0).trans s2).free nc) ⟨vs, upd_same, tV.same (same_upd nc)⟩ hN
end
end Own

namespace Own
open PySem PySem.Spec PyProof.Rows L2
/-! ### a lot as an object -/
theorem kpc : ¬ (("cords" : Str) = "pins") := by decide +kernel
theorem kpc2 : ¬ (("pins" : Str) = "cords") := by decide +kernel
def flds (n : Int) (c : Addr) : List (Str × V) := putF "cords" (.ref c) (putF "pins" (.int n) [])
theorem flds_pins (n : Int) (c : Addr) : (flds n c).lookup ("pins" : Str) = some (.int n) := by
  unfold flds
  rw [lookup_putF, if_neg kpc2, lookup_putF, if_pos rfl]
theorem flds_cords (n : Int) (c : Addr) : (flds n c).lookup ("cords" : Str) = some (.ref c) := by
  unfold flds
  rw [lookup_putF, if_pos rfl]
theorem flds_no (n : Int) (c : Addr) {m : Str} (h1 : ¬ m = "pins") (h2 : ¬ m = "cords") : (flds n c).lookup m = none := by
  unfold flds
  rw [lookup_putF, if_neg h2, lookup_putF, if_neg h1]
  all_goals rfl
/-- a lot stands at p -/
def LotAt (C : Addr) (H : Hp) (p : Addr) (n : Int) (cs : List Tr) : Prop := ∃ dx c, H p = some (.ins C dx (flds n c)) ∧ Trip H c cs
theorem LotAt.same {C : Addr} {H H' : Hp} {p : Addr} {n : Int} {cs : List Tr} (s : Same H H') (h : LotAt C H p n cs) : LotAt C H' p n cs := by
  obtain ⟨dx, c, e, t⟩ := h
  exact ⟨dx, c, s _ _ e, t.same s⟩
structure LotC (K : PySem.W.Frag) (mg : Str → Option Value) (C : Addr) : Prop where
  cl : Cls K C
  nP : NoAttr K C "pins"
  nC : NoAttr K C "cords"
  g : mg "Lot" = some (.ref C)
/-- a method of the text -/
structure Mt (K : PySem.W.Frag) (C : Addr) (m qual : Str) (st : Stmt) (ps : List Str) (f : Addr) (fd : FuncData) : Prop where
  F : Fun K m qual st f fd
  m : Meth K C m f
  b : Binds K fd ps []
abbrev FI (K : PySem.W.Frag) (z : Addr) (f : Addr) (fd : FuncData) : Prop := FunD K "__init__" "Lot.__init__" (defArgs s_Lot_init) (defBody s_Lot_init) (defScope s_Lot_init) [.ref z] [] f fd
section
variable {P : Program} {w : World} {K : PySem.W.Frag} {mg : Str → Option Value} {base : Heap} {C : Addr}
def spInit (K : PySem.W.Frag) (C : Addr) : Sp := fun vs H Q _ => ∃ (p dx : Addr) (n : Int) (a : Addr) (xs : List V) (l : List Tr), vs = [.ref p, .int n, .ref a] ∧ H p = some (.ins C dx []) ∧ 0 ≤ n ∧ SqB K H a xs ∧ TrV H xs l ∧ (∀ t ∈ l, Vld n t) ∧ l.length ≤ 1000 ∧
  ∀ H' c r, (∀ b o, H b = some o → b ≠ p → H' b = some o) → H' p = some (.ins C dx (flds n c)) → Trip H' c r → IsNorm l r → Q .non H'
theorem SqB.keep {K : PySem.W.Frag} {H H' : Hp} {a p : Addr} {xs : List V} {dx : Addr} {fs : List (Str × V)} (e : H p = some (.ins C dx fs)) (s : ∀ b o, H b = some o → b ≠ p → H' b = some o) (h : SqB K H a xs) : SqB K H' a xs := by
  have go : ∀ {o : HO}, H a = some o → (∀ D d f, o ≠ .ins D d f) → H' a = some o := fun {o} h n => s _ _ h fun z => by
    rw [z, e] at h
    exact n _ _ _ (Option.some.inj h).symm
  rcases h with ((h | ⟨o, h⟩) | h) | ((h | ⟨o, h⟩) | h)
  · exact .inl (.inl (.inl (go h fun _ _ _ z => by cases z)))
  · exact .inl (.inl (.inr ⟨o, go h fun _ _ _ z => by cases z⟩))
  · exact .inl (.inr h)
  · exact .inr (.inl (.inl (go h fun _ _ _ z => by cases z)))
  · exact .inr (.inl (.inr ⟨o, go h fun _ _ _ z => by cases z⟩))
  · exact .inr (.inr h)
theorem ok_init {z f : Addr} {fd : FuncData} (F : FI K z f fd) (T : Bi mg) (L : LotC K mg C) {f_k : Addr} {d_k : FuncData} (D_k : Df K mg "check_pins" s_check_pins ["pins"] f_k d_k) (G_k : FnOk P w K mg base CX0 2 f_k d_k ["pins"] spCkPins)
    {f_g : Addr} {d_g : FuncData} (D_g : Df K mg "gathered" s_gathered ["pins", "entries"] f_g d_g) (G_g : FnOk P w K mg base CX0 4 f_g d_g ["pins", "entries"] (spGathered K)) :
    FnOk P w K mg base CX0 5 f fd ["self", "pins", "cords"] (spInit K C) := by
  refine F.ok sc_Lot_init (fun vs H Q E h => ?_) (fun cdv A outer s H vs Q E hr h => ?_)
  · obtain ⟨p, dx, n, a, xs, l, rfl, _⟩ := h
    rfl
  · obtain ⟨p, dx, n, a, xs, l, rfl, ep, hn, hB, hx, hv, hl, q⟩ := h
    refine ⟨_, pss_cons (ps_expr (pe_call G_k (hr.mono (by decide)) (by rfl) D_k.g D_k.F.kp D_k.b .nil pass0 (pa_cons (pv 1) pa_nil)))
      (pss_cons (ps_fld (pv 0) (pv 1) rfl) (pss_one (ps_fld (pv 0) (pe_call G_g hr (by rfl) D_g.g D_g.F.kp D_g.b .nil pass0 (pa_cons (pv 1) (pa_cons (pv 2) pa_nil))) rfl))), ?_⟩
    refine ⟨_, rfl, n, rfl, hn, ?_⟩
    refine ⟨_, rfl, _, rfl, p, C, dx, [], rfl, ep, L.cl, L.nP, by show 0 < 1000; decide, ?_⟩
    have k1 : ∀ b o, H b = some o → b ≠ p → (upd H p (.ins C dx (putF "pins" (.int n) []))) b = some o := fun b o e nb => by
      rw [upd_ne nb]
      exact e
    have hx1 : TrV (upd H p (.ins C dx (putF "pins" (.int n) []))) xs l := hx.sameT fun b o e => k1 b _ e fun z => by
      rw [z, ep] at e
      cases e
    refine ⟨_, rfl, _, rfl, n, a, xs, l, rfl, hB.keep ep k1, hx1, hv, hl, fun H1 c r s1 nc tc hN => ?_⟩
    refine ⟨_, rfl, p, C, dx, _, rfl, s1 _ _ upd_same, L.cl, L.nC, by show 1 < 1000; decide, ?_⟩
    have s2 : ∀ b o, H1 b = some o → b ≠ p → (upd H1 p (.ins C dx (putF "cords" (.ref c) (putF "pins" (.int n) [])))) b = some o := fun b o e nb => by
      rw [upd_ne nb]
      exact e
    refine q _ c r (fun b o e nb => s2 b o (s1 b o (k1 b o e nb)) nb) upd_same ?_ hN
    obtain ⟨vs, e, t⟩ := tc
    have eH : H1 p = some (.ins C dx (putF "pins" (.int n) [])) := s1 _ _ upd_same
    refine ⟨vs, s2 _ _ e fun z => ?_, t.sameT fun b o h => s2 _ _ h fun z => ?_⟩
    · rw [z, eH] at e
      cases e
    · rw [z, eH] at h
      cases h
/-- Lot(n, entries) -/
theorem rd_make {n : Int} {a : Addr} {xs : List V} {l : List Tr} {H : Hp} {Q : VK} (hn : 0 ≤ n) (hB : SqB K H a xs) (hx : TrV H xs l) (hv : ∀ t ∈ l, Vld n t) (hl : l.length ≤ 1000) (q : ∀ H' x cs, Same H H' → LotAt C H' x n cs → IsNorm l cs → Q (.ref x) H') :
    ∀ x dx, H x = none → H dx = none → dx ≠ x → spInit K C (.ref x :: ([.int n, .ref a] ++ [])) (upd (upd H dx (.own x)) x (.ins C dx [])) (fun v H2 => v = .non ∧ Q (.ref x) H2) E0 := fun x dx nx nd ne => by
  have s1 : Same H (upd H dx (.own x)) := same_upd nd
  have nx1 : (upd H dx (.own x)) x = none := by
    rw [upd_ne ne.symm]
    exact nx
  have s2 : Same H (upd (upd H dx (.own x)) x (.ins C dx [])) := s1.trans (same_upd nx1)
  refine ⟨x, dx, n, a, xs, l, rfl, upd_same, hn, hB.same s2, hx.same s2, hv, hl, fun H' c r k e t hN => ⟨rfl, q H' x r (fun b o h => ?_) ⟨dx, c, e, t⟩ hN⟩⟩
  exact k b o (s2 b o h) (ne_of_none h nx)
/-! ### renamed pins -/
def gl (n : Int) (g : Int → Int) : List V := (List.range n.toNat).map fun j : Nat => V.int (g (j : Int))
theorem gl_at {n x : Int} (g : Int → Int) (h0 : 0 ≤ x) (h1 : x < n) : atI (gl n g) x = some (.int (g x)) := by
  have e : x = ((x.toNat : Nat) : Int) := by omega
  have hx : (gl n g)[x.toNat]? = some (.int (g x)) := by
    unfold gl
    rw [List.getElem?_map, List.getElem?_range (by omega)]
    show some (V.int (g ((x.toNat : Nat) : Int))) = _
    rw [← e]
  exact at_of e hx
def Inj (n : Int) (g : Int → Int) : Prop := ∀ x y, 0 ≤ x → x < n → 0 ≤ y → y < n → g x = g y → x = y
end
end Own

namespace Own
open PySem PySem.Spec PyProof.Rows L2
theorem rep_gl (v : V) (k : Nat) : (List.replicate k [v]).flatten = List.replicate k v := by
  induction k with
  | zero => rfl
  | succ k ih =>
    rw [List.replicate_succ, List.flatten_cons, ih]
    rfl
theorem gl_const (n v : Int) : List.replicate n.toNat (V.int v) = gl n fun _ => v := by
  unfold gl
  rw [List.map_const', List.length_range]
theorem gl_len (n : Int) (g : Int → Int) : (gl n g).length = n.toNat := by
  unfold gl
  rw [List.length_map, List.length_range]
theorem gl_congr {n : Int} {g h : Int → Int} (e : ∀ x, 0 ≤ x → x < n → g x = h x) : gl n g = gl n h := by
  unfold gl
  refine List.map_congr_left fun j hj => ?_
  have := List.mem_range.mp hj
  rw [e (j : Int) (by omega) (by omega)]
theorem gl_ix {n x : Int} (g : Int → Int) (h0 : 0 ≤ x) (h1 : x < n) : ixN (gl n g).length x = some x.toNat := by
  unfold ixN
  rw [gl_len, if_pos h0, if_pos (by omega)]
theorem gl_set {n x : Int} (g : Int → Int) (v : Int) (h0 : 0 ≤ x) (h1 : x < n) : (gl n g).set x.toNat (.int v) = gl n fun y => if y = x then v else g y := by
  unfold gl
  apply List.ext_getElem
  · rw [List.length_set, List.length_map, List.length_map]
  · intro j hj hj2
    rw [List.length_map, List.length_range] at hj2
    rw [List.getElem_set, List.getElem_map, List.getElem_map, List.getElem_range]
    by_cases e : x.toNat = j
    · rw [if_pos e]
      show V.int v = V.int (if ((j : Nat) : Int) = x then v else g j)
      rw [if_pos (by omega)]
    · rw [if_neg e]
      show V.int (g j) = V.int (if ((j : Nat) : Int) = x then v else g j)
      rw [if_neg (by omega)]
def endsOf (cs : List Tr) (x : Int) : Int := bs (fun q => decide (q.1 = x ∨ q.2 = x)) cs
theorem endsOf_snoc (cs : List Tr) (t : Tr) (x : Int) : endsOf (cs ++ [t]) x = endsOf cs x + (if t.1 = x ∨ t.2.1 = x then t.2.2 else 0) := by
  unfold endsOf
  rw [bs_append]
  show _ + ((if decide (t.1 = x ∨ t.2.1 = x) = true then t.2.2 else 0) + 0) = _
  by_cases h : t.1 = x ∨ t.2.1 = x
  · rw [if_pos (decide_eq_true h), if_pos h]
    omega
  · rw [if_neg (by rw [decide_eq_false h]; decide), if_neg h]
    omega
def totOf (cs : List Tr) : Int := (cs.map fun t => t.2.2).sum
theorem fmod_in (x : Int) {n : Int} (h : 0 < n) : 0 ≤ x.fmod n ∧ x.fmod n < n := by
  rw [Int.fmod_eq_emod_of_nonneg _ (Int.le_of_lt h)]
  exact ⟨Int.emod_nonneg _ (by omega), Int.emod_lt_of_pos _ h⟩
def sh (n s x : Int) : Int := (x + s).fmod n
def mi (n x : Int) : Int := n - 1 - x
theorem sh_in {n s x : Int} (h : 0 < n) : 0 ≤ sh n s x ∧ sh n s x < n := fmod_in _ h
theorem sub_mod {n a b : Int} (h : a % n = b % n) : (a - b) % n = 0 := by
  rw [Int.sub_emod, h, Int.sub_self, Int.zero_emod]
theorem sh_inj (n s : Int) : Inj n (sh n s) := fun x y x0 x1 y0 y1 e => by
  have n0 : 0 < n := by omega
  unfold sh at e
  rw [Int.fmod_eq_emod_of_nonneg _ (by omega), Int.fmod_eq_emod_of_nonneg _ (by omega)] at e
  have h1 := sub_mod e
  have h2 := sub_mod e.symm
  rw [show x + s - (y + s) = x - y by omega] at h1
  rw [show y + s - (x + s) = y - x by omega] at h2
  by_cases h : y ≤ x
  · rw [Int.emod_eq_of_lt (by omega) (by omega)] at h1
    omega
  · rw [Int.emod_eq_of_lt (by omega) (by omega)] at h2
    omega
theorem mi_inj (n : Int) : Inj n (mi n) := fun x y _ _ _ _ e => by
  unfold mi at e
  omega
theorem mi_in {n x : Int} (h0 : 0 ≤ x) (h1 : x < n) : 0 ≤ mi n x ∧ mi n x < n := by
  unfold mi
  omega
section
variable {P : Program} {w : World} {K : PySem.W.Frag} {mg : Str → Option Value} {base : Heap} {C : Addr}
/-! ### the ends at each pin -/
def spEap : Sp := fun vs H Q _ => ∃ (n : Int) (c : Addr) (cs : List Tr), vs = [.int n, .ref c] ∧ 0 ≤ n ∧ n ≤ 1000 ∧ Trip H c cs ∧ (∀ t ∈ cs, Vld n t) ∧ ∀ H' p, Same H H' → H p = none → H' p = some (.lst (gl n (endsOf cs))) → Q (.ref p) H'
theorem ok_eap {f : Addr} {fd : FuncData} (F : Fun K "ends_at_pins" "ends_at_pins" s_ends_at_pins f fd) (T : Bi mg) : FnOk P w K mg base CX0 1 f fd ["pins", "cords"] spEap := by
  refine F.ok sc_ends_at_pins (fun vs H Q E h => ?_) (fun cdv A outer s H vs Q E hr h => ?_)
  · obtain ⟨n, c, cs, rfl, _⟩ := h
    rfl
  · obtain ⟨n, c, cs, rfl, n0, n1, hc, hv, q⟩ := h
    refine ⟨_, (pss_cons (ps_set (i := 2) sc_ends_at_pins.nd rfl (.inl rfl) (pe_op op_rep (pe_lst (pa_cons pe_int pa_nil)) (pv 0)))
        (pss_cons (ps_for PassesOwn.never rfl (pi_tup (pv 1)) (pg_tup (by rfl) (pgs_cons (pg_name (i := 3) sc_ends_at_pins.nd rfl (.inl rfl)) (pgs_cons (pg_name (i := 4) sc_ends_at_pins.nd rfl (.inl rfl)) (pgs_cons (pg_name (i := 5) sc_ends_at_pins.nd rfl (.inl rfl)) pgs_nil))))
        (pss_cons (ps_asg (pe_op op_add (pe_ix (r := rIxL K) ix_list (pv 2) (pv 3) (fun _ _ => rfl)) (pv 5)) (pg_sub (pv 2) (pv 3) set_list))
        (pss_one (ps_asg (pe_op op_add (pe_ix (r := rIxL K) ix_list (pv 2) (pv 4) (fun _ _ => rfl)) (pv 5)) (pg_sub (pv 2) (pv 4) set_list)))))
        (pss_one (ps_ret (pv 2))))), ?_⟩
    obtain ⟨vs, ec, tc⟩ := id hc
    refine ⟨by show 1 ≤ sizeLine; decide, fun l hl => ⟨_, rfl, l, n, _, rfl, rfl, upd_same, by omega, by omega, ?_, fun p np => ?_⟩⟩
    · show 1 * n.toNat ≤ sizeLine
      rw [Nat.one_mul]
      exact Nat.le_of_lt (small1000 (by omega))
    have np0 : H p = none := (same_upd (o := .lst [.int 0]) hl).free np
    have sL : Same H (upd (upd H l (.lst [.int 0])) p (.lst (List.replicate n.toNat [V.int 0]).flatten)) := (same_upd hl).trans (same_upd np)
    refine ⟨_, rfl, c, rfl, ⟨vs, .inl (.inl (sL _ _ ec))⟩, for_tup (xs := vs) (fun i σ H' => (∃ y3 y4 y5, σ = [some (.int n), some (.ref c), some (.ref p), y3, y4, y5]) ∧ Same H H' ∧ H' p = some (.lst (gl n (endsOf (cs.take i))))) ⟨⟨_, _, _, rfl⟩, sL, ?_⟩ (fun i σ H' _ p => .inl (.inl (p.2.1 _ _ ec))) (fun i x σ H' hxi p => ?_) (fun σ H' p => ?_)⟩
    · rw [upd_same, rep_gl, gl_const]
      rfl
    · obtain ⟨⟨y3, y4, y5, rfl⟩, sm, ep⟩ := p
      obtain ⟨u, t, rfl, hti, hu⟩ := (tc.same sm).at_ hxi
      obtain ⟨v0, v1, v2, v3, v4, v5⟩ := hv t (List.mem_of_getElem? hti)
      refine ⟨u, _, rfl, .inl (.inl hu), rfl, _, _, rfl, _, _, rfl, _, _, rfl, rfl, ?_⟩
      refine ⟨_, rfl, _, rfl, p, _, _, _, rfl, rfl, .inl (.inl ep), gl_at _ v0 v1, _, rfl, _, _, rfl, rfl, _, rfl, _, rfl, p, _, _, _, rfl, rfl, ep, gl_ix _ v0 v1, ?_⟩
      rw [gl_set _ _ v0 v1]
      refine ⟨_, rfl, _, rfl, p, _, _, _, rfl, rfl, .inl (.inl upd_same), gl_at _ v2 v3, _, rfl, _, _, rfl, rfl, _, rfl, _, rfl, p, _, _, _, rfl, rfl, upd_same, gl_ix _ v2 v3, ?_⟩
      rw [gl_set _ _ v2 v3, upd_upd]
      refine ⟨⟨_, _, _, rfl⟩, same_put (H1 := H) np0 sm, ?_⟩
      rw [upd_same, List.take_add_one, hti]
      congr 2
      refine gl_congr fun x _ _ => ?_
      show _ = endsOf (cs.take i ++ [t]) x
      rw [endsOf_snoc]
      by_cases e1 : x = t.2.1
      · subst e1
        rw [if_pos rfl, if_neg (fun z => v4 z.symm), if_pos (.inr rfl)]
      · by_cases e2 : x = t.1
        · subst e2
          rw [if_neg e1, if_pos rfl, if_pos (.inl rfl)]
        · rw [if_neg e1, if_neg e2, if_neg fun z => by rcases z with z | z <;> omega]
          omega
    · obtain ⟨⟨y3, y4, y5, rfl⟩, sm, ep⟩ := p
      rw [tc.1, List.take_length] at ep
      exact ⟨_, rfl, q H' p sm np0 ep⟩
def spEnds (C : Addr) : Sp := fun vs H Q _ => ∃ (p : Addr) (x n : Int) (cs : List Tr), vs = [.ref p, .int x] ∧ LotAt C H p n cs ∧ 0 ≤ x ∧ x < n ∧ n ≤ 1000 ∧ (∀ t ∈ cs, Vld n t) ∧ ∀ H', Same H H' → Q (.int (endsOf cs x)) H'
theorem ok_ends {f : Addr} {fd : FuncData} (F : Fun K "ends" "Lot.ends" s_Lot_ends f fd) (T : Bi mg) (L : LotC K mg C) {f_k : Addr} {d_k : FuncData} (D_k : Df K mg "check_pin" s_check_pin ["pins", "pin"] f_k d_k) (G_k : FnOk P w K mg base CX0 3 f_k d_k ["pins", "pin"] spCkPin)
    {f_p : Addr} {d_p : FuncData} (D_p : Df K mg "ends_at_pins" s_ends_at_pins ["pins", "cords"] f_p d_p) (G_p : FnOk P w K mg base CX0 1 f_p d_p ["pins", "cords"] spEap) : FnOk P w K mg base CX0 4 f fd ["self", "pin"] (spEnds C) := by
  refine F.ok sc_Lot_ends (fun vs H Q E h => ?_) (fun cdv A outer s H vs Q E hr h => ?_)
  · obtain ⟨p, x, n, cs, rfl, _⟩ := h
    rfl
  · obtain ⟨p, x, n, cs, rfl, hL, x0, x1, n1, hv, q⟩ := h
    refine ⟨_, (pss_cons (ps_expr (pe_call G_k hr (by rfl) D_k.g D_k.F.kp D_k.b .nil pass0 (pa_cons (pe_fld (pv 0) rfl) (pa_cons (pv 1) pa_nil))))
        (pss_one (ps_ret (pe_ix (r := rIxL K) ix_list (pe_call G_p (hr.mono (by decide)) (by rfl) D_p.g D_p.F.kp D_p.b .nil pass0 (pa_cons (pe_fld (pv 0) rfl) (pa_cons (pe_fld (pv 0) rfl) pa_nil))) (pv 1) (fun _ _ => rfl))))), ?_⟩
    obtain ⟨dx, c, e, t⟩ := hL
    refine ⟨_, rfl, p, C, dx, _, _, rfl, e, L.cl, L.nP, flds_pins _ _, _, rfl, n, x, rfl, x0, x1, ?_⟩
    refine ⟨_, rfl, p, C, dx, _, _, rfl, e, L.cl, L.nP, flds_pins _ _, _, rfl, p, C, dx, _, _, rfl, e, L.cl, L.nC, flds_cords _ _, n, c, cs, rfl, by omega, n1, t, hv, fun H1 u s1 nu eu => ?_⟩
    exact ⟨_, rfl, u, _, x, _, rfl, rfl, .inl (.inl eu), gl_at _ x0 x1, q H1 s1⟩
def spTotal (C : Addr) : Sp := fun vs H Q _ => ∃ (p : Addr) (n : Int) (cs : List Tr), vs = [.ref p] ∧ LotAt C H p n cs ∧ cs.length ≤ 1000 ∧ ∀ H', Same H H' → Q (.int (totOf cs)) H'
theorem ok_total {f : Addr} {fd : FuncData} (F : Fun K "total" "Lot.total" s_Lot_total f fd) (T : Bi mg) (L : LotC K mg C) : FnOk P w K mg base CX0 1 f fd ["self"] (spTotal C) := by
  refine F.ok sc_Lot_total (fun vs H Q E h => ?_) (fun cdv A outer s H vs Q E hr h => ?_)
  · obtain ⟨p, n, cs, rfl, _⟩ := h
    rfl
  · obtain ⟨p, n, cs, rfl, hL, hl, q⟩ := h
    refine ⟨_, (pss_one (ps_ret (pe_callB (cr_sum rfl) (by rfl) T.b_sum (by decide +kernel) (pa_cons (pe_lc (own := [("entry", 1)]) (g := gName 1) (tt := tYes) rfl sc_Lot_total.nd (pi_tup (pe_fld (pv 0) rfl)) (blkOk_by (own := [("entry", 1)]) (N := ["self", "entry"]) (sc := defScope s_Lot_total) (by decide +kernel)) (fun _ _ _ _ _ => (pg_name (i := 1) sc_Lot_total.nd rfl (.inl rfl))) (fun _ _ _ _ _ => pts_nil) (fun _ _ _ _ _ => (pe_ix (r := rIxT K) ix_tup (pv 1) pe_int (fun _ _ => rfl)))) pa_nil)))), ?_⟩
    obtain ⟨dx, c, e, vs, ec, tc⟩ := hL
    refine ⟨_, rfl, p, C, dx, _, _, rfl, e, L.cl, L.nC, flds_cords _ _, c, rfl, ⟨vs, .inl (.inl ec)⟩, fun D hD => ?_⟩
    refine lc_tup (K := K) (a := c) (xs := vs) (fun i H2 => H2 = upd H D (.lst (((cs.map fun t => t.2.2).take i).map V.int))) rfl (fun i H2 _ p => by subst p; exact .inl (.inl (same_upd hD _ _ ec))) (fun i x H2 hxi p => ?_) (fun H2 p => ?_)
    · subst p
      obtain ⟨u, t, rfl, hti, hu⟩ := tc.at_ hxi
      refine ⟨rfl, ?_⟩
      refine ⟨_, rfl, u, _, 2, _, rfl, rfl, .inl (.inl (same_upd hD _ _ hu)), atI_nat (j := 2) rfl, _, upd_same, ?_, ?_⟩
      · rw [List.length_map, List.length_take, List.length_map]
        exact Nat.lt_of_le_of_lt (Nat.min_le_right _ _) (small1000 hl)
      · rw [upd_upd, List.take_add_one, List.getElem?_map, hti, List.map_append]
        rfl
    · subst p
      rw [show vs.length = (cs.map fun t => t.2.2).length by rw [List.length_map]; exact tc.1, List.take_length]
      exact ⟨D, _, rfl, .inl (.inl upd_same), q _ (same_upd hD)⟩
def spLen (C : Addr) : Sp := fun vs H Q _ => ∃ (p : Addr) (n : Int) (cs : List Tr), vs = [.ref p] ∧ LotAt C H p n cs ∧ Q (.int (cs.length : Int)) H
theorem ok_len {f : Addr} {fd : FuncData} (F : Fun K "__len__" "Lot.__len__" s_Lot_len f fd) (T : Bi mg) (L : LotC K mg C) : FnOk P w K mg base CX0 1 f fd ["self"] (spLen C) := by
  refine F.ok sc_Lot_len (fun vs H Q E h => ?_) (fun cdv A outer s H vs Q E hr h => ?_)
  · obtain ⟨p, n, cs, rfl, _⟩ := h
    rfl
  · obtain ⟨p, n, cs, rfl, hL, q⟩ := h
    refine ⟨_, (pss_one (ps_ret (pe_callB call_len_seq (by rfl) T.b_len PySem.boot_len (pa_cons (pe_fld (pv 0) rfl) pa_nil)))), ?_⟩
    obtain ⟨dx, c, e, vs, ec, tc⟩ := hL
    refine ⟨_, rfl, p, C, dx, _, _, rfl, e, L.cl, L.nC, flds_cords _ _, c, vs, rfl, .inr (.inl (.inl ec)), ?_⟩
    rw [tc.1]
    exact q
/-! ### turned and mirrored -/
abbrev GI (P : Program) (w : World) (K : PySem.W.Frag) (mg : Str → Option Value) (base : Heap) (C f : Addr) (d : FuncData) : Prop := FnOk P w K mg base CX0 5 f d ["self", "pins", "cords"] (spInit K C)
end
end Own

/-! Tables of lots. -/
namespace Own
open PySem PySem.Spec PyProof.Rows L2
def gr (cs : List Tr) (a b : Int) : Int := bs (fun q => decide ((q.1 = a ∧ q.2 = b) ∨ (q.1 = b ∧ q.2 = a))) cs
theorem gr_snoc (cs : List Tr) (t : Tr) (a b : Int) : gr (cs ++ [t]) a b = gr cs a b + (if (t.1 = a ∧ t.2.1 = b) ∨ (t.1 = b ∧ t.2.1 = a) then t.2.2 else 0) := by
  unfold gr
  rw [bs_append]
  show _ + ((if decide ((t.1 = a ∧ t.2.1 = b) ∨ (t.1 = b ∧ t.2.1 = a)) = true then t.2.2 else 0) + 0) = _
  by_cases h : (t.1 = a ∧ t.2.1 = b) ∨ (t.1 = b ∧ t.2.1 = a)
  · rw [if_pos (decide_eq_true h), if_pos h]
    omega
  · rw [if_neg (by rw [decide_eq_false h]; decide), if_neg h]
    omega
theorem gr_new {n : Int} {cs : List Tr} (g : Good n cs) {i : Nat} {t : Tr} (h : cs[i]? = some t) : gr (cs.take i) t.1 t.2.1 = 0 ∧ gr (cs.take i) t.2.1 t.1 = 0 := by
  have hnd := srt_nodup g.srt
  have hi : i < cs.length := (List.getElem?_eq_some_iff.mp h).1
  have ht := g.ord t (List.mem_of_getElem? h)
  have hne : ∀ e ∈ cs.take i, ¬ (e.1 = t.1 ∧ e.2.1 = t.2.1) ∧ ¬ (e.1 = t.2.1 ∧ e.2.1 = t.1) := fun e he => by
    obtain ⟨j, hj, e1⟩ := List.mem_iff_getElem.mp he
    rw [List.length_take] at hj
    rw [List.getElem_take] at e1
    have ho := g.ord e (List.mem_of_mem_take he)
    refine ⟨fun z => ?_, fun z => by omega⟩
    have h1 : (cs.map pr)[j]? = (cs.map pr)[i]? := by
      rw [List.getElem?_map, List.getElem?_map, h, List.getElem?_eq_getElem (by omega), e1]
      show some (e.1, e.2.1) = some (t.1, t.2.1)
      rw [z.1, z.2]
    have h2 := (List.getElem?_inj (by rw [List.length_map]; omega) hnd).mp h1
    omega
  constructor
  · exact bs_none fun e he => decide_eq_false fun z => by
      have := hne e he
      unfold pr at z
      rcases z with z | z
      · exact this.1 z
      · exact this.2 z
  · exact bs_none fun e he => decide_eq_false fun z => by
      have := hne e he
      unfold pr at z
      rcases z with z | z
      · exact this.2 z
      · exact this.1 z
/-- the sum of the first k -/
def pre (f : Int → Int) : Nat → Int
  | 0 => 0
  | k + 1 => pre f k + f (k : Int)
def ite0 (b : Bool) (c : Int) : Int := if b = true then c else 0
theorem bs_add {f g h : Int × Int → Bool} {cs : List Tr} (H : ∀ t ∈ cs, ∀ c, ite0 (f (pr t)) c = ite0 (g (pr t)) c + ite0 (h (pr t)) c) : bs f cs = bs g cs + bs h cs := by
  induction cs with
  | nil => rfl
  | cons t r ih =>
    have h1 := H t List.mem_cons_self t.2.2
    have h2 := ih fun u hu => H u (List.mem_cons_of_mem _ hu)
    unfold ite0 at h1
    rw [bs, bs, bs]
    omega
theorem bs_four {f g h k m : Int × Int → Bool} {cs : List Tr} (H : ∀ t ∈ cs, ∀ c, ite0 (f (pr t)) c = ite0 (g (pr t)) c + ite0 (h (pr t)) c - 2 * (ite0 (k (pr t)) c - ite0 (m (pr t)) c)) : bs f cs = bs g cs + bs h cs - 2 * (bs k cs - bs m cs) := by
  induction cs with
  | nil => rfl
  | cons t r ih =>
    have h1 := H t List.mem_cons_self t.2.2
    have h2 := ih fun u hu => H u (List.mem_cons_of_mem _ hu)
    unfold ite0 at h1
    rw [bs, bs, bs, bs, bs]
    omega
theorem ite0_dec (p : Prop) [Decidable p] (c : Int) : ite0 (decide p) c = if p then c else 0 := by
  unfold ite0
  by_cases h : p
  · rw [if_pos (decide_eq_true h), if_pos h]
  · rw [if_neg (by rw [decide_eq_false h]; decide), if_neg h]
def upTo (j m : Int) (q : Int × Int) : Bool := decide ((q.1 = j ∧ q.2 < m) ∨ (q.2 = j ∧ q.1 < m))
theorem pre_gr {n : Int} {cs : List Tr} (g : Good n cs) (j : Int) (m : Nat) : pre (gr cs j) m = bs (upTo j m) cs := by
  induction m with
  | zero =>
    rw [bs_none]
    · rfl
    · intro e he
      have ho := g.ord e he
      refine decide_eq_false fun z => ?_
      unfold pr at z
      dsimp only at z
      omega
  | succ m ih =>
    rw [pre, ih]
    unfold gr
    symm
    refine bs_add fun e he c => ?_
    have ho := g.ord e he
    unfold upTo pr
    rw [ite0_dec, ite0_dec, ite0_dec]
    dsimp only
    split <;> split <;> split <;> omega
/-- does x lie between the gaps i and j? -/
def sepB (i j x : Int) : Bool := decide (lo i j < x ∧ x ≤ hi i j)
def tabE (cs : List Tr) (i j : Int) : Int := bs (fun q => sepB i j q.1 != sepB i j q.2) cs
theorem bne_dec (p q : Prop) [Decidable p] [Decidable q] : (decide p != decide q) = decide (¬ (p ↔ q)) := by
  by_cases h : p <;> by_cases k : q <;> simp [h, k]
theorem tabE_comm (cs : List Tr) (i j : Int) : tabE cs i j = tabE cs j i := by
  have e : ∀ x, sepB i j x = sepB j i x := fun x => by
    unfold sepB
    have h1 := lo_hi i j
    have h2 := lo_hi j i
    exact decide_eq_decide.mpr (by omega)
  unfold tabE
  refine bs_congr fun t _ => ?_
  rw [e, e]
theorem tabE_same (cs : List Tr) (i : Int) : tabE cs i i = 0 := by
  refine bs_none fun t _ => ?_
  have h : ∀ x, sepB i i x = false := fun x => decide_eq_false fun z => by
    have := lo_hi i i
    omega
  rw [h, h]
  rfl
/-- one gap further -/
theorem tabE_step {n : Int} {cs : List Tr} (g : Good n cs) {i j : Int} (h0 : 0 ≤ i) (h1 : i < j) (h2 : j < n) :
    tabE cs i j = tabE cs i (j - 1) + bs (upTo j n) cs - 2 * (bs (upTo j j) cs - bs (upTo j (i + 1)) cs) := by
  unfold tabE
  refine bs_four fun e he c => ?_
  have ho := g.ord e he
  have a := lo_hi i j
  have b := lo_hi i (j - 1)
  unfold sepB upTo pr
  rw [bne_dec, bne_dec, ite0_dec, ite0_dec, ite0_dec, ite0_dec, ite0_dec]
  dsimp only
  split <;> split <;> split <;> split <;> split <;> omega
end Own

namespace Own
open PySem PySem.Spec PyProof.Rows L2
/-! ### a list of lists of ints -/
structure Grid (H : Hp) (p : Addr) (rs : List Addr) (n m : Int) (f : Int → Int → Int) : Prop where
  at_ : H p = some (.lst (rs.map V.ref))
  len : rs.length = n.toNat
  nd : rs.Nodup
  out : p ∉ rs
  row : ∀ (j : Nat) (r : Addr), rs[j]? = some r → H r = some (.lst (gl m (f j)))
theorem Grid.same {H H' : Hp} {p : Addr} {rs : List Addr} {n m : Int} {f : Int → Int → Int} (s : Same H H') (g : Grid H p rs n m f) : Grid H' p rs n m f :=
  ⟨s _ _ g.at_, g.len, g.nd, g.out, fun j r e => s _ _ (g.row j r e)⟩
theorem Grid.get {H : Hp} {p : Addr} {rs : List Addr} {n m : Int} {f : Int → Int → Int} (g : Grid H p rs n m f) {a : Int} (h0 : 0 ≤ a) (h1 : a < n) : ∃ r, rs[a.toNat]? = some r ∧ atI (rs.map V.ref) a = some (.ref r) ∧ H r = some (.lst (gl m (f a))) := by
  have hl := g.len
  have hi : a.toNat < rs.length := by omega
  refine ⟨rs[a.toNat], List.getElem?_eq_getElem hi, ?_, ?_⟩
  · refine at_of (j := a.toNat) (by omega) ?_
    rw [List.getElem?_map, List.getElem?_eq_getElem hi]
    rfl
  · have := g.row a.toNat _ (List.getElem?_eq_getElem hi)
    rw [show ((a.toNat : Nat) : Int) = a by omega] at this
    exact this
theorem Grid.set {H : Hp} {p r : Addr} {rs : List Addr} {n m a b v : Int} {f : Int → Int → Int} (g : Grid H p rs n m f) (a0 : 0 ≤ a) (b0 : 0 ≤ b) (b1 : b < m) (hr : rs[a.toNat]? = some r) :
    Grid (upd H r (.lst ((gl m (f a)).set b.toNat (.int v)))) p rs n m (fun x y => if x = a ∧ y = b then v else f x y) := by
  have hm : r ∈ rs := List.mem_of_getElem? hr
  have hpr : p ≠ r := fun z => g.out (by rw [z]; exact hm)
  refine ⟨by rw [upd_ne hpr]; exact g.at_, g.len, g.nd, g.out, fun j u e => ?_⟩
  rw [gl_set _ _ b0 b1]
  by_cases h : u = r
  · subst h
    have ej : j = a.toNat := nd_ix g.nd e hr
    rw [upd_same]
    congr 2
    refine gl_congr fun y _ _ => ?_
    have ej2 : ((j : Nat) : Int) = a := by omega
    by_cases hy : y = b
    · rw [if_pos hy, if_pos ⟨ej2, hy⟩]
    · rw [if_neg hy, if_neg fun z => hy z.2, ej2]
  · rw [upd_ne h, g.row j u e]
    congr 2
    refine gl_congr fun y _ _ => ?_
    have : ¬ (((j : Nat) : Int) = a ∧ y = b) := fun z => h (by
      have : j = a.toNat := by omega
      rw [this, hr] at e
      exact (Option.some.inj e).symm)
    rw [if_neg this]
theorem Grid.congr {H : Hp} {p : Addr} {rs : List Addr} {n m : Int} {f h : Int → Int → Int} (g : Grid H p rs n m f) (e : ∀ x y, 0 ≤ x → x < n → 0 ≤ y → y < m → f x y = h x y) : Grid H p rs n m h :=
  ⟨g.at_, g.len, g.nd, g.out, fun j r hr => by
    have hj : j < n.toNat := by
      rw [← g.len]
      exact (List.getElem?_eq_some_iff.mp hr).1
    rw [g.row j r hr]
    congr 2
    exact gl_congr fun y y0 y1 => e _ y (by omega) (by omega) y0 y1⟩
/-- nothing of a base is among the rows -/
def Fresh (Hb : Hp) (p : Addr) (rs : List Addr) : Prop := Hb p = none ∧ ∀ r ∈ rs, Hb r = none
theorem Fresh.row {Hb H : Hp} {p r : Addr} {rs : List Addr} {o : HO} (f : Fresh Hb p rs) (s : Same Hb H) (h : r ∈ rs) : Same Hb (upd H r o) := same_put (H1 := Hb) (f.2 r h) s
section
variable {P : Program} {w : World} {K : PySem.W.Frag} {mg : Str → Option Value} {base : Heap} {C : Addr}
def spGaps : Sp := fun vs H Q _ => ∃ n : Int, vs = [.int n] ∧ Q (.int (hi n 1)) H
theorem ok_gaps {f : Addr} {fd : FuncData} (F : Fun K "gaps" "gaps" s_gaps f fd) (T : Bi mg) : FnOk P w K mg base CX0 1 f fd ["pins"] spGaps := by
  refine F.ok sc_gaps (fun vs H Q E h => ?_) (fun cdv A outer s H vs Q E hr h => ?_)
  · obtain ⟨n, rfl, _⟩ := h
    rfl
  · obtain ⟨n, rfl, q⟩ := h
    refine ⟨_, (pss_one (ps_ret (pe_callB (call_max2 rfl) (by rfl) T.b_max (by decide +kernel) (pa_cons (pv 0) (pa_cons pe_int pa_nil))))), ?_⟩
    exact ⟨_, rfl, n, 1, rfl, q⟩
/-! ### the sums before each place -/
def spSums (K : PySem.W.Frag) : Sp := fun vs H Q _ => ∃ (r : Addr) (n : Int) (f : Int → Int), vs = [.ref r] ∧ H r = some (.lst (gl n f)) ∧ 0 ≤ n ∧ n ≤ 1000 ∧ ∀ H' p, Same H H' → H p = none → H' p = some (.lst (gl (n + 1) fun x => pre f x.toNat)) → Q (.ref p) H'
theorem ok_sums {f : Addr} {fd : FuncData} (F : Fun K "sums_before" "sums_before" s_sums_before f fd) (T : Bi mg) : FnOk P w K mg base CX0 1 f fd ["row"] (spSums K) := by
  refine F.ok sc_sums_before (fun vs H Q E h => ?_) (fun cdv A outer s H vs Q E hr h => ?_)
  · obtain ⟨r, n, f, rfl, _⟩ := h
    rfl
  · obtain ⟨r, n, f, rfl, er, n0, n1, q⟩ := h
    refine ⟨_, (pss_cons (ps_set (i := 1) sc_sums_before.nd rfl (.inl rfl) (pe_lst (pa_cons pe_int pa_nil)))
        (pss_cons (ps_set (i := 2) sc_sums_before.nd rfl (.inl rfl) pe_int)
        (pss_cons (ps_for PassesOwn.never rfl (pi_list (pv 0)) (pg_name (i := 3) sc_sums_before.nd rfl (.inl rfl))
        (pss_cons (ps_set (i := 2) sc_sums_before.nd rfl (.inl rfl) (pe_op op_add (pv 2) (pv 3)))
        (pss_one (ps_expr (pe_bm PySem.F.plainAttrs_list PySem.F.slot_list_append PySem.F.type_list_append mt_append (pv 1) (pa_cons (pv 2) pa_nil))))))
        (pss_one (ps_ret (pv 1)))))), ?_⟩
    refine ⟨by show 1 ≤ sizeLine; decide, fun p np => ?_⟩
    refine ⟨_, rfl, r, rfl, ⟨_, .inl (.inl (same_upd np _ _ er))⟩, for_list (xs := gl n f) (fun i σ H' => (∃ y, σ = [some (.ref r), some (.ref p), some (.int (pre f i)), y]) ∧ H' = upd H p (.lst ((List.range (i + 1)).map fun j : Nat => V.int (pre f j)))) ⟨⟨_, rfl⟩, rfl⟩ (fun i σ H' _ pv => by obtain ⟨_, rfl⟩ := pv; exact .inl (.inl (same_upd np _ _ er))) (fun i x σ H' hx pv => ?_) (fun σ H' pv => ?_)⟩
    · obtain ⟨⟨y, rfl⟩, rfl⟩ := pv
      have hi : i < n.toNat := by
        have := (List.getElem?_eq_some_iff.mp hx).1
        rw [gl_len] at this
        exact this
      obtain rfl : x = .int (f (i : Int)) := by
        unfold gl at hx
        rw [List.getElem?_map, List.getElem?_range hi] at hx
        exact (Option.some.inj hx).symm
      refine ⟨_, rfl, _, rfl, _, _, rfl, rfl, ?_⟩
      refine ⟨_, rfl, .inl ⟨rfl, _, .inl (.inl upd_same)⟩, _, rfl, p, _, _, rfl, rfl, upd_same, ?_, ⟨_, rfl⟩, ?_⟩
      · rw [List.length_map, List.length_range]
        exact small1000 (by omega)
      · rw [upd_upd, List.range_succ (n := i + 1), List.map_append]
        rfl
    · obtain ⟨⟨y, rfl⟩, rfl⟩ := pv
      refine ⟨_, rfl, q _ p (same_upd np) np ?_⟩
      rw [upd_same, gl_len]
      unfold gl
      rw [show (n + 1).toNat = n.toNat + 1 by omega]
      rfl
/-! ### the cords between each two pins -/
def spGrid : Sp := fun vs H Q _ => ∃ (n : Int) (c : Addr) (cs : List Tr), vs = [.int n, .ref c] ∧ 0 ≤ n ∧ n ≤ 1000 ∧ Trip H c cs ∧ Good n cs ∧ ∀ H' p rs, Same H H' → Fresh H p rs → Grid H' p rs n n (gr cs) → Q (.ref p) H'
theorem ok_grid {f : Addr} {fd : FuncData} (F : Fun K "cord_grid" "cord_grid" s_cord_grid f fd) (T : Bi mg) : FnOk P w K mg base CX0 1 f fd ["pins", "cords"] spGrid := by
  refine F.ok sc_cord_grid (fun vs H Q E h => ?_) (fun cdv A outer s H vs Q E hr h => ?_)
  · obtain ⟨n, c, cs, rfl, _⟩ := h
    rfl
  · obtain ⟨n, c, cs, rfl, n0, n1, hc, hG, q⟩ := h
    refine ⟨_, (pss_cons (ps_setLc (i := 2) (own := [("_", 6)]) (g := gName 6) (tt := tYes) rfl sc_cord_grid.nd rfl rfl (sw_true rfl rfl rfl (by decide +kernel)) (pi_range1 (by rfl) T.b_range (pa_cons (pv 0) pa_nil)) (blkOk_by (own := [("_", 6)]) (N := ["pins", "cords", "rows", "a", "b", "many", "_"]) (sc := defScope s_cord_grid) (by decide +kernel)) (fun _ _ _ _ _ => (pg_name (i := 6) sc_cord_grid.nd rfl (.inl rfl))) (fun _ _ _ _ _ => pts_nil) (fun _ _ _ _ _ => (pe_op op_rep (pe_lst (pa_cons pe_int pa_nil)) (pv 0))))
        (pss_cons (ps_for PassesOwn.never rfl (pi_tup (pv 1)) (pg_tup (by rfl) (pgs_cons (pg_name (i := 3) sc_cord_grid.nd rfl (.inl rfl)) (pgs_cons (pg_name (i := 4) sc_cord_grid.nd rfl (.inl rfl)) (pgs_cons (pg_name (i := 5) sc_cord_grid.nd rfl (.inl rfl)) pgs_nil))))
        (pss_cons (ps_asg (pv 5) (pg_sub (pe_ix (r := rIxL K) ix_list (pv 2) (pv 3) (fun _ _ => rfl)) (pv 4) set_list))
        (pss_one (ps_asg (pv 5) (pg_sub (pe_ix (r := rIxL K) ix_list (pv 2) (pv 4) (fun _ _ => rfl)) (pv 3) set_list)))))
        (pss_one (ps_ret (pv 2))))), ?_⟩
    obtain ⟨vs, ec, tc⟩ := id hc
    refine ⟨_, rfl, n, rfl, by omega, by omega, fun D hD => ?_⟩
    refine lc_range (lo := 0) (n := n.toNat) (fun i H' => Same H H' ∧ ∃ rs, H' D = some (.lst (rs.map V.ref)) ∧ rs.length = i ∧ rs.Nodup ∧ D ∉ rs ∧ (∀ r ∈ rs, H r = none) ∧ ∀ (j : Nat) (r : Addr), rs[j]? = some r → H' r = some (.lst (gl n fun _ => 0))) ⟨same_upd hD, [], upd_same, rfl, List.nodup_nil, by simp, by simp, by simp⟩ (fun i H' hi pv => ?_) (fun H' pv => ?_)
    · obtain ⟨sm, rs, eD, hlen, hnd, hout, hfr, hrow⟩ := pv
      refine ⟨rfl, ?_⟩
      refine ⟨by show 1 ≤ sizeLine; decide, fun l hl => ⟨_, rfl, l, n, _, rfl, rfl, upd_same, by omega, by omega, ?_, fun r nr => ?_⟩⟩
      · show 1 * n.toNat ≤ sizeLine
        rw [Nat.one_mul]
        exact Nat.le_of_lt (small1000 (by omega))
      have s1 : Same H' (upd (upd H' l (.lst [.int 0])) r (.lst (List.replicate n.toNat [V.int 0]).flatten)) := (same_upd hl).trans (same_upd nr)
      have nr0 : H' r = none := (same_upd (o := .lst [.int 0]) hl).free nr
      have nrD : r ≠ D := fun z => by
        rw [z, eD] at nr0
        cases nr0
      have nin : r ∉ rs := fun m => by
        obtain ⟨j, hj, ej⟩ := List.mem_iff_getElem.mp m
        rw [hrow j r (by rw [List.getElem?_eq_getElem hj, ej])] at nr0
        cases nr0
      refine ⟨_, s1 _ _ eD, ?_, same_put (H1 := H) hD (sm.trans s1), rs ++ [r], ?_, ?_, ?_, ?_, ?_, ?_⟩
      · rw [List.length_map, hlen]
        exact small1000 (by omega)
      · rw [upd_same, List.map_append]
        rfl
      · rw [List.length_append, hlen]
        rfl
      · exact List.nodup_append.mpr ⟨hnd, by simp, fun a ha b hb z => nin (by rw [List.mem_singleton.mp hb] at z; rw [← z]; exact ha)⟩
      · intro m
        rcases List.mem_append.mp m with m | m
        · exact hout m
        · exact nrD (List.mem_singleton.mp m).symm
      · intro u m
        rcases List.mem_append.mp m with m | m
        · exact hfr u m
        · rw [List.mem_singleton.mp m]
          exact sm.free nr0
      · intro j u e
        have hu : u ≠ D := fun z => by
          have m := List.mem_of_getElem? e
          rcases List.mem_append.mp m with m | m
          · exact hout (z ▸ m)
          · exact nrD ((List.mem_singleton.mp m).symm.trans z)
        rw [upd_ne hu]
        by_cases hj : j < rs.length
        · rw [List.getElem?_append_left hj] at e
          exact s1 _ _ (hrow j u e)
        · rw [List.getElem?_append_right (by omega)] at e
          obtain rfl : r = u := by
            cases hk : j - rs.length with
            | zero =>
              rw [hk] at e
              exact Option.some.inj e
            | succ k =>
              rw [hk] at e
              simp at e
          rw [upd_same, rep_gl, gl_const]
    · obtain ⟨sm, rs, eD, hlen, hnd, hout, hfr, hrow⟩ := pv
      have g0 : Grid H' D rs n n (gr []) := ⟨eD, hlen, hnd, hout, fun j r e => hrow j r e⟩
      refine ⟨_, rfl, c, rfl, ⟨vs, .inl (.inl (sm _ _ ec))⟩, for_tup (xs := vs) (fun i σ H2 => (∃ y3 y4 y5 y6, σ = [some (.int n), some (.ref c), some (.ref D), y3, y4, y5, y6]) ∧ Same H H2 ∧ Grid H2 D rs n n (gr (cs.take i))) ⟨⟨_, _, _, _, rfl⟩, sm, g0⟩ (fun i σ H2 _ p => .inl (.inl (p.2.1 _ _ ec))) (fun i x σ H2 hxi p => ?_) (fun σ H2 p => ?_)⟩
      · obtain ⟨⟨y3, y4, y5, y6, rfl⟩, s2, g2⟩ := p
        obtain ⟨u, t, rfl, hti, hu⟩ := (tc.same s2).at_ hxi
        have ho := hG.ord t (List.mem_of_getElem? hti)
        have hnew := gr_new hG hti
        refine ⟨u, _, rfl, .inl (.inl hu), rfl, _, _, rfl, _, _, rfl, _, _, rfl, rfl, ?_⟩
        obtain ⟨r1, e1, a1, h1⟩ := g2.get (a := t.1) (by omega) (by omega)
        refine ⟨_, rfl, _, rfl, _, rfl, D, _, _, _, rfl, rfl, .inl (.inl g2.at_), a1, _, rfl, r1, _, _, _, rfl, rfl, h1, gl_ix _ (by omega) (by omega), ?_⟩
        have g3 := g2.set (v := t.2.2) (by omega) (show 0 ≤ t.2.1 by omega) (by omega) e1
        have s3 : Same H (upd H2 r1 (.lst ((gl n (gr (cs.take i) t.1)).set t.2.1.toNat (.int t.2.2)))) := same_put (H1 := H) (hfr r1 (List.mem_of_getElem? e1)) s2
        obtain ⟨r2, e2, a2, h2⟩ := g3.get (a := t.2.1) (by omega) (by omega)
        refine ⟨_, rfl, _, rfl, _, rfl, D, _, _, _, rfl, rfl, .inl (.inl g3.at_), a2, _, rfl, r2, _, _, _, rfl, rfl, h2, gl_ix _ (by omega) (by omega), ?_⟩
        have g4 := g3.set (v := t.2.2) (by omega) (show 0 ≤ t.1 by omega) (by omega) e2
        refine ⟨⟨_, _, _, _, rfl⟩, same_put (H1 := H) (hfr r2 (List.mem_of_getElem? e2)) s3, ?_⟩
        rw [List.take_add_one, hti]
        refine g4.congr fun x y _ _ _ _ => ?_
        show (if x = t.2.1 ∧ y = t.1 then t.2.2 else if x = t.1 ∧ y = t.2.1 then t.2.2 else gr (cs.take i) x y) = gr (cs.take i ++ [t]) x y
        rw [gr_snoc]
        by_cases q1 : x = t.2.1 ∧ y = t.1
        · rw [if_pos q1, if_pos (by omega), q1.1, q1.2, hnew.2]
          omega
        · by_cases q2 : x = t.1 ∧ y = t.2.1
          · rw [if_neg q1, if_pos q2, if_pos (by omega), q2.1, q2.2, hnew.1]
            omega
          · rw [if_neg q1, if_neg q2, if_neg (by omega)]
            omega
      · obtain ⟨⟨y3, y4, y5, y6, rfl⟩, s2, g2⟩ := p
        rw [tc.1, List.take_length] at g2
        exact ⟨_, rfl, q H2 D rs s2 ⟨hD, hfr⟩ g2⟩
end
end Own

namespace Own
open PySem PySem.Spec PyProof.Rows L2
def rTupOf (K : PySem.W.Frag) : List V → Hp → VK → Prop := fun xs H Q => ∃ p ys, xs = [V.ref p] ∧ ((SqL K H p ys ∧ ∀ l, H l = none → Q (.ref l) (upd H l (.tup ys))) ∨ (SqT K H p ys ∧ Q (.ref p) H))
theorem cr_tupOf {X : Cx} : CallR X (.type "tuple") (rTupOf X.K) := call_tuple_of
/-- rows of zeros, being made -/
structure ZInv (Hb : Hp) (D : Addr) (m : Int) (i : Nat) (rs : List Addr) (H : Hp) : Prop where
  sm : Same Hb H
  at_ : H D = some (.lst (rs.map V.ref))
  len : rs.length = i
  nd : rs.Nodup
  out : D ∉ rs
  fr : ∀ r ∈ rs, Hb r = none
  row : ∀ (j : Nat) (r : Addr), rs[j]? = some r → H r = some (.lst (gl m fun _ => 0))
theorem ZInv.step {Hb H H1 : Hp} {D r : Addr} {m : Int} {i : Nat} {rs : List Addr} (z : ZInv Hb D m i rs H) (nD : Hb D = none) (s1 : Same H H1) (nr : H r = none) (er : H1 r = some (.lst (gl m fun _ => 0))) : ZInv Hb D m (i + 1) (rs ++ [r]) (upd H1 D (.lst (rs.map V.ref ++ [.ref r]))) := by
  have nrD : r ≠ D := fun e => by
    rw [e, z.at_] at nr
    cases nr
  have nin : r ∉ rs := fun mm => by
    obtain ⟨j, hj, ej⟩ := List.mem_iff_getElem.mp mm
    rw [z.row j r (by rw [List.getElem?_eq_getElem hj, ej])] at nr
    cases nr
  refine ⟨same_put (H1 := Hb) nD (z.sm.trans s1), ?_, ?_, ?_, ?_, ?_, ?_⟩
  · rw [upd_same, List.map_append]
    rfl
  · rw [List.length_append, z.len]
    rfl
  · exact List.nodup_append.mpr ⟨z.nd, by simp, fun a ha b hb e => nin (by rw [List.mem_singleton.mp hb] at e; rw [← e]; exact ha)⟩
  · intro mm
    rcases List.mem_append.mp mm with mm | mm
    · exact z.out mm
    · exact nrD (List.mem_singleton.mp mm).symm
  · intro u mm
    rcases List.mem_append.mp mm with mm | mm
    · exact z.fr u mm
    · rw [List.mem_singleton.mp mm]
      exact z.sm.free nr
  · intro j u e
    have hu : u ≠ D := fun e2 => by
      rcases List.mem_append.mp (List.mem_of_getElem? e) with mm | mm
      · exact z.out (by rw [← e2]; exact mm)
      · exact nrD ((List.mem_singleton.mp mm).symm.trans e2)
    rw [upd_ne hu]
    by_cases hj : j < rs.length
    · rw [List.getElem?_append_left hj] at e
      exact s1 _ _ (z.row j u e)
    · rw [List.getElem?_append_right (by omega)] at e
      obtain rfl : r = u := by
        cases hk : j - rs.length with
        | zero =>
          rw [hk] at e
          exact Option.some.inj e
        | succ k =>
          rw [hk] at e
          simp at e
      exact er
/-- a table: a tuple of tuples of ints -/
def TabAt (H : Hp) (a : Addr) (sz : Int) (f : Int → Int → Int) : Prop := ∃ vs, H a = some (.tup vs) ∧ vs.length = sz.toNat ∧ ∀ j : Nat, j < sz.toNat → ∃ r, vs[j]? = some (.ref r) ∧ H r = some (.tup (gl sz (f j)))
theorem TabAt.same {H H' : Hp} {a : Addr} {sz : Int} {f : Int → Int → Int} (s : Same H H') (h : TabAt H a sz f) : TabAt H' a sz f := by
  obtain ⟨vs, e, l, r⟩ := h
  refine ⟨vs, s _ _ e, l, fun j hj => ?_⟩
  obtain ⟨u, e1, e2⟩ := r j hj
  exact ⟨u, e1, s _ _ e2⟩
section
variable {P : Program} {w : World} {K : PySem.W.Frag} {mg : Str → Option Value} {base : Heap} {C : Addr}
def spTable : Sp := fun vs H Q _ => ∃ (n : Int) (c : Addr) (cs : List Tr), vs = [.int n, .ref c] ∧ 0 ≤ n ∧ n ≤ 1000 ∧ Trip H c cs ∧ Good n cs ∧ ∀ H' p, Same H H' → TabAt H' p (hi n 1) (tabE cs) → Q (.ref p) H'
theorem ok_table {f : Addr} {fd : FuncData} (F : Fun K "table_rows" "table_rows" s_table_rows f fd) (T : Bi mg) {f_c : Addr} {d_c : FuncData} (D_c : Df K mg "cord_grid" s_cord_grid ["pins", "cords"] f_c d_c) (G_c : FnOk P w K mg base CX0 1 f_c d_c ["pins", "cords"] spGrid)
    {f_z : Addr} {d_z : FuncData} (D_z : Df K mg "gaps" s_gaps ["pins"] f_z d_z) (G_z : FnOk P w K mg base CX0 1 f_z d_z ["pins"] spGaps) {f_s : Addr} {d_s : FuncData} (D_s : Df K mg "sums_before" s_sums_before ["row"] f_s d_s) (G_s : FnOk P w K mg base CX0 1 f_s d_s ["row"] (spSums K)) :
    FnOk P w K mg base CX0 2 f fd ["pins", "cords"] spTable := by
  refine F.ok sc_table_rows (fun vs H Q E h => ?_) (fun cdv A outer s H vs Q E hr h => ?_)
  · obtain ⟨n, c, cs, rfl, _⟩ := h
    rfl
  · obtain ⟨n, c, cs, rfl, n0, n1, hc, hG, q⟩ := h
    refine ⟨_, (pss_cons (ps_setLc (i := 2) (own := [("row", 8)]) (g := gName 8) (tt := tYes) rfl sc_table_rows.nd rfl rfl (sw_true rfl rfl rfl (by decide +kernel)) (pi_list (pe_call G_c hr (by rfl) D_c.g D_c.F.kp D_c.b .nil pass0 (pa_cons (pv 0) (pa_cons (pv 1) pa_nil)))) (blkOk_by (own := [("row", 8)]) (N := ["pins", "cords", "sums", "size", "rows", "i", "across", "j", "row", "_"]) (sc := defScope s_table_rows) (by decide +kernel)) (fun _ _ _ _ _ => (pg_name (i := 8) sc_table_rows.nd rfl (.inl rfl))) (fun _ _ _ _ _ => pts_nil) (fun _ _ _ _ _ => (show PE _ _ (tCall (spSums K) [] E0 (tCons (tVar 8) tNil)) from pe_call G_s (hr.mono (by decide)) (by rfl) D_s.g D_s.F.kp D_s.b .nil pass0 (pa_cons (pv 8) pa_nil))))
        (pss_cons (ps_set (i := 3) sc_table_rows.nd rfl (.inr rfl) (pe_call G_z hr (by rfl) D_z.g D_z.F.kp D_z.b .nil pass0 (pa_cons (pv 0) pa_nil)))
        (pss_cons (ps_setLc (i := 4) (own := [("_", 9)]) (g := gName 9) (tt := tYes) rfl sc_table_rows.nd rfl rfl (sw_true rfl rfl rfl (by decide +kernel)) (pi_range1 (by rfl) T.b_range (pa_cons (pv 3) pa_nil)) (blkOk_by (own := [("_", 9)]) (N := ["pins", "cords", "sums", "size", "rows", "i", "across", "j", "row", "_"]) (sc := defScope s_table_rows) (by decide +kernel)) (fun _ _ _ _ _ => (pg_name (i := 9) sc_table_rows.nd rfl (.inl rfl))) (fun _ _ _ _ _ => pts_nil) (fun _ _ _ _ _ => (pe_op op_rep (pe_lst (pa_cons pe_int pa_nil)) (pv 3))))
        (pss_cons (ps_for PassesOwn.never rfl (pi_range1 (by rfl) T.b_range (pa_cons (pv 3) pa_nil)) (pg_name (i := 5) sc_table_rows.nd rfl (.inl rfl))
        (pss_cons (ps_set (i := 6) sc_table_rows.nd rfl (.inl rfl) pe_int)
        (pss_one (ps_for PassesOwn.never rfl (pi_range2 (by rfl) T.b_range (pa_cons (pe_op op_add (pv 5) pe_int) (pa_cons (pv 3) pa_nil))) (pg_name (i := 7) sc_table_rows.nd rfl (.inl rfl))
        (pss_cons (ps_set (i := 6) sc_table_rows.nd rfl (.inl rfl) (pe_op op_sub (pe_op op_add (pv 6) (pe_ix (r := rIxL K) ix_list (pe_ix (r := rIxL K) ix_list (pv 2) (pv 7) (fun _ _ => rfl)) (pv 0) (fun _ _ => rfl))) (pe_op op_mul pe_int (pe_op op_sub (pe_ix (r := rIxL K) ix_list (pe_ix (r := rIxL K) ix_list (pv 2) (pv 7) (fun _ _ => rfl)) (pv 7) (fun _ _ => rfl)) (pe_ix (r := rIxL K) ix_list (pe_ix (r := rIxL K) ix_list (pv 2) (pv 7) (fun _ _ => rfl)) (pe_op op_add (pv 5) pe_int) (fun _ _ => rfl))))))
        (pss_cons (ps_asg (pv 6) (pg_sub (pe_ix (r := rIxL K) ix_list (pv 4) (pv 5) (fun _ _ => rfl)) (pv 7) set_list))
        (pss_one (ps_asg (pv 6) (pg_sub (pe_ix (r := rIxL K) ix_list (pv 4) (pv 7) (fun _ _ => rfl)) (pv 5) set_list)))))))))
        (pss_one (ps_ret (pe_callTy call_tuple_of (by rfl) T.b_tuple (by decide +kernel) (pa_cons (pe_lc (own := [("row", 8)]) (g := gName 8) (tt := tYes) rfl sc_table_rows.nd (pi_list (pv 4)) (blkOk_by (own := [("row", 8)]) (N := ["pins", "cords", "sums", "size", "rows", "i", "across", "j", "row", "_"]) (sc := defScope s_table_rows) (by decide +kernel)) (fun _ _ _ _ _ => (pg_name (i := 8) sc_table_rows.nd rfl (.inl rfl))) (fun _ _ _ _ _ => pts_nil) (fun _ _ _ _ _ => (pe_callTy (r := rTupOf K) cr_tupOf (by rfl) T.b_tuple (by decide +kernel) (pa_cons (pv 8) pa_nil)))) pa_nil)))))))), ?_⟩
    refine ⟨_, rfl, _, rfl, n, c, cs, rfl, n0, n1, hc, hG, fun H1 p0 rs0 s1 _ g1 => ⟨p0, rfl, ⟨_, .inl (.inl g1.at_)⟩, fun D hD => ?_⟩⟩
    -- sums
    refine lc_list (K := K) (a := p0) (xs := rs0.map V.ref) (fun i H2 => Same H1 H2 ∧ ∃ ss : List Addr, H2 D = some (.lst (ss.map V.ref)) ∧ ss.length = i ∧ D ∉ ss ∧ ∀ (j : Nat) (u : Addr), ss[j]? = some u → H2 u = some (.lst (gl (n + 1) fun x => pre (gr cs j) x.toNat))) ⟨same_upd hD, [], upd_same, rfl, by simp, by simp⟩ (fun i H2 _ p => .inl (.inl (p.1 _ _ g1.at_))) (fun i x H2 hxi p => ?_) (fun H2 p => ?_)
    · obtain ⟨s2, ss, eD, hlen, hout, hss⟩ := p
      obtain ⟨r, hri, rfl⟩ : ∃ r, rs0[i]? = some r ∧ x = .ref r := by
        rw [List.getElem?_map] at hxi
        cases e : rs0[i]? with
        | none => rw [e] at hxi; cases hxi
        | some r =>
          rw [e] at hxi
          exact ⟨r, rfl, (Option.some.inj hxi).symm⟩
      have hi0 : i < n.toNat := by
        rw [← g1.len]
        exact (List.getElem?_eq_some_iff.mp hri).1
      refine ⟨rfl, ?_⟩
      refine ⟨_, rfl, r, n, gr cs i, rfl, s2 _ _ (g1.row i r hri), n0, n1, fun H3 u s3 nu eu => ?_⟩
      have nuD : u ≠ D := fun z => by
        rw [z, eD] at nu
        cases nu
      refine ⟨_, s3 _ _ eD, ?_, same_put (H1 := H1) hD (s2.trans s3), ss ++ [u], ?_, ?_, ?_, ?_⟩
      · rw [List.length_map, hlen]
        exact small1000 (by omega)
      · rw [upd_same, List.map_append]
        rfl
      · rw [List.length_append, hlen]
        rfl
      · intro m
        rcases List.mem_append.mp m with m | m
        · exact hout m
        · exact nuD (List.mem_singleton.mp m).symm
      · intro j v e
        have hv : v ≠ D := fun e2 => by
          rcases List.mem_append.mp (List.mem_of_getElem? e) with m | m
          · exact hout (by rw [← e2]; exact m)
          · exact nuD ((List.mem_singleton.mp m).symm.trans e2)
        rw [upd_ne hv]
        by_cases hj : j < ss.length
        · rw [List.getElem?_append_left hj] at e
          exact s3 _ _ (hss j v e)
        · rw [List.getElem?_append_right (by omega)] at e
          have hk : j - ss.length = 0 := by
            cases hk : j - ss.length with
            | zero => rfl
            | succ k =>
              rw [hk] at e
              simp at e
          rw [hk] at e
          obtain rfl : u = v := Option.some.inj e
          have ej : j = i := by omega
          subst ej
          exact eu
    obtain ⟨s2, ss, eD, hlen, hout, hss⟩ := p
    rw [List.length_map, g1.len] at hlen
    -- size, rows
    refine ⟨_, rfl, n, rfl, ?_⟩
    have hsz := lo_hi n 1
    have hz0 : 1 ≤ hi n 1 ∧ hi n 1 ≤ 1000 ∧ (2 ≤ hi n 1 → hi n 1 = n) := by omega
    refine ⟨_, rfl, hi n 1, rfl, by omega, by omega, fun R hR => ?_⟩
    refine lc_range (lo := 0) (n := (hi n 1).toNat) (fun i H3 => ∃ rr, ZInv H2 R (hi n 1) i rr H3) ⟨[], same_upd hR, upd_same, rfl, List.nodup_nil, by simp, by simp, by simp⟩ (fun i H3 hi3 pv => ?_) (fun H3 pv => ?_)
    · obtain ⟨rr, z⟩ := pv
      refine ⟨rfl, ?_⟩
      refine ⟨by show 1 ≤ sizeLine; decide, fun l hl => ⟨_, rfl, l, hi n 1, _, rfl, rfl, upd_same, by omega, by omega, ?_, fun r nr => ?_⟩⟩
      · show 1 * (hi n 1).toNat ≤ sizeLine
        rw [Nat.one_mul]
        exact Nat.le_of_lt (small1000 (by omega))
      have sA : Same H3 (upd (upd H3 l (.lst [.int 0])) r (.lst (List.replicate (hi n 1).toNat [V.int 0]).flatten)) := (same_upd hl).trans (same_upd nr)
      refine ⟨_, sA _ _ z.at_, ?_, _, z.step hR sA ((same_upd (o := .lst [.int 0]) hl).free nr) ?_⟩
      · rw [List.length_map, z.len]
        exact small1000 (by omega)
      · rw [upd_same, rep_gl, gl_const]
    obtain ⟨rr, z⟩ := pv
    have gz : Grid H3 R rr (hi n 1) (hi n 1) (fun x y => if x ≠ y ∧ lo x y < 0 then tabE cs x y else 0) := by
      refine Grid.congr (f := fun _ _ => 0) ⟨z.at_, z.len, z.nd, z.out, fun j r e => z.row j r e⟩ fun x y x0 x1 y0 y1 => ?_
      have := lo_hi x y
      rw [if_neg (by omega)]
    generalize hsz2 : hi n 1 = sz at hz0 gz
    -- the places
    refine ⟨_, rfl, sz, rfl, by omega, by omega, for_range (lo := 0) (n := sz.toNat) (fun i σ H4 => (∃ y5 y6 y7 y8 y9, σ = [some (.int n), some (.ref c), some (.ref D), some (.int sz), some (.ref R), y5, y6, y7, y8, y9]) ∧ Same H2 H4 ∧ Grid H4 R rr sz sz (fun x y => if x ≠ y ∧ lo x y < (i : Int) then tabE cs x y else 0)) ⟨⟨none, none, none, none, none, rfl⟩, z.sm, gz⟩ (fun i σ H4 hi4 pv => ?_) (fun σ H4 pv => ?_)⟩
    · obtain ⟨⟨y5, y6, y7, y8, y9, rfl⟩, s4, g4⟩ := pv
      rw [Int.zero_add]
      refine ⟨_, rfl, _, _, rfl, rfl, _, rfl, (i : Int) + 1, sz, rfl, ⟨by omega, by omega, by omega, by omega⟩, for_range (lo := (i : Int) + 1) (n := (sz - ((i : Int) + 1)).toNat) (fun k σ H5 => (∃ y7, σ = [some (.int n), some (.ref c), some (.ref D), some (.int sz), some (.ref R), some (.int (i : Int)), some (.int (tabE cs i ((i : Int) + k))), y7, y8, y9]) ∧ Same H2 H5 ∧ Grid H5 R rr sz sz (fun x y => if x ≠ y ∧ (lo x y < (i : Int) ∨ (lo x y = (i : Int) ∧ hi x y < (i : Int) + 1 + k)) then tabE cs x y else 0)) ⟨⟨y7, ?_⟩, s4, ?_⟩ (fun k σ H5 hk pv => ?_) (fun σ H5 pv => ?_)⟩
      · rw [show ((i : Int) + ((0 : Nat) : Int)) = (i : Int) by omega, tabE_same]
        rfl
      · refine g4.congr fun x y x0 x1 y0 y1 => ?_
        have := lo_hi x y
        by_cases h : x ≠ y ∧ lo x y < (i : Int)
        · rw [if_pos h, if_pos ⟨h.1, .inl h.2⟩]
        · rw [if_neg h, if_neg (by omega)]
      · obtain ⟨⟨y7, rfl⟩, s5, g5⟩ := pv
        have hn : sz = n := hz0.2.2 (by omega)
        generalize hj : (i : Int) + 1 + (k : Int) = j
        have j0 : (i : Int) < j ∧ j < n := by omega
        have hsj : ∃ u, atI (ss.map V.ref) j = some (.ref u) ∧ H2 u = some (.lst (gl (n + 1) fun x => pre (gr cs j) x.toNat)) := by
          have hl2 : j.toNat < ss.length := by omega
          refine ⟨ss[j.toNat], at_of (j := j.toNat) (by omega) ?_, ?_⟩
          · rw [List.getElem?_map, List.getElem?_eq_getElem hl2]
            rfl
          · have := hss j.toNat _ (List.getElem?_eq_getElem hl2)
            rw [show ((j.toNat : Nat) : Int) = j by omega] at this
            exact this
        obtain ⟨u, au, hu⟩ := hsj
        have eD5 : SqL K H5 D (ss.map V.ref) := .inl (.inl (s5 _ _ eD))
        have eu5 : SqL K H5 u (gl (n + 1) fun x => pre (gr cs j) x.toNat) := .inl (.inl (s5 _ _ hu))
        refine ⟨_, rfl, _, rfl, _, rfl, D, _, j, _, rfl, rfl, eD5, au, _, rfl, u, _, n, _, rfl, rfl, eu5, gl_at _ (by omega) (by omega), _, _, rfl, rfl, ?_⟩
        refine ⟨_, rfl, _, rfl, D, _, j, _, rfl, rfl, eD5, au, _, rfl, u, _, j, _, rfl, rfl, eu5, gl_at _ (by omega) (by omega), ?_⟩
        refine ⟨_, rfl, _, rfl, D, _, j, _, rfl, rfl, eD5, au, _, rfl, _, _, rfl, rfl, u, _, _, _, rfl, rfl, eu5, gl_at _ (by omega) (by omega), _, _, rfl, rfl, _, _, rfl, rfl, .inl ⟨by decide, by decide⟩, _, _, rfl, rfl, ?_⟩
        have hval : tabE cs i ((i : Int) + k) + pre (gr cs j) n.toNat - 2 * (pre (gr cs j) j.toNat - pre (gr cs j) ((i : Int) + 1).toNat) = tabE cs i j := by
          rw [pre_gr hG, pre_gr hG, pre_gr hG, show ((n.toNat : Nat) : Int) = n by omega, show ((j.toNat : Nat) : Int) = j by omega, show ((((i : Int) + 1).toNat : Nat) : Int) = (i : Int) + 1 by omega,
            tabE_step hG (by omega) j0.1 j0.2, show (i : Int) + (k : Int) = j - 1 by omega]
        show (tSeq _ _) _ ([some (.int n), some (.ref c), some (.ref D), some (.int sz), some (.ref R), some (.int (i : Int)), some (.int (tabE cs i ((i : Int) + k) + pre (gr cs j) n.toNat - 2 * (pre (gr cs j) j.toNat - pre (gr cs j) ((i : Int) + 1).toNat))), some (.int j), y8, y9]) _
        rw [hval]
        obtain ⟨r1, e1, a1, h1⟩ := g5.get (a := (i : Int)) (by omega) (by omega)
        refine ⟨_, rfl, _, rfl, _, rfl, R, _, _, _, rfl, rfl, .inl (.inl g5.at_), a1, _, rfl, r1, _, _, _, rfl, rfl, h1, gl_ix _ (by omega) (by omega), ?_⟩
        have g6 := g5.set (v := tabE cs i j) (by omega) (show 0 ≤ j by omega) (by omega) e1
        have s6 := same_put (H1 := H2) (o := .lst ((gl sz (fun y => if (i : Int) ≠ y ∧ (lo i y < (i : Int) ∨ (lo i y = (i : Int) ∧ hi i y < (i : Int) + 1 + k)) then tabE cs i y else 0)).set j.toNat (.int (tabE cs i j)))) (z.fr r1 (List.mem_of_getElem? e1)) s5
        obtain ⟨r2, e2, a2, h2⟩ := g6.get (a := j) (by omega) (by omega)
        refine ⟨_, rfl, _, rfl, _, rfl, R, _, _, _, rfl, rfl, .inl (.inl g6.at_), a2, _, rfl, r2, _, _, _, rfl, rfl, h2, gl_ix _ (by omega) (by omega), ?_⟩
        have g7 := g6.set (v := tabE cs i j) (by omega) (show 0 ≤ (i : Int) by omega) (by omega) e2
        refine ⟨⟨some (.int j), ?_⟩, same_put (H1 := H2) (z.fr r2 (List.mem_of_getElem? e2)) s6, g7.congr fun x y x0 x1 y0 y1 => ?_⟩
        · rw [show (i : Int) + ((k + 1 : Nat) : Int) = j by omega]
        · have hxy := lo_hi x y
          by_cases q1 : x = j ∧ y = (i : Int)
          · rw [if_pos q1, if_pos (by omega), q1.1, q1.2, tabE_comm]
          · rw [if_neg q1]
            by_cases q2 : x = (i : Int) ∧ y = j
            · rw [if_pos q2, if_pos (by omega), q2.1, q2.2]
            · rw [if_neg q2]
              by_cases q3 : x ≠ y ∧ (lo x y < (i : Int) ∨ (lo x y = (i : Int) ∧ hi x y < (i : Int) + 1 + k))
              · rw [if_pos q3, if_pos (by omega)]
              · rw [if_neg q3, if_neg (by omega)]
      · obtain ⟨⟨y7, rfl⟩, s5, g5⟩ := pv
        refine ⟨⟨_, _, _, _, _, rfl⟩, s5, g5.congr fun x y x0 x1 y0 y1 => ?_⟩
        have hxy := lo_hi x y
        by_cases q3 : x ≠ y ∧ lo x y < ((i + 1 : Nat) : Int)
        · rw [if_pos q3, if_pos (by omega)]
        · rw [if_neg q3, if_neg (by omega)]
    -- the tuples
    obtain ⟨⟨y5, y6, y7, y8, y9, rfl⟩, s4, g4⟩ := pv
    have g5 : Grid H4 R rr sz sz (tabE cs) := g4.congr fun x y x0 x1 y0 y1 => by
      have hxy := lo_hi x y
      by_cases h : x = y
      · rw [if_neg (by omega), h, tabE_same]
      · rw [if_pos (by omega)]
    refine ⟨_, rfl, R, rfl, ⟨_, .inl (.inl g5.at_)⟩, fun O hO => ?_⟩
    refine lc_list (K := K) (a := R) (xs := rr.map V.ref) (fun i H5 => Same H4 H5 ∧ ∃ us : List Addr, H5 O = some (.lst (us.map V.ref)) ∧ us.length = i ∧ ∀ (j : Nat) (u : Addr), us[j]? = some u → H5 u = some (.tup (gl sz (tabE cs j)))) ⟨same_upd hO, [], upd_same, rfl, by simp⟩ (fun i H5 _ p => .inl (.inl (p.1 _ _ g5.at_))) (fun i x H5 hxi p => ?_) (fun H5 p => ?_)
    · obtain ⟨s5, us, eO, hul, hus⟩ := p
      obtain ⟨r, hri, rfl⟩ : ∃ r, rr[i]? = some r ∧ x = .ref r := by
        rw [List.getElem?_map] at hxi
        cases e : rr[i]? with
        | none => rw [e] at hxi; cases hxi
        | some r =>
          rw [e] at hxi
          exact ⟨r, rfl, (Option.some.inj hxi).symm⟩
      have hi0 : i < sz.toNat := by
        rw [← g5.len]
        exact (List.getElem?_eq_some_iff.mp hri).1
      refine ⟨rfl, ?_⟩
      refine ⟨_, rfl, r, _, rfl, .inl ⟨.inl (.inl (s5 _ _ (g5.row i r hri))), fun u nu => ?_⟩⟩
      have nuO : u ≠ O := fun z => by
        rw [z, eO] at nu
        cases nu
      refine ⟨_, same_upd nu _ _ eO, ?_, same_put (H1 := H4) hO (s5.trans (same_upd nu)), us ++ [u], ?_, ?_, ?_⟩
      · rw [List.length_map, hul]
        exact small1000 (by omega)
      · rw [upd_same, List.map_append]
        rfl
      · rw [List.length_append, hul]
        rfl
      · intro j v e
        by_cases hj : j < us.length
        · rw [List.getElem?_append_left hj] at e
          have h5 := hus j v e
          have hv : v ≠ O := fun z => by
            rw [z, eO] at h5
            cases h5
          rw [upd_ne hv]
          exact same_upd nu _ _ h5
        · rw [List.getElem?_append_right (by omega)] at e
          have hk : j - us.length = 0 := by
            cases hk : j - us.length with
            | zero => rfl
            | succ k =>
              rw [hk] at e
              simp at e
          rw [hk] at e
          obtain rfl : u = v := Option.some.inj e
          have ej : j = i := by omega
          subst ej
          rw [upd_ne nuO, upd_same]
    · obtain ⟨s5, us, eO, hul, hus⟩ := p
      rw [List.length_map, g5.len] at hul
      refine ⟨O, _, rfl, .inl ⟨.inl (.inl eO), fun a na => ?_⟩⟩
      refine q _ a ((((s1.trans s2).trans s4).trans s5).trans (same_upd na)) ⟨_, upd_same, ?_, fun j hj => ?_⟩
      · rw [List.length_map, hul, hsz2]
      · rw [hsz2] at hj
        have hj2 : j < us.length := by omega
        refine ⟨us[j], ?_, ?_⟩
        · rw [List.getElem?_map, List.getElem?_eq_getElem hj2]
          rfl
        · rw [hsz2]
          exact same_upd na _ _ (hus j _ (List.getElem?_eq_getElem hj2))
def spTab (C : Addr) : Sp := fun vs H Q _ => ∃ (p : Addr) (n : Int) (cs : List Tr), vs = [.ref p] ∧ LotAt C H p n cs ∧ 0 ≤ n ∧ n ≤ 1000 ∧ Good n cs ∧ ∀ H' u, Same H H' → TabAt H' u (hi n 1) (tabE cs) → Q (.ref u) H'
theorem ok_tab {f : Addr} {fd : FuncData} (F : Fun K "table" "Lot.table" s_Lot_table f fd) (T : Bi mg) (L : LotC K mg C) {f_t : Addr} {d_t : FuncData} (D_t : Df K mg "table_rows" s_table_rows ["pins", "cords"] f_t d_t) (G_t : FnOk P w K mg base CX0 2 f_t d_t ["pins", "cords"] spTable) : FnOk P w K mg base CX0 3 f fd ["self"] (spTab C) := by
  refine F.ok sc_Lot_table (fun vs H Q E h => ?_) (fun cdv A outer s H vs Q E hr h => ?_)
  · obtain ⟨p, n, cs, rfl, _⟩ := h
    rfl
  · obtain ⟨p, n, cs, rfl, hL, n0, n1, hG, q⟩ := h
    refine ⟨_, (pss_one (ps_ret (pe_call G_t hr (by rfl) D_t.g D_t.F.kp D_t.b .nil pass0 (pa_cons (pe_fld (pv 0) rfl) (pa_cons (pe_fld (pv 0) rfl) pa_nil))))), ?_⟩
    obtain ⟨dx, c, e, t⟩ := hL
    exact ⟨_, rfl, p, C, dx, _, _, rfl, e, L.cl, L.nP, flds_pins _ _, _, rfl, p, C, dx, _, _, rfl, e, L.cl, L.nC, flds_cords _ _, n, c, cs, rfl, n0, n1, t, hG, q⟩
end
end Own

namespace Own
open PySem PySem.Spec PyProof.Rows L2
section
variable {P : Program} {w : World} {K : PySem.W.Frag} {mg : Str → Option Value} {base : Heap} {C : Addr}
/-! ### the law's helpers: kinds, cells, digits -/
theorem ok_lwhole {f : Addr} {fd : FuncData} (F : Fun K "_law_whole" "_law_whole" s__law_whole f fd) (T : Bi mg) : FnOk P w K mg base CX0 1 f fd ["_law_value"] spWhole := by
  refine F.ok sc__law_whole (fun vs H Q E h => ?_) (fun cdv A outer s H vs Q E hr h => ?_)
  · obtain ⟨i, rfl, _⟩ := h
    rfl
  · obtain ⟨i, rfl, q⟩ := h
    refine ⟨_, (pss_one (ps_ret (pe_and (pe_callB call_isi (by rfl) T.b_isinstance (by decide +kernel) (pa_cons (pv 0) (pa_cons (pe_bltn (v := .ty "int") (by rfl) T.b_int (by decide +kernel) rfl) pa_nil))) (pe_one (pe_not (pe_callB call_isi (by rfl) T.b_isinstance (by decide +kernel) (pa_cons (pv 0) (pa_cons (pe_bltn (v := .ty "bool") (by rfl) T.b_bool (by decide +kernel) rfl) pa_nil)))))))), ?_⟩
    refine ⟨_, rfl, _, _, _, _, true, rfl, .ty "int", .base (.int i), kit_ty (by decide +kernel), true, rfl, ?_⟩
    exact ⟨_, rfl, _, _, _, _, false, rfl, .ty "bool", .base (.int i), kit_ty (by decide +kernel), false, rfl, q⟩
def spCell (K : PySem.W.Frag) : Sp := fun vs H Q _ => ∃ (l : Addr) (ns : List Int) (j : Nat), vs = [.ref l, .int (j : Int)] ∧ SqL K H l (ns.map V.int) ∧ j ≤ 100000 ∧ ns.length ≤ 1000 ∧ ∀ c : Int, Q (.int c) H
theorem ok_cell {f : Addr} {fd : FuncData} (F : Fun K "_law_cell" "_law_cell" s__law_cell f fd) (T : Bi mg) : FnOk P w K mg base CX0 1 f fd ["_law_script", "_law_k"] (spCell K) := by
  refine F.ok sc__law_cell (fun vs H Q E h => ?_) (fun cdv A outer s H vs Q E hr h => ?_)
  · obtain ⟨l, ns, j, rfl, _⟩ := h
    rfl
  · obtain ⟨l, ns, j, rfl, hs, hj, hn, q⟩ := h
    refine ⟨_, (pss_cons (ps_if (pt_cmpR op_lt (pv 1) (pe_callB call_len_seq (by rfl) T.b_len PySem.boot_len (pa_cons (pv 0) pa_nil)) (nomark _)) (pss_one (ps_ret (pe_ix (r := rIxL K) ix_list (pv 0) (pv 1) (fun _ _ => rfl)))) pss_nil)
        (pss_cons (ps_set (i := 2) sc__law_cell.nd rfl (.inl rfl) pe_int)
        (pss_cons (ps_for PassesOwn.never rfl (pi_list (pv 0)) (pg_name (i := 3) sc__law_cell.nd rfl (.inl rfl))
        (pss_one (ps_set (i := 2) sc__law_cell.nd rfl (.inl rfl) (pe_op op_mod (pe_callTy call_int1 (by rfl) T.b_int (by decide +kernel) (pa_cons (pe_op op_add (pe_op op_mul (pv 2) pe_int) (pe_op op_mod (pe_callTy call_int1 (by rfl) T.b_int (by decide +kernel) (pa_cons (pv 3) pa_nil)) pe_int)) pa_nil)) pe_int))))
        (pss_one (ps_ret (pe_op op_mod (pe_callTy call_int1 (by rfl) T.b_int (by decide +kernel) (pa_cons (pe_op op_mul (pe_op op_mul (pe_op op_add (pv 2) pe_int) (pe_op op_add (pv 1) pe_int)) pe_int) pa_nil)) pe_int)))))), ?_⟩
    refine ⟨_, rfl, _, rfl, l, _, rfl, .inl hs, _, _, rfl, rfl, _, rfl, ite2 (fun e => ?_) (fun e => ?_)⟩
    · have e1 : (j : Int) < ((ns.map V.int).length : Int) := of_decide_eq_true e
      rw [List.length_map] at e1
      have hj2 : j < ns.length := by omega
      have g : (ns.map V.int)[j]? = some (.int ns[j]) := by
        rw [List.getElem?_map, List.getElem?_eq_getElem hj2]
        rfl
      exact ⟨_, rfl, _, rfl, _, _, _, _, rfl, rfl, hs, atI_nat g, q _⟩
    · refine ⟨_, rfl, l, rfl, ⟨_, hs⟩, for_list (xs := ns.map V.int) (fun i σ H' => (∃ (z : Int) (y : Option V), 0 ≤ z ∧ z < 1000003 ∧ σ = [some (.ref l), some (.int (j : Int)), some (.int z), y]) ∧ H' = H) ⟨⟨17, none, by decide, by decide, rfl⟩, rfl⟩ (fun i σ H' _ p => by rw [p.2]; exact hs) (fun i x σ H' hx p => ?_) (fun σ H' p => ?_)⟩
      · obtain ⟨⟨z, y, z0, z1, rfl⟩, rfl⟩ := p
        obtain ⟨c, rfl⟩ : ∃ c, x = .int c := by
          rw [List.getElem?_map] at hx
          cases e2 : ns[i]? with
          | none => rw [e2] at hx; cases hx
          | some c =>
            rw [e2] at hx
            exact ⟨c, (Option.some.inj hx).symm⟩
        refine ⟨_, rfl, _, _, rfl, rfl, .inl ⟨by omega, by omega⟩, _, rfl, .inl ⟨_, rfl, _, _, rfl, rfl, by show (0 : Int) < 1000003; decide, _, _, rfl, rfl, .inl ⟨_, rfl, _, _, rfl, rfl, by show (0 : Int) < 1000003; decide, ?_⟩⟩⟩
        exact ⟨⟨_, _, Int.emod_nonneg _ (by decide), Int.emod_lt_of_pos _ (by decide), rfl⟩, rfl⟩
      · obtain ⟨⟨z, y, z0, z1, rfl⟩, rfl⟩ := p
        have hp : (z + 7) * ((j : Int) + 3) < 2 ^ 64 ∧ -(2 ^ 64) < (z + 7) * ((j : Int) + 3) := by
          have a1 : 0 ≤ z + 7 := by omega
          have a2 : z + 7 ≤ 1000010 := by omega
          have b1 : 0 ≤ (j : Int) + 3 := by omega
          have b2 : (j : Int) + 3 ≤ 100003 := by omega
          have c1 : (z + 7) * ((j : Int) + 3) ≤ 1000010 * 100003 := Int.mul_le_mul a2 b2 b1 (by decide)
          have c2 : 0 ≤ (z + 7) * ((j : Int) + 3) := Int.mul_nonneg a1 b1
          omega
        exact ⟨_, rfl, _, _, rfl, rfl, _, rfl, _, _, rfl, rfl, _, _, rfl, rfl, .inl ⟨by omega, by omega⟩, _, _, rfl, rfl, .inl ⟨hp.2, hp.1⟩, .inl ⟨_, rfl, _, _, rfl, rfl, by show (0 : Int) < 2147483647; decide, q _⟩⟩
/-- each digit lies below its size -/
def Digs (ds szs : List Int) : Prop := ds.length = szs.length ∧ ∀ (i : Nat) (d s : Int), ds[i]? = some d → szs[i]? = some s → 0 ≤ d ∧ d < s
theorem Digs.snoc {ds szs : List Int} {i : Nat} {d s : Int} (h : Digs ds (szs.take i)) (e : szs[i]? = some s) (h0 : 0 ≤ d) (h1 : d < s) : Digs (ds ++ [d]) (szs.take (i + 1)) := by
  have hi : i < szs.length := (List.getElem?_eq_some_iff.mp e).1
  have hl : ds.length = i := by
    rw [h.1, List.length_take]
    omega
  rw [List.take_add_one, e]
  refine ⟨by rw [List.length_append, List.length_append, h.1]; rfl, fun j x y hx hy => ?_⟩
  by_cases hj : j < i
  · rw [List.getElem?_append_left (by omega)] at hx
    rw [List.getElem?_append_left (by rw [List.length_take]; omega)] at hy
    exact h.2 j x y hx hy
  · rw [List.getElem?_append_right (by omega)] at hx
    rw [List.getElem?_append_right (by rw [List.length_take]; omega), List.length_take] at hy
    have hk : j - ds.length = 0 := by
      cases hk : j - ds.length with
      | zero => rfl
      | succ k =>
        rw [hk] at hx
        simp at hx
    rw [hk] at hx
    rw [show j - min i szs.length = 0 by omega] at hy
    obtain rfl : d = x := Option.some.inj hx
    obtain rfl : s = y := Option.some.inj hy
    exact ⟨h0, h1⟩
def spDigs (K : PySem.W.Frag) : Sp := fun vs H Q _ => ∃ (c : Int) (b : Addr) (szs : List Int), vs = [.int c, .ref b] ∧ SqL K H b (szs.map V.int) ∧ szs.length ≤ 1000 ∧ (∀ s ∈ szs, 0 < s ∧ s < 1073741824) ∧ ∀ H' p ds, Same H H' → H p = none → H' p = some (.lst (ds.map V.int)) → Digs ds szs → Q (.ref p) H'
theorem int_at {ns : List Int} {i : Nat} {x : V} (h : (ns.map V.int)[i]? = some x) : ∃ c, x = .int c ∧ ns[i]? = some c := by
  rw [List.getElem?_map] at h
  cases e : ns[i]? with
  | none => rw [e] at h; cases h
  | some c =>
    rw [e] at h
    exact ⟨c, (Option.some.inj h).symm, rfl⟩
theorem ok_digits {f : Addr} {fd : FuncData} (F : Fun K "_law_digits" "_law_digits" s__law_digits f fd) (T : Bi mg) : FnOk P w K mg base CX0 1 f fd ["_law_cell_here", "_law_sizes"] (spDigs K) := by
  refine F.ok sc__law_digits (fun vs H Q E h => ?_) (fun cdv A outer s H vs Q E hr h => ?_)
  · obtain ⟨c, b, szs, rfl, _⟩ := h
    rfl
  · obtain ⟨c, b, szs, rfl, hb, hl, hsz, q⟩ := h
    refine ⟨_, (pss_cons (ps_set (i := 2) sc__law_digits.nd rfl (.inl rfl) (pe_lst pa_nil))
        (pss_cons (ps_set (i := 3) sc__law_digits.nd rfl (.inl rfl) (pe_callTy call_int1 (by rfl) T.b_int (by decide +kernel) (pa_cons (pv 0) pa_nil)))
        (pss_cons (ps_if (pt_cmpR op_ge (pv 3) (pe_op op_pow pe_int pe_int) (nomark _)) (pss_cons (ps_set (i := 3) sc__law_digits.nd rfl (.inl rfl) (pe_op op_sub (pv 3) (pe_op op_pow pe_int pe_int)))
        (pss_cons (ps_for PassesOwn.never rfl (pi_list (pv 1)) (pg_name (i := 6) sc__law_digits.nd rfl (.inl rfl))
        (pss_cons (ps_expr (pe_bm PySem.F.plainAttrs_list PySem.F.slot_list_append PySem.F.type_list_append mt_append (pv 2) (pa_cons (pe_op op_modN (pe_callTy call_int1 (by rfl) T.b_int (by decide +kernel) (pa_cons (pv 3) pa_nil)) (pv 6)) pa_nil)))
        (pss_one (ps_set (i := 3) sc__law_digits.nd rfl (.inl rfl) (pe_op op_fdivN (pe_callTy call_int1 (by rfl) T.b_int (by decide +kernel) (pa_cons (pv 3) pa_nil)) (pv 6))))))
        (pss_one (ps_ret (pv 2))))) pss_nil)
        (pss_cons (ps_set (i := 4) sc__law_digits.nd rfl (.inl rfl) (pe_op op_mod (pe_callTy call_int1 (by rfl) T.b_int (by decide +kernel) (pa_cons (pv 3) pa_nil)) pe_int))
        (pss_cons (ps_for PassesOwn.never rfl (pi_range1 (by rfl) T.b_range (pa_cons (pe_callB call_len_seq (by rfl) T.b_len PySem.boot_len (pa_cons (pv 1) pa_nil)) pa_nil)) (pg_name (i := 5) sc__law_digits.nd rfl (.inl rfl))
        (pss_cons (ps_set (i := 4) sc__law_digits.nd rfl (.inl rfl) (pe_op op_mod (pe_callTy call_int1 (by rfl) T.b_int (by decide +kernel) (pa_cons (pe_op op_add (pe_op op_add (pe_op op_mul (pv 4) pe_int) (pe_op op_mul pe_int (pv 5))) pe_int) pa_nil)) pe_int))
        (pss_cons (ps_set (i := 7) sc__law_digits.nd rfl (.inl rfl) (pe_op op_mod (pe_callTy call_int1 (by rfl) T.b_int (by decide +kernel) (pa_cons (pe_op op_mul (pv 4) (pe_op op_add (pe_op op_fdiv (pv 4) pe_int) pe_int)) pa_nil)) pe_int))
        (pss_one (ps_expr (pe_bm PySem.F.plainAttrs_list PySem.F.slot_list_append PySem.F.type_list_append mt_append (pv 2) (pa_cons (pe_op op_modN (pe_op op_fdiv (pv 7) pe_int) (pe_ix (r := rIxL K) ix_list (pv 1) (pv 5) (fun _ _ => rfl))) pa_nil)))))))
        (pss_one (ps_ret (pv 2)))))))), ?_⟩
    refine ⟨Nat.zero_le _, fun p np => ?_⟩
    have sp : Same H (upd H p (.lst [])) := same_upd np
    refine ⟨_, rfl, .inl ⟨_, rfl, ?_⟩⟩
    refine ⟨_, rfl, _, _, rfl, rfl, ⟨by decide, by decide, by decide⟩, _, _, rfl, rfl, _, rfl, ite2 (fun e => ?_) (fun e => ?_)⟩
    · refine ⟨_, rfl, _, _, rfl, rfl, ⟨by decide, by decide, by decide⟩, _, _, rfl, rfl, ?_⟩
      refine ⟨_, rfl, b, rfl, ⟨_, sp.seq hb⟩, for_list (xs := szs.map V.int) (fun i σ H' => (∃ (z : Int) (ds : List Int) (y4 y5 y6 y7 : Option V), σ = [some (.int c), some (.ref b), some (.ref p), some (.int z), y4, y5, y6, y7] ∧ H' = upd H p (.lst (ds.map V.int)) ∧ Digs ds (szs.take i))) ⟨_, [], _, _, _, _, rfl, rfl, rfl, fun j d s h => by simp at h⟩ (fun i σ H' _ p => by obtain ⟨_, _, _, _, _, _, _, rfl, _⟩ := p; exact (same_upd np).seq hb) (fun i x σ H' hx pv => ?_) (fun σ H' pv => ?_)⟩
      · obtain ⟨z, ds, y4, y5, y6, y7, rfl, rfl, dg⟩ := pv
        obtain ⟨sz, rfl, hsi⟩ := int_at hx
        have hs := hsz sz (List.mem_of_getElem? hsi)
        have hi : i < szs.length := (List.getElem?_eq_some_iff.mp hsi).1
        refine ⟨_, rfl, .inl ⟨rfl, _, .inl (.inl upd_same)⟩, _, rfl, .inl ⟨_, rfl, _, rfl, _, _, rfl, rfl, by omega, p, _, _, rfl, rfl, upd_same, ?_, ?_⟩⟩
        · rw [List.length_map, dg.1, List.length_take]
          exact Nat.lt_of_le_of_lt (Nat.min_le_right _ _) (small1000 hl)
        refine ⟨_, rfl, .inl ⟨_, rfl, _, rfl, _, _, rfl, rfl, ⟨by omega, by omega⟩, ?_⟩⟩
        have hm := fmod_in z hs.1
        refine ⟨_, ds ++ [z.fmod sz], _, _, _, _, rfl, ?_, dg.snoc hsi hm.1 hm.2⟩
        rw [upd_upd, List.map_append]
        rfl
      · obtain ⟨z, ds, y4, y5, y6, y7, rfl, rfl, dg⟩ := pv
        rw [List.length_map, List.take_length] at dg
        exact ⟨_, rfl, q _ p ds (same_upd np) np upd_same dg⟩
    · refine ⟨_, rfl, .inl ⟨_, rfl, _, _, rfl, rfl, by show (0 : Int) < 2147483629; decide, ?_⟩⟩
      refine ⟨_, rfl, b, _, rfl, .inl (sp.seq hb), _, rfl, by omega, by rw [List.length_map]; omega, ?_⟩
      rw [show ((szs.map V.int).length : Int).toNat = szs.length by rw [List.length_map]; omega]
      refine for_range (lo := 0) (n := szs.length) (fun i σ H' => (∃ (z : Int) (ds : List Int) (y3 y4 y6 y7 : Option V), 0 ≤ z ∧ z < 2147483647 ∧ σ = [some (.int c), some (.ref b), some (.ref p), y3, some (.int z), y4, y6, y7] ∧ H' = upd H p (.lst (ds.map V.int)) ∧ Digs ds (szs.take i))) ⟨_, [], _, _, _, _, Int.emod_nonneg _ (by decide), Int.lt_of_lt_of_le (Int.emod_lt_of_pos _ (by decide)) (by decide), rfl, rfl, rfl, fun j d s h => by simp at h⟩ (fun i σ H' hi pv => ?_) (fun σ H' pv => ?_)
      · obtain ⟨z, ds, y3, y4, y6, y7, z0, z1, rfl, rfl, dg⟩ := pv
        have hsi : szs[i]? = some szs[i] := List.getElem?_eq_getElem hi
        have hs := hsz szs[i] (List.mem_of_getElem? hsi)
        generalize szs[i] = sz at hsi hs
        refine ⟨_, rfl, _, _, rfl, rfl, .inl ⟨by omega, by omega⟩, _, rfl, _, _, rfl, rfl, .inl ⟨by decide, by decide⟩, _, _, rfl, rfl, _, _, rfl, rfl, .inl ⟨_, rfl, _, _, rfl, rfl, by show (0 : Int) < 2147483647; decide, ?_⟩⟩
        generalize hz : (z * 48271 + 974711 * (0 + (i : Int)) + 12345) % 2147483647 = z2
        have z20 : 0 ≤ z2 := by rw [← hz]; exact Int.emod_nonneg _ (by decide)
        have z21 : z2 < 2147483647 := by rw [← hz]; exact Int.emod_lt_of_pos _ (by decide)
        refine ⟨_, rfl, _, rfl, _, _, rfl, rfl, ⟨by decide, by decide⟩, _, _, rfl, rfl, _, _, rfl, rfl, .inl ⟨?_, ?_⟩, .inl ⟨_, rfl, _, _, rfl, rfl, by show (0 : Int) < 2147483629; decide, ?_⟩⟩
        · show -(2 ^ 64) < (z * 48271 + 974711 * (0 + (i : Int)) + 12345) % 2147483647
          rw [hz]
          omega
        · show (z * 48271 + 974711 * (0 + (i : Int)) + 12345) % 2147483647 < 2 ^ 64
          rw [hz]
          omega
        refine ⟨_, rfl, .inl ⟨rfl, _, .inl (.inl upd_same)⟩, _, rfl, _, _, rfl, rfl, ⟨by decide, by decide⟩, _, rfl, _, rfl, b, _, _, _, rfl, rfl, (same_upd np).seq hb, at_of (j := i) (by omega) (by rw [List.getElem?_map, hsi]; rfl), _, _, rfl, rfl, by omega, p, _, _, rfl, rfl, upd_same, ?_, ?_⟩
        · rw [List.length_map, dg.1, List.length_take]
          exact Nat.lt_of_le_of_lt (Nat.min_le_right _ _) (small1000 hl)
        have hm := fun x : Int => fmod_in x hs.1
        refine ⟨_, ds ++ [((((z * 48271 + 974711 * (0 + (i : Int)) + 12345) % 2147483647) * (((z * 48271 + 974711 * (0 + (i : Int)) + 12345) % 2147483647) / 65537 + 3)) % 2147483629 / 19).fmod sz], _, _, _, _, ?_, ?_, rfl, ?_, dg.snoc hsi (hm _).1 (hm _).2⟩
        · exact Int.emod_nonneg _ (by decide)
        · exact Int.emod_lt_of_pos _ (by decide)
        · rw [upd_upd, List.map_append]
          rfl
      · obtain ⟨z, ds, y3, y4, y6, y7, z0, z1, rfl, rfl, dg⟩ := pv
        rw [List.take_length] at dg
        exact ⟨_, rfl, q _ p ds (same_upd np) np upd_same dg⟩
end
end Own

namespace Own
open PySem PySem.Spec PyProof.Rows L2
/-- the same data, nested at most so deep: ints and tuples -/
def EqV : Nat → Hp → V → V → Prop
  | 0, _, x, y => ∃ i : Int, x = .int i ∧ y = .int i
  | d + 1, H, x, y => EqV d H x y ∨ ∃ (a b : Addr) (vs us : List V), x = .ref a ∧ y = .ref b ∧ H a = some (.tup vs) ∧ H b = some (.tup us) ∧ vs.length = us.length ∧ us.length ≤ 1000 ∧ ∀ (i : Nat) (x y : V), vs[i]? = some x → us[i]? = some y → EqV d H x y
theorem EqV.up {d : Nat} {H : Hp} {x y : V} (h : EqV d H x y) : EqV (d + 1) H x y := .inl h
theorem EqV.int {d : Nat} {H : Hp} (i : Int) : EqV d H (.int i) (.int i) := by
  induction d with
  | zero => exact ⟨i, rfl, rfl⟩
  | succ d ih => exact .inl ih
theorem EqV.cases' {d : Nat} {H : Hp} {x y : V} (h : EqV d H x y) : (∃ i : Int, x = .int i ∧ y = .int i) ∨ ∃ (e : Nat) (a b : Addr) (vs us : List V), e + 1 ≤ d ∧ x = .ref a ∧ y = .ref b ∧ H a = some (.tup vs) ∧ H b = some (.tup us) ∧ vs.length = us.length ∧ us.length ≤ 1000 ∧ ∀ (i : Nat) (x y : V), vs[i]? = some x → us[i]? = some y → EqV e H x y := by
  induction d with
  | zero => exact .inl h
  | succ d ih =>
    rcases h with h | ⟨a, b, vs, us, h⟩
    · rcases ih h with h | ⟨e, a, b, vs, us, he, h⟩
      · exact .inl h
      · exact .inr ⟨e, a, b, vs, us, Nat.le_succ_of_le he, h⟩
    · exact .inr ⟨d, a, b, vs, us, Nat.le_refl _, h⟩
theorem EqV.le {d e : Nat} {H : Hp} {x y : V} (h : EqV d H x y) (l : d ≤ e) : EqV e H x y := by
  induction l with
  | refl => exact h
  | step _ ih => exact .inl ih
/-- one entry against itself, two tuples of the same entries -/
theorem EqV.tr {H : Hp} {a b : Addr} {t : Tr} (ha : H a = some (.tup (tv t))) (hb : H b = some (.tup (tv t))) : EqV 1 H (.ref a) (.ref b) := by
  refine .inr ⟨a, b, _, _, rfl, rfl, ha, hb, rfl, by show 3 ≤ 1000; decide, fun i x y hx hy => ?_⟩
  rw [hx] at hy
  obtain rfl : x = y := Option.some.inj hy
  match i, hx with
  | 0, hx => exact ⟨t.1, (Option.some.inj hx).symm, (Option.some.inj hx).symm⟩
  | 1, hx => exact ⟨t.2.1, (Option.some.inj hx).symm, (Option.some.inj hx).symm⟩
  | 2, hx => exact ⟨t.2.2, (Option.some.inj hx).symm, (Option.some.inj hx).symm⟩
theorem EqV.trip {H : Hp} {a b : Addr} {l : List Tr} (ha : Trip H a l) (hb : Trip H b l) (hl : l.length ≤ 1000) : EqV 2 H (.ref a) (.ref b) := by
  obtain ⟨vs, e1, t1⟩ := ha
  obtain ⟨us, e2, t2⟩ := hb
  refine .inr ⟨a, b, vs, us, rfl, rfl, e1, e2, by rw [t1.1, t2.1], by rw [t2.1]; exact hl, fun i x y hx hy => ?_⟩
  obtain ⟨p, t, rfl, h1, h2⟩ := t1.at_ hx
  obtain ⟨q, u, rfl, h3, h4⟩ := t2.at_ hy
  rw [h1] at h3
  obtain rfl : t = u := Option.some.inj h3
  exact EqV.tr h2 h4
section
variable {P : Program} {w : World} {K : PySem.W.Frag} {mg : Str → Option Value} {base : Heap} {C : Addr}
def spSame (d : Nat) : Sp := fun vs H Q _ => ∃ x y : V, vs = [x, y] ∧ EqV d H x y ∧ Q (.bl true) H
def spNo : Sp := fun _ _ _ _ => False
theorem fn_no {k : Nat} {f : Addr} {fd : FuncData} {ps : List Str} : FnOk P w K mg base CX0 k f fd ps spNo := ⟨fun _ _ _ _ h => h.elim, fun _ _ _ _ _ _ _ _ _ _ _ _ _ h => h.elim⟩
/-- its body, with any promise for the call within -/
theorem same_body {f : Addr} {fd : FuncData} {k : Nat} {sp : Sp} {d : Nat} (D_s : Df K mg "_law_same" s__law_same ["_law_value", "_law_due"] f fd) (T : Bi mg) {f_w : Addr} {d_w : FuncData} (D_w : Df K mg "_law_whole" s__law_whole ["_law_value"] f_w d_w) (G_w : FnOk P w K mg base CX0 1 f_w d_w ["_law_value"] spWhole)
    (G_s : FnOk P w K mg base CX0 (k + 1) f fd ["_law_value", "_law_due"] sp) (hsp : ∀ e x y H Q, e + 1 ≤ d → EqV e H x y → Q (.bl true) H → sp [x, y] H Q E0) : FnOk P w K mg base CX0 (k + 2) f fd ["_law_value", "_law_due"] (spSame d) := by
  refine D_s.F.ok sc__law_same (fun vs H Q E h => ?_) (fun cdv A outer s H vs Q E hr h => ?_)
  · obtain ⟨x, y, rfl, _⟩ := h
    rfl
  · obtain ⟨x, y, rfl, hxy, q⟩ := h
    refine ⟨_, (pss_cons (ps_if (pt_cmpR op_isN (pv 1) pe_non (nomark _)) (pss_one (ps_ret (pe_cmpR op_isN (pv 0) pe_non (nomark _)))) pss_nil)
        (pss_cons (ps_if (pt_val (pe_callB call_isi (by rfl) T.b_isinstance (by decide +kernel) (pa_cons (pv 1) (pa_cons (pe_bltn (v := .ty "bool") (by rfl) T.b_bool (by decide +kernel) rfl) pa_nil)))) (pss_one (ps_ret (pe_and (pe_callB call_isi (by rfl) T.b_isinstance (by decide +kernel) (pa_cons (pv 0) (pa_cons (pe_bltn (v := .ty "bool") (by rfl) T.b_bool (by decide +kernel) rfl) pa_nil))) (pe_one (pe_cmpR op_eq (pv 0) (pv 1) (nomark _)))))) pss_nil)
        (pss_cons (ps_if (pt_val (pe_callB call_isi (by rfl) T.b_isinstance (by decide +kernel) (pa_cons (pv 1) (pa_cons (pe_bltn (v := .ty "int") (by rfl) T.b_int (by decide +kernel) rfl) pa_nil)))) (pss_one (ps_ret (pe_and (pe_call G_w (hr.mono (by omega)) (by rfl) D_w.g D_w.F.kp D_w.b .nil pass0 (pa_cons (pv 0) pa_nil)) (pe_one (pe_cmpR op_eq (pv 0) (pv 1) (nomark _)))))) pss_nil)
        (pss_cons (ps_if (pt_val (pe_callB call_isi (by rfl) T.b_isinstance (by decide +kernel) (pa_cons (pv 1) (pa_cons (pe_bltn (v := .ty "str") (by rfl) T.b_str (by decide +kernel) rfl) pa_nil)))) (pss_one (ps_ret (pe_and (pe_callB call_isi (by rfl) T.b_isinstance (by decide +kernel) (pa_cons (pv 0) (pa_cons (pe_bltn (v := .ty "str") (by rfl) T.b_str (by decide +kernel) rfl) pa_nil))) (pe_one (pe_cmpR op_eq (pv 0) (pv 1) (nomark _)))))) pss_nil)
        (pss_cons (ps_if (PW.pt (pw_and (pt_val (pe_callB call_isi (by rfl) T.b_isinstance (by decide +kernel) (pa_cons (pv 1) (pa_cons (pe_bltn (v := .ty "list") (by rfl) T.b_list (by decide +kernel) rfl) pa_nil)))) (pw_and1 (pt_not (pt_val (pe_callB call_isi (by rfl) T.b_isinstance (by decide +kernel) (pa_cons (pv 0) (pa_cons (pe_bltn (v := .ty "list") (by rfl) T.b_list (by decide +kernel) rfl) pa_nil)))))))) (pss_one (ps_ret pe_bl)) pss_nil)
        (pss_cons (ps_if (PW.pt (pw_and (pt_val (pe_callB call_isi (by rfl) T.b_isinstance (by decide +kernel) (pa_cons (pv 1) (pa_cons (pe_bltn (v := .ty "tuple") (by rfl) T.b_tuple (by decide +kernel) rfl) pa_nil)))) (pw_and1 (pt_not (pt_val (pe_callB call_isi (by rfl) T.b_isinstance (by decide +kernel) (pa_cons (pv 0) (pa_cons (pe_bltn (v := .ty "tuple") (by rfl) T.b_tuple (by decide +kernel) rfl) pa_nil)))))))) (pss_one (ps_ret pe_bl)) pss_nil)
        (pss_cons (ps_if (pt_cmpR op_ne (pe_callB call_len_seq (by rfl) T.b_len PySem.boot_len (pa_cons (pv 0) pa_nil)) (pe_callB call_len_seq (by rfl) T.b_len PySem.boot_len (pa_cons (pv 1) pa_nil)) (nomark _)) (pss_one (ps_ret pe_bl)) pss_nil)
        (pss_cons (ps_for PassesOwn.never rfl (pi_range1 (by rfl) T.b_range (pa_cons (pe_callB call_len_seq (by rfl) T.b_len PySem.boot_len (pa_cons (pv 1) pa_nil)) pa_nil)) (pg_name (i := 2) sc__law_same.nd rfl (.inl rfl))
        (pss_one (ps_if (pt_not (pt_val (pe_call G_s hr (by rfl) D_s.g D_s.F.kp D_s.b .nil pass0 (pa_cons (pe_ix (r := rIxT K) ix_tup (pv 0) (pv 2) (fun _ _ => rfl)) (pa_cons (pe_ix (r := rIxT K) ix_tup (pv 1) (pv 2) (fun _ _ => rfl)) pa_nil))))) (pss_one (ps_ret pe_bl)) pss_nil)))
        (pss_one (ps_ret pe_bl)))))))))), ?_⟩
    rcases hxy.cases' with ⟨i, rfl, rfl⟩ | ⟨e, a, b, vs, us, hle, rfl, rfl, ha, hb, hlen, hl, hel⟩
    · refine ⟨_, rfl, rfl, _, rfl, ?_⟩
      refine ⟨_, rfl, _, _, _, _, false, rfl, .ty "bool", .base (.int i), kit_ty (by decide +kernel), false, rfl, ?_⟩
      refine ⟨_, rfl, _, _, _, _, true, rfl, .ty "int", .base (.int i), kit_ty (by decide +kernel), true, rfl, ?_⟩
      refine ⟨_, rfl, i, rfl, true, rfl, ?_⟩
      refine ⟨_, rfl, _, rfl, rfl, ?_⟩
      rw [decide_eq_true rfl]
      exact q
    · have tA : TyX K H (.ref a) (.type "tuple") := .base (.tup ha)
      have tB : TyX K H (.ref b) (.type "tuple") := .base (.tup hb)
      have qA : SqT K H a vs := .inl (.inl ha)
      have qB : SqT K H b us := .inl (.inl hb)
      refine ⟨_, rfl, rfl, _, rfl, ?_⟩
      refine ⟨_, rfl, _, _, _, _, false, rfl, .ty "bool", tB, kit_ty (by decide +kernel), false, rfl, ?_⟩
      refine ⟨_, rfl, _, _, _, _, false, rfl, .ty "int", tB, kit_ty (by decide +kernel), false, rfl, ?_⟩
      refine ⟨_, rfl, _, _, _, _, false, rfl, .ty "str", tB, kit_ty (by decide +kernel), false, rfl, ?_⟩
      refine ⟨_, rfl, _, _, _, _, false, rfl, .ty "list", tB, kit_ty (by decide +kernel), false, rfl, ?_⟩
      refine ⟨_, rfl, _, _, _, _, true, rfl, .ty "tuple", tB, kit_ty (by decide +kernel), true, rfl, ?_⟩
      refine ⟨_, rfl, _, _, _, _, true, rfl, .ty "tuple", tA, kit_ty (by decide +kernel), true, rfl, ?_⟩
      refine ⟨_, rfl, a, _, rfl, .inr qA, _, rfl, b, _, rfl, .inr qB, rfl, _, rfl, ?_⟩
      rw [hlen]
      refine iteNS rfl ?_
      refine ⟨_, rfl, b, _, rfl, .inr qB, _, rfl, by omega, by omega, ?_⟩
      rw [show ((us.length : Int)).toNat = us.length by omega]
      refine for_range (lo := 0) (n := us.length) (fun i σ H' => (∃ y2, σ = [some (.ref a), some (.ref b), y2]) ∧ H' = H) ⟨⟨_, rfl⟩, rfl⟩ (fun i σ H' hi p => ?_) (fun σ H' p => ?_)
      · obtain ⟨⟨y2, rfl⟩, rfl⟩ := p
        have hv : vs[i]? = some vs[i] := List.getElem?_eq_getElem (by omega)
        have hu : us[i]? = some us[i] := List.getElem?_eq_getElem hi
        refine ⟨_, rfl, _, rfl, a, _, _, _, rfl, rfl, qA, at_of (j := i) (by omega) hv, _, rfl, _, rfl, b, _, _, _, rfl, rfl, qB, at_of (j := i) (by omega) hu, ?_⟩
        exact hsp e _ _ _ _ hle (hel i _ _ hv hu) ⟨true, rfl, ⟨_, rfl⟩, rfl⟩
      · obtain ⟨_, rfl⟩ := p
        exact q
theorem ok_same {f : Addr} {fd : FuncData} (D_s : Df K mg "_law_same" s__law_same ["_law_value", "_law_due"] f fd) (T : Bi mg) {f_w : Addr} {d_w : FuncData} (D_w : Df K mg "_law_whole" s__law_whole ["_law_value"] f_w d_w) (G_w : FnOk P w K mg base CX0 1 f_w d_w ["_law_value"] spWhole) :
    ∀ d : Nat, FnOk P w K mg base CX0 (d + 2) f fd ["_law_value", "_law_due"] (spSame d)
  | 0 => same_body (k := 0) D_s T D_w G_w (sp := spNo) fn_no fun e x y H Q h => absurd h (by omega)
  | d + 1 => same_body (k := d + 1) D_s T D_w G_w (ok_same D_s T D_w G_w d) fun e x y H Q h h1 q => ⟨x, y, rfl, h1.le (by omega), q⟩
/-! ### drawn pins and steps -/
def spPins (K : PySem.W.Frag) : Sp := fun vs H Q _ => ∃ c : Int, vs = [.int c] ∧ ∀ H' n, Same H H' → 0 ≤ n → n ≤ 40 → Q (.int n) H'
theorem ok_pins {f : Addr} {fd : FuncData} (F : Fun K "_law_pins" "_law_pins" s__law_pins f fd) (T : Bi mg) {f_d : Addr} {d_d : FuncData} (D_d : Df K mg "_law_digits" s__law_digits ["_law_cell_here", "_law_sizes"] f_d d_d) (G_d : FnOk P w K mg base CX0 1 f_d d_d ["_law_cell_here", "_law_sizes"] (spDigs K)) : FnOk P w K mg base CX0 2 f fd ["_law_cell_here"] (spPins K) := by
  refine F.ok sc__law_pins (fun vs H Q E h => ?_) (fun cdv A outer s H vs Q E hr h => ?_)
  · obtain ⟨c, rfl, _⟩ := h
    rfl
  · obtain ⟨c, rfl, q⟩ := h
    refine ⟨_, (pss_cons (ps_set (i := 1) sc__law_pins.nd rfl (.inl rfl) (pe_call G_d hr (by rfl) D_d.g D_d.F.kp D_d.b .nil pass0 (pa_cons (pv 0) (pa_cons (pe_lst (pa_cons pe_int (pa_cons pe_int (pa_cons pe_int pa_nil)))) pa_nil))))
        (pss_cons (ps_if (pt_cmpR op_lt (pe_ix (r := rIxL K) ix_list (pv 1) pe_int (fun _ _ => rfl)) pe_int (nomark _)) (pss_one (ps_ret (pe_op op_add pe_int (pe_op op_mod (pe_callTy call_int1 (by rfl) T.b_int (by decide +kernel) (pa_cons (pe_ix (r := rIxL K) ix_list (pv 1) pe_int (fun _ _ => rfl)) pa_nil)) pe_int)))) pss_nil)
        (pss_cons (ps_if (pt_cmpR op_eq (pe_ix (r := rIxL K) ix_list (pv 1) pe_int (fun _ _ => rfl)) pe_int (nomark _)) (pss_one (ps_ret (pe_op op_add pe_int (pe_op op_mod (pe_callTy call_int1 (by rfl) T.b_int (by decide +kernel) (pa_cons (pe_ix (r := rIxL K) ix_list (pv 1) pe_int (fun _ _ => rfl)) pa_nil)) pe_int)))) pss_nil)
        (pss_cons (ps_if (pt_cmpR op_eq (pe_ix (r := rIxL K) ix_list (pv 1) pe_int (fun _ _ => rfl)) pe_int (nomark _)) (pss_one (ps_ret (pe_op op_mod (pe_callTy call_int1 (by rfl) T.b_int (by decide +kernel) (pa_cons (pe_ix (r := rIxL K) ix_list (pv 1) pe_int (fun _ _ => rfl)) pa_nil)) pe_int))) pss_nil)
        (pss_one (ps_ret (pe_ix (r := rIxL K) ix_list (pv 1) pe_int (fun _ _ => rfl)))))))), ?_⟩
    refine ⟨_, rfl, by show 3 ≤ sizeLine; decide, fun b nb => ⟨c, b, [8, 30, 41], rfl, .inl (.inl upd_same), by decide, by decide, fun H1 p ds s1 np ep dg => ?_⟩⟩
    have sm : Same H H1 := (same_upd nb).trans s1
    obtain ⟨x0, x1, x2, rfl⟩ : ∃ x0 x1 x2, ds = [x0, x1, x2] := by
      have hl := dg.1
      match ds, hl with
      | [x0, x1, x2], _ => exact ⟨x0, x1, x2, rfl⟩
    have b0 := dg.2 0 x0 8 rfl rfl
    have b1 := dg.2 1 x1 30 rfl rfl
    have b2 := dg.2 2 x2 41 rfl rfl
    have hS : SqL K H1 p [.int x0, .int x1, .int x2] := .inl (.inl ep)
    have a0 : atI [V.int x0, .int x1, .int x2] 0 = some (.int x0) := atI_nat (j := 0) rfl
    have a1 : atI [V.int x0, .int x1, .int x2] 1 = some (.int x1) := atI_nat (j := 1) rfl
    have a2 : atI [V.int x0, .int x1, .int x2] 2 = some (.int x2) := atI_nat (j := 2) rfl
    have m5 := Int.emod_nonneg x1 (show (5 : Int) ≠ 0 by decide)
    have m5' := Int.emod_lt_of_pos x1 (show (0 : Int) < 5 by decide)
    have m6 := Int.emod_nonneg x1 (show (6 : Int) ≠ 0 by decide)
    have m6' := Int.emod_lt_of_pos x1 (show (0 : Int) < 6 by decide)
    have m2 := Int.emod_nonneg x1 (show (2 : Int) ≠ 0 by decide)
    have m2' := Int.emod_lt_of_pos x1 (show (0 : Int) < 2 by decide)
    refine ⟨_, rfl, p, _, 0, _, rfl, rfl, hS, a0, x0, 5, rfl, rfl, _, rfl, ite2 (fun e => ?_) (fun e => ?_)⟩
    · refine ⟨_, rfl, p, _, 1, _, rfl, rfl, hS, a1, .inl ⟨_, rfl, _, _, rfl, rfl, by show (0 : Int) < 5; decide, _, _, rfl, rfl, q H1 _ sm (by omega) (by omega)⟩⟩
    · refine ⟨_, rfl, p, _, 0, _, rfl, rfl, hS, a0, rfl, _, rfl, ite2 (fun e2 => ?_) (fun e2 => ?_)⟩
      · exact ⟨_, rfl, p, _, 1, _, rfl, rfl, hS, a1, .inl ⟨_, rfl, _, _, rfl, rfl, by show (0 : Int) < 6; decide, _, _, rfl, rfl, q H1 _ sm (by omega) (by omega)⟩⟩
      · refine ⟨_, rfl, p, _, 0, _, rfl, rfl, hS, a0, rfl, _, rfl, ite2 (fun e3 => ?_) (fun e3 => ?_)⟩
        · exact ⟨_, rfl, p, _, 1, _, rfl, rfl, hS, a1, .inl ⟨_, rfl, _, _, rfl, rfl, by show (0 : Int) < 2; decide, q H1 _ sm (by omega) (by omega)⟩⟩
        · exact ⟨_, rfl, p, _, 2, _, rfl, rfl, hS, a2, q H1 _ sm (by omega) (by omega)⟩
end
end Own

namespace Own
open PySem PySem.Spec PyProof.Rows L2
/-- a list of pairs, each a tuple -/
def PairsV (H : Hp) (bs : List Addr) (ps : List (Int × Int)) : Prop := bs.length = ps.length ∧ ∀ (i : Nat) (b : Addr) (p : Int × Int), bs[i]? = some b → ps[i]? = some p → H b = some (.tup [.int p.1, .int p.2])
theorem PairsV.sameT {H H' : Hp} {bs : List Addr} {ps : List (Int × Int)} (s : SameT H H') (h : PairsV H bs ps) : PairsV H' bs ps := ⟨h.1, fun i b p e1 e2 => s _ _ (h.2 i b p e1 e2)⟩
theorem PairsV.snoc {H : Hp} {bs : List Addr} {ps : List (Int × Int)} {b : Addr} {p : Int × Int} (h : PairsV H bs ps) (e : H b = some (.tup [.int p.1, .int p.2])) : PairsV H (bs ++ [b]) (ps ++ [p]) := by
  refine ⟨by rw [List.length_append, List.length_append, h.1]; rfl, fun i c q h1 h2 => ?_⟩
  by_cases hi : i < bs.length
  · rw [List.getElem?_append_left hi] at h1
    rw [List.getElem?_append_left (by rw [← h.1]; exact hi)] at h2
    exact h.2 i c q h1 h2
  · rw [List.getElem?_append_right (by omega)] at h1
    rw [List.getElem?_append_right (by rw [← h.1]; omega), ← h.1] at h2
    have hk : i - bs.length = 0 := by
      cases hk : i - bs.length with
      | zero => rfl
      | succ k =>
        rw [hk] at h1
        simp at h1
    rw [hk] at h1 h2
    obtain rfl : b = c := Option.some.inj h1
    obtain rfl : p = q := Option.some.inj h2
    exact e
theorem PairsV.at_ {H : Hp} {bs : List Addr} {ps : List (Int × Int)} (h : PairsV H bs ps) {b : Addr} (m : b ∈ bs) : ∃ p ∈ ps, H b = some (.tup [.int p.1, .int p.2]) := by
  obtain ⟨i, hi, e⟩ := List.mem_iff_getElem.mp m
  have hp : i < ps.length := by
    rw [← h.1]
    exact hi
  exact ⟨ps[i], List.getElem_mem hp, h.2 i b ps[i] (by rw [List.getElem?_eq_getElem hi, e]) (List.getElem?_eq_getElem hp)⟩
/-- as data -/
def pd (p : Int × Int) : PyData := .tuple [.int p.1, .int p.2]
theorem PairsV.dp {K : PySem.W.Frag} {H : Hp} : ∀ {bs : List Addr} {ps : List (Int × Int)}, PairsV H bs ps → DpAll K H (bs.map V.ref) (ps.map pd)
  | [], [], _ => .nil
  | [], _ :: _, h => by have := h.1; simp at this
  | _ :: _, [], h => by have := h.1; simp at this
  | b :: bs, p :: ps, h => .cons (.tup (.inl (.inl (h.2 0 b p rfl rfl))) (.cons (.int _) (.cons (.int _) .nil))) (PairsV.dp ⟨by have := h.1; simpa using this, fun i c q h1 h2 => h.2 (i + 1) c q h1 h2⟩)
theorem pd_eqv (p q : Int × Int) : PyData.eqv (pd p) (pd q) = decide (p = q) := by
  unfold pd
  simp only [PyData.eqv, PyData.eqvAll, Bool.and_true]
  by_cases h : p = q
  · subst h
    simp
  · rw [decide_eq_false h]
    by_cases h1 : p.1 = q.1
    · have h2 : ¬ p.2 = q.2 := fun z => h (Prod.ext h1 z)
      simp [h1, h2]
    · simp [h1]
theorem any_pd (p : Int × Int) (ps : List (Int × Int)) : ((ps.map pd).any fun z => PyData.eqv z (pd p)) = decide (p ∈ ps) := by
  rw [List.any_map]
  induction ps with
  | nil => rfl
  | cons q r ih =>
    rw [List.any_cons, ih]
    show (PyData.eqv (pd q) (pd p) || decide (p ∈ r)) = _
    rw [pd_eqv]
    by_cases h : q = p
    · subst h
      simp
    · have h2 : ¬ p = q := fun z => h z.symm
      simp [h, h2]
theorem shaped_pd (p : Int × Int) : SeqAt.shaped (pd p) = true := by
  unfold SeqAt.shaped pd
  simp [PyData.canLay0, PyData.canLayAll0, PyData.depth, PyData.depthAll]
theorem lay_pds : ∀ ps : List (Int × Int), PyData.canLayAll0 (ps.map pd) = true ∧ PyData.depthAll (ps.map pd) ≤ 1
  | [] => ⟨rfl, Nat.zero_le _⟩
  | p :: r => by
    obtain ⟨h1, h2⟩ := lay_pds r
    refine ⟨?_, ?_⟩
    · show (PyData.canLay0 (pd p) && PyData.canLayAll0 (r.map pd)) = true
      rw [h1]
      rfl
    · show max (PyData.depth (pd p)) (PyData.depthAll (r.map pd)) ≤ 1
      have : PyData.depth (pd p) = 1 := rfl
      omega
theorem shaped_pds (ps : List (Int × Int)) : SeqAt.shaped (.list (ps.map pd)) = true := by
  obtain ⟨h1, h2⟩ := lay_pds ps
  unfold SeqAt.shaped
  have e1 : PyData.canLay0 (.list (ps.map pd)) = true := h1
  have e2 : PyData.depth (.list (ps.map pd)) ≤ 64 := by
    show PyData.depthAll (ps.map pd) + 1 ≤ 64
    omega
  rw [e1, decide_eq_true e2]
  rfl
section
variable {P : Program} {w : World} {K : PySem.W.Frag} {mg : Str → Option Value} {base : Heap} {C : Addr}
def spNorm (K : PySem.W.Frag) : Sp := fun vs H Q _ => ∃ (a : Addr) (xs : List V) (l : List Tr), vs = [.ref a] ∧ SqB K H a xs ∧ TrV H xs l ∧ (∀ t ∈ l, 1 ≤ t.2.2) ∧ l.length ≤ 1000 ∧ ∀ H' c r, Same H H' → Trip H' c r → IsNorm l r → Q (.ref c) H'
theorem ok_norm {f : Addr} {fd : FuncData} (F : Fun K "_law_norm" "_law_norm" s__law_norm f fd) (T : Bi mg) : FnOk P w K mg base CX0 1 f fd ["_law_triples"] (spNorm K) := by
  refine F.ok sc__law_norm (fun vs H Q E h => ?_) (fun cdv A outer s H vs Q E hr h => ?_)
  · obtain ⟨a, xs, l, rfl, _⟩ := h
    rfl
  · obtain ⟨a, xs, l, rfl, hB, hx, hv, hl, q⟩ := h
    have hu65 : (A.deeper (envOfC "_law_norm" (defScope s__law_norm) s.heap.objs.size f cdv)).units + 65 < cLine := by
      have := hr.un
      omega
    refine ⟨_, (pss_cons (ps_set (i := 1) sc__law_norm.nd rfl (.inl rfl) (pe_lst pa_nil))
        (pss_cons (ps_for PassesOwn.never rfl (pi_seq (pv 0)) (pg_name (i := 2) sc__law_norm.nd rfl (.inl rfl))
        (pss_cons (ps_set (i := 5) sc__law_norm.nd rfl (.inl rfl) (pe_callB (call_min2 rfl) (by rfl) T.b_min (by decide +kernel) (pa_cons (pe_ix (r := rIxT K) ix_tup (pv 2) pe_int (fun _ _ => rfl)) (pa_cons (pe_ix (r := rIxT K) ix_tup (pv 2) pe_int (fun _ _ => rfl)) pa_nil))))
        (pss_cons (ps_set (i := 6) sc__law_norm.nd rfl (.inl rfl) (pe_callB (call_max2 rfl) (by rfl) T.b_max (by decide +kernel) (pa_cons (pe_ix (r := rIxT K) ix_tup (pv 2) pe_int (fun _ _ => rfl)) (pa_cons (pe_ix (r := rIxT K) ix_tup (pv 2) pe_int (fun _ _ => rfl)) pa_nil))))
        (pss_one (ps_if (PW.pt (pw_and (pt_cmpR op_gt (pe_ix (r := rIxT K) ix_tup (pv 2) pe_int (fun _ _ => rfl)) pe_int (nomark _)) (pw_and1 (pt_cmpR (op_notInD hu65) (pe_tup (pa_cons (pv 5) (pa_cons (pv 6) pa_nil))) (pv 1) (by rfl))))) (pss_one (ps_expr (pe_bm PySem.F.plainAttrs_list PySem.F.slot_list_append PySem.F.type_list_append mt_append (pv 1) (pa_cons (pe_tup (pa_cons (pv 5) (pa_cons (pv 6) pa_nil))) pa_nil)))) pss_nil)))))
        (pss_cons (ps_set (i := 3) sc__law_norm.nd rfl (.inl rfl) (pe_lst pa_nil))
        (pss_cons (ps_for PassesOwn.never rfl (pi_list (pe_callB cr_sortedPO (by rfl) T.b_sorted (by decide +kernel) (pa_cons (pv 1) pa_nil))) (pg_name (i := 4) sc__law_norm.nd rfl (.inl rfl))
        (pss_cons (ps_set (i := 7) sc__law_norm.nd rfl (.inl rfl) pe_int)
        (pss_cons (ps_for PassesOwn.never rfl (pi_seq (pv 0)) (pg_name (i := 2) sc__law_norm.nd rfl (.inl rfl))
        (pss_one (ps_if (PW.pt (pw_and (pt_cmpR op_eq (pe_callB (call_min2 rfl) (by rfl) T.b_min (by decide +kernel) (pa_cons (pe_ix (r := rIxT K) ix_tup (pv 2) pe_int (fun _ _ => rfl)) (pa_cons (pe_ix (r := rIxT K) ix_tup (pv 2) pe_int (fun _ _ => rfl)) pa_nil))) (pe_ix (r := rIxT K) ix_tup (pv 4) pe_int (fun _ _ => rfl)) (nomark _)) (pw_and1 (pt_cmpR op_eq (pe_callB (call_max2 rfl) (by rfl) T.b_max (by decide +kernel) (pa_cons (pe_ix (r := rIxT K) ix_tup (pv 2) pe_int (fun _ _ => rfl)) (pa_cons (pe_ix (r := rIxT K) ix_tup (pv 2) pe_int (fun _ _ => rfl)) pa_nil))) (pe_ix (r := rIxT K) ix_tup (pv 4) pe_int (fun _ _ => rfl)) (nomark _))))) (pss_one (ps_set (i := 7) sc__law_norm.nd rfl (.inl rfl) (pe_op op_add (pv 7) (pe_ix (r := rIxT K) ix_tup (pv 2) pe_int (fun _ _ => rfl))))) pss_nil)))
        (pss_one (ps_expr (pe_bm PySem.F.plainAttrs_list PySem.F.slot_list_append PySem.F.type_list_append mt_append (pv 3) (pa_cons (pe_tup (pa_cons (pe_ix (r := rIxT K) ix_tup (pv 4) pe_int (fun _ _ => rfl)) (pa_cons (pe_ix (r := rIxT K) ix_tup (pv 4) pe_int (fun _ _ => rfl)) (pa_cons (pv 7) pa_nil)))) pa_nil)))))))
        (pss_one (ps_ret (pe_callTy call_tuple_of (by rfl) T.b_tuple (by decide +kernel) (pa_cons (pv 3) pa_nil)))))))), ?_⟩
    refine ⟨Nat.zero_le _, fun p np => ?_⟩
    have sp : Same H (upd H p (.lst [])) := same_upd np
    refine ⟨_, rfl, a, rfl, for_same (Hb := H) hB (fun i σ H' => ∃ (bs : List Addr) (ps : List (Int × Int)) (y2 y5 y6 : Option V), σ = [some (.ref a), some (.ref p), y2, none, none, y5, y6, none] ∧ H' p = some (.lst (bs.map V.ref)) ∧ PairsV H' bs ps ∧ ps.Nodup ∧ (∀ x, x ∈ ps ↔ x ∈ (l.take i).map ky) ∧ Same H H' ∧ ps.length ≤ i) ⟨[], [], none, none, none, rfl, upd_same, ⟨rfl, fun i b q h => by simp at h⟩, List.nodup_nil, fun x => by simp, sp, Nat.le_refl _⟩ (fun i σ' H' pv => by obtain ⟨_, _, _, _, _, _, _, _, _, _, s, _⟩ := pv; exact s) (fun i x σ H' hxi pv => ?_) (fun σ H' pv => ?_)⟩
    · obtain ⟨bs, ps, y2, y5, y6, rfl, ep, pV, hnd, hmem, sm, hlen⟩ := pv
      obtain ⟨b, t, rfl, hti, hb⟩ := (hx.same sm).at_ hxi
      have hil : i < l.length := (List.getElem?_eq_some_iff.mp hti).1
      have hvt : 1 ≤ t.2.2 := hv t (List.mem_of_getElem? hti)
      have qb : SqT K H' b (tv t) := .inl (.inl hb)
      have i0 : atI (tv t) 0 = some (.int t.1) := atI_nat (j := 0) rfl
      have i1 : atI (tv t) 1 = some (.int t.2.1) := atI_nat (j := 1) rfl
      have i2 : atI (tv t) 2 = some (.int t.2.2) := atI_nat (j := 2) rfl
      refine ⟨_, rfl, b, _, 0, _, rfl, rfl, qb, i0, _, rfl, b, _, 1, _, rfl, rfl, qb, i1, _, _, rfl, ?_⟩
      refine ⟨_, rfl, b, _, 0, _, rfl, rfl, qb, i0, _, rfl, b, _, 1, _, rfl, rfl, qb, i1, _, _, rfl, ?_⟩
      refine ⟨_, rfl, b, _, 2, _, rfl, rfl, qb, i2, _, _, rfl, rfl, _, rfl, ?_⟩
      rw [decide_eq_true (show (0 : Int) < t.2.2 by omega)]
      refine ⟨_, rfl, _, rfl, by show 2 ≤ sizeLine; decide, fun u nu => ?_⟩
      have su : Same H' (upd H' u (.tup [.int (lo t.1 t.2.1), .int (hi t.1 t.2.1)])) := same_upd nu
      have pV1 := pV.sameT fun b o h => su _ _ h
      have ep1 := su _ _ ep
      refine ⟨_, rfl, pd (ky t), ps.map pd, .tup (.inl (.inl upd_same)) (.cons (.int _) (.cons (.int _) .nil)), .lst (.inl (.inl ep1)) pV1.dp, shaped_pd _, shaped_pds _, _, rfl, ?_⟩
      rw [any_pd]
      by_cases hk : ky t ∈ ps
      · rw [decide_eq_true hk]
        refine ⟨bs, ps, _, _, _, rfl, ep1, pV1, hnd, fun x => ?_, sm.trans su, by omega⟩
        rw [List.take_add_one, hti, List.map_append, List.mem_append, ← hmem]
        constructor
        · exact .inl
        · rintro (h | h)
          · exact h
          · rw [List.mem_singleton.mp h]
            exact hk
      · rw [decide_eq_false hk]
        refine ⟨_, rfl, .inl ⟨rfl, _, .inl (.inl ep1)⟩, _, rfl, _, rfl, by show 2 ≤ sizeLine; decide, fun v nv => ?_⟩
        have sv := same_upd (o := .tup [.int (lo t.1 t.2.1), .int (hi t.1 t.2.1)]) nv
        have ep2 := sv _ _ ep1
        refine ⟨p, _, _, rfl, rfl, ep2, ?_, ?_⟩
        · rw [List.length_map, pV.1]
          exact small1000 (by omega)
        have nvp : v ≠ p := fun z => by
          rw [z] at nv
          exact nomatch (ep1.symm.trans nv)
        refine ⟨bs ++ [v], ps ++ [ky t], _, _, _, rfl, ?_, ?_, ?_, fun x => ?_, same_put (H1 := H) np ((sm.trans su).trans sv), ?_⟩
        · rw [upd_same, List.map_append]
          rfl
        · refine (pV1.sameT (sameT_put ep1 sv)).snoc ?_
          rw [upd_ne nvp, upd_same]
          rfl
        · exact List.nodup_append.mpr ⟨hnd, by simp, fun x hx2 y hy z => hk (by rw [List.mem_singleton.mp hy] at z; rw [← z]; exact hx2)⟩
        · rw [List.take_add_one, hti, List.map_append, List.mem_append, List.mem_append, ← hmem]
          exact Iff.rfl
        · rw [List.length_append]
          show ps.length + 1 ≤ i + 1
          omega
    · obtain ⟨bs, ps, y2, y5, y6, rfl, ep, pV, hnd, hmem, sm, hlen⟩ := pv
      rw [hx.1] at hlen
      rw [hx.1, List.take_length] at hmem
      refine ⟨Nat.zero_le _, fun rw_ nrw => ?_⟩
      have s1 : Same H' (upd H' rw_ (.lst [])) := same_upd nrw
      have pV1 := pV.sameT fun b o h => s1 _ _ h
      refine ⟨_, rfl, p, _, kOf (upd H' rw_ (.lst [])), rfl, .inl (.inl (s1 _ _ ep)), fun x hx2 => ?_, fun ys p0 hsrt hstb np0 => ?_⟩
      · obtain ⟨b, hb, rfl⟩ := List.mem_map.mp hx2
        obtain ⟨pp, _, hp⟩ := pV1.at_ hb
        exact ⟨b, rfl, by rw [kOf_at hp]; exact hp⟩
      generalize hH1 : upd H' rw_ (.lst []) = H1 at s1 pV1 hsrt hstb np0
      have erw : H1 rw_ = some (.lst []) := by rw [← hH1]; exact upd_same
      have hks : (bs.map V.ref).map (kOf H1) = ps := by
        apply List.ext_getElem
        · rw [List.length_map, List.length_map]
          exact pV1.1
        · intro j h1 h2
          rw [List.getElem_map, List.getElem_map]
          rw [List.length_map, List.length_map] at h1
          exact kOf_at (pV1.2 j bs[j] ps[j] (List.getElem?_eq_getElem h1) (List.getElem?_eq_getElem h2))
      have hperm : (ys.map (kOf H1)).Perm ps := by
        have := hstb.perm.map (kOf H1)
        rw [hks] at this
        exact this
      have hall : ∀ y ∈ ys, ∃ b, y = .ref b ∧ H1 b = some (.tup [.int (kOf H1 y).1, .int (kOf H1 y).2]) := fun y hy => by
        obtain ⟨b, hb, rfl⟩ := List.mem_map.mp (hstb.perm.mem_iff.mp hy)
        obtain ⟨pp, _, hp⟩ := pV1.at_ hb
        exact ⟨b, rfl, by rw [kOf_at hp]; exact hp⟩
      have hlex : (ys.map (kOf H1)).Pairwise Lex := sorted_lex (hperm.nodup_iff.mpr hnd) (SrtO.srtd_map (lt := SrtO.lexB) (f := kOf H1) hsrt)
      have hN : IsNorm l ((ys.map (kOf H1)).map fun p => (p.1, p.2, tot p l)) := by
        have e1 : (((ys.map (kOf H1)).map fun p => ((p.1, p.2, tot p l) : Tr))).map pr = ys.map (kOf H1) := by
          rw [List.map_map]
          exact List.map_id' _
        refine ⟨by rw [e1]; exact hlex, fun x => by rw [e1, hperm.mem_iff]; exact hmem x, fun e he => ?_⟩
        obtain ⟨x, _, rfl⟩ := List.mem_map.mp he
        rfl
      have hylen : ys.length ≤ 1000 := by
        have h1 := hperm.length_eq
        rw [List.length_map] at h1
        omega
      generalize hr0 : ((ys.map (kOf H1)).map fun p => ((p.1, p.2, tot p l) : Tr)) = r at hN
      have hrl : r.length = ys.length := by rw [← hr0, List.length_map, List.length_map]
      have s0 : Same H1 (upd H1 p0 (.lst ys)) := same_upd np0
      have n0rw : p0 ≠ rw_ := fun z => by
        rw [z, erw] at np0
        cases np0
      have nrwH : H rw_ = none := sm.free nrw
      refine ⟨p0, rfl, ⟨_, .inl (.inl upd_same)⟩, for_list (xs := ys) (fun j σ H2 => ∃ (vs : List V) (y2 y4 y5 y6 y7 : Option V), σ = [some (.ref a), some (.ref p), y2, some (.ref rw_), y4, y5, y6, y7] ∧ Same H H2 ∧ SameT H1 H2 ∧ H2 p0 = some (.lst ys) ∧ H2 rw_ = some (.lst vs) ∧ TrV H2 vs (r.take j)) ⟨[], _, _, _, _, _, rfl, ?_, fun b o h => s0 _ _ h, upd_same, s0 _ _ erw, TrV.nil⟩ (fun j σ H2 _ pv => by obtain ⟨_, _, _, _, _, _, _, _, _, e, _⟩ := pv; exact .inl (.inl e)) (fun j x σ H2 hxj pv => ?_) (fun σ H2 pv => ?_)⟩
      · exact (sm.trans s1).trans s0
      · obtain ⟨vs, y2, y4, y5, y6, y7, rfl, sH, sT, e0, eR, tV⟩ := pv
        obtain ⟨b, rfl, hb⟩ := hall x (List.mem_of_getElem? hxj)
        have hjl : j < ys.length := (List.getElem?_eq_some_iff.mp hxj).1
        generalize hp : kOf H1 (.ref b) = pq at hb
        have hb2 : SqT K H2 b [.int pq.1, .int pq.2] := .inl (.inl (sT _ _ hb))
        have j0 : atI [V.int pq.1, .int pq.2] 0 = some (.int pq.1) := atI_nat (j := 0) rfl
        have j1 : atI [V.int pq.1, .int pq.2] 1 = some (.int pq.2) := atI_nat (j := 1) rfl
        have hrj : r[j]? = some (pq.1, pq.2, tot pq l) := by
          rw [← hr0, List.getElem?_map, List.getElem?_map, hxj, ← hp]
          rfl
        refine ⟨_, rfl, a, rfl, for_same (Hb := H) hB (fun i σ H3 => (∃ y2, σ = [some (.ref a), some (.ref p), y2, some (.ref rw_), some (.ref b), y5, y6, some (.int (tot pq (l.take i)))]) ∧ H3 = H2) ⟨⟨y2, rfl⟩, rfl⟩ (fun i σ' H3 pv => by rw [pv.2]; exact sH) (fun i x σ H3 hxi pv => ?_) (fun σ H3 pv => ?_)⟩
        · obtain ⟨⟨y2, rfl⟩, rfl⟩ := pv
          obtain ⟨u, t, rfl, hti, hu⟩ := (hx.same sH).at_ hxi
          have qb : SqT K H3 u (tv t) := .inl (.inl hu)
          have i0 : atI (tv t) 0 = some (.int t.1) := atI_nat (j := 0) rfl
          have i1 : atI (tv t) 1 = some (.int t.2.1) := atI_nat (j := 1) rfl
          have i2 : atI (tv t) 2 = some (.int t.2.2) := atI_nat (j := 2) rfl
          have et : tot pq (l.take (i + 1)) = tot pq (l.take i) + (if ky t = pq then t.2.2 else 0) := by
            rw [List.take_add_one, hti]
            exact tot_snoc pq (l.take i) t
          refine ⟨_, rfl, u, _, 0, _, rfl, rfl, qb, i0, _, rfl, u, _, 1, _, rfl, rfl, qb, i1, _, _, rfl, ?_⟩
          refine ⟨_, rfl, b, _, 0, _, rfl, rfl, hb2, j0, rfl, _, rfl, ite2 (fun e1 => ?_) (fun e1 => ?_)⟩
          · have f1 : lo t.1 t.2.1 = pq.1 := V.int.inj (of_decide_eq_true e1)
            refine ⟨_, rfl, u, _, 0, _, rfl, rfl, qb, i0, _, rfl, u, _, 1, _, rfl, rfl, qb, i1, _, _, rfl, ?_⟩
            refine ⟨_, rfl, b, _, 1, _, rfl, rfl, hb2, j1, rfl, _, rfl, ite2 (fun e2 => ?_) (fun e2 => ?_)⟩
            · have f2 : hi t.1 t.2.1 = pq.2 := V.int.inj (of_decide_eq_true e2)
              refine ⟨_, rfl, _, rfl, u, _, 2, _, rfl, rfl, qb, i2, _, _, rfl, rfl, ⟨some (.ref u), ?_⟩, rfl⟩
              rw [et, if_pos (show ky t = pq from Prod.ext f1 f2)]
              rfl
            · have f2 : ¬ hi t.1 t.2.1 = pq.2 := fun z => e2 (decide_eq_true (congrArg V.int z))
              refine ⟨⟨some (.ref u), ?_⟩, rfl⟩
              rw [et, if_neg (fun z : ky t = pq => f2 (congrArg Prod.snd z)), Int.add_zero]
              rfl
          · have f1 : ¬ lo t.1 t.2.1 = pq.1 := fun z => e1 (decide_eq_true (congrArg V.int z))
            refine ⟨⟨some (.ref u), ?_⟩, rfl⟩
            rw [et, if_neg (fun z : ky t = pq => f1 (congrArg Prod.fst z)), Int.add_zero]
            rfl
        · obtain ⟨⟨y2, rfl⟩, rfl⟩ := pv
          rw [hx.1, List.take_length]
          refine ⟨_, rfl, .inl ⟨rfl, _, .inl (.inl eR)⟩, _, rfl, b, _, 0, _, rfl, rfl, hb2, j0, _, rfl, b, _, 1, _, rfl, rfl, hb2, j1, _, rfl, by show 3 ≤ sizeLine; decide, fun u nu => ?_⟩
          have su := same_upd (o := .tup [.int pq.1, .int pq.2, .int (tot pq l)]) nu
          refine ⟨rw_, _, _, rfl, rfl, su _ _ eR, ?_, ?_⟩
          · rw [tV.1, List.length_take]
            exact Nat.lt_of_le_of_lt (Nat.min_le_right _ _) (small1000 (by omega))
          have nur : u ≠ rw_ := fun z => by
            rw [z, eR] at nu
            cases nu
          refine ⟨_, _, _, _, _, _, rfl, same_put (H1 := H) nrwH (sH.trans su), fun c o h => ?_, ?_, upd_same, ?_⟩
          · exact sameT_put (H := H3) eR su _ _ (sT _ _ h)
          · rw [upd_ne n0rw]
            exact su _ _ e0
          · rw [List.take_add_one, hrj]
            refine (tV.sameT (sameT_put eR su)).snoc ?_
            rw [upd_ne nur, upd_same]
      · obtain ⟨vs, y2, y4, y5, y6, y7, rfl, sH, sT, e0, eR, tV⟩ := pv
        rw [← hrl, List.take_length] at tV
        refine ⟨_, rfl, rw_, _, rfl, .inl ⟨.inl (.inl eR), fun c nc => ?_⟩⟩
        exact q _ c r (sH.trans (same_upd nc)) ⟨vs, upd_same, tV.same (same_upd nc)⟩ hN
end
end Own

namespace Own
open PySem PySem.Spec PyProof.Rows L2
theorem fmod_lo {y n : Int} (h0 : 0 ≤ y) (h1 : y < n) : y.fmod n = y := by
  rw [Int.fmod_eq_emod_of_nonneg _ (by omega)]
  exact Int.emod_eq_of_lt h0 h1
theorem fmod_hi {y n : Int} (h0 : n ≤ y) (h1 : y < n + n) : y.fmod n = y - n := by
  rw [Int.fmod_eq_emod_of_nonneg _ (by omega), show y = (y - n) + n * 1 by omega, Int.add_mul_emod_self_left, Int.emod_eq_of_lt (by omega) (by omega)]
  omega
theorem fmod_neg {y n : Int} (h0 : -n ≤ y) (h1 : y < 0) : y.fmod n = y + n := by
  rw [Int.fmod_eq_emod_of_nonneg _ (by omega), show y = (y + n) + n * (-1) by omega, Int.add_mul_emod_self_left, Int.emod_eq_of_lt (by omega) (by omega)]
  omega
/-- the numbers of the entries that the test takes -/
def fl (f : Int × Int → Bool) (cs : List Tr) : List Int := (cs.filter fun t => f (pr t)).map fun t => t.2.2
theorem fl_sum (f : Int × Int → Bool) (cs : List Tr) : (fl f cs).sum = bs f cs := by
  unfold fl
  induction cs with
  | nil => rfl
  | cons t r ih =>
    rw [bs, List.filter_cons]
    by_cases h : f (pr t) = true
    · rw [if_pos h, if_pos h, List.map_cons, List.sum_cons, ih]
    · rw [if_neg h, if_neg h, ih]
      omega
theorem fl_snoc (f : Int × Int → Bool) (cs : List Tr) (t : Tr) : fl f (cs ++ [t]) = if f (pr t) = true then fl f cs ++ [t.2.2] else fl f cs := by
  unfold fl
  rw [List.filter_append, List.map_append]
  by_cases h : f (pr t) = true
  · rw [if_pos h, List.filter_cons, if_pos h]
    rfl
  · rw [if_neg h, List.filter_cons, if_neg h]
    exact List.append_nil _
theorem fl_len (f : Int × Int → Bool) (cs : List Tr) : (fl f cs).length ≤ cs.length := by
  unfold fl
  rw [List.length_map]
  exact List.length_filter_le _ _
/-- met on the walk of k steps from gap i -/
def mt (n i : Int) (k : Nat) (x : Int) : Bool := decide (0 < (x - i).fmod n ∧ (x - i).fmod n ≤ (k : Int))
theorem mt_val {n i x : Int} (i0 : 0 ≤ i) (i1 : i < n) (x0 : 0 ≤ x) (x1 : x < n) : (i ≤ x ∧ (x - i).fmod n = x - i) ∨ (x < i ∧ (x - i).fmod n = x - i + n) := by
  by_cases h : i ≤ x
  · exact .inl ⟨h, fmod_lo (by omega) (by omega)⟩
  · exact .inr ⟨by omega, fmod_neg (by omega) (by omega)⟩
theorem mt_step {n i x : Int} {k : Nat} (i0 : 0 ≤ i) (i1 : i < n) (x0 : 0 ≤ x) (x1 : x < n) (hk : (k : Int) + 1 < n) : mt n i (k + 1) x = if x = (i + (1 + (k : Int))).fmod n then true else mt n i k x := by
  have hv := mt_val i0 i1 x0 x1
  have hj : (i + (1 + (k : Int)) < n ∧ (i + (1 + (k : Int))).fmod n = i + (1 + (k : Int))) ∨ (n ≤ i + (1 + (k : Int)) ∧ (i + (1 + (k : Int))).fmod n = i + (1 + (k : Int)) - n) := by
    by_cases h : i + (1 + (k : Int)) < n
    · exact .inl ⟨h, fmod_lo (by omega) h⟩
    · exact .inr ⟨by omega, fmod_hi (by omega) (by omega)⟩
  unfold mt
  by_cases e : x = (i + (1 + (k : Int))).fmod n
  · rw [if_pos e]
    exact decide_eq_true (by omega)
  · rw [if_neg e]
    exact decide_eq_decide.mpr (by omega)
theorem mt_zero (n i x : Int) : mt n i 0 x = false := decide_eq_false (by omega)
theorem mt_all {n i x : Int} (i0 : 0 ≤ i) (i1 : i < n) (x0 : 0 ≤ x) (x1 : x < n) {k : Nat} (hk : (k : Int) + 1 = n) : mt n i k x = decide (x ≠ i) := by
  have hv := mt_val i0 i1 x0 x1
  exact decide_eq_decide.mpr (by omega)
theorem bne_not (p q : Bool) : ((!p) != (!q)) = (p != q) := by
  cases p <;> cases q <;> rfl
/-- the walk parts pins as the gaps do -/
theorem mt_sep {n i a b : Int} {k : Nat} (i0 : 0 ≤ i) (i1 : i < n) (hk : (k : Int) + 1 < n) (a0 : 0 ≤ a) (a1 : a < n) (b0 : 0 ≤ b) (b1 : b < n) :
    (mt n i (k + 1) a != mt n i (k + 1) b) = (sepB i ((i + (1 + (k : Int))).fmod n) a != sepB i ((i + (1 + (k : Int))).fmod n) b) := by
  by_cases h : i + (1 + (k : Int)) < n
  · have ej := fmod_lo (n := n) (show 0 ≤ i + (1 + (k : Int)) by omega) h
    rw [ej]
    have hl := lo_hi i (i + (1 + (k : Int)))
    have e : ∀ x, 0 ≤ x → x < n → mt n i (k + 1) x = sepB i (i + (1 + (k : Int))) x := fun x x0 x1 => by
      have hv := mt_val i0 i1 x0 x1
      exact decide_eq_decide.mpr (by omega)
    rw [e a a0 a1, e b b0 b1]
  · have ej := fmod_hi (n := n) (show n ≤ i + (1 + (k : Int)) by omega) (by omega)
    rw [ej]
    have hl := lo_hi i (i + (1 + (k : Int)) - n)
    have e : ∀ x, 0 ≤ x → x < n → mt n i (k + 1) x = !sepB i (i + (1 + (k : Int)) - n) x := fun x x0 x1 => by
      have hv := mt_val i0 i1 x0 x1
      unfold mt sepB
      rw [← decide_not]
      exact decide_eq_decide.mpr (by omega)
    rw [e a a0 a1, e b b0 b1, bne_not]
/-- a list of truth values -/
def bl (n : Int) (g : Int → Bool) : List V := (List.range n.toNat).map fun j : Nat => V.bl (g (j : Int))
theorem bl_at {n x : Int} (g : Int → Bool) (h0 : 0 ≤ x) (h1 : x < n) : atI (bl n g) x = some (.bl (g x)) := by
  have e : x = ((x.toNat : Nat) : Int) := by omega
  have hx : (bl n g)[x.toNat]? = some (.bl (g x)) := by
    unfold bl
    rw [List.getElem?_map, List.getElem?_range (by omega)]
    show some (V.bl (g ((x.toNat : Nat) : Int))) = _
    rw [← e]
  exact at_of e hx
theorem bl_len (n : Int) (g : Int → Bool) : (bl n g).length = n.toNat := by
  unfold bl
  rw [List.length_map, List.length_range]
theorem bl_ix {n x : Int} (g : Int → Bool) (h0 : 0 ≤ x) (h1 : x < n) : ixN (bl n g).length x = some x.toNat := by
  unfold ixN
  rw [bl_len, if_pos h0, if_pos (by omega)]
theorem bl_congr {n : Int} {g h : Int → Bool} (e : ∀ x, 0 ≤ x → x < n → g x = h x) : bl n g = bl n h := by
  unfold bl
  refine List.map_congr_left fun j hj => ?_
  have := List.mem_range.mp hj
  rw [e (j : Int) (by omega) (by omega)]
theorem bl_set {n x : Int} (g : Int → Bool) (v : Bool) (h0 : 0 ≤ x) (h1 : x < n) : (bl n g).set x.toNat (.bl v) = bl n fun y => if y = x then v else g y := by
  unfold bl
  apply List.ext_getElem
  · rw [List.length_set, List.length_map, List.length_map]
  · intro j hj hj2
    rw [List.length_map, List.length_range] at hj2
    rw [List.getElem_set, List.getElem_map, List.getElem_map, List.getElem_range]
    by_cases e : x.toNat = j
    · rw [if_pos e]
      show V.bl v = V.bl (if ((j : Nat) : Int) = x then v else g j)
      rw [if_pos (by omega)]
    · rw [if_neg e]
      show V.bl (g j) = V.bl (if ((j : Nat) : Int) = x then v else g j)
      rw [if_neg (by omega)]
theorem ne_bl (p q : Bool) : (!decide (V.bl p = V.bl q)) = (p != q) := by
  cases p <;> cases q <;> rfl
/-- as many keys as entries at most -/
theorem nodup_le : ∀ {P L : List (Int × Int)}, P.Nodup → (∀ p ∈ P, p ∈ L) → P.length ≤ L.length
  | [], _, _, _ => Nat.zero_le _
  | p :: P, L, hn, h => by
    have hc := List.nodup_cons.mp hn
    have hp : p ∈ L := h p List.mem_cons_self
    have ih := nodup_le (P := P) (L := L.erase p) hc.2 fun q hq => (List.mem_erase_of_ne (fun z => hc.1 (by rw [← z]; exact hq))).mpr (h q (List.mem_cons_of_mem _ hq))
    rw [List.length_erase_of_mem hp] at ih
    have := List.length_pos_of_mem hp
    rw [List.length_cons]
    omega
theorem IsNorm.len {l r : List Tr} (h : IsNorm l r) : r.length ≤ l.length := by
  have := nodup_le (srt_nodup h.srt) fun p m => (h.mem p).mp m
  rw [List.length_map, List.length_map] at this
  exact this
end Own

namespace Own
open PySem PySem.Spec PyProof.Rows L2
theorem Grid.other {H : Hp} {p M : Addr} {rs : List Addr} {n m : Int} {f : Int → Int → Int} {o : HO} (g : Grid H p rs n m f) (h1 : p ≠ M) (h2 : M ∉ rs) : Grid (upd H M o) p rs n m f :=
  ⟨by rw [upd_ne h1]; exact g.at_, g.len, g.nd, g.out, fun j r e => by
    have hr : r ≠ M := fun z => h2 (by rw [← z]; exact List.mem_of_getElem? e)
    rw [upd_ne hr]
    exact g.row j r e⟩
/-- a list that is made stands apart from the rows -/
theorem Grid.apart {H : Hp} {p M : Addr} {rs : List Addr} {n m : Int} {f : Int → Int → Int} (g : Grid H p rs n m f) (h : H M = none) : p ≠ M ∧ M ∉ rs := by
  refine ⟨fun z => ?_, fun mm => ?_⟩
  · rw [← z, g.at_] at h
    cases h
  · obtain ⟨j, hj, e⟩ := List.mem_iff_getElem.mp mm
    rw [g.row j M (by rw [List.getElem?_eq_getElem hj, e])] at h
    cases h
/-- the scope of the outer of two comprehensions -/
abbrev scI : Scope := { kind := .function, names := [(".0", .local), ("_law_i", .local), ("range", .globalImplicit), ("_law_size", .cell)], isGenerator := false, isCoroutine := false }
section
variable {P : Program} {w : World} {K : PySem.W.Frag} {mg : Str → Option Value} {base : Heap} {C : Addr}
def spLTab : Sp := fun vs H Q _ => ∃ (n : Int) (c : Addr) (cs : List Tr), vs = [.int n, .ref c] ∧ 0 ≤ n ∧ n ≤ 1000 ∧ Trip H c cs ∧ Good n cs ∧ cs.length ≤ 1000 ∧ ∀ H' p, Same H H' → TabAt H' p (hi n 1) (tabE cs) → Q (.ref p) H'
theorem ok_ltab {f : Addr} {fd : FuncData} (F : Fun K "_law_table" "_law_table" s__law_table f fd) (T : Bi mg) : FnOk P w K mg base CX0 1 f fd ["_law_pins_here", "_law_bunch"] spLTab := by
  refine F.ok sc__law_table (fun vs H Q E h => ?_) (fun cdv A outer s H vs Q E hr h => ?_)
  · obtain ⟨n, c, cs, rfl, _⟩ := h
    rfl
  · obtain ⟨n, c, cs, rfl, n0, n1, hc, hG, hl, q⟩ := h
    refine ⟨_, (pss_cons (ps_set (i := 2) sc__law_table.nd rfl (.inr rfl) (pe_callB (call_max2 rfl) (by rfl) T.b_max (by decide +kernel) (pa_cons (pv 0) (pa_cons pe_int pa_nil))))
        (pss_cons (ps_setLc (i := 3) (own := [("_law_i", 4)]) (g := gName 4) (tt := tYes) rfl sc__law_table.nd rfl rfl (sw_true rfl rfl rfl (by decide +kernel)) (pi_range1 (by rfl) T.b_range (pa_cons (pv 2) pa_nil)) (blkOk_by (own := [("_law_i", 4)]) (N := ["_law_pins_here", "_law_bunch", "_law_size", "_law_table_here", "_law_i", "_law_met", "_law_step", "_law_j", "_law_row", "_law_entry"]) (sc := defScope s__law_table) (by decide +kernel)) (fun _ _ _ _ _ => (pg_name (i := 4) sc__law_table.nd rfl (.inl rfl))) (fun _ _ _ _ _ => pts_nil) (fun _ _ _ _ _ => (show PE _ _ (tLc (iRng1 (tCons (tVar 2) tNil)) (gName 7) tYes (tC (.int 0)) [7]) from pe_lc (own := [("_law_j", 7)]) (g := gName 7) (tt := tYes) rfl sc__law_table.nd (pi_range1 (by rfl) T.b_range (pa_cons (pv 2) pa_nil)) (blkOk_by (own := [("_law_j", 7)]) (N := ["_law_pins_here", "_law_bunch", "_law_size", "_law_table_here", "_law_i", "_law_met", "_law_step", "_law_j", "_law_row", "_law_entry"]) (sc := scI) (by decide +kernel)) (fun _ _ _ _ _ => pg_name (i := 7) sc__law_table.nd rfl (Or.inl rfl)) (fun _ _ _ _ _ => pts_nil) (fun _ _ _ _ _ => pe_int))))
        (pss_cons (ps_for PassesOwn.never rfl (pi_range1 (by rfl) T.b_range (pa_cons (pv 2) pa_nil)) (pg_name (i := 4) sc__law_table.nd rfl (.inl rfl))
        (pss_cons (ps_set (i := 5) sc__law_table.nd rfl (.inr rfl) (pe_lc (own := [("_law_j", 7)]) (g := gName 7) (tt := tYes) rfl sc__law_table.nd (pi_range1 (by rfl) T.b_range (pa_cons (pv 2) pa_nil)) (blkOk_by (own := [("_law_j", 7)]) (N := ["_law_pins_here", "_law_bunch", "_law_size", "_law_table_here", "_law_i", "_law_met", "_law_step", "_law_j", "_law_row", "_law_entry"]) (sc := defScope s__law_table) (by decide +kernel)) (fun _ _ _ _ _ => (pg_name (i := 7) sc__law_table.nd rfl (.inl rfl))) (fun _ _ _ _ _ => pts_nil) (fun _ _ _ _ _ => pe_bl)))
        (pss_one (ps_for PassesOwn.never rfl (pi_range2 (by rfl) T.b_range (pa_cons pe_int (pa_cons (pv 2) pa_nil))) (pg_name (i := 6) sc__law_table.nd rfl (.inl rfl))
        (pss_cons (ps_set (i := 7) sc__law_table.nd rfl (.inl rfl) (pe_op op_modN (pe_callTy call_int1 (by rfl) T.b_int (by decide +kernel) (pa_cons (pe_op op_add (pv 4) (pv 6)) pa_nil)) (pv 2)))
        (pss_cons (ps_asg pe_bl (pg_sub (pv 5) (pv 7) set_list))
        (pss_one (ps_asg (pe_callB (cr_sum rfl) (by rfl) T.b_sum (by decide +kernel) (pa_cons (pe_lc (own := [("_law_entry", 9)]) (g := gName 9) rfl sc__law_table.nd (pi_tup (pv 1)) (blkOk_by (own := [("_law_entry", 9)]) (N := ["_law_pins_here", "_law_bunch", "_law_size", "_law_table_here", "_law_i", "_law_met", "_law_step", "_law_j", "_law_row", "_law_entry"]) (sc := defScope s__law_table) (by decide +kernel)) (fun _ _ _ _ _ => (pg_name (i := 9) sc__law_table.nd rfl (.inl rfl))) (fun _ _ _ _ _ => pts_one (pt_cmpR op_ne (pe_ix (r := rIxL K) ix_list (pv 5) (pe_ix (r := rIxT K) ix_tup (pv 9) pe_int (fun _ _ => rfl)) (fun _ _ => rfl)) (pe_ix (r := rIxL K) ix_list (pv 5) (pe_ix (r := rIxT K) ix_tup (pv 9) pe_int (fun _ _ => rfl)) (fun _ _ => rfl)) (nomark _))) (fun _ _ _ _ _ => (pe_ix (r := rIxT K) ix_tup (pv 9) pe_int (fun _ _ => rfl)))) pa_nil)) (pg_sub (pe_ix (r := rIxL K) ix_list (pv 3) (pv 4) (fun _ _ => rfl)) (pv 7) set_list)))))))))
        (pss_one (ps_ret (pe_callTy call_tuple_of (by rfl) T.b_tuple (by decide +kernel) (pa_cons (pe_lc (own := [("_law_row", 8)]) (g := gName 8) (tt := tYes) rfl sc__law_table.nd (pi_list (pv 3)) (blkOk_by (own := [("_law_row", 8)]) (N := ["_law_pins_here", "_law_bunch", "_law_size", "_law_table_here", "_law_i", "_law_met", "_law_step", "_law_j", "_law_row", "_law_entry"]) (sc := defScope s__law_table) (by decide +kernel)) (fun _ _ _ _ _ => (pg_name (i := 8) sc__law_table.nd rfl (.inl rfl))) (fun _ _ _ _ _ => pts_nil) (fun _ _ _ _ _ => (pe_callTy (r := rTupOf K) cr_tupOf (by rfl) T.b_tuple (by decide +kernel) (pa_cons (pv 8) pa_nil)))) pa_nil))))))), ?_⟩
    refine ⟨_, rfl, n, 1, rfl, ?_⟩
    have hsz := lo_hi n 1
    have hz0 : 1 ≤ hi n 1 ∧ hi n 1 ≤ 1000 ∧ (2 ≤ hi n 1 → hi n 1 = n) := by omega
    refine ⟨_, rfl, hi n 1, rfl, by omega, by omega, fun R hR => ?_⟩
    refine lc_range (lo := 0) (n := (hi n 1).toNat) (fun i H3 => ∃ rr, ZInv H R (hi n 1) i rr H3) ⟨[], same_upd hR, upd_same, rfl, List.nodup_nil, by simp, by simp, by simp⟩ (fun i H3 hi3 pv => ?_) (fun H3 pv => ?_)
    · obtain ⟨rr, z⟩ := pv
      refine ⟨rfl, ?_⟩
      refine ⟨_, rfl, hi n 1, rfl, by omega, by omega, fun D hD => ?_⟩
      refine lc_range (lo := 0) (n := (hi n 1).toNat) (fun k H4 => H4 = upd H3 D (.lst ((gl (hi n 1) fun _ => 0).take k))) rfl (fun k H4 hk pv => ?_) (fun H4 pv => ?_)
      · subst pv
        refine ⟨rfl, ?_⟩
        refine ⟨_, upd_same, ?_, ?_⟩
        · rw [List.length_take, gl_len]
          exact Nat.lt_of_le_of_lt (Nat.min_le_right _ _) (small1000 (by omega))
        · rw [upd_upd, List.take_add_one]
          have : (gl (hi n 1) fun _ => 0)[k]? = some (.int 0) := by
            unfold gl
            rw [List.getElem?_map, List.getElem?_range hk]
            rfl
          rw [this]
          rfl
      · subst pv
        rw [List.take_of_length_le (by rw [gl_len]; exact Nat.le_refl _)]
        have sA : Same H3 (upd H3 D (.lst (gl (hi n 1) fun _ => 0))) := same_upd hD
        refine ⟨_, sA _ _ z.at_, ?_, _, z.step hR sA hD upd_same⟩
        rw [List.length_map, z.len]
        exact small1000 (by omega)
    obtain ⟨rr, z⟩ := pv
    have gz : Grid H3 R rr (hi n 1) (hi n 1) (fun x y => if x < 0 then tabE cs x y else 0) := by
      refine Grid.congr (f := fun _ _ => 0) ⟨z.at_, z.len, z.nd, z.out, fun j r e => z.row j r e⟩ fun x y x0 x1 y0 y1 => ?_
      rw [if_neg (by omega)]
    obtain ⟨cvs, ec, tc⟩ := id hc
    generalize hsz2 : hi n 1 = sz at hz0 gz
    refine ⟨_, rfl, sz, by rw [← hsz2]; rfl, by omega, by omega, for_range (lo := 0) (n := sz.toNat) (fun i σ H4 => (∃ y4 y5 y6 y7 y8 y9, σ = [some (.int n), some (.ref c), some (.int sz), some (.ref R), y4, y5, y6, y7, y8, y9]) ∧ Same H H4 ∧ Grid H4 R rr sz sz (fun x y => if x < (i : Int) then tabE cs x y else 0)) ⟨⟨none, none, none, none, none, none, by rw [← hsz2]; rfl⟩, z.sm, gz⟩ (fun i σ H4 hi4 pv => ?_) (fun σ H4 pv => ?_)⟩
    · obtain ⟨⟨y4, y5, y6, y7, y8, y9, rfl⟩, s4, g4⟩ := pv
      rw [Int.zero_add]
      -- met
      refine ⟨_, rfl, sz, rfl, by omega, by omega, fun M hM => ?_⟩
      refine lc_range (lo := 0) (n := sz.toNat) (fun k H5 => H5 = upd H4 M (.lst ((bl sz fun _ => false).take k))) rfl (fun k H5 hk pv => ?_) (fun H5 pv => ?_)
      · subst pv
        refine ⟨rfl, ?_⟩
        refine ⟨_, upd_same, ?_, ?_⟩
        · rw [List.length_take, bl_len]
          exact Nat.lt_of_le_of_lt (Nat.min_le_right _ _) (small1000 (by omega))
        · rw [upd_upd, List.take_add_one]
          have : (bl sz fun _ => false)[k]? = some (.bl false) := by
            unfold bl
            rw [List.getElem?_map, List.getElem?_range hk]
            rfl
          rw [this]
          rfl
      subst pv
      rw [List.take_of_length_le (by rw [bl_len]; exact Nat.le_refl _)]
      obtain ⟨nRM, nMrr⟩ := g4.apart hM
      have nHM : H M = none := s4.free hM
      have s5 : Same H (upd H4 M (.lst (bl sz fun _ => false))) := s4.trans (same_upd hM)
      have g5 := g4.other (o := .lst (bl sz fun _ => false)) nRM nMrr
      refine ⟨_, rfl, 1, sz, rfl, ⟨by omega, by omega, by omega, by omega⟩, for_range (lo := 1) (n := (sz - 1).toNat) (fun k σ H6 => (∃ y6 y7, σ = [some (.int n), some (.ref c), some (.int sz), some (.ref R), some (.int (i : Int)), some (.ref M), y6, y7, y8, y9]) ∧ Same H H6 ∧ Grid H6 R rr sz sz (fun x y => if x < (i : Int) ∨ (x = (i : Int) ∧ mt sz i k y = true) then tabE cs x y else 0) ∧ H6 M = some (.lst (bl sz (mt sz i k)))) ⟨⟨_, _, rfl⟩, s5, ?_, ?_⟩ (fun k σ H6 hk pv => ?_) (fun σ H6 pv => ?_)⟩
      · refine g5.congr fun x y x0 x1 y0 y1 => ?_
        rw [mt_zero]
        by_cases h : x < (i : Int)
        · rw [if_pos h, if_pos (.inl h)]
        · rw [if_neg h, if_neg (fun z => by rcases z with z | z; exact h z; exact Bool.false_ne_true z.2)]
      · rw [upd_same]
        congr 2
        exact bl_congr fun x _ _ => (mt_zero sz i x).symm
      · obtain ⟨⟨y6, y7, rfl⟩, s6, g6, eM⟩ := pv
        have hn : sz = n := hz0.2.2 (by omega)
        subst hn
        have hk1 : (k : Int) + 1 < sz := by omega
        have i1 : (i : Int) < sz := by omega
        obtain ⟨j0, j1⟩ := fmod_in ((i : Int) + (1 + (k : Int))) (show 0 < sz by omega)
        refine ⟨_, rfl, _, rfl, _, _, rfl, rfl, .inl ⟨_, rfl, _, rfl, _, _, rfl, rfl, by omega, ?_⟩⟩
        generalize hj : ((i : Int) + (1 + (k : Int))).fmod sz = j at j0 j1
        show (tSeq _ _) _ ([some (.int sz), some (.ref c), some (.int sz), some (.ref R), some (.int (i : Int)), some (.ref M), some (.int (1 + (k : Int))), some (.int (((i : Int) + (1 + (k : Int))).fmod sz)), y8, y9]) _
        rw [hj]
        -- met[j] = True
        refine ⟨_, rfl, _, rfl, M, _, _, _, rfl, rfl, eM, bl_ix _ j0 j1, ?_⟩
        rw [bl_set _ _ j0 j1]
        have emt : (bl sz fun y => if y = j then true else mt sz i k y) = bl sz (mt sz i (k + 1)) := bl_congr fun y h0 h1 => by
          rw [mt_step (by omega) i1 h0 h1 hk1, hj]
        rw [emt]
        have s7 : Same H (upd H6 M (.lst (bl sz (mt sz i (k + 1))))) := same_put (H1 := H) nHM s6
        have g7 := g6.other (o := .lst (bl sz (mt sz i (k + 1)))) nRM nMrr
        generalize hH7 : upd H6 M (.lst (bl sz (mt sz i (k + 1)))) = H7 at s7 g7
        have eM7 : H7 M = some (.lst (bl sz (mt sz i (k + 1)))) := by rw [← hH7]; exact upd_same
        -- the sum
        refine ⟨_, rfl, c, rfl, ⟨cvs, .inl (.inl (s7 _ _ ec))⟩, fun D hD => ?_⟩
        generalize hf : (fun q : Int × Int => mt sz i (k + 1) q.1 != mt sz i (k + 1) q.2) = fF
        refine lc_tup (K := K) (a := c) (xs := cvs) (fun m H8 => H8 = upd H7 D (.lst ((fl fF (cs.take m)).map V.int))) rfl (fun m H8 _ pv => by subst pv; exact .inl (.inl (same_upd hD _ _ (s7 _ _ ec)))) (fun m x H8 hxm pv => ?_) (fun H8 pv => ?_)
        · subst pv
          obtain ⟨u, t, rfl, htm, hu⟩ := (tc.same s7).at_ hxm
          have ho := hG.ord t (List.mem_of_getElem? htm)
          have sD := same_upd (o := .lst ((fl fF (cs.take m)).map V.int)) hD
          have qu : SqT K (upd H7 D (.lst ((fl fF (cs.take m)).map V.int))) u (tv t) := .inl (.inl (sD _ _ hu))
          have qM : SqL K (upd H7 D (.lst ((fl fF (cs.take m)).map V.int))) M (bl sz (mt sz i (k + 1))) := .inl (.inl (sD _ _ eM7))
          have a0 : atI (tv t) 0 = some (.int t.1) := atI_nat (j := 0) rfl
          have a1 : atI (tv t) 1 = some (.int t.2.1) := atI_nat (j := 1) rfl
          have a2 : atI (tv t) 2 = some (.int t.2.2) := atI_nat (j := 2) rfl
          have etake : fl fF (cs.take (m + 1)) = if fF (pr t) = true then fl fF (cs.take m) ++ [t.2.2] else fl fF (cs.take m) := by
            rw [List.take_add_one, htm]
            exact fl_snoc fF (cs.take m) t
          have eF : fF (pr t) = (mt sz i (k + 1) t.1 != mt sz i (k + 1) t.2.1) := by rw [← hf]; rfl
          refine ⟨rfl, ?_⟩
          refine ⟨_, rfl, _, rfl, u, _, 0, _, rfl, rfl, qu, a0, M, _, _, _, rfl, rfl, qM, bl_at _ (by omega) (by omega), ?_⟩
          refine ⟨_, rfl, _, rfl, u, _, 1, _, rfl, rfl, qu, a1, M, _, _, _, rfl, rfl, qM, bl_at _ (by omega) (by omega), rfl, _, rfl, ?_⟩
          refine ite2 (fun e => ?_) (fun e => ?_)
          · have e1 : fF (pr t) = true := by rw [eF, ← ne_bl]; exact e
            refine ⟨_, rfl, u, _, 2, _, rfl, rfl, qu, a2, _, upd_same, ?_, ?_⟩
            · rw [List.length_map]
              refine Nat.lt_of_le_of_lt (Nat.le_trans (fl_len _ _) ?_) (small1000 hl)
              rw [List.length_take]
              exact Nat.min_le_right _ _
            · rw [upd_upd, etake, if_pos e1, List.map_append]
              rfl
          · have e1 : ¬ fF (pr t) = true := by rw [eF, ← ne_bl]; exact e
            rw [etake, if_neg e1]
        · subst pv
          rw [tc.1, List.take_length]
          have sD := same_upd (o := .lst ((fl fF cs).map V.int)) hD
          refine ⟨D, _, rfl, .inl (.inl upd_same), ?_⟩
          rw [fl_sum]
          have eT : bs fF cs = tabE cs i j := by
            unfold tabE
            refine bs_congr fun t ht => ?_
            have ho := hG.ord t ht
            rw [← hf]
            have := mt_sep (k := k) (show (0 : Int) ≤ i by omega) i1 hk1 (show 0 ≤ t.1 by omega) (by omega) (show 0 ≤ t.2.1 by omega) (by omega)
            rw [hj] at this
            exact this
          rw [eT]
          have g8 := g7.same sD
          obtain ⟨r1, e1, a1, h1⟩ := g8.get (a := (i : Int)) (by omega) (by omega)
          refine ⟨_, rfl, _, rfl, R, _, _, _, rfl, rfl, .inl (.inl g8.at_), a1, _, rfl, r1, _, _, _, rfl, rfl, h1, gl_ix _ j0 j1, ?_⟩
          have g9 := g8.set (v := tabE cs i j) (by omega) j0 j1 e1
          refine ⟨⟨some (.int (1 + (k : Int))), some (.int j), rfl⟩, same_put (H1 := H) (z.fr r1 (List.mem_of_getElem? e1)) (s7.trans sD), g9.congr fun x y x0 x1 y0 y1 => ?_, ?_⟩
          · have hm := mt_step (k := k) (show (0 : Int) ≤ i by omega) i1 y0 y1 hk1
            rw [hj] at hm
            rw [hm]
            by_cases q1 : x = (i : Int) ∧ y = j
            · rw [if_pos q1, if_pos (.inr ⟨q1.1, by rw [if_pos q1.2]⟩), q1.1, q1.2]
            · rw [if_neg q1]
              by_cases q2 : x < (i : Int) ∨ (x = (i : Int) ∧ mt sz i k y = true)
              · rw [if_pos q2]
                rcases q2 with q2 | q2
                · rw [if_pos (.inl q2)]
                · rw [if_pos (.inr ⟨q2.1, by
                    split
                    · rfl
                    · exact q2.2⟩)]
              · rw [if_neg q2, if_neg]
                rintro (q3 | ⟨q3, q4⟩)
                · exact q2 (.inl q3)
                · have : ¬ y = j := fun z => q1 ⟨q3, z⟩
                  rw [if_neg this] at q4
                  exact q2 (.inr ⟨q3, q4⟩)
          · have nMr : M ≠ r1 := fun z => nMrr (by rw [z]; exact List.mem_of_getElem? e1)
            rw [upd_ne nMr]
            exact sD _ _ eM7
      · obtain ⟨⟨y6, y7, rfl⟩, s6, g6, eM⟩ := pv
        refine ⟨⟨_, _, _, _, _, _, rfl⟩, s6, g6.congr fun x y x0 x1 y0 y1 => ?_⟩
        by_cases q1 : x < (i : Int)
        · rw [if_pos (.inl q1), if_pos (by omega)]
        · by_cases q2 : x = (i : Int)
          · rw [mt_all (show (0 : Int) ≤ i by omega) (by omega) y0 y1 (by omega), if_pos (show x < ((i + 1 : Nat) : Int) by omega)]
            by_cases q3 : y = (i : Int)
            · rw [if_neg (fun z => by
                rcases z with z | z
                · exact q1 z
                · exact of_decide_eq_true z.2 q3), q2, q3, tabE_same]
            · rw [if_pos (.inr ⟨q2, decide_eq_true q3⟩)]
          · rw [if_neg (fun z => by
              rcases z with z | z
              · exact q1 z
              · exact q2 z.1), if_neg (by omega)]
    -- the tuples
    obtain ⟨⟨y4, y5, y6, y7, y8, y9, rfl⟩, s4, g4⟩ := pv
    have g5 : Grid H4 R rr sz sz (tabE cs) := g4.congr fun x y x0 x1 y0 y1 => by rw [if_pos (by omega)]
    refine ⟨_, rfl, R, rfl, ⟨_, .inl (.inl g5.at_)⟩, fun O hO => ?_⟩
    refine lc_list (K := K) (a := R) (xs := rr.map V.ref) (fun i H5 => Same H4 H5 ∧ ∃ us : List Addr, H5 O = some (.lst (us.map V.ref)) ∧ us.length = i ∧ ∀ (j : Nat) (u : Addr), us[j]? = some u → H5 u = some (.tup (gl sz (tabE cs j)))) ⟨same_upd hO, [], upd_same, rfl, by simp⟩ (fun i H5 _ p => .inl (.inl (p.1 _ _ g5.at_))) (fun i x H5 hxi p => ?_) (fun H5 p => ?_)
    · obtain ⟨s5, us, eO, hul, hus⟩ := p
      obtain ⟨r, hri, rfl⟩ : ∃ r, rr[i]? = some r ∧ x = .ref r := by
        rw [List.getElem?_map] at hxi
        cases e : rr[i]? with
        | none => rw [e] at hxi; cases hxi
        | some r =>
          rw [e] at hxi
          exact ⟨r, rfl, (Option.some.inj hxi).symm⟩
      have hi0 : i < sz.toNat := by
        rw [← g5.len]
        exact (List.getElem?_eq_some_iff.mp hri).1
      refine ⟨rfl, ?_⟩
      refine ⟨_, rfl, r, _, rfl, .inl ⟨.inl (.inl (s5 _ _ (g5.row i r hri))), fun u nu => ?_⟩⟩
      have nuO : u ≠ O := fun z => by
        rw [z, eO] at nu
        cases nu
      refine ⟨_, same_upd nu _ _ eO, ?_, same_put (H1 := H4) hO (s5.trans (same_upd nu)), us ++ [u], ?_, ?_, ?_⟩
      · rw [List.length_map, hul]
        exact small1000 (by omega)
      · rw [upd_same, List.map_append]
        rfl
      · rw [List.length_append, hul]
        rfl
      · intro j v e
        by_cases hj : j < us.length
        · rw [List.getElem?_append_left hj] at e
          have h5 := hus j v e
          have hv : v ≠ O := fun z => by
            rw [z, eO] at h5
            cases h5
          rw [upd_ne hv]
          exact same_upd nu _ _ h5
        · rw [List.getElem?_append_right (by omega)] at e
          have hk : j - us.length = 0 := by
            cases hk : j - us.length with
            | zero => rfl
            | succ k =>
              rw [hk] at e
              simp at e
          rw [hk] at e
          obtain rfl : u = v := Option.some.inj e
          have ej : j = i := by omega
          subst ej
          rw [upd_ne nuO, upd_same]
    · obtain ⟨s5, us, eO, hul, hus⟩ := p
      rw [List.length_map, g5.len] at hul
      refine ⟨O, _, rfl, .inl ⟨.inl (.inl eO), fun a na => ?_⟩⟩
      refine q _ a ((s4.trans s5).trans (same_upd na)) ⟨_, upd_same, ?_, fun j hj => ?_⟩
      · rw [List.length_map, hul, hsz2]
      · rw [hsz2] at hj
        have hj2 : j < us.length := by omega
        refine ⟨us[j], ?_, ?_⟩
        · rw [List.getElem?_map, List.getElem?_eq_getElem hj2]
          rfl
        · rw [hsz2]
          exact same_upd na _ _ (hus j _ (List.getElem?_eq_getElem hj2))
end
end Own

namespace Own
open PySem PySem.Spec PyProof.Rows L2
/-! ### operators of an own class -/
section
variable {X : Cx} {CX : CXT} {k : Nat} {C g : Addr} {fd : FuncData} {ps : List Str} {sp : Sp} {E : XK}
def rOwnB (C : Addr) (sp : Sp) (E : XK) : R2 := fun x y H Q => ∃ a dx fs b dy gs, x = .ref a ∧ y = .ref b ∧ H a = some (.ins C dx fs) ∧ H b = some (.ins C dy gs) ∧ sp [.ref a, .ref b] H Q E
theorem op_ownB {op : Operator} (hc : PySem.W.selfFirst X.K C = true) (hs : PySem.W.findIn X.K (.ref C) (PySem.dunder op.info.2) = some (some (.ref g))) (hf : PySem.W.isFn X.K (.ref g) = true)
    (F : FnOk X.prog X.w X.K X.mg X.base CX k g fd ps sp) (hr : Room k X.A) (hb : Binds X.K fd ps []) (hx : Passes CX X E) : OpR X (binaryOp op) (rOwnB C sp E) := by
  intro pins s σ H x y v u Q I rx ry h
  obtain ⟨a, dx, fs, b, dy, gs, rfl, rfl, ha, hb', q⟩ := h
  cases (show v = Value.ref a from rx)
  cases (show u = Value.ref b from ry)
  obtain ⟨mA, O, _, _, _, _⟩ := ins_get I.hok ha
  obtain ⟨od, J, _⟩ := O.look
  obtain ⟨mB, O', _, _, _, _⟩ := ins_get I.hok hb'
  obtain ⟨od', J', _⟩ := O'.look
  obtain ⟨m, hF⟩ := I.fr
  refine PySem.W.binop_K hF I.ok.mod.kin J J'.type hc hs hf ?_
  refine wpAny_mono (run_fn (us := [.ref a, .ref b]) (vs := [.ref a, .ref b]) F hr hb .nil hx I (.cons rfl (.cons rfl .nil)) q) (fun w s' z => ?_) fun _ _ x => x
  obtain ⟨z', H', I', rz, qz⟩ := z
  exact SlX.cmpback rz ⟨z', H', I', rz, qz⟩
def rOwnI (C : Addr) (sp : Sp) (E : XK) : R2 := fun x y H Q => ∃ a dx fs i, x = .ref a ∧ y = .int i ∧ H a = some (.ins C dx fs) ∧ sp [.ref a, .int i] H Q E
theorem op_ownI {op : Operator} {fo ro rc : Option Value} (hc : PySem.W.selfFirst X.K C = true) (hs : PySem.W.findIn X.K (.ref C) (PySem.dunder op.info.2) = some (some (.ref g))) (hf : PySem.W.isFn X.K (.ref g) = true)
    (hR : PySem.W.findIn X.K (.ref C) (dunderR op.info.2) = some rc) (hp : rc = none ∨ ∃ g : Addr, rc = some (.ref g)) (h1 : PySem.W.findIn X.K (.type "int") (PySem.dunder op.info.2) = some fo) (h2 : PySem.W.findIn X.K (.type "int") (dunderR op.info.2) = some ro) (hsub : PySem.W.subIn X.K (.type "int") (.ref C) = some false)
    (F : FnOk X.prog X.w X.K X.mg X.base CX k g fd ps sp) (hr : Room k X.A) (hb : Binds X.K fd ps []) (hx : Passes CX X E) : OpR X (binaryOp op) (rOwnI C sp E) := by
  intro pins s σ H x y v u Q I rx ry h
  obtain ⟨a, dx, fs, i, rfl, rfl, ha, q⟩ := h
  cases (show v = Value.ref a from rx)
  obtain ⟨t, e⟩ := (show ∃ t, u = Value.int i t from ry)
  cases e
  obtain ⟨mA, O, _, _, _, _⟩ := ins_get I.hok ha
  obtain ⟨od, J, _⟩ := O.look
  obtain ⟨m, hF⟩ := I.fr
  refine PySem.W.ksp_binT (T := "int") hF I.ok.mod.kin J rfl hc hs hf hR hp h1 h2 hsub ?_
  refine wpAny_mono (run_fn (us := [.ref a, .int i t]) (vs := [.ref a, .int i]) F hr hb .nil hx I (.cons rfl (.cons ⟨t, rfl⟩ .nil)) q) (fun w s' z => ?_) fun _ _ x => x
  obtain ⟨z', H', I', rz, qz⟩ := z
  exact SlX.cmpback rz ⟨z', H', I', rz, qz⟩
end
end Own

namespace Own
open PySem PySem.Spec PyProof.Rows L2
theorem TrV.app {H : Hp} {vs us : List V} {l m : List Tr} (h : TrV H vs l) (k : TrV H us m) : TrV H (vs ++ us) (l ++ m) := by
  refine ⟨by rw [List.length_append, List.length_append, h.1, k.1], fun i t e => ?_⟩
  by_cases hi : i < l.length
  · rw [List.getElem?_append_left hi] at e
    rw [List.getElem?_append_left (by rw [h.1]; exact hi)]
    exact h.2 i t e
  · rw [List.getElem?_append_right (by omega)] at e
    rw [List.getElem?_append_right (by rw [h.1]; omega), h.1]
    exact k.2 _ t e
section
variable {P : Program} {w : World} {K : PySem.W.Frag} {mg : Str → Option Value} {base : Heap} {C : Addr}
theorem rd_make2 {n : Int} {a : Addr} {xs : List V} {l : List Tr} {H : Hp} {R : VK} {x dx : Addr} (hn : 0 ≤ n) (hB : SqB K H a xs) (hx : TrV H xs l) (hv : ∀ t ∈ l, Vld n t) (hl : l.length ≤ 1000) (nx : H x = none) (nd : H dx = none) (ne : dx ≠ x)
    (q : ∀ H' cs, Same H H' → LotAt C H' x n cs → IsNorm l cs → R .non H') : spInit K C (.ref x :: ([.int n, .ref a] ++ [])) (upd (upd H dx (.own x)) x (.ins C dx [])) R E0 := by
  have h := rd_make (C := C) (Q := fun v H' => v = V.ref x → R .non H') hn hB hx hv hl (fun H' y cs s hL hN e => by cases e; exact q H' cs s hL hN) x dx nx nd ne
  obtain ⟨p, dx', n', a', xs', l', e, h1, h2, h3, h4, h5, h6, h7⟩ := h
  exact ⟨p, dx', n', a', xs', l', e, h1, h2, h3, h4, h5, h6, fun H' c r k1 k2 k3 k4 => (h7 H' c r k1 k2 k3 k4).2 rfl⟩
def spLike : Sp := fun vs H Q _ => ∃ n : Int, vs = [.int n, .int n] ∧ Q .non H
theorem ok_like {f : Addr} {fd : FuncData} (F : Fun K "check_like" "check_like" s_check_like f fd) : FnOk P w K mg base CX0 1 f fd ["one", "other"] spLike := by
  refine F.ok sc_check_like (fun vs H Q E h => ?_) (fun cdv A outer s H vs Q E hr h => ?_)
  · obtain ⟨n, rfl, _⟩ := h
    rfl
  · obtain ⟨n, rfl, q⟩ := h
    refine ⟨_, (pss_one (ps_if (pt_cmpR op_ne (pv 0) (pv 1) (nomark _)) (pss_one ps_never) pss_nil)), ?_⟩
    refine ⟨_, rfl, _, rfl, rfl, _, rfl, ?_⟩
    rw [show (!decide (V.int n = V.int n)) = false by rw [decide_eq_true rfl]; rfl]
    exact q
def spCkNum : Sp := fun vs H Q _ => ∃ x l : Int, vs = [.int x, .int l] ∧ l ≤ x ∧ Q .non H
theorem ok_cknum {f : Addr} {fd : FuncData} (F : Fun K "check_number" "check_number" s_check_number f fd) (T : Bi mg) {f_w : Addr} {d_w : FuncData} (D_w : Df K mg "is_whole" s_is_whole ["value"] f_w d_w) : FnOk P w K mg base CX0 2 f fd ["number", "least"] spCkNum := by
  have G_w : FnOk P w K mg base CX0 1 f_w d_w ["value"] spWhole := ok_whole D_w.F T
  refine F.ok sc_check_number (fun vs H Q E h => ?_) (fun cdv A outer s H vs Q E hr h => ?_)
  · obtain ⟨x, l, rfl, _⟩ := h
    rfl
  · obtain ⟨x, l, rfl, h0, q⟩ := h
    refine ⟨_, (pss_one (ps_if (PW.pt (pw_or (pt_not (pt_val (pe_call G_w hr (by rfl) D_w.g D_w.F.kp D_w.b .nil pass0 (pa_cons (pv 0) pa_nil)))) (pw_or1 (pt_cmpR op_lt (pv 0) (pv 1) (nomark _))))) (pss_one ps_never) pss_nil)), ?_⟩
    refine ⟨_, rfl, x, rfl, true, rfl, ?_⟩
    refine ⟨_, rfl, _, rfl, x, l, rfl, rfl, _, rfl, ?_⟩
    rw [decide_eq_false (by omega)]
    exact q
def spAdd (C : Addr) : Sp := fun vs H Q _ => ∃ (p o : Addr) (n : Int) (cs ds : List Tr), vs = [.ref p, .ref o] ∧ LotAt C H p n cs ∧ LotAt C H o n ds ∧ 0 ≤ n ∧ (∀ t ∈ cs, Vld n t) ∧ (∀ t ∈ ds, Vld n t) ∧ cs.length + ds.length ≤ 1000 ∧ ∀ H' x r, Same H H' → LotAt C H' x n r → IsNorm (cs ++ ds) r → Q (.ref x) H'
theorem ok_add {f : Addr} {fd : FuncData} (F : Fun K "__add__" "Lot.__add__" s_Lot_add f fd) (L : LotC K mg C) {z f_i : Addr} {d_i : FuncData} (M : Mk K C f_i) (b_i : Binds K d_i ["self", "pins", "cords"] []) (b_1 : Binds K d_i ["self", "pins", "cords"] [.ref z]) (G_i : GI P w K mg base C f_i d_i) {f_k : Addr} {d_k : FuncData} (D_k : Df K mg "check_like" s_check_like ["one", "other"] f_k d_k) (G_k : FnOk P w K mg base CX0 1 f_k d_k ["one", "other"] spLike) : FnOk P w K mg base CX0 7 f fd ["self", "other"] (spAdd C) := by
  refine F.ok sc_Lot_add (fun vs H Q E h => ?_) (fun cdv A outer s H vs Q E hr h => ?_)
  · obtain ⟨p, o, n, cs, ds, rfl, _⟩ := h
    rfl
  · obtain ⟨p, o, n, cs, ds, rfl, hp, ho, n0, vc, vd, hl, q⟩ := h
    refine ⟨_, (pss_cons (ps_expr (pe_call G_k (hr.mono (by decide)) (by rfl) D_k.g D_k.F.kp D_k.b .nil pass0 (pa_cons (pe_fld (pv 0) rfl) (pa_cons (pe_fld (pv 1) rfl) pa_nil))))
        (pss_one (ps_ret (pe_make M G_i hr (by rfl) L.g b_i .nil pass0 (pa_cons (pe_fld (pv 0) rfl) (pa_cons (pe_op op_catA (pe_fld (pv 0) rfl) (pe_fld (pv 1) rfl)) pa_nil)))))), ?_⟩
    obtain ⟨dx, c, e, xs, ex, tx⟩ := hp
    obtain ⟨dy, d, e2, ys, ey, ty⟩ := ho
    refine ⟨_, rfl, p, C, dx, _, _, rfl, e, L.cl, L.nP, flds_pins _ _, _, rfl, o, C, dy, _, _, rfl, e2, L.cl, L.nP, flds_pins _ _, n, rfl, ?_⟩
    refine ⟨_, rfl, p, C, dx, _, _, rfl, e, L.cl, L.nP, flds_pins _ _, _, rfl, p, C, dx, _, _, rfl, e, L.cl, L.nC, flds_cords _ _, _, rfl, o, C, dy, _, _, rfl, e2, L.cl, L.nC, flds_cords _ _, c, d, xs, ys, rfl, rfl, .inl (.inl ex), .inl (.inl ey), ?_, fun hx => ?_, fun hx hy => ?_, fun hx hy u nu => ?_⟩
    · rw [tx.1, ty.1]
      exact Nat.le_trans hl (by decide)
    · have : cs = [] := List.eq_nil_of_length_eq_zero (by rw [← tx.1, hx]; rfl)
      subst this
      exact rd_make n0 (.inr (.inl (.inl ey))) ty vd (by omega) fun H2 x r s3 hLt hN => q H2 x r s3 hLt hN
    · have : ds = [] := List.eq_nil_of_length_eq_zero (by rw [← ty.1, hy]; rfl)
      subst this
      rw [List.append_nil] at q
      exact rd_make n0 (.inr (.inl (.inl ex))) tx vc (by omega) fun H2 x r s3 hLt hN => q H2 x r s3 hLt hN
    · have su : Same H (upd H u (.tup (xs ++ ys))) := same_upd nu
      refine rd_make n0 (.inr (.inl (.inl upd_same))) ((tx.same su).app (ty.same su)) (fun t ht => ?_) (by rw [List.length_append]; exact hl) fun H2 x r s3 hLt hN => q H2 x r (su.trans s3) hLt hN
      rcases List.mem_append.mp ht with h | h
      · exact vc t h
      · exact vd t h
def tms (k : Int) (l : List Tr) : List Tr := l.map fun t => (t.1, t.2.1, t.2.2 * k)
def mulE (k : Int) (l : List Tr) : List Tr := if k = 0 then [] else tms k l
def spMul (C : Addr) : Sp := fun vs H Q _ => ∃ (p : Addr) (k n : Int) (cs : List Tr), vs = [.ref p, .int k] ∧ LotAt C H p n cs ∧ 0 ≤ n ∧ 0 ≤ k ∧ (∀ t ∈ cs, Vld n t) ∧ (∀ t ∈ cs, CMul t.2.2 k) ∧ cs.length ≤ 1000 ∧ ∀ H' x r, Same H H' → LotAt C H' x n r → IsNorm (mulE k cs) r → Q (.ref x) H'
theorem ok_mul {f : Addr} {fd : FuncData} (F : Fun K "__mul__" "Lot.__mul__" s_Lot_mul f fd) (L : LotC K mg C) {z f_i : Addr} {d_i : FuncData} (M : Mk K C f_i) (b_i : Binds K d_i ["self", "pins", "cords"] []) (b_1 : Binds K d_i ["self", "pins", "cords"] [.ref z]) (G_i : GI P w K mg base C f_i d_i) (hz : ∀ H, SqT K H z []) {f_k : Addr} {d_k : FuncData} (D_k : Df K mg "check_number" s_check_number ["number", "least"] f_k d_k) (G_k : FnOk P w K mg base CX0 2 f_k d_k ["number", "least"] spCkNum) : FnOk P w K mg base CX0 7 f fd ["self", "number"] (spMul C) := by
  refine F.ok sc_Lot_mul (fun vs H Q E h => ?_) (fun cdv A outer s H vs Q E hr h => ?_)
  · obtain ⟨p, k, n, cs, rfl, _⟩ := h
    rfl
  · obtain ⟨p, k, n, cs, rfl, hp, n0, k0, vc, vm, hl, q⟩ := h
    refine ⟨_, (pss_cons (ps_expr (pe_call G_k (hr.mono (by decide)) (by rfl) D_k.g D_k.F.kp D_k.b .nil pass0 (pa_cons (pv 1) (pa_cons pe_int pa_nil))))
        (pss_cons (ps_if (pt_cmpR op_eq (pv 1) pe_int (nomark _)) (pss_one (ps_ret (pe_make M G_i hr (by rfl) L.g b_1 (show Vals [V.ref z] [Value.ref z] from .cons rfl .nil) pass0 (pa_cons (pe_fld (pv 0) rfl) pa_nil)))) pss_nil)
        (pss_one (ps_ret (pe_make M G_i hr (by rfl) L.g b_i .nil pass0 (pa_cons (pe_fld (pv 0) rfl) (pa_cons (pe_lc (own := [("a", 2), ("b", 3), ("many", 4)]) (g := gTup K 3 (gCons (gName 2) (gCons (gName 3) (gCons (gName 4) gNil)))) (tt := tYes) rfl sc_Lot_mul.nd (pi_tup (pe_fld (pv 0) rfl)) (blkOk_by (own := [("a", 2), ("b", 3), ("many", 4)]) (N := ["self", "number", "a", "b", "many"]) (sc := defScope s_Lot_mul) (by decide +kernel)) (fun _ _ _ _ _ => (pg_tup (by rfl) (pgs_cons (pg_name (i := 2) sc_Lot_mul.nd rfl (.inl rfl)) (pgs_cons (pg_name (i := 3) sc_Lot_mul.nd rfl (.inl rfl)) (pgs_cons (pg_name (i := 4) sc_Lot_mul.nd rfl (.inl rfl)) pgs_nil))))) (fun _ _ _ _ _ => pts_nil) (fun _ _ _ _ _ => (pe_tup (pa_cons (pv 2) (pa_cons (pv 3) (pa_cons (pe_op op_mul (pv 4) (pv 1)) pa_nil)))))) pa_nil))))))), ?_⟩
    obtain ⟨dx, c, e, xs, ex, tx⟩ := hp
    refine ⟨_, rfl, k, 0, rfl, k0, _, rfl, rfl, _, rfl, ite2 (fun z => ?_) (fun z => ?_)⟩
    · have hk : k = 0 := by
        have := of_decide_eq_true z
        exact V.int.inj this
      refine ⟨_, rfl, p, C, dx, _, _, rfl, e, L.cl, L.nP, flds_pins _ _, ?_⟩
      refine rd_make (l := []) n0 (.inr (hz H)) TrV.nil (by simp) (Nat.zero_le _) fun H2 x r s3 hLt hN => q H2 x r s3 hLt ?_
      unfold mulE
      rw [if_pos hk]
      exact hN
    · have hk : k ≠ 0 := fun e => z (decide_eq_true (by rw [e]))
      refine ⟨_, rfl, p, C, dx, _, _, rfl, e, L.cl, L.nP, flds_pins _ _, ?_⟩
      refine ⟨_, rfl, p, C, dx, _, _, rfl, e, L.cl, L.nC, flds_cords _ _, c, rfl, ⟨xs, .inl (.inl ex)⟩, fun D hD => ?_⟩
      refine lc_tup (K := K) (a := c) (xs := xs) (fun i H2 => Same H H2 ∧ ∃ ws, H2 D = some (.lst ws) ∧ TrV H2 ws ((tms k cs).take i)) ⟨same_upd hD, [], upd_same, TrV.nil⟩ (fun i H2 _ p => .inl (.inl (p.1 _ _ ex))) (fun i x H2 hxi pv => ?_) (fun H2 pv => ?_)
      · obtain ⟨s2, ws, eD, tV⟩ := pv
        obtain ⟨u, t, rfl, hti, hu⟩ := (tx.same s2).at_ hxi
        refine ⟨u, _, rfl, .inl (.inl hu), rfl, _, _, rfl, _, _, rfl, _, _, rfl, rfl, rfl, ?_⟩
        refine ⟨_, rfl, _, rfl, _, rfl, _, rfl, _, _, rfl, rfl, vm t (List.mem_of_getElem? hti), by show 3 ≤ sizeLine; decide, fun p2 np2 => ?_⟩
        have s3 := same_upd (o := .tup [.int t.1, .int t.2.1, .int (t.2.2 * k)]) np2
        have hri : (tms k cs)[i]? = some (t.1, t.2.1, t.2.2 * k) := by
          unfold tms
          rw [List.getElem?_map, hti]
          rfl
        refine ⟨ws, s3 _ _ eD, ?_, same_put (H1 := H) hD (s2.trans s3), _, upd_same, ?_⟩
        · rw [tV.1, List.length_take]
          have : (tms k cs).length = cs.length := List.length_map _
          exact Nat.lt_of_le_of_lt (Nat.min_le_right _ _) (small1000 (by omega))
        · rw [List.take_add_one, hri]
          have nD : p2 ≠ D := fun z => by
            rw [z, eD] at np2
            cases np2
          refine (tV.sameT (sameT_put eD s3)).snoc ?_
          rw [upd_ne nD, upd_same]
      · obtain ⟨s2, ws, eD, tV⟩ := pv
        have hlen : xs.length = (tms k cs).length := by
          rw [tx.1]
          exact (List.length_map _).symm
        rw [hlen, List.take_length] at tV
        refine rd_make n0 (.inl (.inl (.inl eD))) tV (fun t ht => ?_) (by rw [← hlen, tx.1]; exact hl) fun H3 x r s3 hLt hN => q H3 x r (s2.trans s3) hLt ?_
        · obtain ⟨t0, h0, rfl⟩ := List.mem_map.mp ht
          obtain ⟨v0, v1, v2, v3, v4, v5⟩ := vc t0 h0
          refine ⟨v0, v1, v2, v3, v4, ?_⟩
          show 1 ≤ t0.2.2 * k
          have := Int.mul_pos (show 0 < t0.2.2 by omega) (show 0 < k by omega)
          omega
        · unfold mulE
          rw [if_neg hk]
          exact hN
def spTab2 (C : Addr) : Sp := fun vs H Q _ => ∃ (p : Addr) (n : Int) (cs : List Tr), vs = [.ref p] ∧ LotAt C H p n cs ∧ 0 ≤ n ∧ n ≤ 1000 ∧ Good n cs ∧ ∀ H' u, Same H H' → TabAt H' u (hi n 1) (tabE cs) → Q (.ref u) H'
theorem ok_tabof {f : Addr} {fd : FuncData} (F : Fun K "table_of" "table_of" s_table_of f fd) (L : LotC K mg C) {f_t : Addr} {d_t : FuncData} (D_t : Df K mg "table_rows" s_table_rows ["pins", "cords"] f_t d_t) (G_t : FnOk P w K mg base CX0 2 f_t d_t ["pins", "cords"] spTable) : FnOk P w K mg base CX0 3 f fd ["lot"] (spTab C) := by
  refine F.ok sc_table_of (fun vs H Q E h => ?_) (fun cdv A outer s H vs Q E hr h => ?_)
  · obtain ⟨p, n, cs, rfl, _⟩ := h
    rfl
  · obtain ⟨p, n, cs, rfl, hL, n0, n1, hG, q⟩ := h
    refine ⟨_, (pss_one (ps_ret (pe_call G_t hr (by rfl) D_t.g D_t.F.kp D_t.b .nil pass0 (pa_cons (pe_fld (pv 0) rfl) (pa_cons (pe_fld (pv 0) rfl) pa_nil))))), ?_⟩
    obtain ⟨dx, c, e, t⟩ := hL
    exact ⟨_, rfl, p, C, dx, _, _, rfl, e, L.cl, L.nP, flds_pins _ _, _, rfl, p, C, dx, _, _, rfl, e, L.cl, L.nC, flds_cords _ _, n, c, cs, rfl, n0, n1, t, hG, q⟩
end
end Own

namespace Own
open PySem PySem.Spec PyProof.Rows L2
def rLenS (K : PySem.W.Frag) : List V → Hp → VK → Prop := fun xs H Q => ∃ p ys, xs = [V.ref p] ∧ (SqL K H p ys ∨ SqT K H p ys) ∧ Q (.int (ys.length : Int)) H
theorem cr_lenS {X : Cx} : CallR X (.builtin "len") (rLenS X.K) := call_len_seq
theorem gl_nat {n : Int} (f : Int → Int) {i : Nat} (h : i < n.toNat) : (gl n f)[i]? = some (.int (f (0 + (i : Int)))) := by
  unfold gl
  rw [List.getElem?_map, List.getElem?_range h, Int.zero_add]
  rfl
theorem gl_atI {n x : Int} (g : Int → Int) (h0 : 0 ≤ x) (h1 : x < n) : atI (gl n g) x = some (.int (g x)) := by
  obtain ⟨k, rfl⟩ : ∃ k : Nat, x = (k : Int) := ⟨x.toNat, by omega⟩
  refine atI_nat ?_
  unfold gl
  rw [List.getElem?_map, List.getElem?_range (by omega)]
  rfl
theorem TabAt.row {H : Hp} {a : Addr} {sz x : Int} {f : Int → Int → Int} (h : TabAt H a sz f) (h0 : 0 ≤ x) (h1 : x < sz) : ∃ r, (∃ vs, H a = some (.tup vs) ∧ atI vs x = some (.ref r)) ∧ H r = some (.tup (gl sz (f x))) := by
  obtain ⟨vs, e, l, r⟩ := h
  obtain ⟨k, rfl⟩ : ∃ k : Nat, x = (k : Int) := ⟨x.toNat, by omega⟩
  obtain ⟨b, e1, e2⟩ := r k (by omega)
  exact ⟨b, ⟨vs, e, atI_nat e1⟩, e2⟩
/-- a table that is built row by row in the list at O -/
structure TInv (Hb : Hp) (O : Addr) (sz : Int) (h : Int → Int → Int) (i : Nat) (H : Hp) : Prop where
  same : Same Hb H
  rows : ∃ us : List Addr, H O = some (.lst (us.map V.ref)) ∧ us.length = i ∧ ∀ (j : Nat) (u : Addr), us[j]? = some u → H u = some (.tup (gl sz (h (j : Int))))
theorem TInv.start {Hb : Hp} {O : Addr} {sz : Int} {h : Int → Int → Int} (n : Hb O = none) : TInv Hb O sz h 0 (upd Hb O (.lst [])) := ⟨same_upd n, [], upd_same, rfl, by simp⟩
theorem TInv.step {Hb H H6 : Hp} {O w : Addr} {sz : Int} {h : Int → Int → Int} {i : Nat} (t : TInv Hb O sz h i H) (n : Hb O = none) (s : Same H H6) (nw : H6 w = none) :
    ∃ us : List Addr, (upd H6 w (.tup (gl sz (h (i : Int))))) O = some (.lst (us.map V.ref)) ∧ us.length = i ∧ TInv Hb O sz h (i + 1) (upd (upd H6 w (.tup (gl sz (h (i : Int))))) O (.lst (us.map V.ref ++ [.ref w]))) := by
  obtain ⟨us, eO, hl, hr⟩ := t.rows
  have e6 := s _ _ eO
  have nwO : w ≠ O := fun z => by
    rw [z, e6] at nw
    cases nw
  have sw : Same H6 (upd H6 w (.tup (gl sz (h (i : Int))))) := same_upd nw
  refine ⟨us, sw _ _ e6, hl, same_put (H1 := Hb) n ((t.same.trans s).trans sw), us ++ [w], ?_, ?_, fun j v e => ?_⟩
  · rw [upd_same, List.map_append]
    rfl
  · rw [List.length_append, hl]
    rfl
  · by_cases hj : j < us.length
    · rw [List.getElem?_append_left hj] at e
      have h5 := hr j v e
      have hv : v ≠ O := fun z => by
        rw [z, eO] at h5
        cases h5
      rw [upd_ne hv]
      exact sw _ _ (s _ _ h5)
    · rw [List.getElem?_append_right (by omega)] at e
      have hk : j - us.length = 0 := by
        cases hk : j - us.length with
        | zero => rfl
        | succ k =>
          rw [hk] at e
          simp at e
      rw [hk] at e
      obtain rfl : w = v := Option.some.inj e
      have ej : j = i := by omega
      subst ej
      rw [upd_ne nwO, upd_same]
theorem TInv.tab {Hb H : Hp} {O : Addr} {sz : Int} {h : Int → Int → Int} (t : TInv Hb O sz h sz.toNat H) (n : Hb O = none) :
    ∃ us : List Addr, H O = some (.lst (us.map V.ref)) ∧ ∀ c, H c = none → TabAt (upd H c (.tup (us.map V.ref))) c sz h := by
  obtain ⟨us, eO, hl, hr⟩ := t.rows
  refine ⟨us, eO, fun c nc => ⟨_, upd_same, by rw [List.length_map]; exact hl, fun j hj => ?_⟩⟩
  have hj2 : j < us.length := by omega
  refine ⟨us[j], by rw [List.getElem?_map, List.getElem?_eq_getElem hj2]; rfl, same_upd nc _ _ (hr j _ (List.getElem?_eq_getElem hj2))⟩
theorem EqV.tab {H : Hp} {a b : Addr} {sz : Int} {f g : Int → Int → Int} (ha : TabAt H a sz f) (hb : TabAt H b sz g) (hs : sz ≤ 1000) (e : ∀ x y, 0 ≤ x → x < sz → 0 ≤ y → y < sz → f x y = g x y) : EqV 2 H (.ref a) (.ref b) := by
  obtain ⟨vs, e1, l1, r1⟩ := ha
  obtain ⟨us, e2, l2, r2⟩ := hb
  refine .inr ⟨a, b, vs, us, rfl, rfl, e1, e2, by rw [l1, l2], by omega, fun i x y hx hy => ?_⟩
  have hi : i < sz.toNat := by
    rw [← l1]
    exact (List.getElem?_eq_some_iff.mp hx).1
  obtain ⟨p, h1, h2⟩ := r1 i hi
  obtain ⟨q, h3, h4⟩ := r2 i hi
  rw [h1] at hx
  rw [h3] at hy
  obtain rfl := Option.some.inj hx
  obtain rfl := Option.some.inj hy
  refine .inr ⟨p, q, _, _, rfl, rfl, h2, h4, by rw [gl_len, gl_len], by rw [gl_len]; omega, fun k x y hx hy => ?_⟩
  have hk : k < sz.toNat := by
    have := (List.getElem?_eq_some_iff.mp hx).1
    rw [gl_len] at this
    exact this
  rw [gl_nat _ hk] at hx hy
  refine ⟨f i (0 + (k : Int)), (Option.some.inj hx).symm, ?_⟩
  rw [e _ _ (by omega) (by omega) (by omega) (by omega)]
  exact (Option.some.inj hy).symm
section
variable {P : Program} {w : World} {K : PySem.W.Frag} {mg : Str → Option Value} {base : Heap} {C : Addr}
def spSum : Sp := fun vs H Q _ => ∃ (u v : Addr) (sz : Int) (f g : Int → Int → Int), vs = [.ref u, .ref v] ∧ TabAt H u sz f ∧ TabAt H v sz g ∧ 0 ≤ sz ∧ sz ≤ 1000 ∧ ∀ H' p, Same H H' → TabAt H' p sz (fun x y => f x y + g x y) → Q (.ref p) H'
theorem ok_sum {f : Addr} {fd : FuncData} (F : Fun K "_law_sum" "_law_sum" s__law_sum f fd) (T : Bi mg) : FnOk P w K mg base CX0 1 f fd ["_law_one", "_law_two"] spSum := by
  refine F.ok sc__law_sum (fun vs H Q E h => ?_) (fun cdv A outer s H vs Q E hr h => ?_)
  · obtain ⟨u, v, sz, f, g, rfl, _⟩ := h
    rfl
  · obtain ⟨u, v, sz, f, g, rfl, h1, h2, z0, z1, q⟩ := h
    refine ⟨_, (pss_one (ps_ret (pe_callTy (r := rTupOf K) cr_tupOf (by rfl) T.b_tuple (by decide +kernel) (pa_cons (pe_lc (own := [("_law_i", 2)]) (g := gName 2) (tt := tYes) rfl sc__law_sum.nd (pi_range1 (by rfl) T.b_range (pa_cons (pe_callB (r := rLenS K) cr_lenS (by rfl) T.b_len PySem.boot_len (pa_cons (pv 0) pa_nil)) pa_nil)) (blkOk_by (own := [("_law_i", 2)]) (N := ["_law_one", "_law_two", "_law_i", "_law_j"]) (sc := defScope s__law_sum) (by decide +kernel)) (fun _ _ _ _ _ => pg_name (i := 2) sc__law_sum.nd rfl (Or.inr rfl)) (fun _ _ _ _ _ => pts_nil) (fun _ _ _ _ _ => (show PE _ _ (tCB (rTupOf K) (tCons (tLc (iRng1 (tCons (tCB (rLenS K) (tCons (tVar 0) tNil)) tNil)) (gName 3) tYes (tOp (rI0 fun i j => V.int (i + j)) (tOp (rIxT K) (tOp (rIxT K) (tVar 0) (tVar 2)) (tVar 3)) (tOp (rIxT K) (tOp (rIxT K) (tVar 1) (tVar 2)) (tVar 3))) [3]) tNil)) from pe_callTy (r := rTupOf K) cr_tupOf (by rfl) T.b_tuple (by decide +kernel) (pa_cons (pe_lc (own := [("_law_j", 3)]) (g := gName 3) (tt := tYes) rfl sc__law_sum.nd (pi_range1 (by rfl) T.b_range (pa_cons (pe_callB (r := rLenS K) cr_lenS (by rfl) T.b_len PySem.boot_len (pa_cons (pv 0) pa_nil)) pa_nil)) (blkOk_by (own := [("_law_j", 3)]) (N := ["_law_one", "_law_two", "_law_i", "_law_j"]) (sc := { kind := .function, names := [(".0", .local), ("_law_i", .cell), ("tuple", .globalImplicit), ("range", .globalImplicit), ("len", .globalImplicit), ("_law_one", .cell), ("_law_two", .cell)], isGenerator := false, isCoroutine := false }) (by decide +kernel)) (fun _ _ _ _ _ => pg_name (i := 3) sc__law_sum.nd rfl (Or.inl rfl)) (fun _ _ _ _ _ => pts_nil) (fun _ _ _ _ _ => (show PE _ _ (tOp (rI0 fun i j => V.int (i + j)) (tOp (rIxT K) (tOp (rIxT K) (tVar 0) (tVar 2)) (tVar 3)) (tOp (rIxT K) (tOp (rIxT K) (tVar 1) (tVar 2)) (tVar 3))) from pe_op op_add (pe_ix (r := rIxT K) ix_tup (pe_ix (r := rIxT K) ix_tup (pv 0) (pv 2) (fun _ _ => rfl)) (pv 3) (fun _ _ => rfl)) (pe_ix (r := rIxT K) ix_tup (pe_ix (r := rIxT K) ix_tup (pv 1) (pv 2) (fun _ _ => rfl)) (pv 3) (fun _ _ => rfl))))) pa_nil)))) pa_nil)))), ?_⟩
    obtain ⟨vs1, e1, l1, r1⟩ := id h1
    have fs : ((sz.toNat : Nat) : Int) = sz := by omega
    refine ⟨_, rfl, u, vs1, rfl, .inr (.inl (.inl e1)), ?_⟩
    rw [l1, fs]
    refine ⟨sz, rfl, by omega, by omega, fun O hO => ?_⟩
    refine lc_range (lo := 0) (n := sz.toNat) (fun i H5 => TInv H O sz (fun x y => f x y + g x y) i H5) (TInv.start hO) (fun i H5 hi pv => ?_) (fun H5 pv => ?_)
    · refine ⟨rfl, ?_⟩
      have s5 := pv.same
      refine ⟨_, rfl, u, vs1, rfl, .inr (.inl (.inl (s5 _ _ e1))), ?_⟩
      rw [l1, fs]
      refine ⟨sz, rfl, by omega, by omega, fun M hM => ?_⟩
      refine lc_range (lo := 0) (n := sz.toNat) (fun k H6 => H6 = upd H5 M (.lst ((gl sz ((fun x y => f x y + g x y) (0 + (i : Int)))).take k))) rfl (fun k H6 hk p6 => ?_) (fun H6 p6 => ?_)
      · subst p6
        refine ⟨rfl, ?_⟩
        have s6 : Same H (upd H5 M (.lst ((gl sz ((fun x y => f x y + g x y) (0 + (i : Int)))).take k))) := s5.trans (same_upd hM)
        have x0 : 0 ≤ 0 + (i : Int) ∧ 0 + (i : Int) < sz := by omega
        have y0 : 0 ≤ 0 + (k : Int) ∧ 0 + (k : Int) < sz := by omega
        obtain ⟨ra, ea, ha⟩ := TabAt.row (h1.same s6) x0.1 x0.2
        obtain ⟨rb, eb, hb⟩ := TabAt.row (h2.same s6) x0.1 x0.2
        obtain ⟨vs2, e2, l2, r2⟩ := id h2
        obtain ⟨wa, fa, ea⟩ := ea
        obtain ⟨wb, fb, eb⟩ := eb
        refine ⟨_, rfl, _, rfl, u, _, _, _, rfl, rfl, .inl (.inl fa), ea, _, rfl, ra, _, _, _, rfl, rfl, .inl (.inl ha), gl_atI _ y0.1 y0.2, _, rfl, _, rfl, v, _, _, _, rfl, rfl, .inl (.inl fb), eb, _, rfl, rb, _, _, _, rfl, rfl, .inl (.inl hb), gl_atI _ y0.1 y0.2, _, _, rfl, rfl, _, upd_same, ?_, ?_⟩

        · rw [List.length_take, gl_len]
          exact Nat.lt_of_le_of_lt (Nat.min_le_right _ _) (small1000 (by omega))
        · rw [upd_upd, List.take_add_one, gl_nat _ hk]
          rfl
      · subst p6
        rw [List.take_of_length_le (by rw [gl_len]; exact Nat.le_refl _), Int.zero_add]
        refine ⟨M, _, rfl, .inl ⟨.inl (.inl upd_same), fun w nw => ?_⟩⟩
        obtain ⟨us, eO, hl, st⟩ := pv.step hO (same_upd hM) nw
        refine ⟨_, eO, ?_, st⟩
        rw [List.length_map, hl]
        exact small1000 (by omega)
    · obtain ⟨us, eO, ht⟩ := pv.tab hO
      refine ⟨O, _, rfl, .inl ⟨.inl (.inl eO), fun c nc => ?_⟩⟩
      exact q _ c (pv.same.trans (same_upd nc)) (ht c nc)
def spTimes : Sp := fun vs H Q _ => ∃ (u : Addr) (k sz : Int) (f : Int → Int → Int), vs = [.ref u, .int k] ∧ TabAt H u sz f ∧ -(2 ^ 64) < k ∧ k < 2 ^ 64 ∧ 0 ≤ sz ∧ sz ≤ 1000 ∧ ∀ H' p, Same H H' → TabAt H' p sz (fun x y => f x y * k) → Q (.ref p) H'
theorem ok_times {f : Addr} {fd : FuncData} (F : Fun K "_law_times" "_law_times" s__law_times f fd) (T : Bi mg) : FnOk P w K mg base CX0 1 f fd ["_law_one", "_law_factor"] spTimes := by
  refine F.ok sc__law_times (fun vs H Q E h => ?_) (fun cdv A outer s H vs Q E hr h => ?_)
  · obtain ⟨u, k, sz, f, rfl, _⟩ := h
    rfl
  · obtain ⟨u, k0, sz, f, rfl, h1, ka, kb, z0, z1, q⟩ := h
    have hk1 := And.intro ka kb
    refine ⟨_, (pss_one (ps_ret (pe_callTy (r := rTupOf K) cr_tupOf (by rfl) T.b_tuple (by decide +kernel) (pa_cons (pe_lc (own := [("_law_i", 2)]) (g := gName 2) (tt := tYes) rfl sc__law_times.nd (pi_range1 (by rfl) T.b_range (pa_cons (pe_callB (r := rLenS K) cr_lenS (by rfl) T.b_len PySem.boot_len (pa_cons (pv 0) pa_nil)) pa_nil)) (blkOk_by (own := [("_law_i", 2)]) (N := ["_law_one", "_law_factor", "_law_i", "_law_j"]) (sc := defScope s__law_times) (by decide +kernel)) (fun _ _ _ _ _ => pg_name (i := 2) sc__law_times.nd rfl (Or.inr rfl)) (fun _ _ _ _ _ => pts_nil) (fun _ _ _ _ _ => (show PE _ _ (tCB (rTupOf K) (tCons (tLc (iRng1 (tCons (tCB (rLenS K) (tCons (tVar 0) tNil)) tNil)) (gName 3) tYes (tOp (rI CMul fun i j => V.int (i * j)) (tOp (rIxT K) (tOp (rIxT K) (tVar 0) (tVar 2)) (tVar 3)) (tVar 1)) [3]) tNil)) from pe_callTy (r := rTupOf K) cr_tupOf (by rfl) T.b_tuple (by decide +kernel) (pa_cons (pe_lc (own := [("_law_j", 3)]) (g := gName 3) (tt := tYes) rfl sc__law_times.nd (pi_range1 (by rfl) T.b_range (pa_cons (pe_callB (r := rLenS K) cr_lenS (by rfl) T.b_len PySem.boot_len (pa_cons (pv 0) pa_nil)) pa_nil)) (blkOk_by (own := [("_law_j", 3)]) (N := ["_law_one", "_law_factor", "_law_i", "_law_j"]) (sc := { kind := .function, names := [(".0", .local), ("_law_i", .cell), ("tuple", .globalImplicit), ("range", .globalImplicit), ("len", .globalImplicit), ("_law_factor", .cell), ("_law_one", .cell)], isGenerator := false, isCoroutine := false }) (by decide +kernel)) (fun _ _ _ _ _ => pg_name (i := 3) sc__law_times.nd rfl (Or.inl rfl)) (fun _ _ _ _ _ => pts_nil) (fun _ _ _ _ _ => (show PE _ _ (tOp (rI CMul fun i j => V.int (i * j)) (tOp (rIxT K) (tOp (rIxT K) (tVar 0) (tVar 2)) (tVar 3)) (tVar 1)) from pe_op op_mul (pe_ix (r := rIxT K) ix_tup (pe_ix (r := rIxT K) ix_tup (pv 0) (pv 2) (fun _ _ => rfl)) (pv 3) (fun _ _ => rfl)) (pv 1)))) pa_nil)))) pa_nil)))), ?_⟩
    obtain ⟨vs1, e1, l1, r1⟩ := id h1
    have fs : ((sz.toNat : Nat) : Int) = sz := by omega
    refine ⟨_, rfl, u, vs1, rfl, .inr (.inl (.inl e1)), ?_⟩
    rw [l1, fs]
    refine ⟨sz, rfl, by omega, by omega, fun O hO => ?_⟩
    refine lc_range (lo := 0) (n := sz.toNat) (fun i H5 => TInv H O sz (fun x y => f x y * k0) i H5) (TInv.start hO) (fun i H5 hi pv => ?_) (fun H5 pv => ?_)
    · refine ⟨rfl, ?_⟩
      have s5 := pv.same
      refine ⟨_, rfl, u, vs1, rfl, .inr (.inl (.inl (s5 _ _ e1))), ?_⟩
      rw [l1, fs]
      refine ⟨sz, rfl, by omega, by omega, fun M hM => ?_⟩
      refine lc_range (lo := 0) (n := sz.toNat) (fun k H6 => H6 = upd H5 M (.lst ((gl sz ((fun x y => f x y * k0) (0 + (i : Int)))).take k))) rfl (fun k H6 hk p6 => ?_) (fun H6 p6 => ?_)
      · subst p6
        refine ⟨rfl, ?_⟩
        have s6 : Same H (upd H5 M (.lst ((gl sz ((fun x y => f x y * k0) (0 + (i : Int)))).take k))) := s5.trans (same_upd hM)
        have x0 : 0 ≤ 0 + (i : Int) ∧ 0 + (i : Int) < sz := by omega
        have y0 : 0 ≤ 0 + (k : Int) ∧ 0 + (k : Int) < sz := by omega
        obtain ⟨ra, ea, ha⟩ := TabAt.row (h1.same s6) x0.1 x0.2
        obtain ⟨wa, fa, ea⟩ := ea
        refine ⟨_, rfl, _, rfl, u, _, _, _, rfl, rfl, .inl (.inl fa), ea, _, rfl, ra, _, _, _, rfl, rfl, .inl (.inl ha), gl_atI _ y0.1 y0.2, _, rfl, _, _, rfl, rfl, .inr hk1, _, upd_same, ?_, ?_⟩

        · rw [List.length_take, gl_len]
          exact Nat.lt_of_le_of_lt (Nat.min_le_right _ _) (small1000 (by omega))
        · rw [upd_upd, List.take_add_one, gl_nat _ hk]
          rfl
      · subst p6
        rw [List.take_of_length_le (by rw [gl_len]; exact Nat.le_refl _), Int.zero_add]
        refine ⟨M, _, rfl, .inl ⟨.inl (.inl upd_same), fun w nw => ?_⟩⟩
        obtain ⟨us, eO, hl, st⟩ := pv.step hO (same_upd hM) nw
        refine ⟨_, eO, ?_, st⟩
        rw [List.length_map, hl]
        exact small1000 (by omega)
    · obtain ⟨us, eO, ht⟩ := pv.tab hO
      refine ⟨O, _, rfl, .inl ⟨.inl (.inl eO), fun c nc => ?_⟩⟩
      exact q _ c (pv.same.trans (same_upd nc)) (ht c nc)
def spMirror : Sp := fun vs H Q _ => ∃ (u : Addr) (sz : Int) (f : Int → Int → Int), vs = [.ref u] ∧ TabAt H u sz f ∧ 0 ≤ sz ∧ sz ≤ 1000 ∧ ∀ H' p, Same H H' → TabAt H' p sz (fun x y => f y x) → Q (.ref p) H'
theorem ok_mirror {f : Addr} {fd : FuncData} (F : Fun K "_law_mirror" "_law_mirror" s__law_mirror f fd) (T : Bi mg) : FnOk P w K mg base CX0 1 f fd ["_law_table_here"] spMirror := by
  refine F.ok sc__law_mirror (fun vs H Q E h => ?_) (fun cdv A outer s H vs Q E hr h => ?_)
  · obtain ⟨u, sz, f, rfl, _⟩ := h
    rfl
  · obtain ⟨u, sz, f, rfl, h1, z0, z1, q⟩ := h
    refine ⟨_, (pss_one (ps_ret (pe_callTy (r := rTupOf K) cr_tupOf (by rfl) T.b_tuple (by decide +kernel) (pa_cons (pe_lc (own := [("_law_i", 1)]) (g := gName 1) (tt := tYes) rfl sc__law_mirror.nd (pi_range1 (by rfl) T.b_range (pa_cons (pe_callB (r := rLenS K) cr_lenS (by rfl) T.b_len PySem.boot_len (pa_cons (pv 0) pa_nil)) pa_nil)) (blkOk_by (own := [("_law_i", 1)]) (N := ["_law_table_here", "_law_i", "_law_j"]) (sc := defScope s__law_mirror) (by decide +kernel)) (fun _ _ _ _ _ => pg_name (i := 1) sc__law_mirror.nd rfl (Or.inr rfl)) (fun _ _ _ _ _ => pts_nil) (fun _ _ _ _ _ => (show PE _ _ (tCB (rTupOf K) (tCons (tLc (iRng1 (tCons (tCB (rLenS K) (tCons (tVar 0) tNil)) tNil)) (gName 2) tYes (tOp (rIxT K) (tOp (rIxT K) (tVar 0) (tVar 2)) (tVar 1)) [2]) tNil)) from pe_callTy (r := rTupOf K) cr_tupOf (by rfl) T.b_tuple (by decide +kernel) (pa_cons (pe_lc (own := [("_law_j", 2)]) (g := gName 2) (tt := tYes) rfl sc__law_mirror.nd (pi_range1 (by rfl) T.b_range (pa_cons (pe_callB (r := rLenS K) cr_lenS (by rfl) T.b_len PySem.boot_len (pa_cons (pv 0) pa_nil)) pa_nil)) (blkOk_by (own := [("_law_j", 2)]) (N := ["_law_table_here", "_law_i", "_law_j"]) (sc := { kind := .function, names := [(".0", .local), ("_law_i", .cell), ("tuple", .globalImplicit), ("range", .globalImplicit), ("len", .globalImplicit), ("_law_table_here", .cell)], isGenerator := false, isCoroutine := false }) (by decide +kernel)) (fun _ _ _ _ _ => pg_name (i := 2) sc__law_mirror.nd rfl (Or.inl rfl)) (fun _ _ _ _ _ => pts_nil) (fun _ _ _ _ _ => (show PE _ _ (tOp (rIxT K) (tOp (rIxT K) (tVar 0) (tVar 2)) (tVar 1)) from (pe_ix (r := rIxT K) ix_tup (pe_ix (r := rIxT K) ix_tup (pv 0) (pv 2) (fun _ _ => rfl)) (pv 1) (fun _ _ => rfl))))) pa_nil)))) pa_nil)))), ?_⟩
    obtain ⟨vs1, e1, l1, r1⟩ := id h1
    have fs : ((sz.toNat : Nat) : Int) = sz := by omega
    refine ⟨_, rfl, u, vs1, rfl, .inr (.inl (.inl e1)), ?_⟩
    rw [l1, fs]
    refine ⟨sz, rfl, by omega, by omega, fun O hO => ?_⟩
    refine lc_range (lo := 0) (n := sz.toNat) (fun i H5 => TInv H O sz (fun x y => f y x) i H5) (TInv.start hO) (fun i H5 hi pv => ?_) (fun H5 pv => ?_)
    · refine ⟨rfl, ?_⟩
      have s5 := pv.same
      refine ⟨_, rfl, u, vs1, rfl, .inr (.inl (.inl (s5 _ _ e1))), ?_⟩
      rw [l1, fs]
      refine ⟨sz, rfl, by omega, by omega, fun M hM => ?_⟩
      refine lc_range (lo := 0) (n := sz.toNat) (fun k H6 => H6 = upd H5 M (.lst ((gl sz ((fun x y => f y x) (0 + (i : Int)))).take k))) rfl (fun k H6 hk p6 => ?_) (fun H6 p6 => ?_)
      · subst p6
        refine ⟨rfl, ?_⟩
        have s6 : Same H (upd H5 M (.lst ((gl sz ((fun x y => f y x) (0 + (i : Int)))).take k))) := s5.trans (same_upd hM)
        have x0 : 0 ≤ 0 + (i : Int) ∧ 0 + (i : Int) < sz := by omega
        have y0 : 0 ≤ 0 + (k : Int) ∧ 0 + (k : Int) < sz := by omega
        obtain ⟨ra, ea, ha⟩ := TabAt.row (h1.same s6) y0.1 y0.2
        obtain ⟨wa, fa, ea⟩ := ea
        refine ⟨_, rfl, _, rfl, u, _, _, _, rfl, rfl, .inl (.inl fa), ea, _, rfl, ra, _, _, _, rfl, rfl, .inl (.inl ha), gl_atI _ x0.1 x0.2, _, upd_same, ?_, ?_⟩

        · rw [List.length_take, gl_len]
          exact Nat.lt_of_le_of_lt (Nat.min_le_right _ _) (small1000 (by omega))
        · rw [upd_upd, List.take_add_one, gl_nat _ hk]
          rfl
      · subst p6
        rw [List.take_of_length_le (by rw [gl_len]; exact Nat.le_refl _), Int.zero_add]
        refine ⟨M, _, rfl, .inl ⟨.inl (.inl upd_same), fun w nw => ?_⟩⟩
        obtain ⟨us, eO, hl, st⟩ := pv.step hO (same_upd hM) nw
        refine ⟨_, eO, ?_, st⟩
        rw [List.length_map, hl]
        exact small1000 (by omega)
    · obtain ⟨us, eO, ht⟩ := pv.tab hO
      refine ⟨O, _, rfl, .inl ⟨.inl (.inl eO), fun c nc => ?_⟩⟩
      exact q _ c (pv.same.trans (same_upd nc)) (ht c nc)
def spTold (C : Addr) : Sp := fun vs H Q _ => ∃ (p u : Addr) (n : Int) (cs : List Tr) (f : Int → Int → Int), vs = [.ref p, .ref u] ∧ LotAt C H p n cs ∧ 0 ≤ n ∧ n ≤ 1000 ∧ Good n cs ∧ TabAt H u (hi n 1) f ∧ (∀ x y, 0 ≤ x → x < hi n 1 → 0 ≤ y → y < hi n 1 → tabE cs x y = f x y) ∧ ∀ H', Same H H' → Q (.bl true) H'
theorem ok_told {f : Addr} {fd : FuncData} (F : Fun K "_law_told" "_law_told" s__law_told f fd) (L : LotC K mg C) {f_s : Addr} {d_s : FuncData} (D_s : Df K mg "_law_same" s__law_same ["_law_value", "_law_due"] f_s d_s) (G_s2 : FnOk P w K mg base CX0 4 f_s d_s ["_law_value", "_law_due"] (spSame 2))
    {f_to : Addr} {d_to : FuncData} (D_to : Df K mg "table_of" s_table_of ["lot"] f_to d_to) (G_to : FnOk P w K mg base CX0 3 f_to d_to ["lot"] (spTab C))
    {f_t p_t : Addr} {d_t : FuncData} (P_t : PropOf K C "table" p_t f_t) (b_t : Binds K d_t ["self"] []) (G_t : FnOk P w K mg base CX0 3 f_t d_t ["self"] (spTab C)) : FnOk P w K mg base CX0 5 f fd ["_law_thing", "_law_table_here"] (spTold C) := by
  refine F.ok sc__law_told (fun vs H Q E h => ?_) (fun cdv A outer s H vs Q E hr h => ?_)
  · obtain ⟨p, u, n, cs, f, rfl, _⟩ := h
    rfl
  · obtain ⟨p, u, n, cs, f, rfl, hL, n0, n1, hG, hT, he, q⟩ := h
    refine ⟨_, (pss_one (ps_ret (pe_and (pe_call G_s2 hr (by rfl) D_s.g D_s.F.kp D_s.b .nil pass0 (pa_cons (pe_call G_to (hr.mono (by decide)) (by rfl) D_to.g D_to.F.kp D_to.b .nil pass0 (pa_cons (pv 0) pa_nil)) (pa_cons (pv 1) pa_nil))) (pe_one (pe_call G_s2 hr (by rfl) D_s.g D_s.F.kp D_s.b .nil pass0 (pa_cons (pe_prop (pv 0) L.cl P_t G_t (hr.mono (by decide)) b_t .nil pass0 (by rfl)) (pa_cons (pv 1) pa_nil))))))), ?_⟩
    have hz : hi n 1 ≤ 1000 := by
      rcases lo_hi n 1 with h | h <;> omega
    refine ⟨_, rfl, p, n, cs, rfl, hL, n0, n1, hG, fun H1 a s1 h1 => ?_⟩
    refine ⟨_, rfl, _, _, rfl, EqV.tab h1 (hT.same s1) hz he, true, rfl, ?_⟩
    obtain ⟨dx, c, e, _⟩ := id (hL.same s1)
    refine ⟨_, rfl, p, dx, _, rfl, e, p, n, cs, rfl, hL.same s1, n0, n1, hG, fun H2 b s2 h2 => ?_⟩
    exact ⟨_, rfl, _, _, rfl, EqV.tab h2 ((hT.same s1).same s2) hz he, q _ (s1.trans s2)⟩
end
end Own

namespace Own
open PySem PySem.Spec PyProof.Rows L2
section
variable {P : Program} {w : World} {K : PySem.W.Frag} {mg : Str → Option Value} {base : Heap} {C : Addr}
def capd (l : List Tr) : List Tr := l.map fun t => (t.1, t.2.1, if 5 * 10 ^ Int.toNat 8 < t.2.2 then 5 * 10 ^ Int.toNat 8 else t.2.2)
theorem capd_good {n : Int} {l : List Tr} (g : Good n l) : Good n (capd l) := by
  refine ⟨?_, fun e he => ?_⟩
  · have : (capd l).map pr = l.map pr := by
      unfold capd
      rw [List.map_map]
      rfl
    rw [this]
    exact g.srt
  · obtain ⟨t, ht, rfl⟩ := List.mem_map.mp he
    obtain ⟨a, b, c, d⟩ := g.ord t ht
    refine ⟨a, b, c, ?_⟩
    show 1 ≤ if 5 * 10 ^ Int.toNat 8 < t.2.2 then 5 * 10 ^ Int.toNat 8 else t.2.2
    split
    · decide
    · exact d
theorem capd_le (l : List Tr) : ∀ t ∈ capd l, t.2.2 ≤ 500000000 := fun e he => by
  obtain ⟨t, _, rfl⟩ := List.mem_map.mp he
  show (if 5 * 10 ^ Int.toNat 8 < t.2.2 then 5 * 10 ^ Int.toNat 8 else t.2.2) ≤ 500000000
  have e8 : (5 * 10 ^ Int.toNat 8 : Int) = 500000000 := by decide
  rw [e8]
  split <;> omega
def spLLot (K : PySem.W.Frag) : Sp := fun vs H Q _ => ∃ (l : Addr) (ns : List Int) (st ct : Nat) (n : Int), vs = [.ref l, .int (st : Int), .int (ct : Int), .int n] ∧ SqL K H l (ns.map V.int) ∧ ns.length ≤ 1000 ∧ st ≤ 100 ∧ ct ≤ 100 ∧ 0 ≤ n ∧ n ≤ 1000 ∧ ∀ H' c r, Same H H' → Trip H' c r → Good n r → r.length ≤ ct → (∀ t ∈ r, t.2.2 ≤ 500000000) → Q (.ref c) H'
theorem digs4 {ds : List Int} {a b c d : Int} (h : Digs ds [a, b, c, d]) : ∃ w x y z, ds = [w, x, y, z] ∧ (0 ≤ w ∧ w < a) ∧ (0 ≤ x ∧ x < b) ∧ (0 ≤ y ∧ y < c) ∧ (0 ≤ z ∧ z < d) := by
  have hl := h.1
  match ds, hl with
  | [w, x, y, z], _ => exact ⟨w, x, y, z, rfl, h.2 0 w a rfl rfl, h.2 1 x b rfl rfl, h.2 2 y c rfl rfl, h.2 3 z d rfl rfl⟩
theorem ok_llot {f : Addr} {fd : FuncData} (F : Fun K "_law_lot" "_law_lot" s__law_lot f fd) (T : Bi mg) {f_d : Addr} {d_d : FuncData} (D_d : Df K mg "_law_digits" s__law_digits ["_law_cell_here", "_law_sizes"] f_d d_d) (G_d : FnOk P w K mg base CX0 1 f_d d_d ["_law_cell_here", "_law_sizes"] (spDigs K))
    {f_c : Addr} {d_c : FuncData} (D_c : Df K mg "_law_cell" s__law_cell ["_law_script", "_law_k"] f_c d_c) (G_c : FnOk P w K mg base CX0 1 f_c d_c ["_law_script", "_law_k"] (spCell K)) {f_n : Addr} {d_n : FuncData} (D_n : Df K mg "_law_norm" s__law_norm ["_law_triples"] f_n d_n) (G_n : FnOk P w K mg base CX0 1 f_n d_n ["_law_triples"] (spNorm K)) : FnOk P w K mg base CX0 2 f fd ["_law_script", "_law_start", "_law_count", "_law_pins_here"] (spLLot K) := by
  refine F.ok sc__law_lot (fun vs H Q E h => ?_) (fun cdv A outer s H vs Q E hr h => ?_)
  · obtain ⟨l, ns, st, ct, n, rfl, _⟩ := h
    rfl
  · obtain ⟨l, ns, st, ct, n, rfl, hs, hn, hst, hct, n0, n1, q⟩ := h
    refine ⟨_, (pss_cons (ps_set (i := 4) sc__law_lot.nd rfl (.inl rfl) (pe_lst pa_nil))
        (pss_cons (ps_for PassesOwn.never rfl (pi_range1 (by rfl) T.b_range (pa_cons (pv 2) pa_nil)) (pg_name (i := 5) sc__law_lot.nd rfl (.inl rfl))
        (pss_one (ps_if (pt_cmpR op_ge (pv 3) pe_int (nomark _)) (pss_cons (ps_set (i := 6) sc__law_lot.nd rfl (.inl rfl) (pe_call G_d (hr.mono (by decide)) (by rfl) D_d.g D_d.F.kp D_d.b .nil pass0 (pa_cons (pe_call G_c (hr.mono (by decide)) (by rfl) D_c.g D_c.F.kp D_c.b .nil pass0 (pa_cons (pv 0) (pa_cons (pe_op op_add (pv 1) (pv 5)) pa_nil))) (pa_cons (pe_lst (pa_cons (pv 3) (pa_cons (pe_op op_sub (pv 3) pe_int) (pa_cons pe_int (pa_cons (pe_op op_mul pe_int (pe_op op_pow pe_int pe_int)) pa_nil))))) pa_nil))))
        (pss_cons (ps_set (i := 7) sc__law_lot.nd rfl (.inl rfl) (pe_op op_modN (pe_callTy call_int1 (by rfl) T.b_int (by decide +kernel) (pa_cons (pe_op op_add (pe_op op_add (pe_ix (r := rIxL K) ix_list (pv 6) pe_int (fun _ _ => rfl)) pe_int) (pe_ix (r := rIxL K) ix_list (pv 6) pe_int (fun _ _ => rfl))) pa_nil)) (pv 3)))
        (pss_one (ps_expr (pe_bm PySem.F.plainAttrs_list PySem.F.slot_list_append PySem.F.type_list_append mt_append (pv 4) (pa_cons (pe_tup (pa_cons (pe_ix (r := rIxL K) ix_list (pv 6) pe_int (fun _ _ => rfl)) (pa_cons (pv 7) (pa_cons (pe_op op_add pe_int (pe_op op_modN (pe_callTy call_int1 (by rfl) T.b_int (by decide +kernel) (pa_cons (pe_ix (r := rIxL K) ix_list (pv 6) pe_int (fun _ _ => rfl)) pa_nil)) (pe_ix (r := rIxL K) ix_list (pe_lst (pa_cons pe_int (pa_cons pe_int (pa_cons pe_int (pa_cons pe_int (pa_cons pe_int (pa_cons (pe_op op_mul pe_int (pe_op op_pow pe_int pe_int)) pa_nil))))))) (pe_ix (r := rIxL K) ix_list (pv 6) pe_int (fun _ _ => rfl)) (fun _ _ => rfl)))) pa_nil)))) pa_nil)))))) pss_nil)))
        (pss_one (ps_ret (pe_callTy call_tuple_of (by rfl) T.b_tuple (by decide +kernel) (pa_cons (pe_lc (own := [("_law_c", 8)]) (g := gName 8) (tt := tYes) rfl sc__law_lot.nd (pi_tup (pe_call G_n hr (by rfl) D_n.g D_n.F.kp D_n.b .nil pass0 (pa_cons (pv 4) pa_nil))) (blkOk_by (own := [("_law_c", 8)]) (N := ["_law_script", "_law_start", "_law_count", "_law_pins_here", "_law_row", "_law_k", "_law_draw", "_law_other", "_law_c"]) (sc := defScope s__law_lot) (by decide +kernel)) (fun _ _ _ _ _ => (pg_name (i := 8) sc__law_lot.nd rfl (.inl rfl))) (fun _ _ _ _ _ => pts_nil) (fun _ _ _ _ _ => (pe_tup (pa_cons (pe_ix (r := rIxT K) ix_tup (pv 8) pe_int (fun _ _ => rfl)) (pa_cons (pe_ix (r := rIxT K) ix_tup (pv 8) pe_int (fun _ _ => rfl)) (pa_cons (pe_callB (call_min2 rfl) (by rfl) T.b_min (by decide +kernel) (pa_cons (pe_ix (r := rIxT K) ix_tup (pv 8) pe_int (fun _ _ => rfl)) (pa_cons (pe_op op_mul pe_int (pe_op op_pow pe_int pe_int)) pa_nil))) pa_nil)))))) pa_nil)))))), ?_⟩
    refine ⟨Nat.zero_le _, fun R hR => ?_⟩
    have sR : Same H (upd H R (.lst [])) := same_upd hR
    refine ⟨_, rfl, (ct : Int), rfl, by omega, by omega, for_range (lo := 0) (n := (ct : Int).toNat) (fun i σ H2 => ∃ (vs : List V) (tr : List Tr) (y3 y4 y5 y6 : Option V), σ = [some (.ref l), some (.int (st : Int)), some (.int (ct : Int)), some (.int n), some (.ref R), y3, y4, y5, y6] ∧ Same H H2 ∧ H2 R = some (.lst vs) ∧ TrV H2 vs tr ∧ (∀ t ∈ tr, Vld n t) ∧ tr.length ≤ i) ⟨[], [], none, none, none, none, rfl, sR, upd_same, TrV.nil, by simp, Nat.le_refl _⟩ (fun i σ H2 hi pv => ?_) (fun σ H2 pv => ?_)⟩
    · obtain ⟨vs, tr, y3, y4, y5, y6, rfl, s2, eR, tV, hV, hl2⟩ := pv
      refine ⟨_, rfl, n, 2, rfl, rfl, _, rfl, ite2 (fun e => ?_) (fun e => ?_)⟩
      · have n2 : 2 ≤ n := of_decide_eq_true e
        refine ⟨_, rfl, _, rfl, _, rfl, _, _, rfl, rfl, l, ns, st + i, ?_, s2.seq hs, by omega, hn, fun c2 => ?_⟩
        · show [V.ref l, V.int ((st : Int) + (0 + (i : Int)))] = _
          rw [show (st : Int) + (0 + (i : Int)) = ((st + i : Nat) : Int) by omega]
        refine ⟨_, rfl, _, rfl, n, 1, rfl, rfl, ?_⟩
        refine ⟨_, _, rfl, rfl, ⟨by decide, by decide, by decide⟩, _, _, rfl, rfl, .inl ⟨by decide, by decide⟩, by show 4 ≤ sizeLine; decide, fun b2 nb2 => ⟨c2, b2, [n, n - 1, 6, 5 * 10 ^ Int.toNat 8], rfl, .inl (.inl upd_same), by show 4 ≤ 1000; decide, fun x hx => ?_, fun H3 p3 ds3 s3 np3 ep3 dg3 => ?_⟩⟩
        · simp only [List.mem_cons, List.not_mem_nil, or_false] at hx
          have e8 : (5 * 10 ^ Int.toNat 8 : Int) = 500000000 := by decide
          rw [e8] at hx
          omega
        obtain ⟨d0, d1, d2, d3, rfl, h0, h1, h2, h3⟩ := digs4 dg3
        have s23 : Same H2 H3 := (same_upd nb2).trans s3
        have qp : SqL K H3 p3 [.int d0, .int d1, .int d2, .int d3] := .inl (.inl ep3)
        have a0 : atI [V.int d0, .int d1, .int d2, .int d3] 0 = some (.int d0) := atI_nat (j := 0) rfl
        have a1 : atI [V.int d0, .int d1, .int d2, .int d3] 1 = some (.int d1) := atI_nat (j := 1) rfl
        have a2 : atI [V.int d0, .int d1, .int d2, .int d3] 2 = some (.int d2) := atI_nat (j := 2) rfl
        have a3 : atI [V.int d0, .int d1, .int d2, .int d3] 3 = some (.int d3) := atI_nat (j := 3) rfl
        refine ⟨_, rfl, p3, _, 0, _, rfl, rfl, qp, a0, _, _, rfl, rfl, _, rfl, p3, _, 1, _, rfl, rfl, qp, a1, _, _, rfl, rfl, .inl ⟨_, rfl, _, rfl, _, _, rfl, rfl, by omega, ?_⟩⟩
        have eR3 := s23 _ _ eR
        have hoth : 0 ≤ (d0 + 1 + d1).fmod n ∧ (d0 + 1 + d1).fmod n < n ∧ d0 ≠ (d0 + 1 + d1).fmod n := by
          have hm := fmod_in (d0 + 1 + d1) (show 0 < n by omega)
          refine ⟨hm.1, hm.2, ?_⟩
          by_cases hx : d0 + 1 + d1 < n
          · rw [fmod_lo (by omega) hx]
            omega
          · rw [fmod_hi (by omega) (by omega)]
            omega
        obtain ⟨z, ez, zpos⟩ : ∃ z : Int, atI [V.int 3, .int 3, .int 3, .int 3, .int 1000, .int (5 * 10 ^ Int.toNat 8)] d2 = some (.int z) ∧ 0 < z := by
          have hd : d2 = ((0 : Nat) : Int) ∨ d2 = ((1 : Nat) : Int) ∨ d2 = ((2 : Nat) : Int) ∨ d2 = ((3 : Nat) : Int) ∨ d2 = ((4 : Nat) : Int) ∨ d2 = ((5 : Nat) : Int) := by omega
          rcases hd with e | e | e | e | e | e <;> rw [e] <;> exact ⟨_, atI_nat rfl, by decide⟩
        refine ⟨_, rfl, .inl ⟨rfl, _, .inl (.inl eR3)⟩, _, rfl, p3, _, 0, _, rfl, rfl, qp, a0, _, rfl, _, rfl, p3, _, 3, _, rfl, rfl, qp, a3, .inl ⟨_, rfl, ?_⟩⟩
        refine ⟨_, _, rfl, rfl, ⟨by decide, by decide, by decide⟩, _, _, rfl, rfl, .inl ⟨by decide, by decide⟩, by show 6 ≤ sizeLine; decide, fun g ng => ⟨_, rfl, p3, _, 2, _, rfl, rfl, (same_upd ng).seq qp, a2, g, _, d2, _, rfl, rfl, .inl (.inl upd_same), ez, _, _, rfl, rfl, by omega, ?_⟩⟩
        have hz := fmod_in d3 zpos
        refine ⟨_, _, rfl, rfl, by show 3 ≤ sizeLine; decide, fun v nv => ?_⟩
        have sg := (same_upd (o := .lst [.int 3, .int 3, .int 3, .int 3, .int 1000, .int (5 * 10 ^ Int.toNat 8)]) ng).trans (same_upd (o := .tup [.int d0, .int ((d0 + 1 + d1).fmod n), .int (1 + d3.fmod z)]) nv)
        have eR4 := sg _ _ eR3
        refine ⟨R, _, _, rfl, rfl, eR4, ?_, ?_⟩
        · rw [tV.1]
          exact small1000 (by omega)
        have nvR : v ≠ R := fun zz => by
          rw [zz] at nv
          exact nomatch ((same_upd ng _ _ eR3).symm.trans nv)
        refine ⟨vs ++ [.ref v], tr ++ [(d0, (d0 + 1 + d1).fmod n, 1 + d3.fmod z)], _, _, _, _, rfl, same_put (H1 := H) hR (s2.trans (s23.trans sg)), upd_same, ?_, fun t ht => ?_, ?_⟩
        · refine ((tV.same (s23.trans sg)).sameT (sameT_put eR4 (Same.refl _))).snoc ?_
          rw [upd_ne nvR, upd_same]
        · rcases List.mem_append.mp ht with ht | ht
          · exact hV t ht
          · rw [List.mem_singleton.mp ht]
            exact ⟨h0.1, h0.2, hoth.1, hoth.2.1, hoth.2.2, by show 1 ≤ 1 + d3.fmod z; omega⟩
        · rw [List.length_append]
          show tr.length + 1 ≤ i + 1
          omega
      · exact ⟨vs, tr, _, _, _, _, rfl, s2, eR, tV, hV, by omega⟩
    · obtain ⟨vs, tr, y3, y4, y5, y6, rfl, s2, eR, tV, hV, hl2⟩ := pv
      refine ⟨_, rfl, R, vs, tr, rfl, .inl (.inl (.inl eR)), tV, fun t ht => (hV t ht).2.2.2.2.2, by omega, fun H3 c r s3 hc hi => ?_⟩
      have hg := hi.good hV
      have hlr : r.length ≤ ct := Nat.le_trans hi.len (by omega)
      obtain ⟨xs, ec, tc⟩ := id hc
      have ha := s2.trans s3
      refine ⟨c, rfl, ⟨xs, .inl (.inl ec)⟩, fun D hD => ?_⟩
      refine lc_tup (K := K) (a := c) (xs := xs) (fun i H4 => Same H3 H4 ∧ ∃ ws, H4 D = some (.lst ws) ∧ TrV H4 ws ((capd r).take i)) ⟨same_upd hD, [], upd_same, TrV.nil⟩ (fun i H4 _ p => .inl (.inl (p.1 _ _ ec))) (fun i x H4 hxi pv => ?_) (fun H4 pv => ?_)
      · obtain ⟨s4, ws, eD, tW⟩ := pv
        obtain ⟨u, t, rfl, hti, hu⟩ := (tc.same s4).at_ hxi
        have qu : SqT K H4 u (tv t) := .inl (.inl hu)
        have a0 : atI (tv t) 0 = some (.int t.1) := atI_nat (j := 0) rfl
        have a1 : atI (tv t) 1 = some (.int t.2.1) := atI_nat (j := 1) rfl
        have a2 : atI (tv t) 2 = some (.int t.2.2) := atI_nat (j := 2) rfl
        refine ⟨rfl, ?_⟩
        refine ⟨_, rfl, u, _, 0, _, rfl, rfl, qu, a0, _, rfl, u, _, 1, _, rfl, rfl, qu, a1, _, rfl, u, _, 2, _, rfl, rfl, qu, a2, _, _, rfl, rfl, ⟨by decide, by decide, by decide⟩, _, _, rfl, rfl, .inl ⟨by decide, by decide⟩, _, _, rfl, by show 3 ≤ sizeLine; decide, fun v nv => ?_⟩
        have sv := same_upd (o := .tup [.int t.1, .int t.2.1, .int (if 5 * 10 ^ Int.toNat 8 < t.2.2 then 5 * 10 ^ Int.toNat 8 else t.2.2)]) nv
        have hri : (capd r)[i]? = some (t.1, t.2.1, if 5 * 10 ^ Int.toNat 8 < t.2.2 then 5 * 10 ^ Int.toNat 8 else t.2.2) := by
          unfold capd
          rw [List.getElem?_map, hti]
          rfl
        have nD : v ≠ D := fun z => by
          rw [z, eD] at nv
          cases nv
        refine ⟨ws, sv _ _ eD, ?_, same_put (H1 := H3) hD (s4.trans sv), _, upd_same, ?_⟩
        · rw [tW.1, List.length_take]
          have : (capd r).length = r.length := List.length_map _
          exact Nat.lt_of_le_of_lt (Nat.min_le_right _ _) (small1000 (by omega))
        · rw [List.take_add_one, hri]
          refine (tW.sameT (sameT_put eD sv)).snoc ?_
          rw [upd_ne nD, upd_same]
      · obtain ⟨s4, ws, eD, tW⟩ := pv
        have hlen : xs.length = (capd r).length := by
          rw [tc.1]
          exact (List.length_map _).symm
        rw [hlen, List.take_length] at tW
        refine ⟨D, ws, rfl, .inl ⟨.inl (.inl eD), fun c2 nc => ?_⟩⟩
        exact q _ c2 (capd r) ((ha.trans s4).trans (same_upd nc)) ⟨ws, upd_same, tW.same (same_upd nc)⟩ (capd_good hg) (by rw [show (capd r).length = r.length from List.length_map _]; exact hlr) (capd_le r)
end
end Own

/-! Lots counted by pairs: sums, multiples, differences. -/
namespace Own
open PySem PySem.Spec PyProof.Rows L2
theorem Good.more {n m : Int} {cs : List Tr} (g : Good n cs) (h : n ≤ m) : Good m cs := ⟨g.srt, fun e he => by
  have := g.ord e he
  omega⟩
theorem Good.lt {n : Int} {cs : List Tr} (g : Good n cs) : ∀ e ∈ cs, e.1 < e.2.1 := fun e he => (g.ord e he).2.1
theorem bs_add2 {n : Int} {cs ds r : List Tr} (g : Good n cs) (h : Good n ds) (i : IsNorm (cs ++ ds) r) (f : Int × Int → Bool) : bs f r = bs f cs + bs f ds := by
  rw [bs_norm f i, bk_append, bk_bs f g.lt, bk_bs f h.lt]
theorem tab_add {n : Int} {cs ds r : List Tr} (g : Good n cs) (h : Good n ds) (i : IsNorm (cs ++ ds) r) (x y : Int) : tabE r x y = tabE cs x y + tabE ds x y := bs_add2 g h i _
theorem bs_tms (f : Int × Int → Bool) (k : Int) (l : List Tr) : bs f (tms k l) = bs f l * k := by
  induction l with
  | nil => show (0 : Int) = 0 * k; omega
  | cons t r ih =>
    show (if f (pr (t.1, t.2.1, t.2.2 * k)) = true then t.2.2 * k else 0) + bs f (tms k r) = _
    rw [ih, bs, Int.add_mul]
    show (if f (pr t) = true then t.2.2 * k else 0) + _ = _
    split
    · rfl
    · rw [Int.zero_mul]
theorem tms_lt {k : Int} {l : List Tr} (h : ∀ e ∈ l, e.1 < e.2.1) : ∀ e ∈ tms k l, e.1 < e.2.1 := fun e he => by
  obtain ⟨t, ht, rfl⟩ := List.mem_map.mp he
  exact h t ht
theorem bs_mulE {n k : Int} {cs r : List Tr} (g : Good n cs) (i : IsNorm (mulE k cs) r) (f : Int × Int → Bool) : bs f r = bs f cs * k := by
  rw [bs_norm f i]
  unfold mulE
  by_cases h : k = 0
  · rw [if_pos h, h, Int.mul_zero]
    rfl
  · rw [if_neg h, bk_bs f (tms_lt g.lt), bs_tms]
theorem tab_mul {n k : Int} {cs r : List Tr} (g : Good n cs) (i : IsNorm (mulE k cs) r) (x y : Int) : tabE r x y = tabE cs x y * k := bs_mulE g i _
theorem mulE_vld {n k : Int} {cs : List Tr} (g : Good n cs) (k0 : 0 ≤ k) : ∀ t ∈ mulE k cs, Vld n t := fun t ht => by
  unfold mulE at ht
  by_cases h : k = 0
  · rw [if_pos h] at ht
    cases ht
  · rw [if_neg h] at ht
    obtain ⟨u, hu, rfl⟩ := List.mem_map.mp ht
    obtain ⟨v0, v1, v2, v3, v4, v5⟩ := g.vld u hu
    refine ⟨v0, v1, v2, v3, v4, ?_⟩
    show 1 ≤ u.2.2 * k
    have := Int.mul_pos (show 0 < u.2.2 by omega) (show 0 < k by omega)
    omega
theorem norm_nil {r : List Tr} (h : IsNorm [] r) : r = [] := List.eq_nil_of_length_eq_zero (Nat.le_zero.mp h.len)
theorem good_nil (n : Int) : Good n [] := ⟨List.Pairwise.nil, fun e he => by cases he⟩
/-- the cords between the two pins -/
def cnt (cs : List Tr) (p : Int × Int) : Int := bs (fun q => decide (q = p)) cs
theorem cnt_cons (t : Tr) (cs : List Tr) (p : Int × Int) : cnt (t :: cs) p = (if pr t = p then t.2.2 else 0) + cnt cs p := by
  unfold cnt
  rw [bs]
  by_cases h : pr t = p <;> simp [h]
theorem cnt_snoc (t : Tr) (cs : List Tr) (p : Int × Int) : cnt (cs ++ [t]) p = cnt cs p + (if pr t = p then t.2.2 else 0) := by
  unfold cnt
  rw [bs_append]
  show _ + ((if decide (pr t = p) = true then t.2.2 else 0) + 0) = _
  by_cases h : pr t = p <;> simp [h]
theorem cnt_out {cs : List Tr} {p : Int × Int} (h : p ∉ cs.map pr) : cnt cs p = 0 := bs_none fun e he => decide_eq_false fun z => h (by rw [← z]; exact List.mem_map.mpr ⟨e, he, rfl⟩)
theorem cnt_nn {cs : List Tr} (h : ∀ e ∈ cs, 1 ≤ e.2.2) (p : Int × Int) : 0 ≤ cnt cs p := by
  induction cs with
  | nil => exact Int.le_refl 0
  | cons t r ih =>
    rw [cnt_cons]
    have h1 := h t List.mem_cons_self
    have h2 := ih fun u hu => h u (List.mem_cons_of_mem _ hu)
    split <;> omega
theorem Good.pos {n : Int} {cs : List Tr} (g : Good n cs) : ∀ e ∈ cs, 1 ≤ e.2.2 := fun e he => (g.ord e he).2.2.2
theorem Good.cnt {n : Int} {cs : List Tr} (g : Good n cs) {e : Tr} (h : e ∈ cs) : cnt cs (pr e) = e.2.2 := (self_cnt (srt_nodup g.srt) e h).symm
theorem Good.mem {n : Int} {cs : List Tr} (g : Good n cs) (p : Int × Int) : p ∈ cs.map pr ↔ 1 ≤ Own.cnt cs p := by
  constructor
  · intro h
    obtain ⟨e, he, rfl⟩ := List.mem_map.mp h
    rw [g.cnt he]
    exact g.pos e he
  · intro h
    by_cases m : p ∈ cs.map pr
    · exact m
    · rw [cnt_out m] at h
      omega
theorem good_ext {n : Int} {r s : List Tr} (g : Good n r) (h : Good n s) (e : ∀ p, cnt r p = cnt s p) : r = s := by
  have em : r.map pr = s.map pr := sorted_uniq g.srt h.srt fun p => by rw [g.mem, h.mem, e]
  have e1 := of_pairs (r := r) (g := fun p => cnt s p) fun u hu => (g.cnt hu).symm.trans (e _)
  have e2 := of_pairs (r := s) (g := fun p => cnt s p) fun u hu => (h.cnt hu).symm
  exact e1.trans ((congrArg (List.map _) em).trans e2.symm)
theorem cnt_norm {l r : List Tr} (i : IsNorm l r) (o : ∀ e ∈ l, e.1 < e.2.1) (p : Int × Int) : cnt r p = cnt l p := by
  unfold cnt
  rw [bs_norm _ i, bk_bs _ o]
/-! the dict of a difference -/
def dvs (ps : List (Int × Int)) (v : Int × Int → Int) : List (List Key × V) := ps.map fun p => (kk p, V.int (v p))
theorem dvs_val (ps : List (Int × Int)) (v : Int × Int → Int) (p : Int × Int) : valV (dvs ps v) (kk p) = if p ∈ ps then some (.int (v p)) else none := by
  induction ps with
  | nil => rfl
  | cons q r ih =>
    unfold dvs valV
    rw [List.map_cons, List.find?_cons]
    by_cases h : q = p
    · subst h
      rw [if_pos List.mem_cons_self]
      simp
    · have hk : decide (kk q = kk p) = false := decide_eq_false fun z => h (kk_inj z)
      have e : (p ∈ q :: r) ↔ p ∈ r := ⟨fun m => (List.mem_cons.mp m).resolve_left fun z => h z.symm, List.mem_cons_of_mem _⟩
      dsimp only
      rw [hk]
      dsimp only
      have := ih
      unfold dvs valV at this
      rw [this]
      simp only [e]
theorem dvs_set {ps : List (Int × Int)} {p : Int × Int} (v : Int × Int → Int) (x : Int) (h : p ∈ ps) : putK (dvs ps v) (kk p) (.int x) = dvs ps fun q => if q = p then x else v q := by
  unfold putK
  rw [valV_any, dvs_val, if_pos h]
  show (dvs ps v).map _ = _
  unfold dvs
  rw [List.map_map]
  refine List.map_congr_left fun q _ => ?_
  show (if kk q = kk p then (kk q, V.int x) else (kk q, V.int (v q))) = (kk q, V.int (if q = p then x else v q))
  by_cases e : q = p
  · rw [if_pos (by rw [e]), if_pos e]
  · rw [if_neg fun z => e (kk_inj z), if_neg e]
theorem dvs_new {ps : List (Int × Int)} {p : Int × Int} (v : Int × Int → Int) (h : p ∉ ps) : putK (dvs ps v) (kk p) (.int (v p)) = dvs (ps ++ [p]) v := by
  rw [putK_new _ (by rw [dvs_val, if_neg h])]
  unfold dvs
  rw [List.map_append]
  rfl
def keep (ps : List (Int × Int)) (v : Int × Int → Int) : List Tr := (ps.filter fun p => decide (0 < v p)).map fun p => (p.1, p.2, v p)
theorem keep_cnt (v : Int × Int → Int) (q : Int × Int) : ∀ {ps : List (Int × Int)}, ps.Nodup → cnt (keep ps v) q = if q ∈ ps ∧ 0 < v q then v q else 0
  | [], _ => by
    rw [if_neg fun z => by cases z.1]
    rfl
  | p :: ps, hn => by
    have hc := List.nodup_cons.mp hn
    have ih := keep_cnt v q hc.2
    unfold keep at ih ⊢
    rw [List.filter_cons]
    by_cases h : 0 < v p
    · rw [if_pos (decide_eq_true h), List.map_cons, cnt_cons, ih]
      show (if (p.1, p.2) = q then v p else 0) + _ = _
      by_cases e : p = q
      · subst e
        rw [if_pos rfl, if_neg fun z => hc.1 z.1, if_pos ⟨List.mem_cons_self, h⟩]
        omega
      · rw [if_neg e]
        have e1 : (q ∈ p :: ps ∧ 0 < v q) ↔ (q ∈ ps ∧ 0 < v q) := ⟨fun m => ⟨(List.mem_cons.mp m.1).resolve_left fun z => e z.symm, m.2⟩, fun m => ⟨List.mem_cons_of_mem _ m.1, m.2⟩⟩
        simp only [e1]
        omega
    · rw [if_neg (by rw [decide_eq_false h]; decide), ih]
      by_cases e : p = q
      · subst e
        rw [if_neg fun z => h z.2, if_neg fun z => h z.2]
      · have e1 : (q ∈ p :: ps ∧ 0 < v q) ↔ (q ∈ ps ∧ 0 < v q) := ⟨fun m => ⟨(List.mem_cons.mp m.1).resolve_left fun z => e z.symm, m.2⟩, fun m => ⟨List.mem_cons_of_mem _ m.1, m.2⟩⟩
        simp only [e1]
theorem keep_ord {n : Int} {rs : List Tr} {v : Int × Int → Int} (g : Good n rs) : ∀ t ∈ keep (rs.map pr) v, Vld n t ∧ t.1 < t.2.1 := fun t ht => by
  obtain ⟨p, hp, rfl⟩ := List.mem_map.mp ht
  obtain ⟨h1, h2⟩ := List.mem_filter.mp hp
  obtain ⟨e, he, rfl⟩ := List.mem_map.mp h1
  have ho := g.ord e he
  have hv := of_decide_eq_true h2
  unfold Vld pr
  unfold pr at hv
  dsimp only
  omega
theorem keep_len {rs : List Tr} {v : Int × Int → Int} : (keep (rs.map pr) v).length ≤ rs.length := by
  unfold keep
  rw [List.length_map]
  refine Nat.le_trans (List.length_filter_le _ _) ?_
  rw [List.length_map]
  exact Nat.le_refl _
theorem keep_snoc (ps : List (Int × Int)) (v : Int × Int → Int) (p : Int × Int) : keep (ps ++ [p]) v = if 0 < v p then keep ps v ++ [(p.1, p.2, v p)] else keep ps v := by
  unfold keep
  rw [List.filter_append, List.map_append]
  by_cases h : 0 < v p
  · rw [if_pos h, List.filter_cons, if_pos (decide_eq_true h)]
    rfl
  · rw [if_neg h, List.filter_cons, if_neg (by rw [decide_eq_false h]; decide)]
    exact List.append_nil _
/-- what is left when ds is taken away -/
theorem sub_cnt {n : Int} {rs ds r : List Tr} (g : Good n rs) (h : Good n ds) (le : ∀ t ∈ ds, t.2.2 ≤ cnt rs (pr t)) (i : IsNorm (keep (rs.map pr) fun p => cnt rs p - cnt ds p) r) : Good n r ∧ ∀ p, cnt r p = cnt rs p - cnt ds p := by
  refine ⟨i.good fun t ht => (keep_ord g t ht).1, fun p => ?_⟩
  rw [cnt_norm i fun t ht => (keep_ord g t ht).2, keep_cnt _ _ (srt_nodup g.srt)]
  have nn := cnt_nn g.pos p
  by_cases hd : p ∈ ds.map pr
  · obtain ⟨e, he, rfl⟩ := List.mem_map.mp hd
    have h1 := le e he
    have h2 := h.cnt he
    have h3 := h.pos e he
    by_cases hz : 0 < cnt rs (pr e) - cnt ds (pr e)
    · rw [if_pos ⟨(g.mem _).mpr (by omega), hz⟩]
    · rw [if_neg fun z => hz z.2]
      omega
  · rw [cnt_out hd]
    by_cases hm : p ∈ rs.map pr
    · have := (g.mem p).mp hm
      rw [if_pos ⟨hm, by omega⟩]
    · rw [if_neg fun z => hm z.1, cnt_out hm]
      rfl
end Own

namespace Own
open PySem PySem.Spec PyProof.Rows L2
/-! ### a dict comprehension whose keys are tuples -/
section
variable {X : Cx}
/-- one entry more, at a tuple's key -/
theorem put_tup {pins : List (Addr × Obj)} {σ : L2.St} {H : Hp} {s : Shared} {E : Value → Shared → Prop} {D b : Addr} {kvs : List (List Key × V)} {k : List Key} {v : V} {r : Value} {Q : Unit → Shared → Prop} (hu : X.A.units < cLine) (I : Inv X pins σ H s)
    (eD : H D = some (.dT kvs)) (eb : H b = some (.tup (k.map kV))) (hz : kvs.length < sizeLine) (rv : RelV v r) (q : ∀ s', Inv X pins σ (upd H D (.dT (putK kvs k v))) s' → Q () s') : wpAny (model X.prog X.w) X.A (dictSet D (.ref b) r) Q E s := by
  obtain ⟨z, nsys, xs, rel, dd⟩ := dt_of I.hok eD
  have lx : xs.length ≤ sizeLine := (Paired.length rel).symm ▸ z
  have lk : (putK kvs k v).length ≤ sizeLine := Nat.le_trans (length_putK kvs k v) hz
  refine wpAny_dictSet_heap (hsz := lx) hu (key_of I.hok eb) dd fun h2 d2 sb => q _ ?_
  obtain ⟨o, es, ep, g1, g2, g3, g4, _, g5⟩ := d2
  have keep : ∀ c ys, H c = some (.tup ys) → (upd H D (.dT (putK kvs k v))) c = some (.tup ys) := fun c ys ec => by
    rw [upd_ne (ne_of ec eD (fun z => nomatch z))]
    exact ec
  exact d_write I (by rw [eD]; exact True.intro) sb ⟨o, g1⟩ ⟨lk, nsys, _, (rel.put k eb rv).keeps keep, o, es, ep, g1, g2, g3, g4, g5⟩
abbrev InB (X : Cx) (sc : Scope) (p : Cx → Prop) : Prop := ∀ s H C cl fp, p (X.blk s H sc (compEnvC sc cl C X.env) fp)
abbrev cellsB (X : Cx) (sc : Scope) (n : Nat) : List (Str × Addr) := cellsFrom (n + 1) sc.names (cloFrom X.env.cells sc.names [])
/-- {k: v for .. in ..}, keys tuples -/
def tDcT (wi : TI) (g : TG) (tt : TT) (tk tv : TE) (own : List Nat) : TE := fun σ H Q => wi σ H fun J H1 => ∀ D, H1 D = none → ∃ W : Nat → Nat → Hp → Prop, (∃ m, W 0 m (upd H1 D (.dT []))) ∧ ∀ i m H2, W i m H2 →
  (J.stop i H2 ∧ Q (.ref D) H2) ∨ (J.go i H2 ∧ ∃ N : Hp → Prop, (∀ H3, N H3 → ∃ m', m' < m ∧ W (i + 1) m' H3) ∧ ∀ x H3, J.yld i H2 x H3 → g x (wipe σ own) H3 fun σ4 H4 => wipe σ4 own = wipe σ own ∧ tt σ4 H4 fun b H5 =>
    if b = true then tk σ4 H5 fun y H6 => tv σ4 H6 fun z H7 => ∃ kvs k a, y = .ref a ∧ H7 D = some (.dT kvs) ∧ H7 a = some (.tup (k.map kV)) ∧ kvs.length < sizeLine ∧ N (upd H7 D (.dT (putK kvs k z))) else N H5)
theorem dcT_core {pins : List (Addr × Obj)} {s : Shared} {σ : L2.St} {H : Hp} {Q : VK} {kx vx tg iter : Expr} {ifs : List Expr} {sc : Scope} {own : List (Str × Nat)} {pos pos' : Pos} {wi : TI} {g : TG} {tt : TT} {tk tv : TE} {use : Option (Value → Sem Unit)} {Qf : Value → Shared → Prop} (calm : X.calm = true) (room : X.A.units < cLine) (nd : X.N.Nodup) (I : Inv X pins σ H s) (src : PI X tg iter wi) (ok : BlkOk X.N X.env.scope sc own)
    (hg : InB X sc fun Y => PG Y tg g) (ht : InB X sc fun Y => PTs Y ifs tt) (hk : InB X sc fun Y => PE Y kx tk) (hv : InB X sc fun Y => PE Y vx tv) (fold : ∀ x, foldedSetIterable iter X.env x = pure x)
    (h : tDcT wi g tt tk tv (own.map (·.2)) σ H Q)
    (hRR : ∀ D Z s' m G, Inv X pins σ G s' → Q (.ref D) G → s'.heap.Ns Z m → FpOk X pins G Z → compPost (model X.prog X.w) X.A X.xe use Qf (.ref D) Z (.ok .next) s') :
    wpAny (model X.prog X.w) X.A (comprehension (.DictComp kx vx [⟨tg, iter, ifs, 0⟩] sc pos) sc X.env pos' newDict false (eval iter X.env) use) Qf X.xe s := by
  have frees : ∀ y ∈ sc.names, y.2 = .free → ∃ c, X.env.cells.lookup y.1 = some c := fun y hy e => (ok.free y hy e).elim (fun k => I.ok.has _ (.inl k)) fun k => I.ok.has _ (.inr k)
  refine wpAny_comprehension_free (use := use) rfl fold (closure_ok frees) ok.kind (fun y hy e => by rw [ok.uniq y hy, e]) (thn (src.run pins s σ H _ I h) fun _ _ hx => thn hx fun itv s2 h2 => ?_)
  obtain ⟨it, fp, tn, J, H2, rfl, I2, T, t2, f2, q⟩ := h2
  refine wpAny_newObj_type (newEnv_comp ?_)
  have nD : H2 s2.heap.objs.size = none := I2.hok.fresh (Nat.le_refl _)
  obtain ⟨W, ⟨m0, w0⟩, turn⟩ := q _ nD
  generalize eD : s2.heap.objs.size = D at nD w0 turn ⊢
  -- the dict stands, empty
  generalize e3 : ({ s2 with heap := s2.heap.push { cls := .type "dict", data := .dict #[] } } : Shared) = s3
  have p3 : s3.heap = s2.heap.push { cls := .type "dict", data := .dict #[] } := e3 ▸ rfl
  have old3 : ∀ {b : Addr} {o : Obj}, s2.heap.get? b = some o → s3.heap.get? b = some o := fun e => p3 ▸ Heap.get?_push_of_some _ e
  have I3 : Inv X pins σ (upd H2 D (.dT [])) s3 := by
    subst e3 eD
    exact I2.laid (t' := s2.toks) (fun _ _ e => Heap.get?_push_of_some _ e) (Nat.le_refl _) (dt_empty s2.heap I2.big)
  have f3 : ∀ b ∈ fp, FpOk X pins (upd H2 D (.dT [])) b ∧ b < s3.heap.objs.size := fun b hb => by
    obtain ⟨o, e, _⟩ := T.obj _ _ t2 b hb
    have lt := Heap.lt_size e
    refine ⟨⟨?_, (f2 b hb).2⟩, ?_⟩
    · rw [upd_ne (eD ▸ Nat.ne_of_lt lt)]
      exact (f2 b hb).1
    · rw [p3, Heap.size_push]
      exact Nat.lt_succ_of_lt lt
  have t3 : tn 0 s3.heap := T.keep _ _ _ t2 fun _ _ _ e => old3 e
  have I4 := block_start I3 ok nd f3
  generalize eZ : s3.heap.objs.size = Z at I4
  have pg := hg s3 (upd H2 D (.dT [])) Z (cellsB X sc Z) fp
  have pt := ht s3 (upd H2 D (.dT [])) Z (cellsB X sc Z) fp
  have pk := hk s3 (upd H2 D (.dT [])) Z (cellsB X sc Z) fp
  have pv_ := hv s3 (upd H2 D (.dT [])) Z (cellsB X sc Z) fp
  show codeAny (model X.prog X.w) X.A (.compStart (.DictComp kx vx [⟨tg, iter, ifs, 0⟩] sc pos) 0 (.ref it) (.ref D) (compEnvC sc (cellsB X sc Z) Z X.env)) (compPost (model X.prog X.w) X.A X.xe use Qf (.ref D) Z)
    { s3 with heap := pushCells (s3.heap.push { cls := .type "dict", data := .dict #[] }) sc.names }
  generalize e4 : ({ s3 with heap := pushCells (s3.heap.push { cls := .type "dict", data := .dict #[] }) sc.names } : Shared) = s4 at I4 ⊢
  have t4 : tn 0 s4.heap := T.keep _ _ _ t3 fun _ _ _ e => e4 ▸ pushCells_keeps _ _ _ _ (Heap.get?_push_of_some _ e)
  have nf : ∀ b ∈ fp, (upd H2 D (.dT [])) b = none := fun b hb => (f3 b hb).1.1
  generalize upd H2 D (.dT []) = H3 at I3 I4 f3 nf w0 pg pt pk pv_
  generalize eC : compEnvC sc (cellsB X sc Z) Z X.env = ce at I4 pg pt pk pv_ ⊢
  have lC : ce.locals = Z := eC ▸ rfl
  have fps : ∀ {τ : L2.St} {G : Hp} {s' : Shared}, Inv (X.blk s3 H3 sc ce fp) [] τ G s' → (∀ b ∈ fp, G b = none) → ∀ b ∈ fp, FpOk (X.blk s3 H3 sc ce fp) [] G b := fun J hn b hb => by
    obtain ⟨x1, x2⟩ := J.ok.exf b hb
    exact ⟨hn b hb, x1, J.ok.exfs b hb, .inl hb, fun x c => x2 x c, fun p hp => nomatch (show p ∈ ([] : List (Addr × Obj)) from hp)⟩
  have loop : codeAny (model X.prog X.w) X.A (.compLoop (.DictComp kx vx [⟨tg, iter, ifs, 0⟩] sc pos) 0 (.ref it) (.ref D) ce) (compPost (model X.prog X.w) X.A X.xe use Qf (.ref D) Z) s4 := by
    refine compLoop_anyD (fun n s' => ∃ i G, Inv (X.blk s3 H3 sc ce fp) [] (wipe σ (own.map (·.2))) G s' ∧ tn i s'.heap ∧ (∀ b ∈ fp, G b = none) ∧ W i n G) ?_ m0 ⟨0, H3, I4, t4, nf, w0⟩
    intro n s5 ⟨i, H5, I5, t5, n5, w5⟩
    obtain ⟨stop, done⟩ | ⟨go, N, hN, one⟩ := turn i n H5 w5
    · -- nothing more
      refine thnF (T.done (X.blk s3 H3 sc ce fp) rfl rfl rfl calm i [] s5 _ H5 (fun _ _ => False) I5 (fps I5 n5) t5 stop) fun r s6 ⟨er, I6⟩ => ?_
      subst er
      have nZ : H5 Z = none := lC ▸ (show H5 ce.locals = none from I6.free)
      have I7 : Inv X pins σ H5 s6 := I3.call' (ch := fp) I6.os I6.base I6.hok I6.bare fun b hb => by
        obtain ⟨⟨_, k1, k2, k3, k4⟩, _⟩ := f3 b hb
        exact ⟨k3, k1, k4⟩
      obtain ⟨m, hm, _⟩ := I6.loc
      have hm2 : s6.heap.Ns Z m := lC ▸ (show s6.heap.Ns ce.locals m from hm)
      exact hRR D Z s6 m H5 I7 done hm2 (I3.fpOk (Nat.le_of_eq eZ) nZ)
    · -- one more
      refine thnF (T.item (X.blk s3 H3 sc ce fp) rfl rfl rfl calm i [] s5 _ H5 (fun _ _ => False) I5 (fps I5 n5) t5 go) fun r s6 ⟨u, er, h6⟩ => ?_
      subst er
      refine thnF h6 fun _ s7 ⟨x, H7, I7, r7, y7, t7, n7⟩ => ?_
      have P7 := I7.pinned (fps I7 n7) (T.obj _ _ t7)
      refine thnF (pg.run _ s7 _ H7 x u _ P7 r7 (one x H7 y7)) fun _ s8 ⟨σ8, H8, I8, same8, q8⟩ => ?_
      refine thnF (pt.run _ s8 σ8 H8 _ I8 q8) fun b s9 ⟨H9, I9, q9⟩ => ?_
      have back : ∀ {s' : Shared} {G : Hp}, Inv (X.blk s3 H3 sc ce fp) ([] ++ pinsAt fp s7.heap) σ8 G s' → N G → ∃ m, m < n ∧ ∃ i G, Inv (X.blk s3 H3 sc ce fp) [] (wipe σ (own.map (·.2))) G s' ∧ tn i s'.heap ∧ (∀ b ∈ fp, G b = none) ∧ W i m G := fun {s' G} J nx => by
        obtain ⟨m', lt, w'⟩ := hN G nx
        have stays : ∀ b ∈ fp, ∀ o, s7.heap.get? b = some o → s'.heap.get? b = some o ∧ G b = none := fun b hb o e => by
          have z := J.pin (b, o) (List.mem_append_right _ (List.mem_append_right _ (mem_pinsAt hb e)))
          exact ⟨z.1, z.2.1⟩
        refine ⟨m', lt, i + 1, G, (J.unpinned (pins := [])).weak ?_ fun j v e => ?_, T.keep _ _ _ t7 fun b hb o e => (stays b hb o e).1, fun b hb => ?_, w'⟩
        · rw [← same8, wipe_length]
        · exact (wipe_some (same8.symm ▸ e)).1
        · obtain ⟨o, e, _⟩ := T.obj _ _ t7 b hb
          exact (stays b hb o e).2
      cases b with
      | false => exact back I9 q9
      | true =>
        refine thnF (pk.run _ s9 σ8 H9 _ I9 q9) fun kk_ sa ⟨yk, Ha, Ia, ra, qa⟩ => ?_
        refine thnF (pv_.run _ sa σ8 Ha _ Ia qa) fun vv_ sb ⟨yv, Hb, Ib, rb, kvs, k, a, ey, eDb, eab, lz, nx⟩ => ?_
        subst ey
        cases (show kk_ = Value.ref a from ra)
        exact put_tup (X := X.blk s3 H3 sc ce fp) room Ib eDb eab lz rb fun sc_ Ic => back Ic nx
  exact codeAny_compStart_dict loop (T.self X.A 0 _ _ _ t4 loop)
theorem pe_dcT {kx vx tg iter : Expr} {ifs : List Expr} {sc : Scope} {own : List (Str × Nat)} {pos : Pos} {wi : TI} {g : TG} {tt : TT} {tk tv : TE} (calm : X.calm = true) (room : X.A.units < cLine) (nd : X.N.Nodup) (src : PI X tg iter wi) (ok : BlkOk X.N X.env.scope sc own)
    (hg : InB X sc fun Y => PG Y tg g) (ht : InB X sc fun Y => PTs Y ifs tt) (hk : InB X sc fun Y => PE Y kx tk) (hv : InB X sc fun Y => PE Y vx tv) (fold : ∀ x, foldedSetIterable iter X.env x = pure x := by intro _; rfl) :
    PE X (.DictComp kx vx [⟨tg, iter, ifs, 0⟩] sc pos) (tDcT wi g tt tk tv (own.map (·.2))) := by
  refine ⟨fun pins s σ H Q I h => ?_⟩
  rw [arm_eval_DictComp]
  refine dcT_core calm room nd I src ok hg ht hk hv fold h fun D Z s' m G I' q hn f => ⟨m, hn, fun h'' sb => ?_⟩
  obtain ⟨f0, f1, f2, f3, f4, f5⟩ := f
  exact ⟨.ref D, G, I'.turned (t' := s'.toks) (fun b o hb e => (sb.2 b hb).trans e) f0 f1 f3 f4 f5, rfl, q⟩
/-- name = {k: v for ..} on one line, the name a local -/
theorem ps_setDcT {i : Nat} {y : Str} {py : Pos} {kx vx tg iter : Expr} {ifs : List Expr} {sc : Scope} {own : List (Str × Nat)} {pos spos : Pos} {wi : TI} {g : TG} {tt : TT} {tk tv : TE} (calm : X.calm = true) (room : X.A.units < cLine) (nd : X.N.Nodup) (hy : X.N[i]? = some y) (hyl : X.env.scope.names.lookup y = some .local)
    (hsw : swapsWith (.DictComp kx vx [⟨tg, iter, ifs, 0⟩] sc pos) (some (.Name y py)) spos.line X.env = pure true) (src : PI X tg iter wi) (ok : BlkOk X.N X.env.scope sc own)
    (hg : InB X sc fun Y => PG Y tg g) (ht : InB X sc fun Y => PTs Y ifs tt) (hk : InB X sc fun Y => PE Y kx tk) (hv : InB X sc fun Y => PE Y vx tv) (fold : ∀ x, foldedSetIterable iter X.env x = pure x := by intro _; rfl) :
    PS X (.Assign [.Name y py] (.DictComp kx vx [⟨tg, iter, ifs, 0⟩] sc pos) spos) (tAsg (tDcT wi g tt tk tv (own.map (·.2))) (gName i)) := by
  refine ⟨fun pins s σ H D I h => ?_⟩
  rw [exec_Assign_Name_used _ _ _ _ hsw]
  refine wpAny_bind (wpAny_standAt (wpAny_bind ?_))
  show wpAny _ X.A (do let _ ← comprehension (.DictComp kx vx [⟨tg, iter, ifs, 0⟩] sc pos) sc X.env (firstIterPos [⟨tg, iter, ifs, 0⟩] pos) newDict false (eval iter X.env) (some (assign (.Name y py) X.env))) _ _ s
  have h : tDcT wi g tt tk tv (own.map (·.2)) σ H (fun x H1 => gName i x σ H1 D.nx) := h
  refine wpAny_bind (thn (dcT_core (Qf := fun _ s' => SP X pins D .next s') calm room nd I src ok hg ht hk hv fold h fun L Z s' m G I' q hn f => ?_) fun _ s' hq => wpAny_pure (wpAny_pure hq))
  show wpAny _ _ (assign (.Name y py) X.env (.ref L)) _ _ _
  refine wpAny_assign_Name (store_ok2 (v := V.ref L) I' nd hy (.inl hyl) rfl (fun s2 I2 ⟨a, sb, ha⟩ => ?_) (.inr hyl))
  obtain ⟨f0, f1, f2, f3, f4, f5⟩ := f
  have haZ : Z ≠ a := by
    rcases ha with z | z
    · rw [z]; exact f1
    · exact fun e => f4 y a z e.symm
  refine ⟨m, hn.sameBut sb haZ, fun h3 sb3 => ?_⟩
  exact ⟨_, G, I2.turned (t' := s2.toks) (fun b o hb e => (sb3.2 b hb).trans e) f0 f1 f3 f4 f5, q⟩
theorem sw_dict {kx vx : Expr} {gs : List Comprehension} {sc : Scope} {pos py : Pos} {y : Str} {l : Nat} {env : Env} (hk : env.scope.kind = .function) (hy : env.scope.names.lookup y = some .local) (hl : (py.line == pos.line) = true)
    (ha : (sc.names.any fun (n, k) => n == y && (k == .local || k == .cell)) = false) : swapsWith (.DictComp kx vx gs sc pos) (some (.Name y py)) l env = pure true := by
  have ky : env.kindOf y = some .local := hy
  have hb : env.blockKind = .function := by unfold Env.blockKind; rw [hk]; rfl
  unfold swapsWith
  simp only [hb, ky, ha, Expr.pos, hl]
  rfl
end
end Own

namespace Own
open PySem PySem.Spec PyProof.Rows L2
section
variable {J : It} {n : Nat} {G : Hp → Prop} {Y : Nat → Hp → V → Hp → Prop}
/-- a dict comprehension over a walk -/
theorem dc_it (w : Walk J n G Y) {g : TG} {tt : TT} {tk tv : TE} {vs : List Nat} {σ : L2.St} {H1 : Hp} {D : Addr} {Qd : Hp → Prop} (Pv : Nat → Hp → Prop) (h0 : Pv 0 (upd H1 D (.dT []))) (hG : ∀ i H, i ≤ n → Pv i H → G H)
    (hs : ∀ i x H H', i < n → Pv i H → Y i H x H' → g x (wipe σ vs) H' fun σ2 H2 => wipe σ2 vs = wipe σ vs ∧ tt σ2 H2 fun b H3 =>
      if b = true then tk σ2 H3 fun y H4 => tv σ2 H4 fun z H5 => ∃ kvs k a, y = .ref a ∧ H5 D = some (.dT kvs) ∧ H5 a = some (.tup (k.map kV)) ∧ kvs.length < sizeLine ∧ Pv (i + 1) (upd H5 D (.dT (putK kvs k z))) else Pv (i + 1) H3) (hd : ∀ H, Pv n H → Qd H) :
    ∃ W : Nat → Nat → Hp → Prop, (∃ m, W 0 m (upd H1 D (.dT []))) ∧ ∀ i m H, W i m H →
      (J.stop i H ∧ Qd H) ∨ (J.go i H ∧ ∃ Nx : Hp → Prop, (∀ H', Nx H' → ∃ m', m' < m ∧ W (i + 1) m' H') ∧ ∀ x H', J.yld i H x H' → g x (wipe σ vs) H' fun σ2 H2 => wipe σ2 vs = wipe σ vs ∧ tt σ2 H2 fun b H3 =>
        if b = true then tk σ2 H3 fun y H4 => tv σ2 H4 fun z H5 => ∃ kvs k a, y = .ref a ∧ H5 D = some (.dT kvs) ∧ H5 a = some (.tup (k.map kV)) ∧ kvs.length < sizeLine ∧ Nx (upd H5 D (.dT (putK kvs k z))) else Nx H3) := by
  refine ⟨fun i m H => m = n - i ∧ i ≤ n ∧ Pv i H, ⟨n, by simp, Nat.zero_le _, h0⟩, ?_⟩
  rintro i m H ⟨rfl, hi, p⟩
  have q := hG i H hi p
  by_cases hlt : i < n
  · exact .inr ⟨w.goes i H hlt q, Pv (i + 1), fun H' p' => ⟨n - (i + 1), by omega, rfl, hlt, p'⟩, fun x H' y => hs i x H H' hlt p (w.yields i H x H' hlt q y)⟩
  · have e : i = n := by omega
    subst e
    exact .inl ⟨w.stops H q, hd H p⟩
end
theorem dvs_len (ps : List (Int × Int)) (v : Int × Int → Int) : (dvs ps v).length = ps.length := List.length_map _
theorem dvs_at {ps : List (Int × Int)} {v : Int × Int → Int} {i : Nat} {k : List Key} {x : V} (h : (dvs ps v)[i]? = some (k, x)) : ∃ p, ps[i]? = some p ∧ k = kk p := by
  unfold dvs at h
  rw [List.getElem?_map] at h
  cases e : ps[i]? with
  | none => rw [e] at h; cases h
  | some p =>
    rw [e] at h
    cases h
    exact ⟨p, rfl, rfl⟩
section
variable {P : Program} {w : World} {K : PySem.W.Frag} {mg : Str → Option Value} {base : Heap} {C : Addr}
def spEntOf : Sp := fun vs H Q _ => ∃ (d : Addr) (ps : List (Int × Int)) (v : Int × Int → Int), vs = [.ref d] ∧ H d = some (.dT (dvs ps v)) ∧ ps.length ≤ 1000 ∧ ∀ H' p, Same H H' → H p = none → TripL H' p (keep ps v) → Q (.ref p) H'
theorem ok_entof {f : Addr} {fd : FuncData} (F : Fun K "entries_of" "entries_of" s_entries_of f fd) : FnOk P w K mg base CX0 1 f fd ["held"] spEntOf := by
  refine F.ok sc_entries_of (fun vs H Q E h => ?_) (fun cdv A outer s H vs Q E hr h => ?_)
  · obtain ⟨d, ps, v, rfl, _⟩ := h
    rfl
  · obtain ⟨d, ps, v, rfl, hd, hl, q⟩ := h
    have hu := hu_of hr
    refine ⟨_, (pss_one (ps_ret (pe_lock (pe_lc (own := [("a", 1), ("b", 2)]) (g := gTup K 2 (gCons (gName 1) (gCons (gName 2) gNil))) rfl sc_entries_of.nd (pi_keys (pv 0)) (blkOk_by (own := [("a", 1), ("b", 2)]) (N := ["held", "a", "b"]) (sc := defScope s_entries_of) (by decide +kernel)) (fun _ _ _ _ _ => (pg_tup (by rfl) (pgs_cons (pg_name (i := 1) sc_entries_of.nd rfl (.inl rfl)) (pgs_cons (pg_name (i := 2) sc_entries_of.nd rfl (.inl rfl)) pgs_nil)))) (fun _ _ _ _ _ => pts_one (pt_cmpR op_gt (pe_dget hu (pv 0) (pe_tup (pa_cons (pv 1) (pa_cons (pv 2) pa_nil))) (fun _ _ => rfl)) pe_int (nomark _))) (fun _ _ _ _ _ => (pe_tup (pa_cons (pv 1) (pa_cons (pv 2) (pa_cons (pe_dget hu (pv 0) (pe_tup (pa_cons (pv 1) (pa_cons (pv 2) pa_nil))) (fun _ _ => rfl)) pa_nil))))))))), ?_⟩
    refine ⟨d, _, hd, trivial, fun od => ?_⟩
    generalize hHf : upd H d (.frz od (.dT (dvs ps v))) = Hf
    have ef : Hf d = some (.frz od (.dT (dvs ps v))) := by rw [← hHf]; exact upd_same
    have of : ∀ b, b ≠ d → Hf b = H b := fun b h => by rw [← hHf]; exact upd_ne h
    refine ⟨_, rfl, d, od, rfl, .inr ⟨_, ef, fun D hD => ?_⟩⟩
    have nD0 : D ≠ d := fun z => by rw [z, ef] at hD; cases hD
    refine lc_it walk_keysT (fun i H2 => Same Hf H2 ∧ ∃ ws, H2 D = some (.lst ws) ∧ TrV H2 ws (keep (ps.take i) v)) ⟨same_upd hD, [], upd_same, TrV.nil⟩ (fun i H2 _ p => p.1 _ _ ef) (fun i x H2 H2' hi pv y => ?_) (fun H2 pv => ?_)
    · obtain ⟨s2, ws, eD, tV⟩ := pv
      obtain ⟨rfl, k, x0, qa, hk, rfl, hq⟩ := y
      obtain ⟨p, hp, rfl⟩ := dvs_at hk
      have hq2 : H2' qa = some (.tup [.int p.1, .int p.2]) := hq
      have hval : valV (dvs ps v) (kk p) = some (.int (v p)) := by rw [dvs_val, if_pos (List.mem_of_getElem? hp)]
      have ed := s2 _ _ ef
      have get : ∀ {H3 : Hp} {b : Addr}, Same H2' H3 → H3 b = some (.tup [.int p.1, .int p.2]) → DGet H3 d (.ref b) (some (.int (v p))) := fun {H3 b} s e => .inr ⟨_, kk p, b, .inr ⟨_, s _ _ ed⟩, rfl, e, hval.symm⟩
      refine ⟨qa, _, rfl, .inl (.inl hq2), rfl, _, _, rfl, _, _, rfl, rfl, rfl, ?_⟩
      refine ⟨_, rfl, _, rfl, _, rfl, by show 2 ≤ sizeLine; decide, fun p1 np1 => ⟨d, .int (v p), rfl, get (same_upd np1) upd_same, ?_⟩⟩
      have s1 := same_upd (o := .tup [.int p.1, .int p.2]) np1
      have tk : keep (ps.take (i + 1)) v = if 0 < v p then keep (ps.take i) v ++ [(p.1, p.2, v p)] else keep (ps.take i) v := by
        rw [List.take_add_one, hp]
        exact keep_snoc _ _ _
      have hlen : ws.length ≤ 1000 := by
        rw [tV.1]
        unfold keep
        rw [List.length_map]
        have h1 := List.length_filter_le (fun p => decide (0 < v p)) (ps.take i)
        rw [List.length_take] at h1
        omega
      refine ⟨_, _, rfl, rfl, _, rfl, ite2 (fun e => ?_) (fun e => ?_)⟩
      · have h0 : 0 < v p := of_decide_eq_true e
        refine ⟨_, rfl, _, rfl, _, rfl, _, rfl, _, rfl, by show 2 ≤ sizeLine; decide, fun p2 np2 => ⟨d, .int (v p), rfl, get (s1.trans (same_upd np2)) upd_same, by show 3 ≤ sizeLine; decide, fun p3 np3 => ?_⟩⟩
        have s3 := (s1.trans (same_upd (o := .tup [.int p.1, .int p.2]) np2)).trans (same_upd (o := .tup [.int p.1, .int p.2, .int (v p)]) np3)
        have nD : p3 ≠ D := fun z => by
          rw [z] at np3
          have := (s1.trans (same_upd (o := .tup [.int p.1, .int p.2]) np2)) _ _ eD
          rw [this] at np3
          cases np3
        refine ⟨ws, s3 _ _ eD, small1000 hlen, same_put (H1 := Hf) hD (s2.trans s3), _, upd_same, ?_⟩
        rw [tk, if_pos h0]
        refine (tV.sameT (sameT_put eD s3)).snoc ?_
        rw [upd_ne nD, upd_same]
      · have h0 : ¬ 0 < v p := fun z => e (decide_eq_true z)
        refine ⟨s2.trans s1, ws, s1 _ _ eD, ?_⟩
        rw [tk, if_neg h0]
        exact tV.same s1
    · obtain ⟨s2, ws, eD, tV⟩ := pv
      rw [dvs_len, List.take_length] at tV
      have ed := s2 _ _ ef
      refine ⟨ed, q _ D (fun b o e => ?_) (by rw [← of D nD0]; exact hD) ⟨ws, by rw [upd_ne nD0]; exact eD, tV.sameT fun b o e => ?_⟩⟩
      · by_cases z : b = d
        · subst z
          rw [upd_same, ← hd]
          exact e
        · rw [upd_ne z]
          exact s2 _ _ (by rw [of b z]; exact e)
      · rw [upd_ne fun z => by rw [z, ed] at e; cases e]
        exact e
def spSub (C : Addr) : Sp := fun vs H Q _ => ∃ (p o : Addr) (n : Int) (rs ds : List Tr), vs = [.ref p, .ref o] ∧ LotAt C H p n rs ∧ LotAt C H o n ds ∧ 0 ≤ n ∧ Good n rs ∧ Good n ds ∧ (∀ t ∈ ds, t.2.2 ≤ cnt rs (pr t)) ∧ rs.length ≤ 1000 ∧ ∀ H' x r, Same H H' → LotAt C H' x n r → Good n r → (∀ p, cnt r p = cnt rs p - cnt ds p) → Q (.ref x) H'
theorem ok_sub {f : Addr} {fd : FuncData} (F : Fun K "__sub__" "Lot.__sub__" s_Lot_sub f fd) (L : LotC K mg C) {f_i : Addr} {d_i : FuncData} (M : Mk K C f_i) (b_i : Binds K d_i ["self", "pins", "cords"] []) (G_i : GI P w K mg base C f_i d_i) {f_k : Addr} {d_k : FuncData} (D_k : Df K mg "check_like" s_check_like ["one", "other"] f_k d_k) (G_k : FnOk P w K mg base CX0 1 f_k d_k ["one", "other"] spLike)
    {f_e : Addr} {d_e : FuncData} (D_e : Df K mg "entries_of" s_entries_of ["held"] f_e d_e) (G_e : FnOk P w K mg base CX0 1 f_e d_e ["held"] spEntOf) : FnOk P w K mg base CX0 7 f fd ["self", "other"] (spSub C) := by
  refine F.ok sc_Lot_sub (fun vs H Q E h => ?_) (fun cdv A outer s H vs Q E hr h => ?_)
  · obtain ⟨p, o, n, rs, ds, rfl, _⟩ := h
    rfl
  · obtain ⟨p, o, n, rs, ds, rfl, hp, ho, n0, gr_, gd, le, hl, q⟩ := h
    have hu := hu_of hr
    refine ⟨_, (pss_cons (ps_expr (pe_call G_k (hr.mono (by decide)) (by rfl) D_k.g D_k.F.kp D_k.b .nil pass0 (pa_cons (pe_fld (pv 0) rfl) (pa_cons (pe_fld (pv 1) rfl) pa_nil))))
        (pss_cons (ps_setDcT (i := 2) (own := [("a", 3), ("b", 4), ("many", 5)]) (g := gTup K 3 (gCons (gName 3) (gCons (gName 4) (gCons (gName 5) gNil)))) (tt := tYes) rfl (Nat.lt_of_succ_lt hu) sc_Lot_sub.nd rfl rfl (sw_dict rfl rfl rfl (by decide +kernel)) (pi_tup (pe_fld (pv 0) rfl)) (blkOk_by (own := [("a", 3), ("b", 4), ("many", 5)]) (N := ["self", "other", "left", "a", "b", "many"]) (sc := defScope s_Lot_sub) (by decide +kernel)) (fun _ _ _ _ _ => (pg_tup (by rfl) (pgs_cons (pg_name (i := 3) sc_Lot_sub.nd rfl (.inl rfl)) (pgs_cons (pg_name (i := 4) sc_Lot_sub.nd rfl (.inl rfl)) (pgs_cons (pg_name (i := 5) sc_Lot_sub.nd rfl (.inl rfl)) pgs_nil))))) (fun _ _ _ _ _ => pts_nil) (fun _ _ _ _ _ => (pe_tup (pa_cons (pv 3) (pa_cons (pv 4) pa_nil)))) (fun _ _ _ _ _ => (pv 5)))
        (pss_cons (ps_for PassesOwn.never rfl (pi_tup (pe_fld (pv 1) rfl)) (pg_tup (by rfl) (pgs_cons (pg_name (i := 3) sc_Lot_sub.nd rfl (.inl rfl)) (pgs_cons (pg_name (i := 4) sc_Lot_sub.nd rfl (.inl rfl)) (pgs_cons (pg_name (i := 5) sc_Lot_sub.nd rfl (.inl rfl)) pgs_nil))))
        (pss_cons (ps_if (pt_cmpR op_lt (pe_dget2 hu (pv 2) (pe_tup (pa_cons (pv 3) (pa_cons (pv 4) pa_nil))) pe_int ⟨rfl, rfl, rfl, rfl⟩) (pv 5) (nomark _)) (pss_one ps_never) pss_nil)
        (pss_one (ps_dput hu (pv 2) (pe_tup (pa_cons (pv 3) (pa_cons (pv 4) pa_nil))) (pe_op op_sub (pe_dget hu (pv 2) (pe_tup (pa_cons (pv 3) (pa_cons (pv 4) pa_nil))) (fun _ _ => rfl)) (pv 5)) rfl))))
        (pss_one (ps_ret (pe_make M G_i hr (by rfl) L.g b_i .nil pass0 (pa_cons (pe_fld (pv 0) rfl) (pa_cons (pe_call G_e (hr.mono (by decide)) (by rfl) D_e.g D_e.F.kp D_e.b .nil pass0 (pa_cons (pv 2) pa_nil)) pa_nil)))))))), ?_⟩
    obtain ⟨dx, c, e, xs, ex, tx⟩ := hp
    obtain ⟨dy, d, e2, ys, ey, ty⟩ := ho
    refine ⟨_, rfl, p, C, dx, _, _, rfl, e, L.cl, L.nP, flds_pins _ _, _, rfl, o, C, dy, _, _, rfl, e2, L.cl, L.nP, flds_pins _ _, n, rfl, ?_⟩
    refine ⟨_, rfl, p, C, dx, _, _, rfl, e, L.cl, L.nC, flds_cords _ _, c, rfl, ⟨xs, .inl (.inl ex)⟩, fun D hD => ?_⟩
    refine dc_it (walk_tup (K := K) (a := c) (xs := xs)) (fun i H2 => Same H H2 ∧ H2 D = some (.dT (dvs ((rs.take i).map pr) (cnt rs)))) ⟨same_upd hD, upd_same⟩ (fun i H2 _ pv => .inl (.inl (pv.1 _ _ ex))) (fun i x H2 H2' hi pv y => ?_) (fun H2 pv => ?_)
    · obtain ⟨rfl, hxi⟩ := y
      obtain ⟨s2, eD⟩ := pv
      obtain ⟨u, t, rfl, hti, hu2⟩ := (tx.same s2).at_ hxi
      refine ⟨u, _, rfl, .inl (.inl hu2), rfl, _, _, rfl, _, _, rfl, _, _, rfl, rfl, rfl, ?_⟩
      refine ⟨_, rfl, _, rfl, by show 2 ≤ sizeLine; decide, fun p1 np1 => ⟨_, rfl, _, kk (pr t), p1, rfl, (same_upd np1) _ _ eD, upd_same, ?_, ?_⟩⟩
      · rw [dvs_len, List.length_map, List.length_take]
        exact Nat.lt_of_le_of_lt (Nat.min_le_right _ _) (small1000 hl)
      · refine ⟨same_put (H1 := H) hD (s2.trans (same_upd np1)), ?_⟩
        rw [upd_same, List.take_add_one, hti]
        have hnew : pr t ∉ (rs.take i).map pr := fun m => by
          have hnd := srt_nodup gr_.srt
          rw [List.map_take] at m
          obtain ⟨j, hj, ej⟩ := List.mem_iff_getElem.mp m
          rw [List.length_take] at hj
          have hil : i < (rs.map pr).length := by rw [List.length_map]; exact (List.getElem?_eq_some_iff.mp hti).1
          have h1 : (rs.map pr)[j]? = (rs.map pr)[i]? := by
            rw [List.getElem_take] at ej
            rw [List.getElem?_eq_getElem (by omega), ej, List.getElem?_map, hti]
            rfl
          have h2 := (List.getElem?_inj (by omega) hnd).mp h1
          omega
        have hc := gr_.cnt (List.mem_of_getElem? hti)
        show some (HO.dT (putK _ (kk (pr t)) (.int t.2.2))) = some (HO.dT (dvs ((rs.take i ++ [t]).map pr) (cnt rs)))
        rw [← hc, dvs_new _ hnew, List.map_append]
        rfl
    · obtain ⟨s2, eD⟩ := pv
      have hxl : xs.length = rs.length := tx.1
      rw [hxl, List.take_length] at eD
      refine ⟨_, rfl, o, C, dy, _, _, rfl, s2 _ _ e2, L.cl, L.nC, flds_cords _ _, d, rfl, ⟨ys, .inl (.inl (s2 _ _ ey))⟩, for_tup (xs := ys) (fun i σ H3 => ∃ y3 y4 y5, σ = [some (.ref p), some (.ref o), some (.ref D), y3, y4, y5] ∧ Same H H3 ∧ H3 D = some (.dT (dvs (rs.map pr) fun z => cnt rs z - cnt (ds.take i) z))) ⟨none, none, none, rfl, s2, ?_⟩ (fun i σ H3 _ pv => by obtain ⟨_, _, _, _, s3, _⟩ := pv; exact .inl (.inl (s3 _ _ ey))) (fun i x σ H3 hxi pv => ?_) (fun σ H3 pv => ?_)⟩
      · rw [eD]
        congr 2
        refine congrArg _ ?_
        funext z
        show cnt rs z = cnt rs z - 0
        omega
      · obtain ⟨y3, y4, y5, rfl, s3, eD3⟩ := pv
        obtain ⟨u, t, rfl, hti, hu3⟩ := (ty.same s3).at_ hxi
        have htm := List.mem_of_getElem? hti
        have hle := le t htm
        have hpos := gd.pos t htm
        have hin : pr t ∈ rs.map pr := (gr_.mem _).mpr (by omega)
        have hz : cnt (ds.take i) (pr t) = 0 := cnt_out fun m => by
          have hnd := srt_nodup gd.srt
          rw [List.map_take] at m
          obtain ⟨j, hj, ej⟩ := List.mem_iff_getElem.mp m
          rw [List.length_take] at hj
          have hil : i < (ds.map pr).length := by rw [List.length_map]; exact (List.getElem?_eq_some_iff.mp hti).1
          have h1 : (ds.map pr)[j]? = (ds.map pr)[i]? := by
            rw [List.getElem_take] at ej
            rw [List.getElem?_eq_getElem (by omega), ej, List.getElem?_map, hti]
            rfl
          have h2 := (List.getElem?_inj (by omega) hnd).mp h1
          omega
        have get : ∀ {H4 : Hp} {b : Addr}, Same H3 H4 → H4 b = some (.tup [.int t.1, .int t.2.1]) → DGet H4 D (.ref b) (some (.int (cnt rs (pr t) - cnt (ds.take i) (pr t)))) := fun {H4 b} s4 eb => .inr ⟨_, kk (pr t), b, .inl (s4 _ _ eD3), rfl, eb, by rw [dvs_val, if_pos hin]⟩
        refine ⟨u, _, rfl, .inl (.inl hu3), rfl, _, _, rfl, _, _, rfl, _, _, rfl, rfl, ?_⟩
        refine ⟨_, rfl, D, rfl, .inr ⟨_, .inl eD3⟩, _, rfl, _, rfl, by show 2 ≤ sizeLine; decide, fun p1 np1 => ⟨_, get (same_upd np1) upd_same, _, rfl, _, _, rfl, rfl, _, rfl, ?_⟩⟩
        rw [decide_eq_false (by omega)]
        have s31 := same_upd (o := .tup [.int t.1, .int t.2.1]) np1
        refine ⟨_, rfl, _, rfl, _, rfl, by show 2 ≤ sizeLine; decide, fun p2 np2 => ⟨D, _, rfl, get (s31.trans (same_upd np2)) upd_same, ?_⟩⟩
        have s32 := s31.trans (same_upd (o := .tup [.int t.1, .int t.2.1]) np2)
        refine ⟨_, rfl, _, _, rfl, rfl, _, rfl, _, rfl, _, rfl, by show 2 ≤ sizeLine; decide, fun p3 np3 => ⟨D, _, rfl, DPut.t (k := kk (pr t)) ((s32.trans (same_upd np3)) _ _ eD3) upd_same ?_, ?_⟩⟩
        · rw [dvs_len, List.length_map]
          exact small1000 hl
        · have s33 := s32.trans (same_upd (o := .tup [.int t.1, .int t.2.1]) np3)
          refine ⟨_, _, _, rfl, same_put (H1 := H) hD (s3.trans s33), ?_⟩
          rw [upd_same, dvs_set _ _ hin, List.take_add_one, hti]
          congr 2
          refine congrArg _ ?_
          funext z
          show (if z = pr t then _ else _) = cnt rs z - cnt (ds.take i ++ [t]) z
          rw [cnt_snoc]
          by_cases ez : z = pr t
          · subst ez
            rw [if_pos rfl, if_pos rfl]
            omega
          · rw [if_neg ez, if_neg fun w => ez w.symm]
            omega
      · obtain ⟨y3, y4, y5, rfl, s3, eD3⟩ := pv
        rw [ty.1, List.take_length] at eD3
        refine ⟨_, rfl, p, C, dx, _, _, rfl, s3 _ _ e, L.cl, L.nP, flds_pins _ _, _, rfl, D, _, _, rfl, eD3, by rw [List.length_map]; exact hl, fun H4 a s4 na tL => ?_⟩
        obtain ⟨vs, hB, hx⟩ := tL.sq (K := K)
        refine rd_make n0 hB hx (fun t ht => (keep_ord gr_ t ht).1) (Nat.le_trans keep_len hl) fun H5 x r s5 hLt hN => ?_
        obtain ⟨g1, g2⟩ := sub_cnt gr_ gd le hN
        exact q H5 x r ((s3.trans s4).trans s5) hLt g1 g2
end
end Own

namespace Own
open PySem PySem.Spec PyProof.Rows L2
/-! ### a call by keywords alone -/
section
variable {X : Cx} {CX : CXT} {k : Nat} {f : Addr} {fd : FuncData} {ps ks : List Str} {sp : Sp} {E : XK} {x : Str} {p pos : Pos} {kws : List Keyword} {tk : TA} {g : List Value → List Value → List Value} {gV : List V → List V → List V}
theorem pe_callK0 (F : FnOk X.prog X.w X.K X.mg X.base CX k f fd ps sp) (hr : Room k X.A) (hg : Gl X x) (hm : X.mg x = some (.ref f)) (hk : PySem.W.keepIn X.K (.ref f) = true) (hb : KBn X.K fd ps 0 ks g gV) (hx : Passes CX X E)
    (hkw : PK X kws tk) (hall : (backToKw pos (keywordEach kws X.env)).all (·.1.isSome) = true := by rfl) (hks : (backToKw pos (keywordEach kws X.env)).filterMap (·.1) = ks := by rfl)
    (hdb : (x == ("__debug__" : Str)) = false := by decide)
    (hpl : ((backTo pos (starEach [] X.env)).any (·.1) || (backToKw pos (keywordEach kws X.env)).any (·.1.isNone)) = false := by rfl) :
    PE X (.Call (.Name x p) [] kws pos) (tCallN 0 ks.length sp gV E tNil tk) := by
  refine ⟨fun pins s σ H Q I h => ?_⟩
  refine wpAny_Call_Name_kw (ld_glob I hg hm ?_ hdb)
  refine PySem.W.callWith_KW0 (h₀ := X.base) I.ok.mod.kin hk hall ?_ hpl
  refine thn (hkw.run pos pins s σ H _ I h) fun ws s2 ⟨zs, H2, I2, rz, l1, l2, q2⟩ => ⟨I2.kIn, ?_⟩
  rw [hks]
  exact run_fnN (us := []) (vs := []) F hr hb hx I2 .nil rz rfl l2 q2
end
section
variable {P : Program} {w : World} {K : PySem.W.Frag} {mg : Str → Option Value} {base : Heap}
theorem kb_same {x qual : Str} {st : Stmt} {f : Addr} {fd : FuncData} {ps : List Str} (F : Fun K x qual st f fd)
    (h : ∀ (kV doc pm : Value) (an : Option Addr) (cdv ct : Value) (ws : List Value), ws.length = ps.length → bindArgs (PySem.W.fnOf x qual (defArgs st) (defBody st) (defScope st) .none kV doc pm an cdv ct) ⟨[], ps.zip ws⟩ = pure (ps.zip ws)) :
    KBn K fd ps 0 ps (fun _ ws => ws) (fun _ zs => zs) := by
  obtain ⟨oc, od, kV, doc, pm, an, cdv, ct, osl, rfl, lk, hcd⟩ := F.ex
  refine ⟨fun s us ws _ hu hw => ?_, fun _ r => r⟩
  have e : us = [] := List.length_eq_zero_iff.mp hu
  subst e
  exact .of_eq (h kV doc pm an cdv ct ws hw)
end
/-! ### two tuples of entries joined; tables compared -/
section
variable {X : Cx}
def rCatTr : R2 := fun x y H Q => ∃ a b l m, x = .ref a ∧ y = .ref b ∧ Trip H a l ∧ Trip H b m ∧ l.length + m.length ≤ 1000 ∧ ∀ H' p, Same H H' → Trip H' p (l ++ m) → Q (.ref p) H'
theorem op_catTr : OpR X (binaryOp .Add) rCatTr := by
  intro pins s σ H x y v u Q I rx ry h
  obtain ⟨a, b, l, m, rfl, rfl, ⟨xs, ea, ta⟩, ⟨ys, eb, tb⟩, hl, q⟩ := h
  refine op_catA pins s σ H _ _ v u Q I rx ry ⟨a, b, xs, ys, rfl, rfl, .inl (.inl ea), .inl (.inl eb), ?_, fun hx => ?_, fun hx hy => ?_, fun hx hy p np => ?_⟩
  · rw [ta.1, tb.1]
    exact Nat.le_trans hl (by decide)
  · have : l = [] := List.eq_nil_of_length_eq_zero (by rw [← ta.1, hx]; rfl)
    subst this
    exact q H b (Same.refl H) ⟨ys, eb, tb⟩
  · have : m = [] := List.eq_nil_of_length_eq_zero (by rw [← tb.1, hy]; rfl)
    subst this
    rw [List.append_nil] at q
    exact q H a (Same.refl H) ⟨xs, ea, ta⟩
  · exact q _ p (same_upd np) ⟨xs ++ ys, upd_same, (ta.same (same_upd np)).app (tb.same (same_upd np))⟩
end
def gdat (sz : Int) (f : Int → Int) : List PyData := (List.range sz.toNat).map fun j : Nat => PyData.int (f (j : Int))
def tdat (sz : Int) (f : Int → Int → Int) : PyData := .tuple ((List.range sz.toNat).map fun j : Nat => PyData.tuple (gdat sz (f (j : Int))))
theorem dp_all {K : PySem.W.Frag} {H : Hp} : ∀ {vs : List V} {ds : List PyData}, vs.length = ds.length → (∀ (i : Nat) (v : V) (d : PyData), vs[i]? = some v → ds[i]? = some d → Dp K H v d) → DpAll K H vs ds
  | [], [], _, _ => .nil
  | v :: vs, d :: ds, l, h => .cons (h 0 v d rfl rfl) (dp_all (by simpa using l) fun i x y hx hy => h (i + 1) x y hx hy)
theorem gdat_dp {K : PySem.W.Frag} {H : Hp} (sz : Int) (f : Int → Int) : DpAll K H (gl sz f) (gdat sz f) := by
  unfold gl gdat
  generalize List.range sz.toNat = r
  induction r with
  | nil => exact .nil
  | cons a r ih => exact .cons (.int _) ih
theorem TabAt.dp {K : PySem.W.Frag} {H : Hp} {a : Addr} {sz : Int} {f : Int → Int → Int} (h : TabAt H a sz f) : Dp K H (.ref a) (tdat sz f) := by
  obtain ⟨vs, e, l, r⟩ := h
  refine .tup (.inl (.inl e)) (dp_all (by rw [l, List.length_map, List.length_range]) fun i v d hv hd => ?_)
  have hi : i < sz.toNat := by
    rw [← l]
    exact (List.getElem?_eq_some_iff.mp hv).1
  obtain ⟨b, e1, e2⟩ := r i hi
  rw [e1] at hv
  rw [List.getElem?_map, List.getElem?_range hi] at hd
  cases hv
  cases hd
  exact .tup (.inl (.inl e2)) (gdat_dp sz _)
theorem gdat_ok (sz : Int) (f : Int → Int) : PyData.canLayAll0 (gdat sz f) = true ∧ PyData.depthAll (gdat sz f) = 0 ∧ PyData.eqvAll (gdat sz f) (gdat sz f) = true := by
  unfold gdat
  generalize List.range sz.toNat = r
  induction r with
  | nil => exact ⟨rfl, rfl, rfl⟩
  | cons a r ih =>
    obtain ⟨h1, h2, h3⟩ := ih
    refine ⟨?_, ?_, ?_⟩
    · simp [PyData.canLayAll0, PyData.canLay0, h1]
    · simp [PyData.depthAll, PyData.depth, h2]
    · simp [PyData.eqvAll, PyData.eqv, h3]
theorem rows_ok (sz : Int) (f : Int → Int → Int) (r : List Nat) : PyData.canLayAll0 (r.map fun j : Nat => PyData.tuple (gdat sz (f (j : Int)))) = true ∧ PyData.depthAll (r.map fun j : Nat => PyData.tuple (gdat sz (f (j : Int)))) ≤ 1 ∧ PyData.eqvAll (r.map fun j : Nat => PyData.tuple (gdat sz (f (j : Int)))) (r.map fun j : Nat => PyData.tuple (gdat sz (f (j : Int)))) = true := by
  induction r with
  | nil => exact ⟨rfl, by simp [PyData.depthAll], rfl⟩
  | cons a r ih =>
    obtain ⟨h1, h2, h3⟩ := ih
    obtain ⟨g1, g2, g3⟩ := gdat_ok sz (f (a : Int))
    refine ⟨?_, ?_, ?_⟩
    · simp [PyData.canLayAll0, PyData.canLay0, h1, g1]
    · simp only [List.map_cons, PyData.depthAll, PyData.depth, g2]
      omega
    · simp [PyData.eqvAll, PyData.eqv, h3, g3]
theorem tdat_shaped (sz : Int) (f : Int → Int → Int) : SeqAt.shaped (tdat sz f) = true := by
  obtain ⟨h1, h2, _⟩ := rows_ok sz f (List.range sz.toNat)
  unfold SeqAt.shaped tdat
  rw [Bool.and_eq_true]
  refine ⟨?_, decide_eq_true ?_⟩
  · unfold PyData.canLay0
    exact h1
  · unfold PyData.depth
    omega
theorem tdat_eqv (sz : Int) (f : Int → Int → Int) : (!PyData.eqv (tdat sz f) (tdat sz f)) = false := by
  have := (rows_ok sz f (List.range sz.toNat)).2.2
  unfold tdat
  unfold PyData.eqv
  rw [this]
  rfl
theorem digs1 {ds : List Int} {a : Int} (h : Digs ds [a]) : ∃ w, ds = [w] ∧ 0 ≤ w ∧ w < a := by
  have hl := h.1
  match ds, hl with
  | [w], _ => exact ⟨w, rfl, h.2 0 w a rfl rfl⟩
theorem digs2 {ds : List Int} {a b : Int} (h : Digs ds [a, b]) : ∃ w x, ds = [w, x] ∧ (0 ≤ w ∧ w < a) ∧ (0 ≤ x ∧ x < b) := by
  have hl := h.1
  match ds, hl with
  | [w, x], _ => exact ⟨w, x, rfl, h.2 0 w a rfl rfl, h.2 1 x b rfl rfl⟩
theorem hi_in {n : Int} (h0 : 0 ≤ n) (h1 : n ≤ 1000) : 0 < hi n 1 ∧ hi n 1 ≤ 1000 := by
  rcases lo_hi n 1 with h | h <;> omega
/-- what the law knows of its two lots -/
structure LB (n : Int) (cs ds : List Tr) : Prop where
  n0 : 0 ≤ n
  n1 : n ≤ 1000
  g : Good n cs
  gd : Good n ds
  lc : cs.length ≤ 400
  ld : ds.length ≤ 400
  mc : ∀ t ∈ cs, t.2.2 ≤ 500000000
theorem LB.lc2 {n : Int} {cs ds : List Tr} (B : LB n cs ds) : cs.length ≤ 1000 := Nat.le_trans B.lc (by decide)
theorem LB.ld2 {n : Int} {cs ds : List Tr} (B : LB n cs ds) : ds.length ≤ 1000 := Nat.le_trans B.ld (by decide)
structure LW (K : PySem.W.Frag) (C l : Addr) (ns : List Int) (n : Int) (cs ds : List Tr) (c d p1 p2 u v : Addr) (H : Hp) : Prop where
  hs : SqL K H l (ns.map V.int)
  hc : Trip H c cs
  hd : Trip H d ds
  h1 : LotAt C H p1 n cs
  h2 : LotAt C H p2 n ds
  hu : TabAt H u (hi n 1) (tabE cs)
  hv : TabAt H v (hi n 1) (tabE ds)
theorem LW.same {K : PySem.W.Frag} {C l : Addr} {ns : List Int} {n : Int} {cs ds : List Tr} {c d p1 p2 u v : Addr} {H H' : Hp} (W : LW K C l ns n cs ds c d p1 p2 u v H) (s : Same H H') : LW K C l ns n cs ds c d p1 p2 u v H' :=
  ⟨s.seq W.hs, W.hc.same s, W.hd.same s, W.h1.same s, W.h2.same s, W.hu.same s, W.hv.same s⟩
section
variable {P : Program} {w : World} {K : PySem.W.Frag} {mg : Str → Option Value} {base : Heap} {C : Addr}
def spLotIs (C : Addr) : Sp := fun vs H Q _ => ∃ (p : Addr) (n : Int) (c : Addr) (cs : List Tr), vs = [.ref p, .int n, .ref c] ∧ LotAt C H p n cs ∧ Trip H c cs ∧ cs.length ≤ 1000 ∧ Q (.bl true) H
theorem ok_lotis {f : Addr} {fd : FuncData} (F : Fun K "_law_lot_is" "_law_lot_is" s__law_lot_is f fd) (L : LotC K mg C) {f_s : Addr} {d_s : FuncData} (D_s : Df K mg "_law_same" s__law_same ["_law_value", "_law_due"] f_s d_s) (G_s0 : FnOk P w K mg base CX0 2 f_s d_s ["_law_value", "_law_due"] (spSame 0)) (G_s2 : FnOk P w K mg base CX0 4 f_s d_s ["_law_value", "_law_due"] (spSame 2)) : FnOk P w K mg base CX0 5 f fd ["_law_thing", "_law_pins_here", "_law_bunch"] (spLotIs C) := by
  refine F.ok sc__law_lot_is (fun vs H Q E h => ?_) (fun cdv A outer s H vs Q E hr h => ?_)
  · obtain ⟨p, n, c, cs, rfl, _⟩ := h
    rfl
  · obtain ⟨p, n, c, cs, rfl, hL, hc, hl, q⟩ := h
    refine ⟨_, (pss_one (ps_ret (pe_and (pe_call G_s0 (hr.mono (by decide)) (by rfl) D_s.g D_s.F.kp D_s.b .nil pass0 (pa_cons (pe_fld (pv 0) rfl) (pa_cons (pv 1) pa_nil))) (pe_one (pe_call G_s2 hr (by rfl) D_s.g D_s.F.kp D_s.b .nil pass0 (pa_cons (pe_fld (pv 0) rfl) (pa_cons (pv 2) pa_nil))))))), ?_⟩
    obtain ⟨dx, c2, e, t⟩ := hL
    refine ⟨_, rfl, p, C, dx, _, _, rfl, e, L.cl, L.nP, flds_pins _ _, _, rfl, _, _, rfl, EqV.int n, true, rfl, ?_⟩
    exact ⟨_, rfl, p, C, dx, _, _, rfl, e, L.cl, L.nC, flds_cords _ _, _, rfl, _, _, rfl, EqV.trip t hc hl, q⟩
def spLaw (K : PySem.W.Frag) : Sp := fun vs H Q _ => ∃ (l : Addr) (ns : List Int), vs = [.ref l] ∧ SqL K H l (ns.map V.int) ∧ ns.length ≤ 1000 ∧ ∀ H', Q (.bl true) H'
set_option maxHeartbeats 0 in
theorem ok_law {f : Addr} {fd : FuncData} (F : Fun K "law" "law" s_law f fd) (T : Bi mg) (L : LotC K mg C) (sf : PySem.W.selfFirst K C = true)
    {f_c : Addr} {d_c : FuncData} (D_c : Df K mg "_law_cell" s__law_cell ["_law_script", "_law_k"] f_c d_c) (G_c : FnOk P w K mg base CX0 1 f_c d_c ["_law_script", "_law_k"] (spCell K))
    {f_p : Addr} {d_p : FuncData} (D_p : Df K mg "_law_pins" s__law_pins ["_law_cell_here"] f_p d_p) (G_p : FnOk P w K mg base CX0 2 f_p d_p ["_law_cell_here"] (spPins K))
    {f_d : Addr} {d_d : FuncData} (D_d : Df K mg "_law_digits" s__law_digits ["_law_cell_here", "_law_sizes"] f_d d_d) (G_d : FnOk P w K mg base CX0 1 f_d d_d ["_law_cell_here", "_law_sizes"] (spDigs K))
    {f_l : Addr} {d_l : FuncData} (D_l : Df K mg "_law_lot" s__law_lot ["_law_script", "_law_start", "_law_count", "_law_pins_here"] f_l d_l) (G_l : FnOk P w K mg base CX0 2 f_l d_l ["_law_script", "_law_start", "_law_count", "_law_pins_here"] (spLLot K))
    {f_tb : Addr} {d_tb : FuncData} (D_tb : Df K mg "_law_table" s__law_table ["_law_pins_here", "_law_bunch"] f_tb d_tb) (G_tb : FnOk P w K mg base CX0 1 f_tb d_tb ["_law_pins_here", "_law_bunch"] spLTab)
    {f_to : Addr} {d_to : FuncData} (D_to : Df K mg "_law_told" s__law_told ["_law_thing", "_law_table_here"] f_to d_to) (G_to : FnOk P w K mg base CX0 5 f_to d_to ["_law_thing", "_law_table_here"] (spTold C))
    {f_su : Addr} {d_su : FuncData} (D_su : Df K mg "_law_sum" s__law_sum ["_law_one", "_law_two"] f_su d_su) (G_su : FnOk P w K mg base CX0 1 f_su d_su ["_law_one", "_law_two"] spSum)
    {f_ti : Addr} {d_ti : FuncData} (D_ti : Df K mg "_law_times" s__law_times ["_law_one", "_law_factor"] f_ti d_ti) (G_ti : FnOk P w K mg base CX0 1 f_ti d_ti ["_law_one", "_law_factor"] spTimes)
    {f_mi : Addr} {d_mi : FuncData} (D_mi : Df K mg "_law_mirror" s__law_mirror ["_law_table_here"] f_mi d_mi) (G_mi : FnOk P w K mg base CX0 1 f_mi d_mi ["_law_table_here"] spMirror)
    {f_n : Addr} {d_n : FuncData} (D_n : Df K mg "_law_norm" s__law_norm ["_law_triples"] f_n d_n) (G_n : FnOk P w K mg base CX0 1 f_n d_n ["_law_triples"] (spNorm K))
    {f_s : Addr} {d_s : FuncData} (D_s : Df K mg "_law_same" s__law_same ["_law_value", "_law_due"] f_s d_s) (G_s2 : FnOk P w K mg base CX0 4 f_s d_s ["_law_value", "_law_due"] (spSame 2))
    {f_li : Addr} {d_li : FuncData} (D_li : Df K mg "_law_lot_is" s__law_lot_is ["_law_thing", "_law_pins_here", "_law_bunch"] f_li d_li) (G_li : FnOk P w K mg base CX0 5 f_li d_li ["_law_thing", "_law_pins_here", "_law_bunch"] (spLotIs C))
    {f_tf : Addr} {d_tf : FuncData} (D_tf : Df K mg "table_of" s_table_of ["lot"] f_tf d_tf) (G_tf : FnOk P w K mg base CX0 3 f_tf d_tf ["lot"] (spTab C))
    {z f_i : Addr} {d_i : FuncData} (M_i : Mk K C f_i) (b_i : Binds K d_i ["self", "pins", "cords"] []) (b_1 : Binds K d_i ["self", "pins", "cords"] [.ref z]) (hz : ∀ H, SqT K H z []) (G_i : GI P w K mg base C f_i d_i)
    {f_t p_t : Addr} {d_t : FuncData} (P_t : PropOf K C "table" p_t f_t) (b_t : Binds K d_t ["self"] []) (G_t : FnOk P w K mg base CX0 3 f_t d_t ["self"] (spTab C))
    {f_a f_b f_m : Addr} {d_a d_b d_m : FuncData} (i_a : PySem.W.findIn K (.ref C) (PySem.dunder Operator.Add.info.2) = some (some (.ref f_a))) (n_a : PySem.W.isFn K (.ref f_a) = true) (b_a : Binds K d_a ["self", "other"] []) (G_a : FnOk P w K mg base CX0 7 f_a d_a ["self", "other"] (spAdd C))
    (i_b : PySem.W.findIn K (.ref C) (PySem.dunder Operator.Sub.info.2) = some (some (.ref f_b))) (n_b : PySem.W.isFn K (.ref f_b) = true) (b_b : Binds K d_b ["self", "other"] []) (G_b : FnOk P w K mg base CX0 7 f_b d_b ["self", "other"] (spSub C))
    (i_m : PySem.W.findIn K (.ref C) (PySem.dunder Operator.Mult.info.2) = some (some (.ref f_m))) (n_m : PySem.W.isFn K (.ref f_m) = true) (b_m : Binds K d_m ["self", "number"] []) (G_m : FnOk P w K mg base CX0 7 f_m d_m ["self", "number"] (spMul C))
    (r_m : PySem.W.findIn K (.ref C) (dunderR Operator.Mult.info.2) = some none) {fo ro : Option Value} (t_1 : PySem.W.findIn K (.type "int") (PySem.dunder Operator.Mult.info.2) = some fo) (t_2 : PySem.W.findIn K (.type "int") (dunderR Operator.Mult.info.2) = some ro) (t_3 : PySem.W.subIn K (.type "int") (.ref C) = some false) : FnOk P w K mg base CX0 8 f fd ["_law_script"] (spLaw K) := by
  have K_tf := kb_same (ps := ["lot"]) D_tf.F fun _ _ _ _ _ _ ws hl => match ws, hl with | [_], _ => rfl
  refine F.ok sc_law (fun vs H Q E h => ?_) (fun cdv A outer s H vs Q E hr h => ?_)
  · obtain ⟨l, ns, rfl, _⟩ := h
    rfl
  · obtain ⟨l, ns, rfl, hs, hn, q⟩ := h
    have hu64 : (A.deeper (envOfC "law" (defScope s_law) s.heap.objs.size f cdv)).units + 64 < cLine := by
      have := hr.un
      omega
    obtain ⟨tG, hG, qG⟩ : ∃ t, PSs (cxOf CX0 P w K mg base ["_law_script", "_law_pins_here", "_law_held", "_law_wished", "_law_one", "_law_two", "_law_table_here", "_law_other", "_law_told_here", "_law_both", "_law_draw", "_law_factor", "_law_times_here", "_law_far", "_law_i", "_law_entry"] "law" (defScope s_law) f cdv A outer s H E).nox ((defBody s_law).drop 20) t ∧ ∀ (n : Int) (cs ds : List Tr) (c d p1 p2 u v : Addr) (y8 y9 y10 y11 y12 y13 : Option V) (H0 : Hp), LW K C l ns n cs ds c d p1 p2 u v H0 → LB n cs ds → 
        t { nx := fun _ H' => Q .non H', rt := Q } [some (.ref l), some (.int n), some (.ref c), some (.ref d), some (.ref p1), some (.ref p2), some (.ref u), some (.ref v), y8, y9, y10, y11, y12, y13, none, none] H0 := by
      refine ⟨_, (pss_cons (ps_if (pt_not (pt_val (pe_call G_to (hr.mono (by decide)) (by rfl) D_to.g D_to.F.kp D_to.b .nil pass0 (pa_cons (pe_make M_i G_i (hr.mono (by decide)) (by rfl) L.g b_1 (show Vals [V.ref z] [Value.ref z] from .cons rfl .nil) pass0 (pa_cons (pv 1) pa_nil)) (pa_cons (pe_call G_ti (hr.mono (by decide)) (by rfl) D_ti.g D_ti.F.kp D_ti.b .nil pass0 (pa_cons (pv 6) (pa_cons pe_int pa_nil))) pa_nil))))) (pss_one (ps_ret pe_bl)) pss_nil)
        (pss_cons (ps_if (PW.pt (pw_or (pt_not (pt_val (pe_call G_li (hr.mono (by decide)) (by rfl) D_li.g D_li.F.kp D_li.b .nil pass0 (pa_cons (pv 4) (pa_cons (pv 1) (pa_cons (pv 2) pa_nil)))))) (pw_or (pt_not (pt_val (pe_call G_to (hr.mono (by decide)) (by rfl) D_to.g D_to.F.kp D_to.b .nil pass0 (pa_cons (pv 5) (pa_cons (pv 7) pa_nil))))) (pw_or1 (pt_not (pt_val (pe_call G_to (hr.mono (by decide)) (by rfl) D_to.g D_to.F.kp D_to.b .nil pass0 (pa_cons (pv 4) (pa_cons (pv 6) pa_nil))))))))) (pss_one (ps_ret pe_bl)) pss_nil)
        (pss_one (ps_ret (pe_call G_s2 (hr.mono (by decide)) (by rfl) D_s.g D_s.F.kp D_s.b .nil pass0 (pa_cons (pe_callK0 G_tf (hr.mono (by decide)) (by rfl) D_tf.g D_tf.F.kp K_tf pass0 (pk_cons (pv 4) pk_nil)) (pa_cons (pv 6) pa_nil))))))), ?_⟩
      intro n cs ds c d p1 p2 u v y8 y9 y10 y11 y12 y13 H0 W B
      have z := hi_in B.n0 B.n1
      refine ⟨_, rfl, ?_⟩
      refine fun x dx nx nd ne => rd_make2 (C := C) (l := []) (xs := []) B.n0 (.inr (hz _)) TrV.nil (by simp) (Nat.zero_le _) nx nd ne fun H1 r s1 hx hN => ⟨rfl, ?_⟩
      obtain rfl : r = [] := norm_nil hN
      replace W := W.same s1
      refine ⟨_, rfl, u, 0, _, tabE cs, rfl, W.hu, by decide, by decide, by omega, by omega, fun H2 t s2 ht => ?_⟩
      refine ⟨x, t, n, [], _, rfl, hx.same s2, B.n0, B.n1, good_nil n, ht, fun a b _ _ _ _ => (Int.mul_zero _).symm, fun H3 s3 => ⟨true, rfl, ?_⟩⟩
      replace W := W.same (s2.trans s3)
      clear hx hN s1 s2 s3 ht
      refine ⟨_, rfl, _, rfl, _, rfl, p1, n, c, cs, rfl, W.h1, W.hc, B.lc2, true, rfl, ?_⟩
      refine ⟨_, rfl, _, rfl, p2, v, n, ds, _, rfl, W.h2, B.n0, B.n1, B.gd, W.hv, fun _ _ _ _ _ _ => rfl, fun H4 s4 => ⟨true, rfl, ?_⟩⟩
      replace W := W.same s4
      refine ⟨_, rfl, _, rfl, p1, u, n, cs, _, rfl, W.h1, B.n0, B.n1, B.g, W.hu, fun _ _ _ _ _ _ => rfl, fun H5 s5 => ⟨true, rfl, ?_⟩⟩
      replace W := W.same s5
      refine ⟨_, rfl, rfl, rfl, p1, n, cs, rfl, W.h1, B.n0, B.n1, B.g, fun H6 t s6 ht => ?_⟩
      exact ⟨_, rfl, _, _, rfl, EqV.tab ht (W.hu.same s6) (by omega) fun _ _ _ _ _ _ => rfl, q _⟩
    obtain ⟨tF, hF, qF⟩ : ∃ t, PSs (cxOf CX0 P w K mg base ["_law_script", "_law_pins_here", "_law_held", "_law_wished", "_law_one", "_law_two", "_law_table_here", "_law_other", "_law_told_here", "_law_both", "_law_draw", "_law_factor", "_law_times_here", "_law_far", "_law_i", "_law_entry"] "law" (defScope s_law) f cdv A outer s H E).nox ((defBody s_law).drop 19) t ∧ ∀ (n : Int) (cs ds : List Tr) (c d p1 p2 u v : Addr) (y8 y9 y10 y11 y12 : Option V) (H0 : Hp), LW K C l ns n cs ds c d p1 p2 u v H0 → LB n cs ds → 
        t { nx := fun _ H' => Q .non H', rt := Q } [some (.ref l), some (.int n), some (.ref c), some (.ref d), some (.ref p1), some (.ref p2), some (.ref u), some (.ref v), y8, y9, y10, y11, y12, none, none, none] H0 := by
      refine ⟨_, (pss_cons (ps_if (pt_cmpR op_lt (pv 1) pe_int (nomark _)) (pss_cons (ps_set (i := 13) sc_law.nd rfl (.inl rfl) (pe_op op_add (pe_op op_add (pv 1) pe_int) (pe_op op_modN (pe_callTy call_int1 (by rfl) T.b_int (by decide +kernel) (pa_cons (pe_call G_c (hr.mono (by decide)) (by rfl) D_c.g D_c.F.kp D_c.b .nil pass0 (pa_cons (pv 0) (pa_cons pe_int pa_nil))) pa_nil)) (pe_op op_sub pe_int (pv 1)))))
        (pss_one (ps_if (pt_not (pt_val (pe_call G_to (hr.mono (by decide)) (by rfl) D_to.g D_to.F.kp D_to.b .nil pass0 (pa_cons (pe_make M_i G_i (hr.mono (by decide)) (by rfl) L.g b_i .nil pass0 (pa_cons (pv 13) (pa_cons (pv 2) pa_nil))) (pa_cons (pe_call G_tb (hr.mono (by decide)) (by rfl) D_tb.g D_tb.F.kp D_tb.b .nil pass0 (pa_cons (pv 13) (pa_cons (pv 2) pa_nil))) pa_nil))))) (pss_one (ps_ret pe_bl)) pss_nil))) pss_nil)
        hG), ?_⟩
      intro n cs ds c d p1 p2 u v y8 y9 y10 y11 y12 H0 W B
      refine ⟨_, rfl, n, 40, rfl, rfl, _, rfl, ite2 (fun e => ?_) (fun e => ?_)⟩
      · have nl : n < 40 := of_decide_eq_true e
        refine ⟨_, rfl, _, _, rfl, rfl, _, rfl, l, ns, 36, rfl, W.hs, by decide, hn, fun c36 => .inl ⟨_, rfl, _, rfl, _, _, rfl, rfl, _, _, rfl, rfl, by omega, _, _, rfl, rfl, ?_⟩⟩
        have n0 := B.n0
        have hm := fmod_in c36 (show 0 < 40 - n by omega)
        have f0 : 0 ≤ n + 1 + c36.fmod (40 - n) := by omega
        have f1 : n + 1 + c36.fmod (40 - n) ≤ 1000 := by omega
        have f2 : n ≤ n + 1 + c36.fmod (40 - n) := by omega
        have gm := B.g.more f2
        obtain ⟨xs, hB, hx⟩ := W.hc.sq (K := K)
        refine ⟨_, rfl, _, rfl, ?_⟩
        refine fun x dx nx nd ne => rd_make2 (C := C) f0 hB hx gm.vld B.lc2 nx nd ne fun H1 r s1 hL hN => ⟨rfl, ?_⟩
        obtain rfl : r = cs := norm_uniq hN gm.self
        replace W := W.same s1
        refine ⟨_, rfl, _, rfl, _, c, r, rfl, f0, f1, W.hc, gm, B.lc2, fun H2 t s2 ht => ?_⟩
        refine ⟨x, t, _, r, _, rfl, hL.same s2, f0, f1, gm, ht, fun _ _ _ _ _ _ => rfl, fun H3 s3 => ⟨true, rfl, ?_⟩⟩
        exact qG n r ds c d p1 p2 u v _ _ _ _ _ _ H3 (W.same (s2.trans s3)) B
      · exact qG n cs ds c d p1 p2 u v _ _ _ _ _ _ H0 W B
    obtain ⟨tE, hE, qE⟩ : ∃ t, PSs (cxOf CX0 P w K mg base ["_law_script", "_law_pins_here", "_law_held", "_law_wished", "_law_one", "_law_two", "_law_table_here", "_law_other", "_law_told_here", "_law_both", "_law_draw", "_law_factor", "_law_times_here", "_law_far", "_law_i", "_law_entry"] "law" (defScope s_law) f cdv A outer s H E).nox ((defBody s_law).drop 16) t ∧ ∀ (n : Int) (cs ds : List Tr) (c d p1 p2 u v : Addr) (k d0 dk : Int) (y8 y9 : Option V) (a : Addr) (H0 : Hp), LW K C l ns n cs ds c d p1 p2 u v H0 → LB n cs ds → 0 ≤ k → k ≤ 1000000000 → 0 ≤ d0 → H0 a = some (.lst [.int d0, .int dk]) →
        t { nx := fun _ H' => Q .non H', rt := Q } [some (.ref l), some (.int n), some (.ref c), some (.ref d), some (.ref p1), some (.ref p2), some (.ref u), some (.ref v), y8, y9, some (.ref a), some (.int k), none, none, none, none] H0 := by
      refine ⟨_, (pss_cons (ps_set (i := 12) sc_law.nd rfl (.inl rfl) (pe_op (op_ownI sf i_m n_m r_m (.inl rfl) t_1 t_2 t_3 G_m (hr.mono (by decide)) b_m pass0) (pv 4) (pv 11)))
        (pss_cons (ps_if (pt_not (pt_val (pe_call G_s2 (hr.mono (by decide)) (by rfl) D_s.g D_s.F.kp D_s.b .nil pass0 (pa_cons (pe_prop (pv 12) L.cl P_t G_t (hr.mono (by decide)) b_t .nil pass0 (by rfl)) (pa_cons (pe_call G_ti (hr.mono (by decide)) (by rfl) D_ti.g D_ti.F.kp D_ti.b .nil pass0 (pa_cons (pv 6) (pa_cons (pv 11) pa_nil))) pa_nil))))) (pss_one (ps_ret pe_bl)) pss_nil)
        (pss_cons (ps_if (PW.pt (pw_and (pt_cmpR op_lt (pe_ix (r := rIxL K) ix_list (pv 10) pe_int (fun _ _ => rfl)) pe_int (nomark _)) (pw_and1 (pt_not (pt_val (pe_call G_s2 (hr.mono (by decide)) (by rfl) D_s.g D_s.F.kp D_s.b .nil pass0 (pa_cons (pe_call G_tf (hr.mono (by decide)) (by rfl) D_tf.g D_tf.F.kp D_tf.b .nil pass0 (pa_cons (pv 12) pa_nil)) (pa_cons (pe_call G_ti (hr.mono (by decide)) (by rfl) D_ti.g D_ti.F.kp D_ti.b .nil pass0 (pa_cons (pv 6) (pa_cons (pv 11) pa_nil))) pa_nil)))))))) (pss_one (ps_ret pe_bl)) pss_nil)
        hF))), ?_⟩
      intro n cs ds c d p1 p2 u v k d0 dk y8 y9 a H0 W B k0 k1 hk0 edr
      have z := hi_in B.n0 B.n1
      obtain ⟨dx1, e1c, e1, _⟩ := id W.h1
      refine ⟨_, rfl, _, rfl, p1, dx1, _, k, rfl, rfl, e1, p1, k, n, cs, rfl, W.h1, B.n0, k0, B.g.vld, fun t _ => .inr ⟨by omega, by omega⟩, B.lc2, fun H1 x r s1 hx hN => ?_⟩
      replace W := W.same s1
      have edr1 := s1 _ _ edr
      have gr_ : Good n r := hN.good (mulE_vld B.g k0)
      obtain ⟨dxx, ec, ex, _⟩ := id hx
      refine ⟨_, rfl, x, dxx, _, rfl, ex, x, n, r, rfl, hx, B.n0, B.n1, gr_, fun H2 t s2 ht => ?_⟩
      replace W := W.same s2
      refine ⟨_, rfl, _, rfl, u, k, _, tabE cs, rfl, W.hu, by omega, by omega, by omega, by omega, fun H3 t2 s3 ht2 => ?_⟩
      replace W := W.same s3
      refine ⟨_, _, rfl, EqV.tab (ht.same s3) ht2 (by omega) fun a b _ _ _ _ => tab_mul B.g hN a b, true, rfl, ?_⟩
      have edr3 := s3 _ _ (s2 _ _ edr1)
      have hx3 := (hx.same s2).same s3
      refine ⟨_, rfl, a, _, 0, _, rfl, rfl, .inl (.inl edr3), atI_nat (j := 0) rfl, _, _, rfl, rfl, _, rfl, ite2 (fun e => ?_) (fun e => ?_)⟩
      · refine ⟨_, rfl, x, n, r, rfl, hx3, B.n0, B.n1, gr_, fun H4 t3 s4 ht3 => ?_⟩
        replace W := W.same s4
        refine ⟨_, rfl, _, rfl, u, k, _, tabE cs, rfl, W.hu, by omega, by omega, by omega, by omega, fun H5 t4 s5 ht4 => ?_⟩
        replace W := W.same s5
        refine ⟨_, _, rfl, EqV.tab (ht3.same s5) ht4 (by omega) fun a b _ _ _ _ => tab_mul B.g hN a b, true, rfl, ?_⟩
        exact qF n cs ds c d p1 p2 u v _ _ _ _ _ H5 W B
      · exact qF n cs ds c d p1 p2 u v _ _ _ _ _ H3 W B
    obtain ⟨tD, hD, qD⟩ : ∃ t, PSs (cxOf CX0 P w K mg base ["_law_script", "_law_pins_here", "_law_held", "_law_wished", "_law_one", "_law_two", "_law_table_here", "_law_other", "_law_told_here", "_law_both", "_law_draw", "_law_factor", "_law_times_here", "_law_far", "_law_i", "_law_entry"] "law" (defScope s_law) f cdv A outer s H E).nox ((defBody s_law).drop 13) t ∧ ∀ (n : Int) (cs ds : List Tr) (c d p1 p2 u v : Addr) (y8 y9 : Option V) (H0 : Hp), LW K C l ns n cs ds c d p1 p2 u v H0 → LB n cs ds → 
        t { nx := fun _ H' => Q .non H', rt := Q } [some (.ref l), some (.int n), some (.ref c), some (.ref d), some (.ref p1), some (.ref p2), some (.ref u), some (.ref v), y8, y9, none, none, none, none, none, none] H0 := by
      refine ⟨_, (pss_cons (ps_set (i := 10) sc_law.nd rfl (.inl rfl) (pe_call G_d (hr.mono (by decide)) (by rfl) D_d.g D_d.F.kp D_d.b .nil pass0 (pa_cons (pe_call G_c (hr.mono (by decide)) (by rfl) D_c.g D_c.F.kp D_c.b .nil pass0 (pa_cons (pv 0) (pa_cons pe_int pa_nil))) (pa_cons (pe_lst (pa_cons pe_int (pa_cons pe_int pa_nil))) pa_nil))))
        (pss_cons (ps_set (i := 11) sc_law.nd rfl (.inl rfl) (pe_ix (r := rIxL K) ix_list (pv 10) pe_int (fun _ _ => rfl)))
        (pss_cons (ps_if (pt_cmpR op_lt (pe_ix (r := rIxL K) ix_list (pv 10) pe_int (fun _ _ => rfl)) pe_int (nomark _)) (pss_one (ps_set (i := 11) sc_law.nd rfl (.inl rfl) (pe_ix (r := rIxL K) ix_list (pe_lst (pa_cons pe_int (pa_cons pe_int (pa_cons pe_int (pa_cons (pe_op op_modN (pe_callTy call_int1 (by rfl) T.b_int (by decide +kernel) (pa_cons (pv 11) pa_nil)) (pe_op op_add (pe_op op_fdivN (pe_op op_pow pe_int pe_int) (pe_callB (cr_max rfl) (by rfl) T.b_max (by decide +kernel) (pa_cons (pe_op op_cat (pe_lc (own := [("_law_entry", 15)]) (g := gName 15) (tt := tYes) rfl sc_law.nd (pi_tup (pv 2)) (blkOk_by (own := [("_law_entry", 15)]) (N := ["_law_script", "_law_pins_here", "_law_held", "_law_wished", "_law_one", "_law_two", "_law_table_here", "_law_other", "_law_told_here", "_law_both", "_law_draw", "_law_factor", "_law_times_here", "_law_far", "_law_i", "_law_entry"]) (sc := defScope s_law) (by decide +kernel)) (fun _ _ _ _ _ => (pg_name (i := 15) sc_law.nd rfl (.inl rfl))) (fun _ _ _ _ _ => pts_nil) (fun _ _ _ _ _ => (pe_ix (r := rIxT K) ix_tup (pv 15) pe_int (fun _ _ => rfl)))) (pe_lst (pa_cons pe_int pa_nil))) pa_nil))) pe_int)) pa_nil))))) (pe_ix (r := rIxL K) ix_list (pv 10) pe_int (fun _ _ => rfl)) (fun _ _ => rfl)))) pss_nil)
        hE))), ?_⟩
      intro n cs ds c d p1 p2 u v y8 y9 H0 W B
      refine ⟨_, rfl, l, ns, 3, rfl, W.hs, by decide, hn, fun c3 => ⟨by show 2 ≤ sizeLine; decide, fun b nb => ⟨c3, b, [5, 1000000001], rfl, .inl (.inl upd_same), by decide, by decide, fun H1 a dgs s1 na ea dg => ?_⟩⟩⟩
      obtain ⟨w0, w1, rfl, h0, h1⟩ := digs2 dg
      have sa := (same_upd (o := .lst [.int 5, .int 1000000001]) nb).trans s1
      replace W := W.same sa
      clear s1 sa
      have qa : SqL K H1 a [.int w0, .int w1] := .inl (.inl ea)
      have a0 : atI [V.int w0, .int w1] 0 = some (.int w0) := atI_nat (j := 0) rfl
      have a1 : atI [V.int w0, .int w1] 1 = some (.int w1) := atI_nat (j := 1) rfl
      refine ⟨_, rfl, a, _, 1, _, rfl, rfl, qa, a1, ?_⟩
      refine ⟨_, rfl, a, _, 0, _, rfl, rfl, qa, a0, _, _, rfl, rfl, _, rfl, ite2 (fun e => ?_) (fun e => ?_)⟩
      · have w4 : w0 < 4 := of_decide_eq_true e
        refine ⟨_, rfl, .inl ⟨_, rfl, ?_⟩⟩
        refine ⟨_, _, rfl, rfl, ⟨by decide, by decide, by decide⟩, ?_⟩
        obtain ⟨vs, ec, tc⟩ := id W.hc
        refine ⟨_, rfl, c, rfl, ⟨vs, .inl (.inl ec)⟩, fun O hO => ?_⟩
        refine lc_tup (K := K) (a := c) (xs := vs) (fun i H2 => H2 = upd H1 O (.lst (((cs.map fun t => t.2.2).take i).map V.int))) rfl (fun i H2 _ p => by subst p; exact .inl (.inl (same_upd hO _ _ ec))) (fun i x H2 hxi p => ?_) (fun H2 p => ?_)
        · subst p
          obtain ⟨w, t, rfl, hti, hw⟩ := tc.at_ hxi
          refine ⟨rfl, ?_⟩
          refine ⟨_, rfl, w, _, 2, _, rfl, rfl, .inl (.inl (same_upd hO _ _ hw)), atI_nat (j := 2) rfl, _, upd_same, ?_, ?_⟩
          · rw [List.length_map, List.length_take, List.length_map]
            exact Nat.lt_of_le_of_lt (Nat.min_le_right _ _) (small1000 B.lc2)
          · rw [upd_upd, List.take_add_one, List.getElem?_map, hti, List.map_append]
            rfl
        · subst p
          rw [show vs.length = (cs.map fun t => t.2.2).length by rw [List.length_map]; exact tc.1, List.take_length]
          have sO : Same H1 (upd H1 O (.lst ((cs.map fun t => t.2.2).map V.int))) := same_upd hO
          refine ⟨by show 1 ≤ sizeLine; decide, fun O2 hO2 => ?_⟩
          have nO : O ≠ O2 := fun z => by
            rw [← z, upd_same] at hO2
            cases hO2
          refine ⟨O, O2, _, _, rfl, rfl, by rw [upd_ne nO, upd_same], upd_same, ?_, fun O3 hO3 => ?_⟩
          · rw [List.length_map, List.length_map]
            have := B.lc2
            exact Nat.le_of_lt (small1000 (show cs.length + 1 ≤ 1000 by have := B.lc; omega))
          have sO3 := (sO.trans (same_upd (o := .lst [.int 1]) hO2)).trans (same_upd (o := .lst ((cs.map fun t => t.2.2).map V.int ++ [.int 1])) hO3)
          refine ⟨O3, (cs.map fun t => t.2.2) ++ [1], rfl, .inl (.inl ?_), by simp, fun m hm hmx => ?_⟩
          · rw [upd_same, List.map_append]
            rfl
          have m1 : 1 ≤ m := hmx 1 (by simp)
          have m2 : m ≤ 500000000 := by
            rcases List.mem_append.mp hm with h | h
            · obtain ⟨t, ht, rfl⟩ := List.mem_map.mp h
              exact B.mc t ht
            · rw [List.mem_singleton.mp h]
              decide
          refine ⟨_, _, rfl, rfl, ⟨by omega, by omega⟩, _, _, rfl, rfl, ?_⟩
          have q0 : 0 ≤ Int.fdiv (10 ^ Int.toNat 9) m := by
            rw [Int.fdiv_eq_ediv_of_nonneg _ (by omega)]
            exact Int.ediv_nonneg (by decide) (by omega)
          have q1 : Int.fdiv (10 ^ Int.toNat 9) m ≤ 1000000000 := by
            rw [Int.fdiv_eq_ediv_of_nonneg _ (by omega)]
            exact Int.ediv_le_self _ (by decide)
          generalize Int.fdiv (10 ^ Int.toNat 9) m = qq at q0 q1 ⊢
          have hm := fmod_in w1 (show 0 < qq + 1 by omega)
          refine ⟨_, _, rfl, rfl, by omega, ?_⟩
          refine ⟨by show 4 ≤ sizeLine; decide, fun O4 hO4 => ?_⟩
          have s4 := sO3.trans (same_upd (o := .lst [.int 0, .int 1, .int 2, .int (w1.fmod (qq + 1))]) hO4)
          obtain ⟨kk_, ek, k0, k1⟩ : ∃ y, atI [V.int 0, .int 1, .int 2, .int (w1.fmod (qq + 1))] w0 = some (.int y) ∧ 0 ≤ y ∧ y ≤ 1000000000 := by
            have : w0 = 0 ∨ w0 = 1 ∨ w0 = 2 ∨ w0 = 3 := by omega
            rcases this with e | e | e | e <;> rw [e]
            · exact ⟨_, atI_nat (j := 0) rfl, by decide, by decide⟩
            · exact ⟨_, atI_nat (j := 1) rfl, by decide, by decide⟩
            · exact ⟨_, atI_nat (j := 2) rfl, by decide, by decide⟩
            · exact ⟨_, atI_nat (j := 3) rfl, by omega, by omega⟩
          have ea4 := s4 _ _ ea
          refine ⟨_, rfl, a, _, 0, _, rfl, rfl, .inl (.inl ea4), a0, O4, _, _, _, rfl, rfl, .inl (.inl upd_same), ek, ?_⟩
          exact qE n cs ds c d p1 p2 u v kk_ w0 w1 _ _ a _ (W.same s4) B k0 k1 h0.1 ea4
      · exact qE n cs ds c d p1 p2 u v w1 w0 w1 _ _ a _ W B h1.1 (by omega) h0.1 ea
    obtain ⟨tC, hC, qC⟩ : ∃ t, PSs (cxOf CX0 P w K mg base ["_law_script", "_law_pins_here", "_law_held", "_law_wished", "_law_one", "_law_two", "_law_table_here", "_law_other", "_law_told_here", "_law_both", "_law_draw", "_law_factor", "_law_times_here", "_law_far", "_law_i", "_law_entry"] "law" (defScope s_law) f cdv A outer s H E).nox ((defBody s_law).drop 10) t ∧ ∀ (n : Int) (cs ds : List Tr) (c d p1 p2 u v : Addr) (y8 : Option V) (H0 : Hp), LW K C l ns n cs ds c d p1 p2 u v H0 → LB n cs ds → 
        t { nx := fun _ H' => Q .non H', rt := Q } [some (.ref l), some (.int n), some (.ref c), some (.ref d), some (.ref p1), some (.ref p2), some (.ref u), some (.ref v), y8, none, none, none, none, none, none, none] H0 := by
      refine ⟨_, (pss_cons (ps_set (i := 9) sc_law.nd rfl (.inl rfl) (pe_op (op_ownB sf i_a n_a G_a (hr.mono (by decide)) b_a pass0) (pv 4) (pv 5)))
        (pss_cons (ps_if (pt_not (pt_val (pe_call G_to (hr.mono (by decide)) (by rfl) D_to.g D_to.F.kp D_to.b .nil pass0 (pa_cons (pv 9) (pa_cons (pe_call G_su (hr.mono (by decide)) (by rfl) D_su.g D_su.F.kp D_su.b .nil pass0 (pa_cons (pv 6) (pa_cons (pv 7) pa_nil))) pa_nil))))) (pss_one (ps_ret pe_bl)) pss_nil)
        (pss_cons (ps_if (PW.pt (pw_or (pt_not (pt_val (pe_call G_to (hr.mono (by decide)) (by rfl) D_to.g D_to.F.kp D_to.b .nil pass0 (pa_cons (pv 9) (pa_cons (pe_call G_tb (hr.mono (by decide)) (by rfl) D_tb.g D_tb.F.kp D_tb.b .nil pass0 (pa_cons (pv 1) (pa_cons (pe_call G_n (hr.mono (by decide)) (by rfl) D_n.g D_n.F.kp D_n.b .nil pass0 (pa_cons (pe_op op_catTr (pv 2) (pv 3)) pa_nil)) pa_nil))) pa_nil))))) (pw_or1 (pt_not (pt_val (pe_call G_to (hr.mono (by decide)) (by rfl) D_to.g D_to.F.kp D_to.b .nil pass0 (pa_cons (pe_op (op_ownB sf i_b n_b G_b (hr.mono (by decide)) b_b pass0) (pv 9) (pv 5)) (pa_cons (pv 6) pa_nil)))))))) (pss_one (ps_ret pe_bl)) pss_nil)
        hD))), ?_⟩
      intro n cs ds c d p1 p2 u v y8 H0 W B
      have z := hi_in B.n0 B.n1
      obtain ⟨dx1, e1c, e1, _⟩ := id W.h1
      obtain ⟨dx2, e2c, e2, _⟩ := id W.h2
      have ld := B.ld
      have lc := B.lc
      refine ⟨_, rfl, _, rfl, p1, dx1, _, p2, dx2, _, rfl, rfl, e1, e2, p1, p2, n, cs, ds, rfl, W.h1, W.h2, B.n0, B.g.vld, B.gd.vld, by omega, fun H1 x r s1 hx hN => ?_⟩
      replace W := W.same s1
      have gr_ : Good n r := hN.good fun t ht => by
        rcases List.mem_append.mp ht with h | h
        · exact B.g.vld t h
        · exact B.gd.vld t h
      have lr : r.length ≤ 1000 := Nat.le_trans hN.len (by rw [List.length_append]; omega)
      clear e1 e2
      refine ⟨_, rfl, _, rfl, _, rfl, u, v, _, tabE cs, tabE ds, rfl, W.hu, W.hv, by omega, by omega, fun H2 t s2 ht => ?_⟩
      replace W := W.same s2
      replace hx := hx.same s2
      refine ⟨x, t, n, r, _, rfl, hx, B.n0, B.n1, gr_, ht, fun a b _ _ _ _ => tab_add B.g B.gd hN a b, fun H3 s3 => ⟨true, rfl, ?_⟩⟩
      replace W := W.same s3
      replace hx := hx.same s3
      clear s1 s2 s3 ht
      refine ⟨_, rfl, _, rfl, _, rfl, _, rfl, c, d, cs, ds, rfl, rfl, W.hc, W.hd, by omega, fun H4 t s4 ht => ?_⟩
      obtain ⟨xs, hB, htr⟩ := ht.sq (K := K)
      refine ⟨t, xs, cs ++ ds, rfl, hB, htr, fun e he => ?_, by rw [List.length_append]; omega, fun H5 t2 r2 s5 ht2 hN2 => ?_⟩
      · rcases List.mem_append.mp he with h | h
        · exact B.g.pos e h
        · exact B.gd.pos e h
      obtain rfl : r2 = r := norm_uniq hN2 hN
      replace W := (W.same s4).same s5
      replace hx := (hx.same s4).same s5
      refine ⟨n, t2, r2, rfl, B.n0, B.n1, ht2, gr_, lr, fun H6 t3 s6 ht3 => ?_⟩
      replace W := W.same s6
      replace hx := hx.same s6
      refine ⟨x, t3, n, r2, _, rfl, hx, B.n0, B.n1, gr_, ht3, fun _ _ _ _ _ _ => rfl, fun H7 s7 => ⟨true, rfl, ?_⟩⟩
      replace W := W.same s7
      replace hx := hx.same s7
      clear s4 s5 s6 s7 ht ht2 ht3 hB htr
      obtain ⟨dxx, ec, ex, _⟩ := id hx
      obtain ⟨dx2, e2c, e2, _⟩ := id W.h2
      have cn : ∀ p, cnt r2 p = cnt cs p + cnt ds p := fun p => bs_add2 B.g B.gd hN _
      refine ⟨_, rfl, _, rfl, x, dxx, _, p2, dx2, _, rfl, rfl, ex, e2, x, p2, n, r2, ds, rfl, hx, W.h2, B.n0, gr_, B.gd, fun t ht => ?_, lr, fun H8 y m s8 hy gm hm => ?_⟩
      · rw [cn, B.gd.cnt ht]
        have := cnt_nn B.g.pos (pr t)
        omega
      obtain rfl : m = cs := good_ext gm B.g fun p => by rw [hm, cn]; omega
      replace W := W.same s8
      refine ⟨_, rfl, y, u, n, m, _, rfl, hy, B.n0, B.n1, B.g, W.hu, fun _ _ _ _ _ _ => rfl, fun H9 s9 => ⟨true, rfl, ?_⟩⟩
      exact qD n m ds c d p1 p2 u v _ _ H9 (W.same s9) B
    obtain ⟨tB, hB, qB⟩ : ∃ t, PSs (cxOf CX0 P w K mg base ["_law_script", "_law_pins_here", "_law_held", "_law_wished", "_law_one", "_law_two", "_law_table_here", "_law_other", "_law_told_here", "_law_both", "_law_draw", "_law_factor", "_law_times_here", "_law_far", "_law_i", "_law_entry"] "law" (defScope s_law) f cdv A outer s H E).nox ((defBody s_law).drop 5) t ∧ ∀ (n : Int) (cs ds : List Tr) (c d p1 p2 : Addr) (H0 : Hp), SqL K H0 l (ns.map V.int) → Trip H0 c cs → Trip H0 d ds → LotAt C H0 p1 n cs → LotAt C H0 p2 n ds → LB n cs ds →
        t { nx := fun _ H' => Q .non H', rt := Q } [some (.ref l), some (.int n), some (.ref c), some (.ref d), some (.ref p1), some (.ref p2), none, none, none, none, none, none, none, none, none, none] H0 := by
      refine ⟨_, (pss_cons (ps_set (i := 6) sc_law.nd rfl (.inl rfl) (pe_call G_tb (hr.mono (by decide)) (by rfl) D_tb.g D_tb.F.kp D_tb.b .nil pass0 (pa_cons (pv 1) (pa_cons (pv 2) pa_nil))))
        (pss_cons (ps_set (i := 7) sc_law.nd rfl (.inl rfl) (pe_call G_tb (hr.mono (by decide)) (by rfl) D_tb.g D_tb.F.kp D_tb.b .nil pass0 (pa_cons (pv 1) (pa_cons (pv 3) pa_nil))))
        (pss_cons (ps_if (PW.pt (pw_or (pt_not (pt_val (pe_call G_to (hr.mono (by decide)) (by rfl) D_to.g D_to.F.kp D_to.b .nil pass0 (pa_cons (pv 4) (pa_cons (pv 6) pa_nil))))) (pw_or1 (pt_not (pt_val (pe_call G_to (hr.mono (by decide)) (by rfl) D_to.g D_to.F.kp D_to.b .nil pass0 (pa_cons (pv 5) (pa_cons (pv 7) pa_nil)))))))) (pss_one (ps_ret pe_bl)) pss_nil)
        (pss_cons (ps_set (i := 8) sc_law.nd rfl (.inr rfl) (pe_call G_tf (hr.mono (by decide)) (by rfl) D_tf.g D_tf.F.kp D_tf.b .nil pass0 (pa_cons (pv 4) pa_nil)))
        (pss_cons (ps_if (PW.pt (pw_or (pt_cmpR (op_neD hu64) (pv 8) (pe_call G_mi (hr.mono (by decide)) (by rfl) D_mi.g D_mi.F.kp D_mi.b .nil pass0 (pa_cons (pv 8) pa_nil)) (nomark _)) (pw_or1 (pt_cmpR op_ne (pe_callB (cr_sum rfl) (by rfl) T.b_sum (by decide +kernel) (pa_cons (pe_lc (own := [("_law_i", 14)]) (g := gName 14) (tt := tYes) rfl sc_law.nd (pi_range1 (by rfl) T.b_range (pa_cons (pe_callB call_len_seq (by rfl) T.b_len PySem.boot_len (pa_cons (pv 6) pa_nil)) pa_nil)) (blkOk_by (own := [("_law_i", 14)]) (N := ["_law_script", "_law_pins_here", "_law_held", "_law_wished", "_law_one", "_law_two", "_law_table_here", "_law_other", "_law_told_here", "_law_both", "_law_draw", "_law_factor", "_law_times_here", "_law_far", "_law_i", "_law_entry"]) (sc := defScope s_law) (by decide +kernel)) (fun _ _ _ _ _ => (pg_name (i := 14) sc_law.nd rfl (.inl rfl))) (fun _ _ _ _ _ => pts_nil) (fun _ _ _ _ _ => (pe_ix (r := rIxT K) ix_tup (pe_ix (r := rIxT K) ix_tup (pv 8) (pv 14) (fun _ _ => rfl)) (pv 14) (fun _ _ => rfl)))) pa_nil)) pe_int (nomark _))))) (pss_one (ps_ret pe_bl)) pss_nil)
        hC))))), ?_⟩
      intro n cs ds c d p1 p2 H0 hs0 hc hd h1 h2 B
      have z := hi_in B.n0 B.n1
      refine ⟨_, rfl, _, rfl, n, c, cs, rfl, B.n0, B.n1, hc, B.g, B.lc2, fun H1 u s1 hu => ?_⟩
      refine ⟨_, rfl, _, rfl, n, d, ds, rfl, B.n0, B.n1, hd.same s1, B.gd, B.ld2, fun H2 v s2 hv => ?_⟩
      have W : LW K C l ns n cs ds c d p1 p2 u v H2 := ⟨s2.seq (s1.seq hs0), (hc.same s1).same s2, (hd.same s1).same s2, (h1.same s1).same s2, (h2.same s1).same s2, hu.same s2, hv⟩
      clear hs0 hc hd h1 h2 hu hv s1 s2
      refine ⟨_, rfl, _, rfl, p1, u, n, cs, _, rfl, W.h1, B.n0, B.n1, B.g, W.hu, fun _ _ _ _ _ _ => rfl, fun H3 s3 => ⟨true, rfl, ?_⟩⟩
      replace W := W.same s3
      refine ⟨_, rfl, _, rfl, p2, v, n, ds, _, rfl, W.h2, B.n0, B.n1, B.gd, W.hv, fun _ _ _ _ _ _ => rfl, fun H4 s4 => ⟨true, rfl, ?_⟩⟩
      replace W := W.same s4
      refine ⟨_, rfl, p1, n, cs, rfl, W.h1, B.n0, B.n1, B.g, fun H5 t s5 ht => ?_⟩
      replace W := W.same s5
      refine ⟨_, rfl, _, rfl, t, hi n 1, tabE cs, rfl, ht, by omega, by omega, fun H6 t2 s6 ht2 => ?_⟩
      replace W := W.same s6
      replace ht := ht.same s6
      have ef : (fun x y => tabE cs y x) = tabE cs := by
        funext x y
        exact tabE_comm cs y x
      rw [ef] at ht2
      refine ⟨tdat (hi n 1) (tabE cs), tdat (hi n 1) (tabE cs), ht.dp, ht2.dp, tdat_shaped _ _, tdat_shaped _ _, _, rfl, ?_⟩
      rw [tdat_eqv]
      obtain ⟨vs1, eu, lu, _⟩ := id W.hu
      obtain ⟨vs2, et, lt, rt⟩ := id ht
      refine ⟨_, rfl, u, vs1, rfl, .inr (.inl (.inl eu)), ?_⟩
      rw [lu, show (((hi n 1).toNat : Nat) : Int) = hi n 1 by omega]
      refine ⟨hi n 1, rfl, by omega, by omega, fun O hO => ?_⟩
      refine lc_range (lo := 0) (n := (hi n 1).toNat) (fun i H' => H' = upd H6 O (.lst ((List.replicate i (0 : Int)).map V.int))) rfl (fun i H' hi_ pv => ?_) (fun H' pv => ?_)
      · subst pv
        refine ⟨rfl, ?_⟩
        have sO : Same H6 (upd H6 O (.lst ((List.replicate i (0 : Int)).map V.int))) := same_upd hO
        obtain ⟨ra, ea, ha⟩ := TabAt.row (ht.same sO) (show 0 ≤ 0 + (i : Int) by omega) (show 0 + (i : Int) < hi n 1 by omega)
        obtain ⟨wa, fa, ea⟩ := ea
        refine ⟨_, rfl, _, rfl, t, _, _, _, rfl, rfl, .inl (.inl fa), ea, _, rfl, ra, _, _, _, rfl, rfl, .inl (.inl ha), gl_atI _ (by omega) (by omega), _, upd_same, ?_, ?_⟩
        · rw [List.length_map, List.length_replicate]
          exact small1000 (by omega)
        · rw [upd_upd, tabE_same, List.replicate_succ', List.map_append]
          rfl
      · subst pv
        refine ⟨O, _, rfl, .inl (.inl upd_same), rfl, _, rfl, ?_⟩
        have s0 : ∀ k : Nat, (List.replicate k (0 : Int)).sum = 0 := fun k => by
          induction k with
          | zero => rfl
          | succ k ih => rw [List.replicate_succ, List.sum_cons, ih]; rfl
        rw [s0]
        exact qC n cs ds c d p1 p2 u v _ _ (W.same (same_upd hO)) B
    refine ⟨_, (pss_cons (ps_set (i := 1) sc_law.nd rfl (.inl rfl) (pe_call G_p (hr.mono (by decide)) (by rfl) D_p.g D_p.F.kp D_p.b .nil pass0 (pa_cons (pe_call G_c (hr.mono (by decide)) (by rfl) D_c.g D_c.F.kp D_c.b .nil pass0 (pa_cons (pv 0) (pa_cons pe_int pa_nil))) pa_nil)))
        (pss_cons (ps_set (i := 2) sc_law.nd rfl (.inl rfl) (pe_call G_l (hr.mono (by decide)) (by rfl) D_l.g D_l.F.kp D_l.b .nil pass0 (pa_cons (pv 0) (pa_cons pe_int (pa_cons (pe_ix (r := rIxL K) ix_list (pe_call G_d (hr.mono (by decide)) (by rfl) D_d.g D_d.F.kp D_d.b .nil pass0 (pa_cons (pe_call G_c (hr.mono (by decide)) (by rfl) D_c.g D_c.F.kp D_c.b .nil pass0 (pa_cons (pv 0) (pa_cons pe_int pa_nil))) (pa_cons (pe_lst (pa_cons pe_int pa_nil)) pa_nil))) pe_int (fun _ _ => rfl)) (pa_cons (pv 1) pa_nil))))))
        (pss_cons (ps_set (i := 3) sc_law.nd rfl (.inl rfl) (pe_call G_l (hr.mono (by decide)) (by rfl) D_l.g D_l.F.kp D_l.b .nil pass0 (pa_cons (pv 0) (pa_cons pe_int (pa_cons (pe_ix (r := rIxL K) ix_list (pe_call G_d (hr.mono (by decide)) (by rfl) D_d.g D_d.F.kp D_d.b .nil pass0 (pa_cons (pe_call G_c (hr.mono (by decide)) (by rfl) D_c.g D_c.F.kp D_c.b .nil pass0 (pa_cons (pv 0) (pa_cons pe_int pa_nil))) (pa_cons (pe_lst (pa_cons pe_int pa_nil)) pa_nil))) pe_int (fun _ _ => rfl)) (pa_cons (pv 1) pa_nil))))))
        (pss_cons (ps_set (i := 4) sc_law.nd rfl (.inl rfl) (pe_make M_i G_i (hr.mono (by decide)) (by rfl) L.g b_i .nil pass0 (pa_cons (pv 1) (pa_cons (pv 2) pa_nil))))
        (pss_cons (ps_set (i := 5) sc_law.nd rfl (.inl rfl) (pe_make M_i G_i (hr.mono (by decide)) (by rfl) L.g b_i .nil pass0 (pa_cons (pv 1) (pa_cons (pv 3) pa_nil))))
        hB))))), ?_⟩
    refine ⟨_, rfl, l, ns, 0, rfl, hs, by decide, hn, fun c0 => ⟨c0, rfl, fun H1 n s1 n0 n40 => ?_⟩⟩
    replace hs := s1.seq hs
    refine ⟨_, rfl, _, rfl, l, ns, 1, rfl, hs, by decide, hn, fun c1 => ⟨by show 1 ≤ sizeLine; decide, fun b nb => ⟨c1, b, [17], rfl, .inl (.inl upd_same), by decide, by decide, fun H2 a dgs s2 na ea dg => ?_⟩⟩⟩
    obtain ⟨w0, rfl, h0⟩ := digs1 dg
    refine ⟨a, _, 0, _, rfl, rfl, .inl (.inl ea), atI_nat (j := 0) rfl, _, rfl, ?_⟩
    replace hs := ((same_upd (o := .lst [.int 17]) nb).trans s2).seq hs
    refine ⟨l, ns, 4, w0.toNat, n, by rw [show ((w0.toNat : Nat) : Int) = w0 by omega]; rfl, hs, hn, by decide, by omega, n0, by omega, fun H3 c cs s3 hc g lc mc => ?_⟩
    replace hs := s3.seq hs
    clear na ea dg nb s2
    refine ⟨_, rfl, _, rfl, l, ns, 2, rfl, hs, by decide, hn, fun c2 => ⟨by show 1 ≤ sizeLine; decide, fun b2 nb2 => ⟨c2, b2, [17], rfl, .inl (.inl upd_same), by decide, by decide, fun H4 a2 dgs2 s4 na2 ea2 dg2 => ?_⟩⟩⟩
    obtain ⟨w1, rfl, h1⟩ := digs1 dg2
    refine ⟨a2, _, 0, _, rfl, rfl, .inl (.inl ea2), atI_nat (j := 0) rfl, _, rfl, ?_⟩
    have s24 := (same_upd (o := .lst [.int 17]) nb2).trans s4
    replace hs := s24.seq hs
    refine ⟨l, ns, 20, w1.toNat, n, by rw [show ((w1.toNat : Nat) : Int) = w1 by omega]; rfl, hs, hn, by decide, by omega, n0, by omega, fun H5 d ds s5 hd gd ld md => ?_⟩
    replace hs := s5.seq hs
    replace hc := (hc.same s24).same s5
    have B : LB n cs ds := ⟨n0, by omega, g, gd, by omega, by omega, mc⟩
    clear na2 ea2 dg2 nb2 s4 s24 s5 s3
    obtain ⟨xs, hB, hx⟩ := hc.sq (K := K)
    refine ⟨_, rfl, _, rfl, ?_⟩
    refine fun p1 dx nx nd ne => rd_make2 (C := C) n0 hB hx g.vld B.lc2 nx nd ne fun H6 r s6 hL1 hN1 => ⟨rfl, ?_⟩
    obtain rfl : r = cs := norm_uniq hN1 g.self
    replace hs := s6.seq hs
    replace hc := hc.same s6
    replace hd := hd.same s6
    clear hB hx
    obtain ⟨ys, hB, hx⟩ := hd.sq (K := K)
    refine ⟨_, rfl, _, rfl, ?_⟩
    refine fun p2 dx2 nx2 nd2 ne2 => rd_make2 (C := C) n0 hB hx gd.vld B.ld2 nx2 nd2 ne2 fun H7 r2 s7 hL2 hN2 => ⟨rfl, ?_⟩
    obtain rfl : r2 = ds := norm_uniq hN2 gd.self
    exact qB n r r2 c d p1 p2 H7 (s7.seq hs) (hc.same s7) (hd.same s7) (hL1.same s7) hL2 B
end
end Own

namespace Own
open PySem PySem.Spec PyProof.Rows L2
/-! ### what the top has left -/
theorem df_mk {K : PySem.W.Frag} {mg : Str → Option Value} {x : Str} {st : Stmt} {ps : List Str} {h : Heap} {f : Addr} {oc : Value} {od an : Option Addr} {osl : Array (Option Value)} {kV doc pm cdv ct : Value} (X : K.In h) (G : h.Ns mainGlobals mg)
    (a : PySem.W.nsIn K mainGlobals x = some (some (.ref f))) (l : K.lookup f = some ⟨oc, od, .func (PySem.W.fnOf x x (defArgs st) (defBody st) (defScope st) .none kV doc pm an cdv ct), osl⟩) (c : PySem.W.codeIn K cdv x = true) (k : PySem.W.keepIn K (.ref f) = true)
    (b : ∀ (kV doc pm : Value) (an : Option Addr) (cdv ct : Value) (us : List Value), us.length = ps.length → bindArgs (PySem.W.fnOf x x (defArgs st) (defBody st) (defScope st) .none kV doc pm an cdv ct) ⟨us, []⟩ = pure (ps.zip us)) :
    Df K mg x st ps f (PySem.W.fnOf x x (defArgs st) (defBody st) (defScope st) .none kV doc pm an cdv ct) :=
  ⟨fun_mk l c k, PySem.W.mg_of X G a, (fun_mk l c k).binds b⟩
set_option maxHeartbeats 0 in
theorem all_mk {lw : PySem.W.OpenLaw} {w : World} {K : PySem.W.Frag} {h : Heap} {mg : Str → Option Value} {fa C p_table z T_d f1 f2 f3 f4 f5 f6 f7 f8 f9 f10 f11 f12 f13 f14 f15 f16 f17 f18 f19 f20 f21 f22 f23 f24 f25 f26 f27 f28 f29 f30 f31 f32 f33 : Addr} (X : K.In h) (G : h.Ns mainGlobals mg) (hfa : mg "law" = some (.ref fa))
    {odT odz od1 an1 od2 an2 od3 an3 od4 an4 od5 an5 od6 an6 od7 an7 od8 an8 od9 an9 od10 an10 od11 an11 od12 an12 od13 an13 od14 an14 od15 an15 od16 an16 od17 an17 od18 an18 od19 an19 od20 an20 od21 an21 od22 an22 od23 an23 od24 an24 od25 an25 od26 an26 od27 an27 od28 an28 od29 an29 od30 an30 od31 an31 od32 an32 od33 an33 : Option Addr} {slT slz sl1 sl2 sl3 sl4 sl5 sl6 sl7 sl8 sl9 sl10 sl11 sl12 sl13 sl14 sl15 sl16 sl17 sl18 sl19 sl20 sl21 sl22 sl23 sl24 sl25 sl26 sl27 sl28 sl29 sl30 sl31 sl32 sl33 : Array (Option Value)} {ocT oc1 kV1 dc1 pm1 cd1 ct1 oc2 kV2 dc2 pm2 cd2 ct2 oc3 kV3 dc3 pm3 cd3 ct3 oc4 kV4 dc4 pm4 cd4 ct4 oc5 kV5 dc5 pm5 cd5 ct5 oc6 kV6 dc6 pm6 cd6 ct6 oc7 kV7 dc7 pm7 cd7 ct7 oc8 kV8 dc8 pm8 cd8 ct8 oc9 kV9 dc9 pm9 cd9 ct9 oc10 kV10 dc10 pm10 cd10 ct10 oc11 kV11 dc11 pm11 cd11 ct11 oc12 kV12 dc12 pm12 cd12 ct12 oc13 kV13 dc13 pm13 cd13 ct13 oc14 kV14 dc14 pm14 cd14 ct14 oc15 kV15 dc15 pm15 cd15 ct15 oc16 kV16 dc16 pm16 cd16 ct16 oc17 kV17 dc17 pm17 cd17 ct17 oc18 kV18 dc18 pm18 cd18 ct18 oc19 kV19 dc19 pm19 cd19 ct19 oc20 kV20 dc20 pm20 cd20 ct20 oc21 kV21 dc21 pm21 cd21 ct21 oc22 kV22 dc22 pm22 cd22 ct22 oc23 kV23 dc23 pm23 cd23 ct23 oc24 kV24 dc24 pm24 cd24 ct24 oc25 kV25 dc25 pm25 cd25 ct25 oc26 kV26 dc26 pm26 cd26 ct26 oc27 kV27 dc27 pm27 cd27 ct27 oc28 kV28 dc28 pm28 cd28 ct28 oc29 kV29 dc29 pm29 cd29 ct29 oc30 kV30 dc30 pm30 cd30 ct30 oc31 kV31 dc31 pm31 cd31 ct31 oc32 kV32 dc32 pm32 cd32 ct32 oc33 kV33 dc33 pm33 cd33 ct33 : Value} {nT nz : Nat} {rest_table : List Value} {fo ro : Option Value}
    (a1 : PySem.W.nsIn K mainGlobals "gaps" = some (some (.ref f1)))
    (l1 : K.lookup f1 = some ⟨oc1, od1, .func (PySem.W.fnOf "gaps" "gaps" (defArgs s_gaps) (defBody s_gaps) (defScope s_gaps) .none kV1 dc1 pm1 an1 cd1 ct1), sl1⟩)
    (c1 : PySem.W.codeIn K cd1 "gaps" = true)
    (k1 : PySem.W.keepIn K (.ref f1) = true)
    (a2 : PySem.W.nsIn K mainGlobals "is_whole" = some (some (.ref f2)))
    (l2 : K.lookup f2 = some ⟨oc2, od2, .func (PySem.W.fnOf "is_whole" "is_whole" (defArgs s_is_whole) (defBody s_is_whole) (defScope s_is_whole) .none kV2 dc2 pm2 an2 cd2 ct2), sl2⟩)
    (c2 : PySem.W.codeIn K cd2 "is_whole" = true)
    (k2 : PySem.W.keepIn K (.ref f2) = true)
    (a3 : PySem.W.nsIn K mainGlobals "is_sequence" = some (some (.ref f3)))
    (l3 : K.lookup f3 = some ⟨oc3, od3, .func (PySem.W.fnOf "is_sequence" "is_sequence" (defArgs s_is_sequence) (defBody s_is_sequence) (defScope s_is_sequence) .none kV3 dc3 pm3 an3 cd3 ct3), sl3⟩)
    (c3 : PySem.W.codeIn K cd3 "is_sequence" = true)
    (k3 : PySem.W.keepIn K (.ref f3) = true)
    (a4 : PySem.W.nsIn K mainGlobals "is_below" = some (some (.ref f4)))
    (l4 : K.lookup f4 = some ⟨oc4, od4, .func (PySem.W.fnOf "is_below" "is_below" (defArgs s_is_below) (defBody s_is_below) (defScope s_is_below) .none kV4 dc4 pm4 an4 cd4 ct4), sl4⟩)
    (c4 : PySem.W.codeIn K cd4 "is_below" = true)
    (k4 : PySem.W.keepIn K (.ref f4) = true)
    (a5 : PySem.W.nsIn K mainGlobals "check_pins" = some (some (.ref f5)))
    (l5 : K.lookup f5 = some ⟨oc5, od5, .func (PySem.W.fnOf "check_pins" "check_pins" (defArgs s_check_pins) (defBody s_check_pins) (defScope s_check_pins) .none kV5 dc5 pm5 an5 cd5 ct5), sl5⟩)
    (c5 : PySem.W.codeIn K cd5 "check_pins" = true)
    (k5 : PySem.W.keepIn K (.ref f5) = true)
    (a6 : PySem.W.nsIn K mainGlobals "check_number" = some (some (.ref f6)))
    (l6 : K.lookup f6 = some ⟨oc6, od6, .func (PySem.W.fnOf "check_number" "check_number" (defArgs s_check_number) (defBody s_check_number) (defScope s_check_number) .none kV6 dc6 pm6 an6 cd6 ct6), sl6⟩)
    (c6 : PySem.W.codeIn K cd6 "check_number" = true)
    (k6 : PySem.W.keepIn K (.ref f6) = true)
    (a7 : PySem.W.nsIn K mainGlobals "check_like" = some (some (.ref f7)))
    (l7 : K.lookup f7 = some ⟨oc7, od7, .func (PySem.W.fnOf "check_like" "check_like" (defArgs s_check_like) (defBody s_check_like) (defScope s_check_like) .none kV7 dc7 pm7 an7 cd7 ct7), sl7⟩)
    (c7 : PySem.W.codeIn K cd7 "check_like" = true)
    (k7 : PySem.W.keepIn K (.ref f7) = true)
    (a8 : PySem.W.nsIn K mainGlobals "is_entry" = some (some (.ref f8)))
    (l8 : K.lookup f8 = some ⟨oc8, od8, .func (PySem.W.fnOf "is_entry" "is_entry" (defArgs s_is_entry) (defBody s_is_entry) (defScope s_is_entry) .none kV8 dc8 pm8 an8 cd8 ct8), sl8⟩)
    (c8 : PySem.W.codeIn K cd8 "is_entry" = true)
    (k8 : PySem.W.keepIn K (.ref f8) = true)
    (a9 : PySem.W.nsIn K mainGlobals "gathered" = some (some (.ref f9)))
    (l9 : K.lookup f9 = some ⟨oc9, od9, .func (PySem.W.fnOf "gathered" "gathered" (defArgs s_gathered) (defBody s_gathered) (defScope s_gathered) .none kV9 dc9 pm9 an9 cd9 ct9), sl9⟩)
    (c9 : PySem.W.codeIn K cd9 "gathered" = true)
    (k9 : PySem.W.keepIn K (.ref f9) = true)
    (a10 : PySem.W.nsIn K mainGlobals "entries_of" = some (some (.ref f10)))
    (l10 : K.lookup f10 = some ⟨oc10, od10, .func (PySem.W.fnOf "entries_of" "entries_of" (defArgs s_entries_of) (defBody s_entries_of) (defScope s_entries_of) .none kV10 dc10 pm10 an10 cd10 ct10), sl10⟩)
    (c10 : PySem.W.codeIn K cd10 "entries_of" = true)
    (k10 : PySem.W.keepIn K (.ref f10) = true)
    (a11 : PySem.W.nsIn K mainGlobals "cord_grid" = some (some (.ref f11)))
    (l11 : K.lookup f11 = some ⟨oc11, od11, .func (PySem.W.fnOf "cord_grid" "cord_grid" (defArgs s_cord_grid) (defBody s_cord_grid) (defScope s_cord_grid) .none kV11 dc11 pm11 an11 cd11 ct11), sl11⟩)
    (c11 : PySem.W.codeIn K cd11 "cord_grid" = true)
    (k11 : PySem.W.keepIn K (.ref f11) = true)
    (a12 : PySem.W.nsIn K mainGlobals "sums_before" = some (some (.ref f12)))
    (l12 : K.lookup f12 = some ⟨oc12, od12, .func (PySem.W.fnOf "sums_before" "sums_before" (defArgs s_sums_before) (defBody s_sums_before) (defScope s_sums_before) .none kV12 dc12 pm12 an12 cd12 ct12), sl12⟩)
    (c12 : PySem.W.codeIn K cd12 "sums_before" = true)
    (k12 : PySem.W.keepIn K (.ref f12) = true)
    (a13 : PySem.W.nsIn K mainGlobals "table_rows" = some (some (.ref f13)))
    (l13 : K.lookup f13 = some ⟨oc13, od13, .func (PySem.W.fnOf "table_rows" "table_rows" (defArgs s_table_rows) (defBody s_table_rows) (defScope s_table_rows) .none kV13 dc13 pm13 an13 cd13 ct13), sl13⟩)
    (c13 : PySem.W.codeIn K cd13 "table_rows" = true)
    (k13 : PySem.W.keepIn K (.ref f13) = true)
    (a14 : PySem.W.nsIn K mainGlobals "table_of" = some (some (.ref f14)))
    (l14 : K.lookup f14 = some ⟨oc14, od14, .func (PySem.W.fnOf "table_of" "table_of" (defArgs s_table_of) (defBody s_table_of) (defScope s_table_of) .none kV14 dc14 pm14 an14 cd14 ct14), sl14⟩)
    (c14 : PySem.W.codeIn K cd14 "table_of" = true)
    (k14 : PySem.W.keepIn K (.ref f14) = true)
    (a15 : PySem.W.nsIn K mainGlobals "_law_whole" = some (some (.ref f15)))
    (l15 : K.lookup f15 = some ⟨oc15, od15, .func (PySem.W.fnOf "_law_whole" "_law_whole" (defArgs s__law_whole) (defBody s__law_whole) (defScope s__law_whole) .none kV15 dc15 pm15 an15 cd15 ct15), sl15⟩)
    (c15 : PySem.W.codeIn K cd15 "_law_whole" = true)
    (k15 : PySem.W.keepIn K (.ref f15) = true)
    (a16 : PySem.W.nsIn K mainGlobals "_law_cell" = some (some (.ref f16)))
    (l16 : K.lookup f16 = some ⟨oc16, od16, .func (PySem.W.fnOf "_law_cell" "_law_cell" (defArgs s__law_cell) (defBody s__law_cell) (defScope s__law_cell) .none kV16 dc16 pm16 an16 cd16 ct16), sl16⟩)
    (c16 : PySem.W.codeIn K cd16 "_law_cell" = true)
    (k16 : PySem.W.keepIn K (.ref f16) = true)
    (a17 : PySem.W.nsIn K mainGlobals "_law_digits" = some (some (.ref f17)))
    (l17 : K.lookup f17 = some ⟨oc17, od17, .func (PySem.W.fnOf "_law_digits" "_law_digits" (defArgs s__law_digits) (defBody s__law_digits) (defScope s__law_digits) .none kV17 dc17 pm17 an17 cd17 ct17), sl17⟩)
    (c17 : PySem.W.codeIn K cd17 "_law_digits" = true)
    (k17 : PySem.W.keepIn K (.ref f17) = true)
    (a18 : PySem.W.nsIn K mainGlobals "_law_same" = some (some (.ref f18)))
    (l18 : K.lookup f18 = some ⟨oc18, od18, .func (PySem.W.fnOf "_law_same" "_law_same" (defArgs s__law_same) (defBody s__law_same) (defScope s__law_same) .none kV18 dc18 pm18 an18 cd18 ct18), sl18⟩)
    (c18 : PySem.W.codeIn K cd18 "_law_same" = true)
    (k18 : PySem.W.keepIn K (.ref f18) = true)
    (a19 : PySem.W.nsIn K mainGlobals "_law_norm" = some (some (.ref f19)))
    (l19 : K.lookup f19 = some ⟨oc19, od19, .func (PySem.W.fnOf "_law_norm" "_law_norm" (defArgs s__law_norm) (defBody s__law_norm) (defScope s__law_norm) .none kV19 dc19 pm19 an19 cd19 ct19), sl19⟩)
    (c19 : PySem.W.codeIn K cd19 "_law_norm" = true)
    (k19 : PySem.W.keepIn K (.ref f19) = true)
    (a20 : PySem.W.nsIn K mainGlobals "_law_pins" = some (some (.ref f20)))
    (l20 : K.lookup f20 = some ⟨oc20, od20, .func (PySem.W.fnOf "_law_pins" "_law_pins" (defArgs s__law_pins) (defBody s__law_pins) (defScope s__law_pins) .none kV20 dc20 pm20 an20 cd20 ct20), sl20⟩)
    (c20 : PySem.W.codeIn K cd20 "_law_pins" = true)
    (k20 : PySem.W.keepIn K (.ref f20) = true)
    (a21 : PySem.W.nsIn K mainGlobals "_law_table" = some (some (.ref f21)))
    (l21 : K.lookup f21 = some ⟨oc21, od21, .func (PySem.W.fnOf "_law_table" "_law_table" (defArgs s__law_table) (defBody s__law_table) (defScope s__law_table) .none kV21 dc21 pm21 an21 cd21 ct21), sl21⟩)
    (c21 : PySem.W.codeIn K cd21 "_law_table" = true)
    (k21 : PySem.W.keepIn K (.ref f21) = true)
    (a22 : PySem.W.nsIn K mainGlobals "_law_lot_is" = some (some (.ref f22)))
    (l22 : K.lookup f22 = some ⟨oc22, od22, .func (PySem.W.fnOf "_law_lot_is" "_law_lot_is" (defArgs s__law_lot_is) (defBody s__law_lot_is) (defScope s__law_lot_is) .none kV22 dc22 pm22 an22 cd22 ct22), sl22⟩)
    (c22 : PySem.W.codeIn K cd22 "_law_lot_is" = true)
    (k22 : PySem.W.keepIn K (.ref f22) = true)
    (a23 : PySem.W.nsIn K mainGlobals "_law_lot" = some (some (.ref f23)))
    (l23 : K.lookup f23 = some ⟨oc23, od23, .func (PySem.W.fnOf "_law_lot" "_law_lot" (defArgs s__law_lot) (defBody s__law_lot) (defScope s__law_lot) .none kV23 dc23 pm23 an23 cd23 ct23), sl23⟩)
    (c23 : PySem.W.codeIn K cd23 "_law_lot" = true)
    (k23 : PySem.W.keepIn K (.ref f23) = true)
    (a24 : PySem.W.nsIn K mainGlobals "_law_told" = some (some (.ref f24)))
    (l24 : K.lookup f24 = some ⟨oc24, od24, .func (PySem.W.fnOf "_law_told" "_law_told" (defArgs s__law_told) (defBody s__law_told) (defScope s__law_told) .none kV24 dc24 pm24 an24 cd24 ct24), sl24⟩)
    (c24 : PySem.W.codeIn K cd24 "_law_told" = true)
    (k24 : PySem.W.keepIn K (.ref f24) = true)
    (a25 : PySem.W.nsIn K mainGlobals "_law_sum" = some (some (.ref f25)))
    (l25 : K.lookup f25 = some ⟨oc25, od25, .func (PySem.W.fnOf "_law_sum" "_law_sum" (defArgs s__law_sum) (defBody s__law_sum) (defScope s__law_sum) .none kV25 dc25 pm25 an25 cd25 ct25), sl25⟩)
    (c25 : PySem.W.codeIn K cd25 "_law_sum" = true)
    (k25 : PySem.W.keepIn K (.ref f25) = true)
    (a26 : PySem.W.nsIn K mainGlobals "_law_times" = some (some (.ref f26)))
    (l26 : K.lookup f26 = some ⟨oc26, od26, .func (PySem.W.fnOf "_law_times" "_law_times" (defArgs s__law_times) (defBody s__law_times) (defScope s__law_times) .none kV26 dc26 pm26 an26 cd26 ct26), sl26⟩)
    (c26 : PySem.W.codeIn K cd26 "_law_times" = true)
    (k26 : PySem.W.keepIn K (.ref f26) = true)
    (a27 : PySem.W.nsIn K mainGlobals "_law_mirror" = some (some (.ref f27)))
    (l27 : K.lookup f27 = some ⟨oc27, od27, .func (PySem.W.fnOf "_law_mirror" "_law_mirror" (defArgs s__law_mirror) (defBody s__law_mirror) (defScope s__law_mirror) .none kV27 dc27 pm27 an27 cd27 ct27), sl27⟩)
    (c27 : PySem.W.codeIn K cd27 "_law_mirror" = true)
    (k27 : PySem.W.keepIn K (.ref f27) = true)
    (a28 : PySem.W.nsIn K mainGlobals "law" = some (some (.ref f28)))
    (l28 : K.lookup f28 = some ⟨oc28, od28, .func (PySem.W.fnOf "law" "law" (defArgs s_law) (defBody s_law) (defScope s_law) .none kV28 dc28 pm28 an28 cd28 ct28), sl28⟩)
    (c28 : PySem.W.codeIn K cd28 "law" = true)
    (k28 : PySem.W.keepIn K (.ref f28) = true)
    (aC : PySem.W.nsIn K mainGlobals "Lot" = some (some (.ref C)))
    (iP_table : PySem.W.findIn K (.ref C) "table" = some (some (.ref p_table)))
    (rP_table : PySem.W.recIn K p_table "property" = some (.ref f29 :: rest_table))
    (gP_table : PySem.W.specialIn K (.ref p_table) "__get__" = some (some (.builtin "property.__get__")))
    (tP_table : PySem.W.takesIn K (.ref p_table) = some true)
    (l29 : K.lookup f29 = some ⟨oc29, od29, .func (PySem.W.fnOf "table" "Lot.table" (defArgs s_Lot_table) (defBody s_Lot_table) (defScope s_Lot_table) .none kV29 dc29 pm29 an29 cd29 ct29), sl29⟩)
    (c29 : PySem.W.codeIn K cd29 "Lot.table" = true)
    (k29 : PySem.W.keepIn K (.ref f29) = true)
    (i30 : PySem.W.findIn K (.ref C) "__add__" = some (some (.ref f30)))
    (n30 : PySem.W.isFn K (.ref f30) = true)
    (l30 : K.lookup f30 = some ⟨oc30, od30, .func (PySem.W.fnOf "__add__" "Lot.__add__" (defArgs s_Lot_add) (defBody s_Lot_add) (defScope s_Lot_add) .none kV30 dc30 pm30 an30 cd30 ct30), sl30⟩)
    (c30 : PySem.W.codeIn K cd30 "Lot.__add__" = true)
    (k30 : PySem.W.keepIn K (.ref f30) = true)
    (i31 : PySem.W.findIn K (.ref C) "__sub__" = some (some (.ref f31)))
    (n31 : PySem.W.isFn K (.ref f31) = true)
    (l31 : K.lookup f31 = some ⟨oc31, od31, .func (PySem.W.fnOf "__sub__" "Lot.__sub__" (defArgs s_Lot_sub) (defBody s_Lot_sub) (defScope s_Lot_sub) .none kV31 dc31 pm31 an31 cd31 ct31), sl31⟩)
    (c31 : PySem.W.codeIn K cd31 "Lot.__sub__" = true)
    (k31 : PySem.W.keepIn K (.ref f31) = true)
    (i32 : PySem.W.findIn K (.ref C) "__mul__" = some (some (.ref f32)))
    (n32 : PySem.W.isFn K (.ref f32) = true)
    (l32 : K.lookup f32 = some ⟨oc32, od32, .func (PySem.W.fnOf "__mul__" "Lot.__mul__" (defArgs s_Lot_mul) (defBody s_Lot_mul) (defScope s_Lot_mul) .none kV32 dc32 pm32 an32 cd32 ct32), sl32⟩)
    (c32 : PySem.W.codeIn K cd32 "Lot.__mul__" = true)
    (k32 : PySem.W.keepIn K (.ref f32) = true)
    (i33 : PySem.W.findIn K (.ref C) "__init__" = some (some (.ref f33)))
    (n33 : PySem.W.isFn K (.ref f33) = true)
    (l33 : K.lookup f33 = some ⟨oc33, od33, .func (PySem.W.fnOf "__init__" "Lot.__init__" (defArgs s_Lot_init) (defBody s_Lot_init) (defScope s_Lot_init) (.ref T_d) kV33 dc33 pm33 an33 cd33 ct33), sl33⟩)
    (c33 : PySem.W.codeIn K cd33 "Lot.__init__" = true)
    (k33 : PySem.W.keepIn K (.ref f33) = true)
    (lT : K.lookup T_d = some ⟨ocT, odT, .seq #[.ref z] nT, slT⟩)
    (lz : K.lookup z = some ⟨.type "tuple", odz, .seq #[] nz, slz⟩)
    (pg : PySem.W.plainGet K C Str.empty = true)
    (hd : PySem.W.hasDictIn K C = true)
    (po : PySem.W.plainOver K C = true)
    (sa : PySem.W.findIn K (.ref C) "__setattr__" = some (some (.builtin "object.__setattr__")))
    (mk : PySem.W.makesIn K C = true)
    (kc : PySem.W.keepIn K (.ref C) = true)
    (nP : PySem.W.findIn K (.ref C) "pins" = some none)
    (nC : PySem.W.findIn K (.ref C) "cords" = some none)
    (sf : PySem.W.selfFirst K C = true)
    (rM : PySem.W.findIn K (.ref C) "__rmul__" = some none)
    (t1 : PySem.W.findIn K (.type "int") "__mul__" = some fo)
    (t2 : PySem.W.findIn K (.type "int") "__rmul__" = some ro)
    (t3 : PySem.W.subIn K (.type "int") (.ref C) = some false)
    (z0 : PySem.W.nsIn K mainGlobals "max" = some none)
    (z1 : PySem.W.nsIn K mainGlobals "min" = some none)
    (z2 : PySem.W.nsIn K mainGlobals "tuple" = some none)
    (z3 : PySem.W.nsIn K mainGlobals "range" = some none)
    (z4 : PySem.W.nsIn K mainGlobals "isinstance" = some none)
    (z5 : PySem.W.nsIn K mainGlobals "int" = some none)
    (z6 : PySem.W.nsIn K mainGlobals "bool" = some none)
    (z7 : PySem.W.nsIn K mainGlobals "len" = some none)
    (z8 : PySem.W.nsIn K mainGlobals "list" = some none)
    (z9 : PySem.W.nsIn K mainGlobals "str" = some none)
    (z10 : PySem.W.nsIn K mainGlobals "sorted" = some none)
    (z11 : PySem.W.nsIn K mainGlobals "sum" = some none) :
    ∃ fd : FuncData, (∀ (s : Shared) (v : Value), BindsTo s fd ⟨[v], []⟩ [("_law_script", v)]) ∧ ∀ base : Heap, K.In base → base.Ns mainGlobals mg → FnOk lw.prog w K mg base CX0 8 fa fd ["_law_script"] (spLaw K) := by
  have e := hfa.symm.trans (PySem.W.mg_of X G a28)
  cases e
  have D_gaps := df_mk (ps := ["pins"]) (st := s_gaps) X G a1 l1 c1 k1 fun _ _ _ _ _ _ us hl => match us, hl with | [_], _ => rfl
  have D_is_whole := df_mk (ps := ["value"]) (st := s_is_whole) X G a2 l2 c2 k2 fun _ _ _ _ _ _ us hl => match us, hl with | [_], _ => rfl
  have D_is_sequence := df_mk (ps := ["value"]) (st := s_is_sequence) X G a3 l3 c3 k3 fun _ _ _ _ _ _ us hl => match us, hl with | [_], _ => rfl
  have D_is_below := df_mk (ps := ["value", "bound"]) (st := s_is_below) X G a4 l4 c4 k4 fun _ _ _ _ _ _ us hl => match us, hl with | [_, _], _ => rfl
  have D_check_pins := df_mk (ps := ["pins"]) (st := s_check_pins) X G a5 l5 c5 k5 fun _ _ _ _ _ _ us hl => match us, hl with | [_], _ => rfl
  have D_check_number := df_mk (ps := ["number", "least"]) (st := s_check_number) X G a6 l6 c6 k6 fun _ _ _ _ _ _ us hl => match us, hl with | [_, _], _ => rfl
  have D_check_like := df_mk (ps := ["one", "other"]) (st := s_check_like) X G a7 l7 c7 k7 fun _ _ _ _ _ _ us hl => match us, hl with | [_, _], _ => rfl
  have D_is_entry := df_mk (ps := ["pins", "entry"]) (st := s_is_entry) X G a8 l8 c8 k8 fun _ _ _ _ _ _ us hl => match us, hl with | [_, _], _ => rfl
  have D_gathered := df_mk (ps := ["pins", "entries"]) (st := s_gathered) X G a9 l9 c9 k9 fun _ _ _ _ _ _ us hl => match us, hl with | [_, _], _ => rfl
  have D_entries_of := df_mk (ps := ["held"]) (st := s_entries_of) X G a10 l10 c10 k10 fun _ _ _ _ _ _ us hl => match us, hl with | [_], _ => rfl
  have D_cord_grid := df_mk (ps := ["pins", "cords"]) (st := s_cord_grid) X G a11 l11 c11 k11 fun _ _ _ _ _ _ us hl => match us, hl with | [_, _], _ => rfl
  have D_sums_before := df_mk (ps := ["row"]) (st := s_sums_before) X G a12 l12 c12 k12 fun _ _ _ _ _ _ us hl => match us, hl with | [_], _ => rfl
  have D_table_rows := df_mk (ps := ["pins", "cords"]) (st := s_table_rows) X G a13 l13 c13 k13 fun _ _ _ _ _ _ us hl => match us, hl with | [_, _], _ => rfl
  have D_table_of := df_mk (ps := ["lot"]) (st := s_table_of) X G a14 l14 c14 k14 fun _ _ _ _ _ _ us hl => match us, hl with | [_], _ => rfl
  have D__law_whole := df_mk (ps := ["_law_value"]) (st := s__law_whole) X G a15 l15 c15 k15 fun _ _ _ _ _ _ us hl => match us, hl with | [_], _ => rfl
  have D__law_cell := df_mk (ps := ["_law_script", "_law_k"]) (st := s__law_cell) X G a16 l16 c16 k16 fun _ _ _ _ _ _ us hl => match us, hl with | [_, _], _ => rfl
  have D__law_digits := df_mk (ps := ["_law_cell_here", "_law_sizes"]) (st := s__law_digits) X G a17 l17 c17 k17 fun _ _ _ _ _ _ us hl => match us, hl with | [_, _], _ => rfl
  have D__law_same := df_mk (ps := ["_law_value", "_law_due"]) (st := s__law_same) X G a18 l18 c18 k18 fun _ _ _ _ _ _ us hl => match us, hl with | [_, _], _ => rfl
  have D__law_norm := df_mk (ps := ["_law_triples"]) (st := s__law_norm) X G a19 l19 c19 k19 fun _ _ _ _ _ _ us hl => match us, hl with | [_], _ => rfl
  have D__law_pins := df_mk (ps := ["_law_cell_here"]) (st := s__law_pins) X G a20 l20 c20 k20 fun _ _ _ _ _ _ us hl => match us, hl with | [_], _ => rfl
  have D__law_table := df_mk (ps := ["_law_pins_here", "_law_bunch"]) (st := s__law_table) X G a21 l21 c21 k21 fun _ _ _ _ _ _ us hl => match us, hl with | [_, _], _ => rfl
  have D__law_lot_is := df_mk (ps := ["_law_thing", "_law_pins_here", "_law_bunch"]) (st := s__law_lot_is) X G a22 l22 c22 k22 fun _ _ _ _ _ _ us hl => match us, hl with | [_, _, _], _ => rfl
  have D__law_lot := df_mk (ps := ["_law_script", "_law_start", "_law_count", "_law_pins_here"]) (st := s__law_lot) X G a23 l23 c23 k23 fun _ _ _ _ _ _ us hl => match us, hl with | [_, _, _, _], _ => rfl
  have D__law_told := df_mk (ps := ["_law_thing", "_law_table_here"]) (st := s__law_told) X G a24 l24 c24 k24 fun _ _ _ _ _ _ us hl => match us, hl with | [_, _], _ => rfl
  have D__law_sum := df_mk (ps := ["_law_one", "_law_two"]) (st := s__law_sum) X G a25 l25 c25 k25 fun _ _ _ _ _ _ us hl => match us, hl with | [_, _], _ => rfl
  have D__law_times := df_mk (ps := ["_law_one", "_law_factor"]) (st := s__law_times) X G a26 l26 c26 k26 fun _ _ _ _ _ _ us hl => match us, hl with | [_, _], _ => rfl
  have D__law_mirror := df_mk (ps := ["_law_table_here"]) (st := s__law_mirror) X G a27 l27 c27 k27 fun _ _ _ _ _ _ us hl => match us, hl with | [_], _ => rfl
  have T : Bi mg := ⟨PySem.W.mg_none_of X G z0, PySem.W.mg_none_of X G z1, PySem.W.mg_none_of X G z2, PySem.W.mg_none_of X G z3, PySem.W.mg_none_of X G z4, PySem.W.mg_none_of X G z5, PySem.W.mg_none_of X G z6, PySem.W.mg_none_of X G z7, PySem.W.mg_none_of X G z8, PySem.W.mg_none_of X G z9, PySem.W.mg_none_of X G z10, PySem.W.mg_none_of X G z11⟩
  have cl : Cls K C := ⟨pg, hd, po, sa⟩
  have L : LotC K mg C := ⟨cl, nP, nC, PySem.W.mg_of X G aC⟩
  have hz : ∀ H, SqT K H z [] := fun H => .inr ⟨_, #[], nz, lz, rfl, rfl, by decide, .nil⟩
  have F_Lot_table : Fun K "table" "Lot.table" s_Lot_table f29 _ := fun_mk l29 c29 k29
  have B_Lot_table := F_Lot_table.binds (ps := ["self"]) fun _ _ _ _ _ _ us hl => match us, hl with | [_], _ => rfl
  have PT_table : PropOf K C "table" p_table f29 := ⟨iP_table, gP_table, tP_table, ⟨_, rP_table⟩⟩
  have F_Lot_add : Fun K "__add__" "Lot.__add__" s_Lot_add f30 _ := fun_mk l30 c30 k30
  have B_Lot_add := F_Lot_add.binds (ps := ["self", "other"]) fun _ _ _ _ _ _ us hl => match us, hl with | [_, _], _ => rfl
  have M_Lot_add : Mt K C "__add__" "Lot.__add__" s_Lot_add ["self", "other"] f30 _ := ⟨F_Lot_add, ⟨i30, n30, k30⟩, B_Lot_add⟩
  have F_Lot_sub : Fun K "__sub__" "Lot.__sub__" s_Lot_sub f31 _ := fun_mk l31 c31 k31
  have B_Lot_sub := F_Lot_sub.binds (ps := ["self", "other"]) fun _ _ _ _ _ _ us hl => match us, hl with | [_, _], _ => rfl
  have M_Lot_sub : Mt K C "__sub__" "Lot.__sub__" s_Lot_sub ["self", "other"] f31 _ := ⟨F_Lot_sub, ⟨i31, n31, k31⟩, B_Lot_sub⟩
  have F_Lot_mul : Fun K "__mul__" "Lot.__mul__" s_Lot_mul f32 _ := fun_mk l32 c32 k32
  have B_Lot_mul := F_Lot_mul.binds (ps := ["self", "number"]) fun _ _ _ _ _ _ us hl => match us, hl with | [_, _], _ => rfl
  have M_Lot_mul : Mt K C "__mul__" "Lot.__mul__" s_Lot_mul ["self", "number"] f32 _ := ⟨F_Lot_mul, ⟨i32, n32, k32⟩, B_Lot_mul⟩
  have FI_ : FI K z f33 _ := ⟨⟨_, _, _, _, _, _, _, _, _, _, rfl, l33, c33, .inr ⟨by simp, T_d, _, [.ref z], nT, rfl, lT, rfl, .cons rfl .nil⟩, .inl rfl⟩, k33⟩
  have MI : Mk K C f33 := ⟨mk, i33, n33, kc⟩
  obtain ⟨ds, vds, BI⟩ := FI_.binds1 (ps := ["self", "pins", "cords"]) 3 1 (by simp) rfl fun T kV doc pm an cdv ct us its h1 h2 => match us, h1, its, h2 with | [_, _, _], _, [_], _ => ⟨_, rfl, rfl⟩
  have eds : ds = [] := by cases vds; rfl
  subst eds
  obtain ⟨ds1, vds1, BD⟩ := FI_.binds1 (ps := ["self", "pins", "cords"]) 2 0 (by simp) rfl fun T kV doc pm an cdv ct us its h1 h2 => match us, h1, its, h2 with | [_, _], _, [_], _ => ⟨_, rfl, rfl⟩
  have eds1 : ds1 = [.ref z] := by
    cases vds1 with
    | cons r t =>
      cases t
      cases r
      rfl
  subst eds1
  refine ⟨PySem.W.fnOf "law" "law" (defArgs s_law) (defBody s_law) (defScope s_law) .none kV28 dc28 pm28 an28 cd28 ct28, fun s v => .of_eq rfl, fun base _ _ => ?_⟩
  have Gckpins := ok_ckpins (P := lw.prog) (w := w) (mg := mg) (base := base) D_check_pins.F T D_is_whole
  have Gentry := ok_entry (P := lw.prog) (w := w) (mg := mg) (base := base) D_is_entry.F T D_is_whole D_is_below D_is_sequence
  have Ggath := ok_gathered (P := lw.prog) (w := w) (mg := mg) (base := base) D_gathered.F T D_is_entry Gentry
  have Ginit := ok_init (P := lw.prog) (w := w) (mg := mg) (base := base) FI_ T L D_check_pins Gckpins D_gathered Ggath
  have Gcknum := ok_cknum (P := lw.prog) (w := w) (mg := mg) (base := base) D_check_number.F T D_is_whole
  have Glike := ok_like (P := lw.prog) (w := w) (mg := mg) (base := base) D_check_like.F
  have Gent := ok_entof (P := lw.prog) (w := w) (mg := mg) (base := base) D_entries_of.F
  have Gadd := ok_add (P := lw.prog) (w := w) (mg := mg) (base := base) F_Lot_add L MI BI BD Ginit D_check_like Glike
  have Gsub := ok_sub (P := lw.prog) (w := w) (mg := mg) (base := base) F_Lot_sub L MI BI Ginit D_check_like Glike D_entries_of Gent
  have Gmul := ok_mul (P := lw.prog) (w := w) (mg := mg) (base := base) F_Lot_mul L MI BI BD Ginit hz D_check_number Gcknum
  have Ggaps := ok_gaps (P := lw.prog) (w := w) (mg := mg) (base := base) D_gaps.F T
  have Gsums := ok_sums (P := lw.prog) (w := w) (mg := mg) (base := base) D_sums_before.F T
  have Ggrid := ok_grid (P := lw.prog) (w := w) (mg := mg) (base := base) D_cord_grid.F T
  have Grows := ok_table (P := lw.prog) (w := w) (mg := mg) (base := base) D_table_rows.F T D_cord_grid Ggrid D_gaps Ggaps D_sums_before Gsums
  have Gtab := ok_tab (P := lw.prog) (w := w) (mg := mg) (base := base) F_Lot_table T L D_table_rows Grows
  have Gtof := ok_tabof (P := lw.prog) (w := w) (mg := mg) (base := base) D_table_of.F L D_table_rows Grows
  have Gwh := ok_lwhole (P := lw.prog) (w := w) (mg := mg) (base := base) D__law_whole.F T
  have Gcell := ok_cell (P := lw.prog) (w := w) (mg := mg) (base := base) D__law_cell.F T
  have Gdig := ok_digits (P := lw.prog) (w := w) (mg := mg) (base := base) D__law_digits.F T
  have Gsame := ok_same (P := lw.prog) (w := w) (mg := mg) (base := base) D__law_same T D__law_whole Gwh
  have Gpins := ok_pins (P := lw.prog) (w := w) (mg := mg) (base := base) D__law_pins.F T D__law_digits Gdig
  have Gnorm := ok_norm (P := lw.prog) (w := w) (mg := mg) (base := base) D__law_norm.F T
  have Gltab := ok_ltab (P := lw.prog) (w := w) (mg := mg) (base := base) D__law_table.F T
  have Gli := ok_lotis (P := lw.prog) (w := w) (mg := mg) (base := base) D__law_lot_is.F L D__law_same (Gsame 0) (Gsame 2)
  have Gllot := ok_llot (P := lw.prog) (w := w) (mg := mg) (base := base) D__law_lot.F T D__law_digits Gdig D__law_cell Gcell D__law_norm Gnorm
  have Gtold := ok_told (P := lw.prog) (w := w) (mg := mg) (base := base) D__law_told.F L D__law_same (Gsame 2) D_table_of Gtof PT_table B_Lot_table Gtab
  have Gsum := ok_sum (P := lw.prog) (w := w) (mg := mg) (base := base) D__law_sum.F T
  have Gtim := ok_times (P := lw.prog) (w := w) (mg := mg) (base := base) D__law_times.F T
  have Gmir := ok_mirror (P := lw.prog) (w := w) (mg := mg) (base := base) D__law_mirror.F T
  exact ok_law (fun_mk l28 c28 k28) T L sf D__law_cell Gcell D__law_pins Gpins D__law_digits Gdig D__law_lot Gllot D__law_table Gltab D__law_told Gtold D__law_sum Gsum D__law_times Gtim D__law_mirror Gmir D__law_norm Gnorm D__law_same (Gsame 2) D__law_lot_is Gli D_table_of Gtof MI BI BD hz Ginit PT_table B_Lot_table Gtab i30 n30 B_Lot_add Gadd i31 n31 B_Lot_sub Gsub i32 n32 B_Lot_mul Gmul rM t1 t2 t3
end Own

open PySem PySem.W PyProof.Rows
set_option maxRecDepth 100000 in
set_option maxHeartbeats 0 in
theorem PySem.Challenge.cw_rimcords_k04_tables_whole_holds : PySem.Challenge.rw_rimcords_k04_tables_whole.Holds := by
  w_on; o_law; k_head; (case hw => w_witness2)
  k_fill
  refine L2.walk_of (l := PySem.Challenge.rw_rimcords_k04_tables_whole) (n := 63) (k := 8) (x := "_law_script") (CX := fun _ => L2.CX0) (sp := fun w => Own.spLaw _) rfl (by decide) rfl ⟨rfl, by decide, by decide⟩ (fun w h Y => PySem.W.kIn_of Y) ?F (fun _ _ a ns hl _ hS => ⟨a, ns, rfl, hS, Nat.le_trans hl (by decide), fun _ => rfl⟩) (fun _ _ _ _ _ h => h)
  case F =>
    intro w mg fa h KX G hmg
    refine' Own.all_mk KX G hmg ?a1 ?l1 ?c1 ?k1 ?a2 ?l2 ?c2 ?k2 ?a3 ?l3 ?c3 ?k3 ?a4 ?l4 ?c4 ?k4 ?a5 ?l5 ?c5 ?k5 ?a6 ?l6 ?c6 ?k6 ?a7 ?l7 ?c7 ?k7 ?a8 ?l8 ?c8 ?k8 ?a9 ?l9 ?c9 ?k9 ?a10 ?l10 ?c10 ?k10 ?a11 ?l11 ?c11 ?k11 ?a12 ?l12 ?c12 ?k12 ?a13 ?l13 ?c13 ?k13 ?a14 ?l14 ?c14 ?k14 ?a15 ?l15 ?c15 ?k15 ?a16 ?l16 ?c16 ?k16 ?a17 ?l17 ?c17 ?k17 ?a18 ?l18 ?c18 ?k18 ?a19 ?l19 ?c19 ?k19 ?a20 ?l20 ?c20 ?k20 ?a21 ?l21 ?c21 ?k21 ?a22 ?l22 ?c22 ?k22 ?a23 ?l23 ?c23 ?k23 ?a24 ?l24 ?c24 ?k24 ?a25 ?l25 ?c25 ?k25 ?a26 ?l26 ?c26 ?k26 ?a27 ?l27 ?c27 ?k27 ?a28 ?l28 ?c28 ?k28 ?aC ?iP_table ?rP_table ?gP_table ?tP_table ?l29 ?c29 ?k29 ?i30 ?n30 ?l30 ?c30 ?k30 ?i31 ?n31 ?l31 ?c31 ?k31 ?i32 ?n32 ?l32 ?c32 ?k32 ?i33 ?n33 ?l33 ?c33 ?k33 ?lT ?lz ?pg ?hd ?po ?sa ?mk ?kc ?nP ?nC ?sf ?rM ?t1 ?t2 ?t3 ?z0 ?z1 ?z2 ?z3 ?z4 ?z5 ?z6 ?z7 ?z8 ?z9 ?z10 ?z11
    (case a1 => k_is)
    (case l1 => k_is)
    (case c1 => k_is)
    (case k1 => k_is)
    (case a2 => k_is)
    (case l2 => k_is)
    (case c2 => k_is)
    (case k2 => k_is)
    (case a3 => k_is)
    (case l3 => k_is)
    (case c3 => k_is)
    (case k3 => k_is)
    (case a4 => k_is)
    (case l4 => k_is)
    (case c4 => k_is)
    (case k4 => k_is)
    (case a5 => k_is)
    (case l5 => k_is)
    (case c5 => k_is)
    (case k5 => k_is)
    (case a6 => k_is)
    (case l6 => k_is)
    (case c6 => k_is)
    (case k6 => k_is)
    (case a7 => k_is)
    (case l7 => k_is)
    (case c7 => k_is)
    (case k7 => k_is)
    (case a8 => k_is)
    (case l8 => k_is)
    (case c8 => k_is)
    (case k8 => k_is)
    (case a9 => k_is)
    (case l9 => k_is)
    (case c9 => k_is)
    (case k9 => k_is)
    (case a10 => k_is)
    (case l10 => k_is)
    (case c10 => k_is)
    (case k10 => k_is)
    (case a11 => k_is)
    (case l11 => k_is)
    (case c11 => k_is)
    (case k11 => k_is)
    (case a12 => k_is)
    (case l12 => k_is)
    (case c12 => k_is)
    (case k12 => k_is)
    (case a13 => k_is)
    (case l13 => k_is)
    (case c13 => k_is)
    (case k13 => k_is)
    (case a14 => k_is)
    (case l14 => k_is)
    (case c14 => k_is)
    (case k14 => k_is)
    (case a15 => k_is)
    (case l15 => k_is)
    (case c15 => k_is)
    (case k15 => k_is)
    (case a16 => k_is)
    (case l16 => k_is)
    (case c16 => k_is)
    (case k16 => k_is)
    (case a17 => k_is)
    (case l17 => k_is)
    (case c17 => k_is)
    (case k17 => k_is)
    (case a18 => k_is)
    (case l18 => k_is)
    (case c18 => k_is)
    (case k18 => k_is)
    (case a19 => k_is)
    (case l19 => k_is)
    (case c19 => k_is)
    (case k19 => k_is)
    (case a20 => k_is)
    (case l20 => k_is)
    (case c20 => k_is)
    (case k20 => k_is)
    (case a21 => k_is)
    (case l21 => k_is)
    (case c21 => k_is)
    (case k21 => k_is)
    (case a22 => k_is)
    (case l22 => k_is)
    (case c22 => k_is)
    (case k22 => k_is)
    (case a23 => k_is)
    (case l23 => k_is)
    (case c23 => k_is)
    (case k23 => k_is)
    (case a24 => k_is)
    (case l24 => k_is)
    (case c24 => k_is)
    (case k24 => k_is)
    (case a25 => k_is)
    (case l25 => k_is)
    (case c25 => k_is)
    (case k25 => k_is)
    (case a26 => k_is)
    (case l26 => k_is)
    (case c26 => k_is)
    (case k26 => k_is)
    (case a27 => k_is)
    (case l27 => k_is)
    (case c27 => k_is)
    (case k27 => k_is)
    (case a28 => k_is)
    (case l28 => k_is)
    (case c28 => k_is)
    (case k28 => k_is)
    (case aC => k_is)
    (case iP_table => k_is)
    (case rP_table => k_is)
    (case gP_table => k_is)
    (case tP_table => k_is)
    (case l29 => k_is)
    (case c29 => k_is)
    (case k29 => k_is)
    (case i30 => k_is)
    (case n30 => k_is)
    (case l30 => k_is)
    (case c30 => k_is)
    (case k30 => k_is)
    (case i31 => k_is)
    (case n31 => k_is)
    (case l31 => k_is)
    (case c31 => k_is)
    (case k31 => k_is)
    (case i32 => k_is)
    (case n32 => k_is)
    (case l32 => k_is)
    (case c32 => k_is)
    (case k32 => k_is)
    (case i33 => k_is)
    (case n33 => k_is)
    (case l33 => k_is)
    (case c33 => k_is)
    (case k33 => k_is)
    (case lT => k_is)
    (case lz => k_is)
    (case pg => k_is)
    (case hd => k_is)
    (case po => k_is)
    (case sa => k_is)
    (case mk => k_is)
    (case kc => k_is)
    (case nP => k_is)
    (case nC => k_is)
    (case sf => k_is)
    (case rM => k_is)
    (case t1 => k_is)
    (case t2 => k_is)
    (case t3 => k_is)
    (case z0 => k_is)
    (case z1 => k_is)
    (case z2 => k_is)
    (case z3 => k_is)
    (case z4 => k_is)
    (case z5 => k_is)
    (case z6 => k_is)
    (case z7 => k_is)
    (case z8 => k_is)
    (case z9 => k_is)
    (case z10 => k_is)
    (case z11 => k_is)
