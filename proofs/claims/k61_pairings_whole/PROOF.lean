import PyProof.Rows.All
import Wide.All
import OpenK.AllK
import Wide.FinOn
import HandS.ForMost
import HandS.IsInst
import HandS.Style
import HandS.Defaults
import HandS.MakeKwOnly
import HandS.Conv
import HandS.Sort
import HandS.SortRule
import HandS.Deep
import HandS.Property
import HandS.TupSets
import HandS.Codes
import KE.KStateDown
import HandS.Base
import HandS.Call
import HandS.Ends
import HandS.More
import HandS.Words
import HandS.WordsExc
import HandS.Exc
import HandS.Head0
import HandS.Head1
import HandS.Head2
import HandS.HeadEnd
import HandS.HeadHook1
import HandS.HeadHook2
import HandS.HeadHook3
import HandS.Zip
import PyProof.WalksMore
import HandS.Walk
import PyProof.MinMaxWalk
import PyProof.SeqI3
import HandS.Iter
import HandS.ExcOwn
import KE.KOpsOwn
import HandS.WrittenGet
import KE.GoesMore
import PyProof.EnumMake
import HandS.List
import PyProof.Rows.SeqMore
import KE.KRevSl
import PyProof.ReprRoads
import HandS.SlotsOwn
import PyProof.Rows.RegFStrParts
import PyProof.Rows.ReprShort
import PySem.Challenge.RW_rimcords_k61_pairings_whole
set_option maxHeartbeats 1000000
set_option Elab.async false
set_option linter.all false
set_option maxRecDepth 100000
/-! Rules of my own for the hand layer. -/
namespace Own
open PySem PySem.Spec PyProof.Rows L2
/-- the two ints of a pair that stands in the heap -/
def kOf (H : Hp) (v : V) : Int × Int := match v with
  | .ref a => match H a with
    | some (.tup [.int i, .int j]) => (i, j)
    | _ => (0, 0)
  | _ => (0, 0)
theorem kOf_at {H : Hp} {a : Addr} {i j : Int} (h : H a = some (.tup [.int i, .int j])) : kOf H (.ref a) = (i, j) := by
  show (match H a with | some (.tup [.int i, .int j]) => (i, j) | _ => (0, 0)) = (i, j)
  rw [h]
def rSortedDT : List V → Hp → VK → Prop := fun vs H Q => ∃ (d : Addr) (kvs : List (List Key × V)), vs = [V.ref d] ∧ Rd H d (.dT kvs) ∧ (∀ kv ∈ kvs, ∃ i j : Int, kv.1 = [Sum.inl i, Sum.inl j]) ∧
  ∀ (bs : List Addr) (ys : List V) (p : Addr), IsKeys H kvs bs → SrtO.Srtd (ltP (kOf H)) ys → SrtO.Stb (ltP (kOf H)) ys (bs.map V.ref) → H p = none → Q (.ref p) (upd H p (.lst ys))
section
variable {X : Cx}
theorem paired_right {α β : Type} {R : α → β → Prop} {xs : List α} {ys : List β} (h : Paired R xs ys) : ∀ y ∈ ys, ∃ x ∈ xs, R x y := by
  induction h with
  | nil => intro y hy; cases hy
  | cons h t ih =>
    intro y hy
    rcases List.mem_cons.mp hy with e | e
    · subst e
      exact ⟨_, List.mem_cons_self, h⟩
    · obtain ⟨x, hx, hr⟩ := ih y e
      exact ⟨x, List.mem_cons_of_mem _ hx, hr⟩
theorem cr_sortedDT (hc : X.calm = true) : CallR X (.builtin "sorted") rSortedDT := by
  intro pins s σ H xs us Q I r h
  obtain ⟨d, kvs, rfl, hd, hkv, q⟩ := h
  obtain ⟨u, rfl, rx⟩ := r.one
  cases rx
  obtain ⟨z, hs, ks, pr, o, es, ep, ho, hx, hdt, he, hn⟩ := (show ObjOk X.prog X.w H s.heap d (.dT kvs) from hd.ok I.hok)
  have l1 : es.size = ks.length := size_of_entries he
  have l2 : kvs.length = ks.length := Paired.length pr
  refine Calls.call_function_entry PyProof.Rows.kind_sorted PyProof.Rows.plain_sorted PyProof.Rows.entry_sorted (PyProof.Rows.args_sorted1 _) ?_
  unfold Builtin.«sorted»
  refine wpAny_bind (m := checkCount "sorted" 1 1 _) (wpAny_pure ?_)
  refine wpAny_bind (PySem.W.kdu_collect (A := X.A.in1) (kdl_raw hs hx hdt) (I.ok.hd hc) ho (by omega) fun h' tk acc' kp it => ?_)
  have ea : acc'.toList = ks.map fun x => Value.ref x.2.1 := by
    have hl : acc'.toList.length = ks.length := by rw [Array.length_toList, it.1]; exact l1
    apply List.ext_getElem?
    intro j
    rw [List.getElem?_map]
    cases hj : acc'.toList[j]? with
    | none =>
      have h1 := List.getElem?_eq_none_iff.mp hj
      rw [List.getElem?_eq_none (by omega)]
      all_goals rfl
    | some v =>
      obtain ⟨en, hen, hv⟩ := it.2 j v (by rw [← Array.getElem?_toList]; exact hj)
      have qe := entry_at he j
      rw [hen] at qe
      cases hb : ks[j]? with
      | none =>
        rw [hb] at qe
        exact nomatch (show some en = none from qe)
      | some b =>
        rw [hb] at qe
        have e2 : en = entryOfKey (tupleKind (mixKind X.prog X.w)) b := Option.some.inj qe
        rw [hv, e2]
        all_goals rfl
  have hal : acc'.toList.length ≤ sizeLine := by rw [ea, List.length_map]; omega
  have I1 : Inv X pins σ H { s with heap := h', toks := tk } := I.kept kp
  have keys := isKeys_of pr
  have hpair : ∀ v ∈ acc'.toList, ∃ t i j, v = Value.ref t ∧ H t = some (.tup [.int i, .int j]) := fun v hv => by
    rw [ea] at hv
    obtain ⟨x, hx, rfl⟩ := List.mem_map.mp hv
    obtain ⟨kv, hkm, hb⟩ := paired_right keys x.2.1 (List.mem_map.mpr ⟨x, hx, rfl⟩)
    obtain ⟨i, j, e⟩ := hkv kv hkm
    rw [e] at hb
    exact ⟨_, i, j, rfl, hb⟩
  refine wpAny_bind (wpAny_newList ?_ hal)
  have hoL : (h'.push (seqObj "list" acc'.toList.toArray 0)).get? h'.objs.size = some (seqObj "list" acc'.toList.toArray 0) := Heap.get?_push_size _ rfl
  have hp : ∀ v ∈ acc'.toList, Srt.IsPair (h'.push (seqObj "list" acc'.toList.toArray 0)) v (kOf H (backV v)).1 (kOf H (backV v)).2 := fun v hv => by
    obtain ⟨t, i, j, rfl, ht⟩ := hpair v hv
    obtain ⟨_, its2, r2, o, ho2, hc2, n2, hd2⟩ := I1.hok _ _ ht
    obtain ⟨u1, u2, rfl, ri, rj⟩ := vals2 r2
    obtain ⟨t1, rfl⟩ := ri
    obtain ⟨t2, rfl⟩ := rj
    rw [show backV (Value.ref t) = V.ref t from rfl, kOf_at ht]
    exact ⟨t, o, t1, t2, n2, rfl, Heap.get?_push_of_some _ ho2, hc2, hd2⟩
  show wpAny _ _ _ _ _ { s with heap := h'.push (seqObj "list" acc'.toList.toArray 0), toks := tk }
  refine wpAny_bind (wpAny_holding (wpAny_call_entry PyProof.Rows.slot_list_sort ⟨_, hoL, rfl⟩ PyProof.Rows.entry_list_sort
    (SrtO.list_sort_ord (s := { s with heap := h'.push (seqObj "list" acc'.toList.toArray 0), toks := tk }) (SrtO.swo_lex fun v => kOf H (backV v)) hoL hal (fun h2 => ?_) fun out hs hb => ⟨_, rfl, ?_⟩) (PyProof.Rows.args_list_sort _)))
  · refine SrtO.pairs_sortableO (s := { s with heap := h'.push (seqObj "list" acc'.toList.toArray 0), toks := tk }) (by omega) hp fun o e => ?_
    have e' : some o = some (seqObj "list" acc'.toList.toArray 0) := e.symm.trans hoL
    cases e'
    intro c
    exact absurd (Value.type.inj c) (by decide)
  · obtain ⟨e', he'⟩ := PyProof.Rows.sortedHeap_at (vs := acc'.toList) (out := out.toArray) hoL
    have hrefs : ∀ u ∈ out, ∃ a, u = Value.ref a := fun u hu => by
      obtain ⟨t, i, j, e, _⟩ := hpair u (hb.perm.mem_iff.mp hu)
      exact ⟨t, e⟩
    have hb2 : SrtO.Stb (ltP (kOf H)) (out.map backV) ((ks.map fun x => x.2.1).map V.ref) := by
      have e1 : ((ks.map fun x => x.2.1).map V.ref) = acc'.toList.map backV := by
        rw [ea, List.map_map, List.map_map]
        rfl
      rw [e1]
      exact SrtO.Stb.map (ltP_swo (kOf H)) backV hb
    have hlen : (out.map backV).length ≤ sizeLine := by
      rw [List.length_map, hb.perm.length_eq]
      exact hal
    refine wpAny_pure ⟨_, rfl, .ref h'.objs.size, upd H h'.objs.size (.lst (out.map backV)), I1.laid (t' := tk) (fun b u e => ?_) (Nat.le_refl _)
      (show ObjOk X.prog X.w _ _ _ (.lst (out.map backV)) from ⟨hlen, out, e', vals_back hrefs, by exact he'⟩), rfl, q _ _ _ keys (SrtO.srtd_map hs) hb2 (I1.hok.fresh (Nat.le_refl _))⟩
    have hbn : b < h'.objs.size := Heap.lt_size e
    rw [PyProof.Rows.sortedHeap_old (Nat.ne_of_lt hbn) (by rw [size_push']; exact Nat.lt_succ_of_lt hbn)]
    exact Heap.get?_push_of_some _ e
/-- len(o), o an instance of an own class with a __len__ -/
def rLenOwn (C : Addr) (sp : Sp) (E : XK) : List V → Hp → VK → Prop := fun vs H Q => ∃ (a dx : Addr) (fs : List (Str × V)), vs = [V.ref a] ∧ H a = some (.ins C dx fs) ∧ sp [V.ref a] H (fun v H' => ∃ n : Nat, v = .int (n : Int) ∧ n ≤ sizeLine ∧ Q (.int (n : Int)) H') E
theorem cr_lenOwn {CX : CXT} {k : Nat} {C f : Addr} {fd : FuncData} {ps : List Str} {sp : Sp} {E : XK} (hm : Meth X.K C "__len__" f) (F : FnOk X.prog X.w X.K X.mg X.base CX k f fd ps sp) (hr : Room (k + 1) X.A) (hb : Binds X.K fd ps []) (hx : Passes CX X.nox E) :
    CallR X (.builtin "len") (rLenOwn C sp E) := by
  intro pins s σ H xs us Q I r h
  obtain ⟨a, dx, fs, rfl, ea, q⟩ := h
  obtain ⟨u, rfl, rx⟩ := vals1 r
  cases rx
  obtain ⟨mA, O, _, _, _, _⟩ := ins_get I.hok ea
  obtain ⟨od, J, _⟩ := O.look
  have hl : [Value.ref a].length = ps.length := (F.len _ _ _ _ q : _)
  apply Calls.call_function_entry kind_len plain_len entry_len (args_len1 _)
  show wpAny _ _ (Builtin.«len» _) _ _ _
  unfold Builtin.«len»
  apply wpAny_bind (m := oneArg "len" _)
  apply wpAny_pure
  apply wpAny_bind (m := callSpecial? (.ref a) (Str.ofString "__len__"))
  apply PySem.W.special_fn I.kIn J hm.at_ (beq_iff_eq.mp hm.fn)
  apply wpAny_call
  refine codeAny_mono (F.run X.A.in1 X.stack s H ⟨[.ref a], []⟩ [.ref a] [V.ref a] _ E hr.in1 I.env0.in1 (hb s [.ref a] I.kIn hl) (.cons rfl .nil) q) fun r s' hq => ?_
  rcases r with e | fl
  · exact False.elim (hx pins σ H s e s' (I.wish _) hq)
  · cases fl <;> first | exact False.elim hq | skip
    rename_i u
    obtain ⟨v, H', I3, rv, n, ev, hn, q3⟩ := I.after hq
    subst ev
    obtain ⟨t, et⟩ := rv
    subst et
    have h63 : sizeLine < 2 ^ 63 := by decide
    apply wpAny_bind
    apply wpAny_holding
    apply wpAny_pure
    apply wpAny_bind
    apply wpAny_letGo
    show wpAny _ _ (if (n : Int) < 0 then _ else _) _ _ _
    rw [if_neg (by omega)]
    show wpAny _ _ (if (n : Int) ≥ 2 ^ 63 then _ else _) _ _ _
    rw [if_neg (by omega)]
    apply wpAny_bind
    apply wpAny_mkInt
    exact wpAny_pure ⟨_, rfl, .int (n : Int), H', I3.tok _, ⟨_, rfl⟩, q3⟩
/-- for x in xs, xs a list or a tuple -/
def iSeq (K : PySem.W.Frag) (ta : TE) : TI := fun σ H R => ta σ H fun x H1 => ∃ a, x = .ref a ∧ (((∃ xs, SqL K H1 a xs) ∧ R (Itl K a) H1) ∨ ((∃ xs, SqT K H1 a xs) ∧ R (Itt K a) H1))
theorem pi_seq {tg l : Expr} {tl : TE} (hl : PE X l tl) : PI X tg l (iSeq X.K tl) := by
  refine ⟨fun pins s σ H R I h => thn (hl.run pins s σ H _ I h) ?_⟩
  rintro v s1 ⟨x, H1, I1, r1, a, rfl, q | q⟩
  all_goals
    obtain ⟨⟨xs, hq⟩, q⟩ := q
    obtain rfl : v = Value.ref a := r1
    have fresh := I1.fpOk (Nat.le_refl s1.heap.objs.size) (I1.hok.fresh (Nat.le_refl _))
    have older : ∀ {u : Obj}, Inv X pins σ H1 { s1 with heap := s1.heap.push u, toks := s1.toks } := fun {u} => I1.kept (t' := s1.toks) fun b o e => Heap.get?_push_of_some _ e
  · obtain ⟨its, rv, p, hz⟩ := I1.list hq
    exact wpAny_pyIter_list p.isList ⟨_, [s1.heap.objs.size], _, _, H1, rfl, older, turn_list a _, ⟨_, Heap.get?_push_size _ rfl, rfl, rfl⟩, fun b hb => by rw [List.mem_singleton.mp hb]; exact fresh, q⟩
  · obtain ⟨its, rv, p, hz⟩ := I1.tuple hq
    exact wpAny_pyIter_tuple (show s1.heap.IsTuple a its.toArray from p) ⟨_, [s1.heap.objs.size], _, _, H1, rfl, older, turn_tuple a _, ⟨_, Heap.get?_push_size _ rfl, rfl, rfl⟩, fun b hb => by rw [List.mem_singleton.mp hb]; exact fresh, q⟩
/-- the loop's rule for both -/
def SqB (K : PySem.W.Frag) (H : Hp) (a : Addr) (xs : List V) : Prop := SqL K H a xs ∨ SqT K H a xs
end
end Own

/-! Lots of cords as plain lists. -/
namespace Own
/-- one entry: two pins and a number of cords -/
abbrev Tr := Int × Int × Int
def lo (a b : Int) : Int := if b < a then b else a
def hi (a b : Int) : Int := if b > a then b else a
theorem lo_hi (a b : Int) : (a ≤ b ∧ lo a b = a ∧ hi a b = b) ∨ (b < a ∧ lo a b = b ∧ hi a b = a) := by
  unfold lo hi
  by_cases h : b < a
  · right
    rw [if_pos h, if_neg (by omega)]
    omega
  · left
    rw [if_neg h]
    by_cases e : b > a
    · rw [if_pos e]
      omega
    · rw [if_neg e]
      omega
/-- its pins as they stand, and in order -/
def pr (t : Tr) : Int × Int := (t.1, t.2.1)
def ky (t : Tr) : Int × Int := (lo t.1 t.2.1, hi t.1 t.2.1)
def Lex (p q : Int × Int) : Prop := p.1 < q.1 ∨ (p.1 = q.1 ∧ p.2 < q.2)
/-- the cords of all entries that the test takes: by the pins as they stand, by the pins in order -/
def bs (f : Int × Int → Bool) : List Tr → Int
  | [] => 0
  | t :: r => (if f (pr t) = true then t.2.2 else 0) + bs f r
def bk (f : Int × Int → Bool) : List Tr → Int
  | [] => 0
  | t :: r => (if f (ky t) = true then t.2.2 else 0) + bk f r
def tot (p : Int × Int) (l : List Tr) : Int := bk (fun q => decide (q = p)) l
theorem bs_append (f : Int × Int → Bool) (l m : List Tr) : bs f (l ++ m) = bs f l + bs f m := by
  induction l with
  | nil => simp [bs]
  | cons t r ih =>
    rw [List.cons_append, bs, bs, ih]
    omega
theorem bk_append (f : Int × Int → Bool) (l m : List Tr) : bk f (l ++ m) = bk f l + bk f m := by
  induction l with
  | nil => simp [bk]
  | cons t r ih =>
    rw [List.cons_append, bk, bk, ih]
    omega
theorem bs_congr {f g : Int × Int → Bool} {l : List Tr} (h : ∀ t ∈ l, f (pr t) = g (pr t)) : bs f l = bs g l := by
  induction l with
  | nil => rfl
  | cons t r ih =>
    rw [bs, bs, h t List.mem_cons_self, ih fun u hu => h u (List.mem_cons_of_mem _ hu)]
/-- r is l in order: one entry for each two pins, the smaller pin first -/
structure IsNorm (l r : List Tr) : Prop where
  srt : (r.map pr).Pairwise Lex
  mem : ∀ p, p ∈ r.map pr ↔ p ∈ l.map ky
  cnt : ∀ e ∈ r, e.2.2 = tot (pr e) l
theorem lex_irr {p : Int × Int} : ¬ Lex p p := by
  unfold Lex
  omega
theorem lex_asym {p q : Int × Int} (h : Lex p q) : ¬ Lex q p := by
  unfold Lex at h ⊢
  omega
theorem sorted_uniq : ∀ {xs ys : List (Int × Int)}, xs.Pairwise Lex → ys.Pairwise Lex → (∀ p, p ∈ xs ↔ p ∈ ys) → xs = ys
  | [], [], _, _, _ => rfl
  | [], y :: ys, _, _, h => absurd ((h y).mpr List.mem_cons_self) (by simp)
  | x :: xs, [], _, _, h => absurd ((h x).mp List.mem_cons_self) (by simp)
  | x :: xs, y :: ys, hx, hy, h => by
    have hx1 := List.pairwise_cons.mp hx
    have hy1 := List.pairwise_cons.mp hy
    have e : x = y := by
      rcases List.mem_cons.mp ((h x).mp List.mem_cons_self) with e | m
      · exact e
      · rcases List.mem_cons.mp ((h y).mpr List.mem_cons_self) with e | m2
        · exact e.symm
        · exact absurd (hy1.1 x m) (lex_asym (hx1.1 y m2))
    subst e
    congr 1
    refine sorted_uniq hx1.2 hy1.2 fun p => ⟨fun m => ?_, fun m => ?_⟩
    · rcases List.mem_cons.mp ((h p).mp (List.mem_cons_of_mem _ m)) with e | m2
      · subst e
        exact absurd (hx1.1 p m) lex_irr
      · exact m2
    · rcases List.mem_cons.mp ((h p).mpr (List.mem_cons_of_mem _ m)) with e | m2
      · subst e
        exact absurd (hy1.1 p m) lex_irr
      · exact m2
theorem of_pairs {r : List Tr} {g : Int × Int → Int} (h : ∀ e ∈ r, e.2.2 = g (pr e)) : r = (r.map pr).map fun p => (p.1, p.2, g p) := by
  induction r with
  | nil => rfl
  | cons e r ih =>
    rw [List.map_cons, List.map_cons, ← ih fun u hu => h u (List.mem_cons_of_mem _ hu), ← h e List.mem_cons_self]
    rfl
theorem norm_uniq {l r s : List Tr} (h : IsNorm l r) (k : IsNorm l s) : r = s := by
  have e : r.map pr = s.map pr := sorted_uniq h.srt k.srt fun p => by rw [h.mem, k.mem]
  exact (of_pairs (g := fun p => tot p l) h.cnt).trans ((congrArg (List.map _) e).trans (of_pairs (g := fun p => tot p l) k.cnt).symm)
/-- the sum over a list of pairs, by their numbers in l -/
def ps (f : Int × Int → Bool) (l : List Tr) : List (Int × Int) → Int
  | [] => 0
  | p :: r => (if f p = true then tot p l else 0) + ps f l r
theorem ps_nil (f : Int × Int → Bool) (P : List (Int × Int)) : ps f [] P = 0 := by
  induction P with
  | nil => rfl
  | cons p r ih =>
    rw [ps, ih]
    show (if f p = true then (0 : Int) else 0) + 0 = 0
    split <;> rfl
theorem tot_cons (p : Int × Int) (t : Tr) (l : List Tr) : tot p (t :: l) = (if ky t = p then t.2.2 else 0) + tot p l := by
  unfold tot
  rw [bk]
  by_cases h : ky t = p <;> simp [h]
theorem ps_out (f : Int × Int → Bool) (t : Tr) (l : List Tr) {P : List (Int × Int)} (h : ky t ∉ P) : ps f (t :: l) P = ps f l P := by
  induction P with
  | nil => rfl
  | cons p r ih =>
    have hne : ¬ ky t = p := fun z => h (by rw [z]; exact List.mem_cons_self)
    have ht : tot p (t :: l) = tot p l := by
      rw [tot_cons, if_neg hne]
      omega
    rw [ps, ps, ih fun z => h (List.mem_cons_of_mem _ z), ht]
theorem ps_in (f : Int × Int → Bool) (t : Tr) (l : List Tr) {P : List (Int × Int)} (hn : P.Nodup) (h : ky t ∈ P) : ps f (t :: l) P = (if f (ky t) = true then t.2.2 else 0) + ps f l P := by
  induction P with
  | nil => cases h
  | cons p r ih =>
    have hc := List.nodup_cons.mp hn
    by_cases e : ky t = p
    · subst e
      rw [ps, ps, tot_cons, if_pos rfl, ps_out f t l hc.1]
      split <;> omega
    · have hr : ky t ∈ r := (List.mem_cons.mp h).resolve_left e
      rw [ps, ps, tot_cons, if_neg e, ih hc.2 hr]
      split <;> split <;> omega
theorem ps_all (f : Int × Int → Bool) {P : List (Int × Int)} (hn : P.Nodup) : ∀ {l : List Tr}, (∀ t ∈ l, ky t ∈ P) → ps f l P = bk f l
  | [], _ => ps_nil f P
  | t :: l, h => by
    rw [ps_in f t l hn (h t List.mem_cons_self), ps_all f hn fun u hu => h u (List.mem_cons_of_mem _ hu)]
    rfl
theorem srt_nodup {xs : List (Int × Int)} (h : xs.Pairwise Lex) : xs.Nodup := by
  refine List.Pairwise.imp ?_ h
  intro a b hab e
  subst e
  exact lex_irr hab
theorem bs_ps (f : Int × Int → Bool) {l r : List Tr} (h : ∀ e ∈ r, e.2.2 = tot (pr e) l) : bs f r = ps f l (r.map pr) := by
  induction r with
  | nil => rfl
  | cons e r ih =>
    rw [bs, List.map_cons, ps, ih fun u hu => h u (List.mem_cons_of_mem _ hu), h e List.mem_cons_self]
theorem bs_norm (f : Int × Int → Bool) {l r : List Tr} (h : IsNorm l r) : bs f r = bk f l := by
  rw [bs_ps f h.cnt, ps_all f (srt_nodup h.srt) fun t ht => (h.mem _).mpr (List.mem_map.mpr ⟨t, ht, rfl⟩)]
/-- an entry that may stand in a lot -/
def Vld (n : Int) (t : Tr) : Prop := 0 ≤ t.1 ∧ t.1 < n ∧ 0 ≤ t.2.1 ∧ t.2.1 < n ∧ t.1 ≠ t.2.1 ∧ 1 ≤ t.2.2
/-- a lot in order on n pins -/
structure Good (n : Int) (r : List Tr) : Prop where
  srt : (r.map pr).Pairwise Lex
  ord : ∀ e ∈ r, 0 ≤ e.1 ∧ e.1 < e.2.1 ∧ e.2.1 < n ∧ 1 ≤ e.2.2
theorem ky_ord {e : Tr} (h : e.1 < e.2.1) : ky e = pr e := by
  have := lo_hi e.1 e.2.1
  unfold ky pr
  rw [Prod.mk.injEq]
  omega
theorem Good.vld {n : Int} {r : List Tr} (g : Good n r) : ∀ e ∈ r, Vld n e := fun e h => by
  have := g.ord e h
  unfold Vld
  omega
theorem bk_bs (f : Int × Int → Bool) {r : List Tr} (h : ∀ e ∈ r, e.1 < e.2.1) : bk f r = bs f r := by
  induction r with
  | nil => rfl
  | cons e r ih => rw [bk, bs, ky_ord (h e List.mem_cons_self), ih fun u hu => h u (List.mem_cons_of_mem _ hu)]
theorem bs_none {f : Int × Int → Bool} {r : List Tr} (h : ∀ e ∈ r, f (pr e) = false) : bs f r = 0 := by
  induction r with
  | nil => rfl
  | cons e r ih =>
    rw [bs, h e List.mem_cons_self, ih fun u hu => h u (List.mem_cons_of_mem _ hu)]
    rfl
theorem self_cnt {r : List Tr} (h : (r.map pr).Nodup) : ∀ e ∈ r, e.2.2 = bs (fun q => decide (q = pr e)) r := by
  induction r with
  | nil => intro e he; cases he
  | cons t r ih =>
    have hc := List.nodup_cons.mp h
    intro e he
    rw [bs]
    rcases List.mem_cons.mp he with rfl | hr
    · rw [bs_none fun u hu => decide_eq_false fun z => hc.1 (by rw [← z]; exact List.mem_map.mpr ⟨u, hu, rfl⟩)]
      simp
    · have hne : ¬ pr t = pr e := fun z => hc.1 (by rw [z]; exact List.mem_map.mpr ⟨e, hr, rfl⟩)
      rw [← ih hc.2 e hr]
      simp [hne]
theorem Good.self {n : Int} {r : List Tr} (g : Good n r) : IsNorm r r := by
  have ho : ∀ e ∈ r, e.1 < e.2.1 := fun e h => (g.ord e h).2.1
  have hm : r.map ky = r.map pr := List.map_congr_left fun e h => ky_ord (ho e h)
  refine ⟨g.srt, fun p => by rw [hm], fun e h => ?_⟩
  unfold tot
  rw [bk_bs _ ho]
  exact self_cnt (srt_nodup g.srt) e h
theorem bk_pos {l : List Tr} (h : ∀ t ∈ l, 1 ≤ t.2.2) {p : Int × Int} (m : p ∈ l.map ky) : 1 ≤ tot p l := by
  have nn : ∀ {m : List Tr}, (∀ t ∈ m, 1 ≤ t.2.2) → 0 ≤ tot p m := by
    intro m hm
    induction m with
    | nil => exact Int.le_refl 0
    | cons t r ih =>
      have h1 := hm t List.mem_cons_self
      have h2 := ih fun u hu => hm u (List.mem_cons_of_mem _ hu)
      rw [tot_cons]
      split <;> omega
  induction l with
  | nil => cases m
  | cons t r ih =>
    have h1 := h t List.mem_cons_self
    have h2 := nn fun u hu => h u (List.mem_cons_of_mem _ hu)
    rw [tot_cons]
    rcases List.mem_cons.mp m with e | hr
    · rw [if_pos e.symm]
      omega
    · have h3 := ih (fun u hu => h u (List.mem_cons_of_mem _ hu)) hr
      split <;> omega
theorem IsNorm.good {n : Int} {l r : List Tr} (h : IsNorm l r) (v : ∀ t ∈ l, Vld n t) : Good n r := by
  refine ⟨h.srt, fun e he => ?_⟩
  have hm : pr e ∈ l.map ky := (h.mem _).mp (List.mem_map.mpr ⟨e, he, rfl⟩)
  have hp := bk_pos (fun t ht => (v t ht).2.2.2.2.2) hm
  rw [← h.cnt e he] at hp
  obtain ⟨t, ht, e1⟩ := List.mem_map.mp hm
  have hv := v t ht
  unfold Vld at hv
  have h1 := lo_hi t.1 t.2.1
  unfold ky pr at e1
  rw [Prod.mk.injEq] at e1
  omega
/-! ### renamed pins -/
def mp (g : Int → Int) (l : List Tr) : List Tr := l.map fun t => (g t.1, g t.2.1, t.2.2)
theorem bk_mp (g : Int → Int) (f : Int × Int → Bool) (l : List Tr) : bk f (mp g l) = bk (fun q => f (lo (g q.1) (g q.2), hi (g q.1) (g q.2))) l := by
  induction l with
  | nil => rfl
  | cons t r ih =>
    show (if f (ky (g t.1, g t.2.1, t.2.2)) = true then t.2.2 else 0) + bk f (mp g r) = _
    rw [ih, bk]
    have e : ky (g t.1, g t.2.1, t.2.2) = (lo (g (ky t).1) (g (ky t).2), hi (g (ky t).1) (g (ky t).2)) := by
      unfold ky
      dsimp only
      rcases lo_hi t.1 t.2.1 with h | h
      · rw [h.2.1, h.2.2]
      · rw [h.2.1, h.2.2]
        have a := lo_hi (g t.1) (g t.2.1)
        have b := lo_hi (g t.2.1) (g t.1)
        rw [Prod.mk.injEq]
        omega
    rw [e]
theorem mem_mp (g : Int → Int) {l r : List Tr} (h : ∀ p, p ∈ l.map ky ↔ p ∈ r.map ky) (p : Int × Int) : p ∈ (mp g l).map ky → p ∈ (mp g r).map ky := by
  have e : ∀ t : Tr, ky (g t.1, g t.2.1, t.2.2) = (lo (g (ky t).1) (g (ky t).2), hi (g (ky t).1) (g (ky t).2)) := fun t => by
    unfold ky
    dsimp only
    rcases lo_hi t.1 t.2.1 with h | h
    · rw [h.2.1, h.2.2]
    · rw [h.2.1, h.2.2]
      have a := lo_hi (g t.1) (g t.2.1)
      have b := lo_hi (g t.2.1) (g t.1)
      rw [Prod.mk.injEq]
      omega
  intro m
  obtain ⟨u, hu, e1⟩ := List.mem_map.mp m
  obtain ⟨t, ht, rfl⟩ := List.mem_map.mp hu
  obtain ⟨s, hs, e2⟩ := List.mem_map.mp ((h _).mp (List.mem_map.mpr ⟨t, ht, rfl⟩))
  refine List.mem_map.mpr ⟨_, List.mem_map.mpr ⟨s, hs, rfl⟩, ?_⟩
  rw [← e1, e, e, e2]
theorem norm_keys {n : Int} {l r : List Tr} (h : IsNorm l r) (g : Good n r) (p : Int × Int) : p ∈ l.map ky ↔ p ∈ r.map ky := by
  rw [← h.mem, List.map_congr_left fun e he => ky_ord (g.ord e he).2.1]
theorem norm_tot {n : Int} {l r : List Tr} (h : IsNorm l r) (g : Good n r) (f : Int × Int → Bool) : bk f r = bk f l := by
  rw [bk_bs f fun e he => (g.ord e he).2.1, bs_norm f h]
/-- renaming behind the ordering is renaming ahead of it -/
theorem norm_mp {n : Int} {l r x : List Tr} (h : IsNorm l r) (g : Good n r) (σ : Int → Int) (k : IsNorm (mp σ r) x) : IsNorm (mp σ l) x := by
  refine ⟨k.srt, fun p => (k.mem p).trans ⟨mem_mp σ (fun q => (norm_keys h g q).symm) p, mem_mp σ (norm_keys h g) p⟩, fun e he => ?_⟩
  rw [k.cnt e he]
  unfold tot
  rw [bk_mp, bk_mp, norm_tot h g]
theorem mp_mp (σ τ : Int → Int) (l : List Tr) : mp τ (mp σ l) = mp (fun x => τ (σ x)) l := by
  unfold mp
  rw [List.map_map]
  rfl
theorem mp_congr {σ τ : Int → Int} {n : Int} {l : List Tr} (v : ∀ t ∈ l, Vld n t) (h : ∀ x, 0 ≤ x → x < n → σ x = τ x) : mp σ l = mp τ l := by
  refine List.map_congr_left fun t ht => ?_
  have := v t ht
  unfold Vld at this
  rw [h t.1 (by omega) (by omega), h t.2.1 (by omega) (by omega)]
theorem mp_id {σ : Int → Int} {n : Int} {l : List Tr} (v : ∀ t ∈ l, Vld n t) (h : ∀ x, 0 ≤ x → x < n → σ x = x) : mp σ l = l := by
  rw [mp_congr (τ := fun x => x) v h]
  unfold mp
  exact List.map_id' l
theorem mp_vld {σ : Int → Int} {n : Int} {l : List Tr} (v : ∀ t ∈ l, Vld n t) (h : ∀ x, 0 ≤ x → x < n → 0 ≤ σ x ∧ σ x < n) (inj : ∀ x y, 0 ≤ x → x < n → 0 ≤ y → y < n → σ x = σ y → x = y) : ∀ t ∈ mp σ l, Vld n t := fun u hu => by
  obtain ⟨t, ht, rfl⟩ := List.mem_map.mp hu
  have hv := v t ht
  unfold Vld at hv ⊢
  have h1 := h t.1 (by omega) (by omega)
  have h2 := h t.2.1 (by omega) (by omega)
  have h3 := inj t.1 t.2.1 (by omega) (by omega) (by omega) (by omega)
  dsimp only
  refine ⟨h1.1, h1.2, h2.1, h2.2, fun z => hv.2.2.2.2.1 (h3 z), hv.2.2.2.2.2⟩
end Own

namespace Own
open PySem PySem.Spec PyProof.Rows L2
/-! ### the text by places -/
def top (i : Nat) : Stmt := PySem.Challenge.pw_rimcords_k61_pairings_whole.main.body.getD i (.Pass ⟨0, 0, 0, 0⟩)
abbrev s__wall : Stmt := top 0
theorem sc__wall : FnScope ["k"] ["k"] (defScope s__wall) := ⟨rfl, rfl, rfl, by decide +kernel, rfl, by decide +kernel, by decide +kernel⟩
abbrev s_gaps : Stmt := top 16
theorem sc_gaps : FnScope ["pins"] ["pins"] (defScope s_gaps) := ⟨rfl, rfl, rfl, by decide +kernel, rfl, by decide +kernel, by decide +kernel⟩
abbrev s_crosses : Stmt := top 17
theorem sc_crosses : FnScope ["a", "b", "c", "d", "low", "high"] ["a", "b", "c", "d"] (defScope s_crosses) := ⟨rfl, rfl, rfl, by decide +kernel, rfl, by decide +kernel, by decide +kernel⟩
abbrev s_is_whole : Stmt := top 19
theorem sc_is_whole : FnScope ["value"] ["value"] (defScope s_is_whole) := ⟨rfl, rfl, rfl, by decide +kernel, rfl, by decide +kernel, by decide +kernel⟩
abbrev s_is_sequence : Stmt := top 20
theorem sc_is_sequence : FnScope ["value"] ["value"] (defScope s_is_sequence) := ⟨rfl, rfl, rfl, by decide +kernel, rfl, by decide +kernel, by decide +kernel⟩
abbrev s_is_below : Stmt := top 21
theorem sc_is_below : FnScope ["value", "bound"] ["value", "bound"] (defScope s_is_below) := ⟨rfl, rfl, rfl, by decide +kernel, rfl, by decide +kernel, by decide +kernel⟩
abbrev s_check_pins : Stmt := top 22
theorem sc_check_pins : FnScope ["pins"] ["pins"] (defScope s_check_pins) := ⟨rfl, rfl, rfl, by decide +kernel, rfl, by decide +kernel, by decide +kernel⟩
abbrev s_check_pin : Stmt := top 23
theorem sc_check_pin : FnScope ["pins", "pin"] ["pins", "pin"] (defScope s_check_pin) := ⟨rfl, rfl, rfl, by decide +kernel, rfl, by decide +kernel, by decide +kernel⟩
abbrev s_check_gap : Stmt := top 24
theorem sc_check_gap : FnScope ["pins", "gap"] ["pins", "gap"] (defScope s_check_gap) := ⟨rfl, rfl, rfl, by decide +kernel, rfl, by decide +kernel, by decide +kernel⟩
abbrev s_check_like : Stmt := top 25
theorem sc_check_like : FnScope ["one", "other"] ["one", "other"] (defScope s_check_like) := ⟨rfl, rfl, rfl, by decide +kernel, rfl, by decide +kernel, by decide +kernel⟩
abbrev s_check_number : Stmt := top 26
theorem sc_check_number : FnScope ["number", "least"] ["number", "least"] (defScope s_check_number) := ⟨rfl, rfl, rfl, by decide +kernel, rfl, by decide +kernel, by decide +kernel⟩
abbrev s_next_pin : Stmt := top 27
theorem sc_next_pin : FnScope ["pins", "gap"] ["pins", "gap"] (defScope s_next_pin) := ⟨rfl, rfl, rfl, by decide +kernel, rfl, by decide +kernel, by decide +kernel⟩
abbrev s_is_entry : Stmt := top 29
theorem sc_is_entry : FnScope ["pins", "entry", "a", "b", "many"] ["pins", "entry"] (defScope s_is_entry) := ⟨rfl, rfl, rfl, by decide +kernel, rfl, by decide +kernel, by decide +kernel⟩
abbrev s_gathered : Stmt := top 30
theorem sc_gathered : FnScope ["pins", "entries", "held", "entry", "pair", "a", "b", "many"] ["pins", "entries"] (defScope s_gathered) := ⟨rfl, rfl, rfl, by decide +kernel, rfl, by decide +kernel, by decide +kernel⟩
abbrev s_by_pair : Stmt := top 31
theorem sc_by_pair : FnScope ["cords", "a", "b", "many"] ["cords"] (defScope s_by_pair) := ⟨rfl, rfl, rfl, by decide +kernel, rfl, by decide +kernel, by decide +kernel⟩
abbrev s_entries_of : Stmt := top 32
theorem sc_entries_of : FnScope ["held", "a", "b"] ["held"] (defScope s_entries_of) := ⟨rfl, rfl, rfl, by decide +kernel, rfl, by decide +kernel, by decide +kernel⟩
abbrev s_ends_at_pins : Stmt := top 33
theorem sc_ends_at_pins : FnScope ["pins", "cords", "ends", "a", "b", "many"] ["pins", "cords"] (defScope s_ends_at_pins) := ⟨rfl, rfl, rfl, by decide +kernel, rfl, by decide +kernel, by decide +kernel⟩
abbrev s_cord_grid : Stmt := top 34
theorem sc_cord_grid : FnScope ["pins", "cords", "rows", "a", "b", "many", "_"] ["pins", "cords"] (defScope s_cord_grid) := ⟨rfl, rfl, rfl, by decide +kernel, rfl, by decide +kernel, by decide +kernel⟩
abbrev s_sums_before : Stmt := top 35
theorem sc_sums_before : FnScope ["row", "sums", "total", "number"] ["row"] (defScope s_sums_before) := ⟨rfl, rfl, rfl, by decide +kernel, rfl, by decide +kernel, by decide +kernel⟩
abbrev s_table_rows : Stmt := top 36
theorem sc_table_rows : FnScope ["pins", "cords", "sums", "size", "rows", "i", "across", "j", "row", "_"] ["pins", "cords"] (defScope s_table_rows) := ⟨rfl, rfl, rfl, by decide +kernel, rfl, by decide +kernel, by decide +kernel⟩
abbrev s_twice_between : Stmt := top 37
theorem sc_twice_between : FnScope ["pins", "table", "a", "b", "before_a", "before_b"] ["pins", "table", "a", "b"] (defScope s_twice_between) := ⟨rfl, rfl, rfl, by decide +kernel, rfl, by decide +kernel, by decide +kernel⟩
abbrev s_cords_of_table : Stmt := top 38
theorem sc_cords_of_table : FnScope ["pins", "table", "entries", "a", "b", "entry"] ["pins", "table"] (defScope s_cords_of_table) := ⟨rfl, rfl, rfl, by decide +kernel, rfl, by decide +kernel, by decide +kernel⟩
abbrev s_first_bar : Stmt := top 39
theorem sc_first_bar : FnScope ["pins", "held", "wished", "i", "j"] ["pins", "held", "wished"] (defScope s_first_bar) := ⟨rfl, rfl, rfl, by decide +kernel, rfl, by decide +kernel, by decide +kernel⟩
abbrev s_odd_pins : Stmt := top 40
theorem sc_odd_pins : FnScope ["ends", "wished", "pin", "many"] ["ends", "wished"] (defScope s_odd_pins) := ⟨rfl, rfl, rfl, by decide +kernel, rfl, by decide +kernel, by decide +kernel⟩
abbrev s_Lot_init : Stmt := inClass (top 42) 0
theorem sc_Lot_init : FnScope ["self", "pins", "cords"] ["self", "pins", "cords"] (defScope s_Lot_init) := ⟨rfl, rfl, rfl, by decide +kernel, rfl, by decide +kernel, by decide +kernel⟩
abbrev s_Lot_ends : Stmt := inClass (top 42) 3
theorem sc_Lot_ends : FnScope ["self", "pin"] ["self", "pin"] (defScope s_Lot_ends) := ⟨rfl, rfl, rfl, by decide +kernel, rfl, by decide +kernel, by decide +kernel⟩
abbrev s_Lot_eq : Stmt := inClass (top 42) 7
theorem sc_Lot_eq : FnScope ["self", "other"] ["self", "other"] (defScope s_Lot_eq) := ⟨rfl, rfl, rfl, by decide +kernel, rfl, by decide +kernel, by decide +kernel⟩
abbrev s_Lot_merged : Stmt := inClass (top 42) 16
theorem sc_Lot_merged : FnScope ["self", "gap", "behind", "low", "high", "names"] ["self", "gap"] (defScope s_Lot_merged) := ⟨rfl, rfl, rfl, by decide +kernel, rfl, by decide +kernel, by decide +kernel⟩
abbrev s_Lot_dropped : Stmt := inClass (top 42) 17
theorem sc_Lot_dropped : FnScope ["self", "pin", "pins"] ["self", "pin"] (defScope s_Lot_dropped) := ⟨rfl, rfl, rfl, by decide +kernel, rfl, by decide +kernel, by decide +kernel⟩
abbrev s_renamed : Stmt := top 43
theorem sc_renamed : FnScope ["cords", "names", "a", "b", "many"] ["cords", "names"] (defScope s_renamed) := ⟨rfl, rfl, rfl, by decide +kernel, rfl, by decide +kernel, by decide +kernel⟩
abbrev s_table_without : Stmt := top 44
theorem sc_table_without : FnScope ["pins", "table", "pin", "left", "rows", "joined", "row", "pair", "gap"] ["pins", "table", "pin"] (defScope s_table_without) := ⟨rfl, rfl, rfl, by decide +kernel, rfl, by decide +kernel, by decide +kernel⟩
abbrev s_row_without : Stmt := top 45
theorem sc_row_without : FnScope ["row", "table", "left", "right", "to_left", "to_right", "least", "joined", "number", "before", "behind", "gap"] ["row", "table", "left", "right"] (defScope s_row_without) := ⟨rfl, rfl, rfl, by decide +kernel, rfl, by decide +kernel, by decide +kernel⟩
abbrev s_pairing_of : Stmt := top 47
theorem sc_pairing_of : FnScope ["top", "lanes", "letters", "mates", "many", "left", "word", "lane"] ["top", "lanes", "letters"] (defScope s_pairing_of) := ⟨rfl, rfl, rfl, by decide +kernel, rfl, by decide +kernel, by decide +kernel⟩
abbrev s_lot_of_mates : Stmt := top 48
theorem sc_lot_of_mates : FnScope ["mates", "pin", "mate"] ["mates"] (defScope s_lot_of_mates) := ⟨rfl, rfl, rfl, by decide +kernel, rfl, by decide +kernel, by decide +kernel⟩
abbrev s_mates_of_lot : Stmt := top 49
theorem sc_mates_of_lot : FnScope ["lot", "mates", "a", "b", "_"] ["lot"] (defScope s_mates_of_lot) := ⟨rfl, rfl, rfl, by decide +kernel, rfl, by decide +kernel, by decide +kernel⟩
abbrev s_mates_crossed : Stmt := top 50
theorem sc_mates_crossed : FnScope ["mates", "left", "right", "one", "other", "changed"] ["mates", "left"] (defScope s_mates_crossed) := ⟨rfl, rfl, rfl, by decide +kernel, rfl, by decide +kernel, by decide +kernel⟩
abbrev s_mates_begun : Stmt := top 51
theorem sc_mates_begun : FnScope ["mates", "first", "moved", "mate"] ["mates", "first"] (defScope s_mates_begun) := ⟨rfl, rfl, rfl, by decide +kernel, rfl, by decide +kernel, by decide +kernel⟩
abbrev s_mates_joined : Stmt := top 52
theorem sc_mates_joined : FnScope ["mates", "right"] ["mates", "right"] (defScope s_mates_joined) := ⟨rfl, rfl, rfl, by decide +kernel, rfl, by decide +kernel, by decide +kernel⟩
abbrev s_Row_init : Stmt := inClass (top 56) 0
theorem sc_Row_init : FnScope ["self", "top", "letters", "letter"] ["self", "top", "letters"] (defScope s_Row_init) := ⟨rfl, rfl, rfl, by decide +kernel, rfl, by decide +kernel, by decide +kernel⟩
abbrev s_Row_bottom : Stmt := inClass (top 56) 2
theorem sc_Row_bottom : FnScope ["self"] ["self"] (defScope s_Row_bottom) := ⟨rfl, rfl, rfl, by decide +kernel, rfl, by decide +kernel, by decide +kernel⟩
abbrev s_Row_pairing : Stmt := inClass (top 56) 3
theorem sc_Row_pairing : FnScope ["self"] ["self"] (defScope s_Row_pairing) := ⟨rfl, rfl, rfl, by decide +kernel, rfl, by decide +kernel, by decide +kernel⟩
abbrev s_Row_rshift : Stmt := inClass (top 56) 6
theorem sc_Row_rshift : FnScope ["self", "other"] ["self", "other"] (defScope s_Row_rshift) := ⟨rfl, rfl, rfl, by decide +kernel, rfl, by decide +kernel, by decide +kernel⟩
abbrev s_Row_flipped : Stmt := inClass (top 56) 9
theorem sc_Row_flipped : FnScope ["self", "word", "lane"] ["self"] (defScope s_Row_flipped) := ⟨rfl, rfl, rfl, by decide +kernel, rfl, by decide +kernel, by decide +kernel⟩
abbrev s_lanes_along : Stmt := top 57
theorem sc_lanes_along : FnScope ["top", "letters", "lanes", "place", "letter"] ["top", "letters"] (defScope s_lanes_along) := ⟨rfl, rfl, rfl, by decide +kernel, rfl, by decide +kernel, by decide +kernel⟩
abbrev s_is_letter : Stmt := top 58
theorem sc_is_letter : FnScope ["letter", "lanes"] ["letter", "lanes"] (defScope s_is_letter) := ⟨rfl, rfl, rfl, by decide +kernel, rfl, by decide +kernel, by decide +kernel⟩
abbrev s_check_lanes : Stmt := top 59
theorem sc_check_lanes : FnScope ["one", "other"] ["one", "other"] (defScope s_check_lanes) := ⟨rfl, rfl, rfl, by decide +kernel, rfl, by decide +kernel, by decide +kernel⟩
abbrev s__law_whole : Stmt := top 61
theorem sc__law_whole : FnScope ["_law_value"] ["_law_value"] (defScope s__law_whole) := ⟨rfl, rfl, rfl, by decide +kernel, rfl, by decide +kernel, by decide +kernel⟩
abbrev s__law_cell : Stmt := top 62
theorem sc__law_cell : FnScope ["_law_script", "_law_k", "_law_seed", "_law_cell_here"] ["_law_script", "_law_k"] (defScope s__law_cell) := ⟨rfl, rfl, rfl, by decide +kernel, rfl, by decide +kernel, by decide +kernel⟩
abbrev s__law_digits : Stmt := top 63
theorem sc__law_digits : FnScope ["_law_cell_here", "_law_sizes", "_law_row", "_law_rest", "_law_seed", "_law_k", "_law_size", "_law_twice"] ["_law_cell_here", "_law_sizes"] (defScope s__law_digits) := ⟨rfl, rfl, rfl, by decide +kernel, rfl, by decide +kernel, by decide +kernel⟩
abbrev s__law_gaps : Stmt := top 64
theorem sc__law_gaps : FnScope ["_law_pins"] ["_law_pins"] (defScope s__law_gaps) := ⟨rfl, rfl, rfl, by decide +kernel, rfl, by decide +kernel, by decide +kernel⟩
abbrev s__law_cross : Stmt := top 65
theorem sc__law_cross : FnScope ["_law_a", "_law_b", "_law_c", "_law_d"] ["_law_a", "_law_b", "_law_c", "_law_d"] (defScope s__law_cross) := ⟨rfl, rfl, rfl, by decide +kernel, rfl, by decide +kernel, by decide +kernel⟩
abbrev s__law_norm : Stmt := top 66
theorem sc__law_norm : FnScope ["_law_triples", "_law_pairs", "_law_entry", "_law_row", "_law_pair", "_law_low", "_law_high", "_law_many"] ["_law_triples"] (defScope s__law_norm) := ⟨rfl, rfl, rfl, by decide +kernel, rfl, by decide +kernel, by decide +kernel⟩
abbrev s__law_sides_table : Stmt := top 67
theorem sc__law_sides_table : FnScope ["_law_pins", "_law_bunch", "_law_size", "_law_rows", "_law_i", "_law_near", "_law_j", "_law_c"] ["_law_pins", "_law_bunch"] (defScope s__law_sides_table) := ⟨rfl, rfl, rfl, by decide +kernel, rfl, by decide +kernel, by decide +kernel⟩
abbrev s__law_doubles : Stmt := top 68
theorem sc__law_doubles : FnScope ["_law_pins", "_law_table", "_law_row", "_law_a", "_law_b", "_law_before", "_law_twice"] ["_law_pins", "_law_table"] (defScope s__law_doubles) := ⟨rfl, rfl, rfl, by decide +kernel, rfl, by decide +kernel, by decide +kernel⟩
abbrev s__law_cords : Stmt := top 69
theorem sc__law_cords : FnScope ["_law_pins", "_law_table", "_law_row", "_law_entry"] ["_law_pins", "_law_table"] (defScope s__law_cords) := ⟨rfl, rfl, rfl, by decide +kernel, rfl, by decide +kernel, by decide +kernel⟩
abbrev s__law_dropped_table : Stmt := top 70
theorem sc__law_dropped_table : FnScope ["_law_pins", "_law_table", "_law_pin", "_law_left", "_law_kept", "_law_rows", "_law_i", "_law_row", "_law_j", "_law_k", "_law_ways"] ["_law_pins", "_law_table", "_law_pin"] (defScope s__law_dropped_table) := ⟨rfl, rfl, rfl, by decide +kernel, rfl, by decide +kernel, by decide +kernel⟩
abbrev s__law_letters : Stmt := top 71
theorem sc__law_letters : FnScope ["_law_row", "_law_top", "_law_upto", "_law_letters_here", "_law_lanes", "_law_k", "_law_word"] ["_law_row", "_law_top", "_law_upto"] (defScope s__law_letters) := ⟨rfl, rfl, rfl, by decide +kernel, rfl, by decide +kernel, by decide +kernel⟩
abbrev s__law_given : Stmt := top 72
theorem sc__law_given : FnScope ["_law_letters_here", "_law_form", "_law_rows", "_law_letter"] ["_law_letters_here", "_law_form"] (defScope s__law_given) := ⟨rfl, rfl, rfl, by decide +kernel, rfl, by decide +kernel, by decide +kernel⟩
abbrev s__law_is_lot : Stmt := top 73
theorem sc__law_is_lot : FnScope ["_law_told", "_law_pins", "_law_bunch", "_law_k", "_law_entry", "_law_part"] ["_law_told", "_law_pins", "_law_bunch"] (defScope s__law_is_lot) := ⟨rfl, rfl, rfl, by decide +kernel, rfl, by decide +kernel, by decide +kernel⟩
abbrev s__law_straight_table : Stmt := top 74
theorem sc__law_straight_table : FnScope ["_law_top", "_law_spots", "_law_k", "_law_a", "_law_b"] ["_law_top"] (defScope s__law_straight_table) := ⟨rfl, rfl, rfl, by decide +kernel, rfl, by decide +kernel, by decide +kernel⟩
abbrev s__law_table_letter : Stmt := top 75
theorem sc__law_table_letter : FnScope ["_law_pins", "_law_table", "_law_letter", "_law_lane", "_law_size", "_law_left", "_law_mid", "_law_right", "_law_kept", "_law_rows", "_law_i", "_law_source", "_law_new", "_law_k", "_law_row", "_law_j"] ["_law_pins", "_law_table", "_law_letter"] (defScope s__law_table_letter) := ⟨rfl, rfl, rfl, by decide +kernel, rfl, by decide +kernel, by decide +kernel⟩
abbrev s__law_joined_partners : Stmt := top 76
theorem sc__law_joined_partners : FnScope ["_law_partners", "_law_low", "_law_pins", "_law_one", "_law_other", "_law_row", "_law_rest", "_law_bunch", "_law_both", "_law_merged", "_law_table", "_law_back", "_law_c", "_law_p"] ["_law_partners", "_law_low"] (defScope s__law_joined_partners) := ⟨rfl, rfl, rfl, by decide +kernel, rfl, by decide +kernel, by decide +kernel⟩
abbrev s__law_partners_letter : Stmt := top 77
theorem sc__law_partners_letter : FnScope ["_law_partners", "_law_letter", "_law_pins", "_law_low", "_law_one", "_law_other", "_law_row", "_law_new", "_law_p"] ["_law_partners", "_law_letter"] (defScope s__law_partners_letter) := ⟨rfl, rfl, rfl, by decide +kernel, rfl, by decide +kernel, by decide +kernel⟩
abbrev s__law_of_partners : Stmt := top 78
theorem sc__law_of_partners : FnScope ["_law_partners", "_law_p"] ["_law_partners"] (defScope s__law_of_partners) := ⟨rfl, rfl, rfl, by decide +kernel, rfl, by decide +kernel, by decide +kernel⟩
abbrev s__law_bent : Stmt := top 79
theorem sc__law_bent : FnScope ["_law_top", "_law_letters_here", "_law_bend", "_law_k", "_law_letter"] ["_law_top", "_law_letters_here", "_law_bend"] (defScope s__law_bent) := ⟨rfl, rfl, rfl, by decide +kernel, rfl, by decide +kernel, by decide +kernel⟩
abbrev s__law_bottom : Stmt := top 80
theorem sc__law_bottom : FnScope ["_law_top", "_law_letters_here", "_law_lanes", "_law_letter"] ["_law_top", "_law_letters_here"] (defScope s__law_bottom) := ⟨rfl, rfl, rfl, by decide +kernel, rfl, by decide +kernel, by decide +kernel⟩
abbrev s__law_by_rules : Stmt := top 81
theorem sc__law_by_rules : FnScope ["_law_top", "_law_letters_here", "_law_partners", "_law_found", "_law_letter", "_law_pin"] ["_law_top", "_law_letters_here"] (defScope s__law_by_rules) := ⟨rfl, rfl, rfl, by decide +kernel, rfl, by decide +kernel, by decide +kernel⟩
abbrev s__law_by_tables : Stmt := top 82
theorem sc__law_by_tables : FnScope ["_law_top", "_law_letters_here", "_law_pins", "_law_table", "_law_found", "_law_letter"] ["_law_top", "_law_letters_here"] (defScope s__law_by_tables) := ⟨rfl, rfl, rfl, by decide +kernel, rfl, by decide +kernel, by decide +kernel⟩
abbrev s__law_due : Stmt := top 83
theorem sc__law_due : FnScope ["_law_told", "_law_ruled", "_law_costed"] ["_law_told", "_law_ruled", "_law_costed"] (defScope s__law_due) := ⟨rfl, rfl, rfl, by decide +kernel, rfl, by decide +kernel, by decide +kernel⟩
abbrev s_law : Stmt := top 84
theorem sc_law : FnScope ["_law_script", "_law_size", "_law_top", "_law_many", "_law_upto", "_law_letters_here", "_law_ruled", "_law_costed", "_law_given_here", "_law_kept", "_law_row", "_law_told", "_law_place", "_law_front", "_law_pins", "_law_whole_here", "_law_over", "_law_model", "_law_letter", "_law_c"] ["_law_script"] (defScope s_law) := ⟨rfl, rfl, rfl, by decide +kernel, rfl, by decide +kernel, by decide +kernel⟩
end Own

/-! The end of a law by one run of the top: what is looked at behind it. -/
namespace Hx
open PySem PySem.Spec PyProof.Rows L2
abbrev Fg := PySem.W.Frag
/-! ### functions -/
abbrev Parts : Type := Option (Str × Str × Arguments × FuncBody × Scope × Addr × Addr)
def dataOf (K : Fg) (a : Addr) : Data := match K.lookup a with
  | none => .plain
  | some ob => ob.data
def funOf (K : Fg) (a : Addr) : FuncData := match dataOf K a with
  | .func d => d
  | _ => default
def partsOf (K : Fg) (a : Addr) : Parts := match dataOf K a with
  | .func d => some (d.name, d.qualname, d.params, d.body, d.scope, d.globals, d.builtins)
  | _ => none
structure Fd where
  spot : Fg → Addr
  nm : Str
  ql : Str
  st : Stmt
  dV : Fg → Value := fun _ => .none
  cl : Fg → List (Str × Addr) := fun _ => []
  cda : Option (Fg → Addr) := none
def Fd.due (d : Fd) : Parts := some (d.nm, d.ql, defArgs d.st, .stmts (defBody d.st), defScope d.st, mainGlobals, builtinsNs)
def Fd.fits (K : Fg) (d : Fd) : Bool := decide ((funOf K (d.spot K)).defaults = d.dV K) && (decide ((funOf K (d.spot K)).closure = d.cl K) && (PySem.W.codeIn K (funOf K (d.spot K)).code d.ql && PySem.W.keepIn K (.ref (d.spot K))))
theorem two {a b : Bool} (h : (a && b) = true) : a = true ∧ b = true := by simpa using h
theorem data_at {K : Fg} {a : Addr} {x : Data} (h : dataOf K a = x) (ne : x ≠ .plain) : ∃ oc od sl, K.lookup a = some ⟨oc, od, x, sl⟩ := by
  unfold dataOf at h
  split at h
  · exact (ne h.symm).elim
  · rename_i ob e
    obtain ⟨oc, od, dt, sl⟩ := ob
    cases h
    exact ⟨oc, od, sl, e⟩
theorem Fd.look {K : Fg} {d : Fd} (e : partsOf K (d.spot K) = d.due) (c : d.fits K = true) :
    ∃ (oc : Value) (od : Option Addr) (sl : Array (Option Value)) (kV dc pm : Value) (an : Option Addr) (cd ct : Value),
      K.lookup (d.spot K) = some ⟨oc, od, .func (PySem.W.fnX d.nm d.ql (defArgs d.st) (defBody d.st) (defScope d.st) (d.cl K) (d.dV K) kV dc pm an cd ct), sl⟩ ∧ PySem.W.codeIn K cd d.ql = true ∧
      PySem.W.keepIn K (.ref (d.spot K)) = true ∧ cd = (funOf K (d.spot K)).code := by
  unfold partsOf at e
  split at e
  case h_2 => cases e
  case h_1 fd hd =>
    obtain ⟨oc, od, sl, lk⟩ := data_at hd (fun z => by cases z)
    have hf : funOf K (d.spot K) = fd := by
      unfold funOf
      rw [hd]
    obtain ⟨c1, c⟩ := two c
    obtain ⟨c2, c⟩ := two c
    obtain ⟨c3, c4⟩ := two c
    rw [hf] at c1 c2 c3
    have c1 := of_decide_eq_true c1
    have c2 := of_decide_eq_true c2
    obtain ⟨n1, n2, n3, n4, n5, n6, n7, n8, n9, n10, n11, n12, n13, n14, n15⟩ := fd
    unfold Fd.due at e
    simp only [Option.some.injEq, Prod.mk.injEq] at e
    obtain ⟨h1, h2, h3, h4, h5, h6, h7⟩ := e
    subst h1 h2 h3 h4 h5 h6 h7
    have c1 : n8 = d.dV K := c1
    have c2 : n7 = d.cl K := c2
    subst c1 c2
    exact ⟨oc, od, sl, n9, n10, n11, n12, n13, n14, lk, c3, c4, by rw [hf]⟩
/-! ### tuples, tables -/
def tupAt (K : Fg) (a : Addr) : Addr := match (funOf K a).defaults with
  | .ref t => t
  | _ => 0
def itemAt (K : Fg) (a : Addr) (i : Nat) : Addr := match dataOf K a with
  | .seq its _ => (match its[i]? with
    | some (.ref b) => b
    | _ => 0)
  | _ => 0
def codeAt (K : Fg) (a : Addr) : Addr := match (funOf K a).code with
  | .ref t => t
  | _ => 0
def cellAt (K : Fg) (a : Addr) : Addr := match (funOf K a).closure with
  | [(_, c)] => c
  | _ => 0
def getterAt (K : Fg) (a : Addr) : Addr := match PySem.W.recIn K a "property" with
  | some (.ref f :: _) => f
  | _ => 0
def getterRest (K : Fg) (a : Addr) : List Value := match PySem.W.recIn K a "property" with
  | some (_ :: r) => r
  | _ => []
def seqIs (K : Fg) (a : Addr) (its : Array Value) : Bool := match dataOf K a with
  | .seq xs _ => decide (xs = its)
  | _ => false
theorem seq_look {K : Fg} {a : Addr} {its : Array Value} (h : seqIs K a its = true) : ∃ (oc : Value) (od : Option Addr) (sl : Array (Option Value)) (n : Nat), K.lookup a = some ⟨oc, od, .seq its n, sl⟩ := by
  unfold seqIs at h
  split at h
  case h_2 => cases h
  case h_1 xs n e =>
    obtain ⟨oc, od, sl, lk⟩ := data_at e (fun z => by cases z)
    rw [of_decide_eq_true h] at lk
    exact ⟨oc, od, sl, n, lk⟩
def typIs (K : Fg) (a : Addr) (t : String) : Bool := match K.lookup a with
  | some ob => decide (ob.cls = .type t)
  | none => false
theorem tup_look {K : Fg} {a : Addr} {its : Array Value} {t : String} (h : (seqIs K a its && typIs K a t) = true) : ∃ (od : Option Addr) (sl : Array (Option Value)) (n : Nat), K.lookup a = some ⟨.type t, od, .seq its n, sl⟩ := by
  obtain ⟨h1, h2⟩ := two h
  obtain ⟨oc, od, sl, n, lk⟩ := seq_look h1
  unfold typIs at h2
  rw [lk] at h2
  have e : oc = .type t := of_decide_eq_true h2
  rw [e] at lk
  exact ⟨od, sl, n, lk⟩
abbrev Row : Type := Option (Str × Int × Int)
def rowOf (e : DictEntry) : Row := match e.key, e.val with
  | .str x _, .int i _ => some (x, e.hash, i)
  | _, _ => none
def tabOf (K : Fg) (a : Addr) : Option (List Row) := match K.lookup a with
  | some ⟨.type t, none, .dict es _, ⟨[]⟩⟩ => (match decide (t = "dict") with
    | true => some (es.toList.map rowOf)
    | false => none)
  | _ => none
def dueTab (P : Params) (ps : List (Str × Int)) : Option (List Row) := some (ps.map fun p => some (p.1, PyData.keyHash P p.1, p.2))
def Fits (P : Params) (e : DictEntry) (p : Str × Int) : Prop := ∃ t u, e.key = .str p.1 t ∧ e.hash = PyData.keyHash P p.1 ∧ e.val = .int p.2 u
def FitAll (P : Params) : List DictEntry → List (Str × Int) → Prop
  | [], [] => True
  | e :: r, p :: q => Fits P e p ∧ FitAll P r q
  | _, _ => False
theorem rows_fit {P : Params} : ∀ {es : List DictEntry} {ps : List (Str × Int)}, (es.map rowOf = ps.map fun p => some (p.1, PyData.keyHash P p.1, p.2)) → FitAll P es ps
  | [], [], _ => trivial
  | [], _ :: _, h => by cases h
  | _ :: _, [], h => by cases h
  | e :: r, p :: q, h => by
    obtain ⟨h1, h2⟩ := List.cons.inj h
    refine ⟨?_, rows_fit h2⟩
    obtain ⟨eh, ek, ev⟩ := e
    unfold rowOf at h1
    cases ek with
    | str x t =>
      cases ev with
      | int i u =>
        obtain ⟨a1, a2, a3⟩ : x = p.1 ∧ eh = PyData.keyHash P p.1 ∧ i = p.2 := by simpa using h1
        subst a1 a2 a3
        exact ⟨t, u, rfl, rfl, rfl⟩
      | _ => simp at h1
    | _ => simp at h1
theorem tab_look {K : Fg} {P : Params} {a : Addr} {ps : List (Str × Int)} (h : tabOf K a = dueTab P ps) : ∃ (es : Array DictEntry) (n : Nat), K.lookup a = some ⟨.type "dict", none, .dict es n, #[]⟩ ∧ FitAll P es.toList ps := by
  unfold tabOf at h
  split at h
  case h_2 => cases h
  case h_1 t es n e =>
    by_cases q : t = "dict"
    · subst q
      exact ⟨es, n, e, rows_fit (Option.some.inj h)⟩
    · rw [decide_eq_false q] at h
      cases h
/-! ### the Hook -/
def reach (g : Addr → Option Obj) (from_ : List Addr) : Nat → List Addr
  | 0 => from_
  | n + 1 => He.growD g (reach g from_ n)
structure Look where
  adrs : List Addr
  fns : List Fd
  ex : List (Fg → Bool)
  tabs : List ((Fg → Addr) × List (Str × Int))
  txs : List ((Fg → Addr) × List Str) := []
abbrev Al : Type := Bool × List Parts × List (Option (List Row)) × List (Option (List (Option (Str × Int))))
def Look.obs (L : Look) (K : Fg) : Al := ((L.ex.all fun f => f K) && L.fns.all fun d => d.fits K, L.fns.map fun d => partsOf K (d.spot K), L.tabs.map fun t => tabOf K (t.1 K), L.txs.map fun t => He.dicW K (t.1 K))
def Look.due (L : Look) (w : World) : Al := (true, L.fns.map Fd.due, L.tabs.map fun t => dueTab w.params t.2, L.txs.map fun t => some (He.keysIn w.params t.2))
def Look.obsG (L : Look) (g : Addr → Option Obj) : Al := L.obs (He.frG g L.adrs)
def Look.hook (L : Look) : PySem.W.Hook where
  α := Al
  obs := fun s => L.obsG s.heap.get?
  val := L.due
  says := fun w h => ∃ K : Fg, K.In h ∧ L.obs K = L.due w
  of := fun _ _ e => ⟨_, He.frG_in, e⟩
  keeps := fun _ _ _ ⟨K, hK, c⟩ k => ⟨K, PySem.W.Frag.In.keeps hK k, c⟩
def Look.ob (L : Look) (s : PySem.W.SharedT) : Al := L.obsG (HandSHeadRun.getT s)
theorem Look.ob_eq (L : Look) (s : PySem.W.SharedT) : L.ob s = L.hook.obs s.abs := by
  have e : HandSHeadRun.getT s = s.abs.heap.get? := funext fun a => HandSHeadRun.getT_eq s a
  unfold Look.ob
  rw [e]
  rfl
section
variable {L : Look} {w : World} {K : Fg}
theorem Look.fact (c : L.obs K = L.due w) (i : Nat) {f : Fg → Bool} (h : L.ex[i]? = some f := by rfl) : f K = true :=
  List.all_eq_true.mp (two (congrArg (fun z : Al => z.1) c : ((L.ex.all fun f => f K) && L.fns.all fun d => d.fits K) = true)).1 f (List.mem_of_getElem? h)
theorem Look.fn (c : L.obs K = L.due w) (i : Nat) {d : Fd} (h : L.fns[i]? = some d := by rfl) :
    ∃ (oc : Value) (od : Option Addr) (sl : Array (Option Value)) (kV dc pm : Value) (an : Option Addr) (cd ct : Value),
      K.lookup (d.spot K) = some ⟨oc, od, .func (PySem.W.fnX d.nm d.ql (defArgs d.st) (defBody d.st) (defScope d.st) (d.cl K) (d.dV K) kV dc pm an cd ct), sl⟩ ∧ PySem.W.codeIn K cd d.ql = true ∧
      PySem.W.keepIn K (.ref (d.spot K)) = true ∧ cd = (funOf K (d.spot K)).code := by
  have c2 := (two (congrArg (fun z : Al => z.1) c : ((L.ex.all fun f => f K) && L.fns.all fun d => d.fits K) = true)).2
  have e := congrArg (fun z : Al => z.2.1[i]?) c
  have e : (L.fns.map fun d => partsOf K (d.spot K))[i]? = (L.fns.map Fd.due)[i]? := e
  rw [List.getElem?_map, List.getElem?_map, h] at e
  exact Fd.look (Option.some.inj e) (List.all_eq_true.mp c2 d (List.mem_of_getElem? h))
theorem Look.tab (c : L.obs K = L.due w) (i : Nat) {t : (Fg → Addr) × List (Str × Int)} (h : L.tabs[i]? = some t := by rfl) :
    ∃ (es : Array DictEntry) (n : Nat), K.lookup (t.1 K) = some ⟨.type "dict", none, .dict es n, #[]⟩ ∧ FitAll w.params es.toList t.2 := by
  have e := congrArg (fun z : Al => z.2.2.1[i]?) c
  have e : (L.tabs.map fun t => tabOf K (t.1 K))[i]? = (L.tabs.map fun t => dueTab w.params t.2)[i]? := e
  rw [List.getElem?_map, List.getElem?_map, h] at e
  exact tab_look (Option.some.inj e)
/-- a dict whose keys are texts, the values by relB -/
theorem Look.tx (c : L.obs K = L.due w) (i j : Nat) {a : Fg → Addr} {kvs : List (Str × He.Dv)} (h : L.txs[i]? = some (a, kvs.map (·.1)) := by rfl) (h2 : L.ex[j]? = some (fun K => He.valsB K (a K) kvs) := by rfl) :
    ∀ p ∈ kvs, KDct K w (a K) p.1 (p.2.v K) := by
  have e := congrArg (fun z : Al => z.2.2.2[i]?) c
  have e : (L.txs.map fun t => He.dicW K (t.1 K))[i]? = (L.txs.map fun t => some (He.keysIn w.params t.2))[i]? := e
  rw [List.getElem?_map, List.getElem?_map, h] at e
  obtain ⟨es, n, D⟩ := He.dicW_ok (Option.some.inj e)
  intro p hp
  obtain ⟨u, h3, h4⟩ := He.valsB_ok (Look.fact c j h2) hp
  exact ⟨es, n, u, D.at_, D.lit, h3, h4⟩
end
end Hx

namespace Own
open PySem PySem.Spec PyProof.Rows L2
def pa_f1 (K : PySem.W.Frag) : Addr := He.ga K "is_whole"
def pa_f2 (K : PySem.W.Frag) : Addr := He.ga K "is_sequence"
def pa_f3 (K : PySem.W.Frag) : Addr := He.ga K "is_below"
def pa_f4 (K : PySem.W.Frag) : Addr := He.ga K "check_pins"
def pa_f5 (K : PySem.W.Frag) : Addr := He.ga K "check_pin"
def pa_f6 (K : PySem.W.Frag) : Addr := He.ga K "is_entry"
def pa_f7 (K : PySem.W.Frag) : Addr := He.ga K "gathered"
def pa_f8 (K : PySem.W.Frag) : Addr := He.ga K "ends_at_pins"
def pa_f9 (K : PySem.W.Frag) : Addr := He.ga K "gaps"
def pa_f10 (K : PySem.W.Frag) : Addr := He.ga K "sums_before"
def pa_f11 (K : PySem.W.Frag) : Addr := He.ga K "cord_grid"
def pa_f12 (K : PySem.W.Frag) : Addr := He.ga K "table_rows"
def pa_f13 (K : PySem.W.Frag) : Addr := He.ga K "twice_between"
def pa_f14 (K : PySem.W.Frag) : Addr := He.ga K "cords_of_table"
def pa_f15 (K : PySem.W.Frag) : Addr := He.ga K "crosses"
def pa_f16 (K : PySem.W.Frag) : Addr := He.ga K "check_gap"
def pa_f17 (K : PySem.W.Frag) : Addr := He.ga K "next_pin"
def pa_f18 (K : PySem.W.Frag) : Addr := He.ga K "renamed"
def pa_f19 (K : PySem.W.Frag) : Addr := He.ga K "row_without"
def pa_f20 (K : PySem.W.Frag) : Addr := He.ga K "table_without"
def pa_f21 (K : PySem.W.Frag) : Addr := He.ga K "lot_of_mates"
def pa_f22 (K : PySem.W.Frag) : Addr := He.ga K "mates_of_lot"
def pa_f23 (K : PySem.W.Frag) : Addr := He.ga K "mates_crossed"
def pa_f24 (K : PySem.W.Frag) : Addr := He.ga K "mates_begun"
def pa_f25 (K : PySem.W.Frag) : Addr := He.ga K "mates_joined"
def pa_f26 (K : PySem.W.Frag) : Addr := He.ga K "is_letter"
def pa_f27 (K : PySem.W.Frag) : Addr := He.ga K "lanes_along"
def pa_f28 (K : PySem.W.Frag) : Addr := He.ga K "check_lanes"
def pa_f29 (K : PySem.W.Frag) : Addr := He.ga K "pairing_of"
def pa_f30 (K : PySem.W.Frag) : Addr := He.ga K "_law_whole"
def pa_f31 (K : PySem.W.Frag) : Addr := He.ga K "_law_cell"
def pa_f32 (K : PySem.W.Frag) : Addr := He.ga K "_law_digits"
def pa_f33 (K : PySem.W.Frag) : Addr := He.ga K "_law_gaps"
def pa_f34 (K : PySem.W.Frag) : Addr := He.ga K "_law_cross"
def pa_f35 (K : PySem.W.Frag) : Addr := He.ga K "_law_norm"
def pa_f36 (K : PySem.W.Frag) : Addr := He.ga K "_law_sides_table"
def pa_f37 (K : PySem.W.Frag) : Addr := He.ga K "_law_doubles"
def pa_f38 (K : PySem.W.Frag) : Addr := He.ga K "_law_cords"
def pa_f39 (K : PySem.W.Frag) : Addr := He.ga K "_law_dropped_table"
def pa_f40 (K : PySem.W.Frag) : Addr := He.ga K "_law_letters"
def pa_f41 (K : PySem.W.Frag) : Addr := He.ga K "_law_given"
def pa_f42 (K : PySem.W.Frag) : Addr := He.ga K "_law_is_lot"
def pa_f43 (K : PySem.W.Frag) : Addr := He.ga K "_law_straight_table"
def pa_f44 (K : PySem.W.Frag) : Addr := He.ga K "_law_table_letter"
def pa_f45 (K : PySem.W.Frag) : Addr := He.ga K "_law_joined_partners"
def pa_f46 (K : PySem.W.Frag) : Addr := He.ga K "_law_partners_letter"
def pa_f47 (K : PySem.W.Frag) : Addr := He.ga K "_law_of_partners"
def pa_f48 (K : PySem.W.Frag) : Addr := He.ga K "_law_bent"
def pa_f49 (K : PySem.W.Frag) : Addr := He.ga K "_law_bottom"
def pa_f50 (K : PySem.W.Frag) : Addr := He.ga K "_law_by_rules"
def pa_f51 (K : PySem.W.Frag) : Addr := He.ga K "_law_by_tables"
def pa_f52 (K : PySem.W.Frag) : Addr := He.ga K "_law_due"
def pa_f53 (K : PySem.W.Frag) : Addr := He.ga K "law"
def pa_CL (K : PySem.W.Frag) : Addr := He.ga K "Lot"
def pa_CR (K : PySem.W.Frag) : Addr := He.ga K "Row"
def pa_f54 (K : PySem.W.Frag) : Addr := He.ma K (pa_CL K) "ends"
def pa_f55 (K : PySem.W.Frag) : Addr := He.ma K (pa_CL K) "__eq__"
def pa_f56 (K : PySem.W.Frag) : Addr := He.ma K (pa_CL K) "merged"
def pa_f57 (K : PySem.W.Frag) : Addr := He.ma K (pa_CL K) "dropped"
def pa_f58 (K : PySem.W.Frag) : Addr := He.ma K (pa_CL K) "__init__"
def pa_TdCL (K : PySem.W.Frag) : Addr := Hx.tupAt K (pa_f58 K)
def pa_zdCL (K : PySem.W.Frag) : Addr := Hx.itemAt K (pa_TdCL K) 0
def pa_f59 (K : PySem.W.Frag) : Addr := He.ma K (pa_CR K) "__rshift__"
def pa_f60 (K : PySem.W.Frag) : Addr := He.ma K (pa_CR K) "flipped"
def pa_p_Row_bottom (K : PySem.W.Frag) : Addr := He.ma K (pa_CR K) "bottom"
def pa_f61 (K : PySem.W.Frag) : Addr := Hx.getterAt K (pa_p_Row_bottom K)
def pa_p_Row_pairing (K : PySem.W.Frag) : Addr := He.ma K (pa_CR K) "pairing"
def pa_f62 (K : PySem.W.Frag) : Addr := Hx.getterAt K (pa_p_Row_pairing K)
def pa_f63 (K : PySem.W.Frag) : Addr := He.ma K (pa_CR K) "__init__"
def pa_TdCR (K : PySem.W.Frag) : Addr := Hx.tupAt K (pa_f63 K)
def pa_zdCR (K : PySem.W.Frag) : Addr := Hx.itemAt K (pa_TdCR K) 0
def pa_dN (K : PySem.W.Frag) : Addr := He.ga K "CHANGES"
def pa_dU (K : PySem.W.Frag) : Addr := He.ga K "UPSIDE_DOWN"
def re_Row_bottom (K : PySem.W.Frag) : List Value := Hx.getterRest K (pa_p_Row_bottom K)
def re_Row_pairing (K : PySem.W.Frag) : List Value := Hx.getterRest K (pa_p_Row_pairing K)
def kv_dU : List (Str × He.Dv) := [("cross", .str "cross"), ("cup", .str "cap"), ("cap", .str "cup")]
def fd_0 : Hx.Fd := { spot := pa_f1, nm := "is_whole", ql := "is_whole", st := s_is_whole }
def fd_1 : Hx.Fd := { spot := pa_f2, nm := "is_sequence", ql := "is_sequence", st := s_is_sequence }
def fd_2 : Hx.Fd := { spot := pa_f3, nm := "is_below", ql := "is_below", st := s_is_below }
def fd_3 : Hx.Fd := { spot := pa_f4, nm := "check_pins", ql := "check_pins", st := s_check_pins }
def fd_4 : Hx.Fd := { spot := pa_f5, nm := "check_pin", ql := "check_pin", st := s_check_pin }
def fd_5 : Hx.Fd := { spot := pa_f6, nm := "is_entry", ql := "is_entry", st := s_is_entry }
def fd_6 : Hx.Fd := { spot := pa_f7, nm := "gathered", ql := "gathered", st := s_gathered }
def fd_7 : Hx.Fd := { spot := pa_f8, nm := "ends_at_pins", ql := "ends_at_pins", st := s_ends_at_pins }
def fd_8 : Hx.Fd := { spot := pa_f9, nm := "gaps", ql := "gaps", st := s_gaps }
def fd_9 : Hx.Fd := { spot := pa_f10, nm := "sums_before", ql := "sums_before", st := s_sums_before }
def fd_10 : Hx.Fd := { spot := pa_f11, nm := "cord_grid", ql := "cord_grid", st := s_cord_grid }
def fd_11 : Hx.Fd := { spot := pa_f12, nm := "table_rows", ql := "table_rows", st := s_table_rows }
def fd_12 : Hx.Fd := { spot := pa_f13, nm := "twice_between", ql := "twice_between", st := s_twice_between }
def fd_13 : Hx.Fd := { spot := pa_f14, nm := "cords_of_table", ql := "cords_of_table", st := s_cords_of_table }
def fd_14 : Hx.Fd := { spot := pa_f15, nm := "crosses", ql := "crosses", st := s_crosses }
def fd_15 : Hx.Fd := { spot := pa_f16, nm := "check_gap", ql := "check_gap", st := s_check_gap }
def fd_16 : Hx.Fd := { spot := pa_f17, nm := "next_pin", ql := "next_pin", st := s_next_pin }
def fd_17 : Hx.Fd := { spot := pa_f18, nm := "renamed", ql := "renamed", st := s_renamed }
def fd_18 : Hx.Fd := { spot := pa_f19, nm := "row_without", ql := "row_without", st := s_row_without }
def fd_19 : Hx.Fd := { spot := pa_f20, nm := "table_without", ql := "table_without", st := s_table_without }
def fd_20 : Hx.Fd := { spot := pa_f21, nm := "lot_of_mates", ql := "lot_of_mates", st := s_lot_of_mates }
def fd_21 : Hx.Fd := { spot := pa_f22, nm := "mates_of_lot", ql := "mates_of_lot", st := s_mates_of_lot }
def fd_22 : Hx.Fd := { spot := pa_f23, nm := "mates_crossed", ql := "mates_crossed", st := s_mates_crossed }
def fd_23 : Hx.Fd := { spot := pa_f24, nm := "mates_begun", ql := "mates_begun", st := s_mates_begun }
def fd_24 : Hx.Fd := { spot := pa_f25, nm := "mates_joined", ql := "mates_joined", st := s_mates_joined }
def fd_25 : Hx.Fd := { spot := pa_f26, nm := "is_letter", ql := "is_letter", st := s_is_letter }
def fd_26 : Hx.Fd := { spot := pa_f27, nm := "lanes_along", ql := "lanes_along", st := s_lanes_along }
def fd_27 : Hx.Fd := { spot := pa_f28, nm := "check_lanes", ql := "check_lanes", st := s_check_lanes }
def fd_28 : Hx.Fd := { spot := pa_f29, nm := "pairing_of", ql := "pairing_of", st := s_pairing_of }
def fd_29 : Hx.Fd := { spot := pa_f30, nm := "_law_whole", ql := "_law_whole", st := s__law_whole }
def fd_30 : Hx.Fd := { spot := pa_f31, nm := "_law_cell", ql := "_law_cell", st := s__law_cell }
def fd_31 : Hx.Fd := { spot := pa_f32, nm := "_law_digits", ql := "_law_digits", st := s__law_digits }
def fd_32 : Hx.Fd := { spot := pa_f33, nm := "_law_gaps", ql := "_law_gaps", st := s__law_gaps }
def fd_33 : Hx.Fd := { spot := pa_f34, nm := "_law_cross", ql := "_law_cross", st := s__law_cross }
def fd_34 : Hx.Fd := { spot := pa_f35, nm := "_law_norm", ql := "_law_norm", st := s__law_norm }
def fd_35 : Hx.Fd := { spot := pa_f36, nm := "_law_sides_table", ql := "_law_sides_table", st := s__law_sides_table }
def fd_36 : Hx.Fd := { spot := pa_f37, nm := "_law_doubles", ql := "_law_doubles", st := s__law_doubles }
def fd_37 : Hx.Fd := { spot := pa_f38, nm := "_law_cords", ql := "_law_cords", st := s__law_cords }
def fd_38 : Hx.Fd := { spot := pa_f39, nm := "_law_dropped_table", ql := "_law_dropped_table", st := s__law_dropped_table }
def fd_39 : Hx.Fd := { spot := pa_f40, nm := "_law_letters", ql := "_law_letters", st := s__law_letters }
def fd_40 : Hx.Fd := { spot := pa_f41, nm := "_law_given", ql := "_law_given", st := s__law_given }
def fd_41 : Hx.Fd := { spot := pa_f42, nm := "_law_is_lot", ql := "_law_is_lot", st := s__law_is_lot }
def fd_42 : Hx.Fd := { spot := pa_f43, nm := "_law_straight_table", ql := "_law_straight_table", st := s__law_straight_table }
def fd_43 : Hx.Fd := { spot := pa_f44, nm := "_law_table_letter", ql := "_law_table_letter", st := s__law_table_letter }
def fd_44 : Hx.Fd := { spot := pa_f45, nm := "_law_joined_partners", ql := "_law_joined_partners", st := s__law_joined_partners }
def fd_45 : Hx.Fd := { spot := pa_f46, nm := "_law_partners_letter", ql := "_law_partners_letter", st := s__law_partners_letter }
def fd_46 : Hx.Fd := { spot := pa_f47, nm := "_law_of_partners", ql := "_law_of_partners", st := s__law_of_partners }
def fd_47 : Hx.Fd := { spot := pa_f48, nm := "_law_bent", ql := "_law_bent", st := s__law_bent }
def fd_48 : Hx.Fd := { spot := pa_f49, nm := "_law_bottom", ql := "_law_bottom", st := s__law_bottom }
def fd_49 : Hx.Fd := { spot := pa_f50, nm := "_law_by_rules", ql := "_law_by_rules", st := s__law_by_rules }
def fd_50 : Hx.Fd := { spot := pa_f51, nm := "_law_by_tables", ql := "_law_by_tables", st := s__law_by_tables }
def fd_51 : Hx.Fd := { spot := pa_f52, nm := "_law_due", ql := "_law_due", st := s__law_due }
def fd_52 : Hx.Fd := { spot := pa_f53, nm := "law", ql := "law", st := s_law }
def fd_53 : Hx.Fd := { spot := pa_f54, nm := "ends", ql := "Lot.ends", st := s_Lot_ends }
def fd_54 : Hx.Fd := { spot := pa_f55, nm := "__eq__", ql := "Lot.__eq__", st := s_Lot_eq }
def fd_55 : Hx.Fd := { spot := pa_f56, nm := "merged", ql := "Lot.merged", st := s_Lot_merged }
def fd_56 : Hx.Fd := { spot := pa_f57, nm := "dropped", ql := "Lot.dropped", st := s_Lot_dropped }
def fd_57 : Hx.Fd := { spot := pa_f58, nm := "__init__", ql := "Lot.__init__", st := s_Lot_init, dV := fun K => (.ref (pa_TdCL K)) }
def fd_58 : Hx.Fd := { spot := pa_f59, nm := "__rshift__", ql := "Row.__rshift__", st := s_Row_rshift }
def fd_59 : Hx.Fd := { spot := pa_f60, nm := "flipped", ql := "Row.flipped", st := s_Row_flipped }
def fd_60 : Hx.Fd := { spot := pa_f61, nm := "bottom", ql := "Row.bottom", st := s_Row_bottom }
def fd_61 : Hx.Fd := { spot := pa_f62, nm := "pairing", ql := "Row.pairing", st := s_Row_pairing }
def fd_62 : Hx.Fd := { spot := pa_f63, nm := "__init__", ql := "Row.__init__", st := s_Row_init, dV := fun K => (.ref (pa_TdCR K)) }
def ex_0 (K : PySem.W.Frag) : Bool := decide (PySem.W.specialIn K (.builtin "object.__class__") "__get__" = some (some (.builtin "getset_descriptor.__get__")))
def ex_1 (K : PySem.W.Frag) : Bool := decide (PySem.W.takesIn K (.builtin "object.__class__") = some true)
def ex_2 (K : PySem.W.Frag) : Bool := decide (PySem.W.nsIn K mainGlobals "is_whole" = some (some (.ref (pa_f1 K))))
def ex_3 (K : PySem.W.Frag) : Bool := decide (PySem.W.nsIn K mainGlobals "is_sequence" = some (some (.ref (pa_f2 K))))
def ex_4 (K : PySem.W.Frag) : Bool := decide (PySem.W.nsIn K mainGlobals "is_below" = some (some (.ref (pa_f3 K))))
def ex_5 (K : PySem.W.Frag) : Bool := decide (PySem.W.nsIn K mainGlobals "check_pins" = some (some (.ref (pa_f4 K))))
def ex_6 (K : PySem.W.Frag) : Bool := decide (PySem.W.nsIn K mainGlobals "check_pin" = some (some (.ref (pa_f5 K))))
def ex_7 (K : PySem.W.Frag) : Bool := decide (PySem.W.nsIn K mainGlobals "is_entry" = some (some (.ref (pa_f6 K))))
def ex_8 (K : PySem.W.Frag) : Bool := decide (PySem.W.nsIn K mainGlobals "gathered" = some (some (.ref (pa_f7 K))))
def ex_9 (K : PySem.W.Frag) : Bool := decide (PySem.W.nsIn K mainGlobals "ends_at_pins" = some (some (.ref (pa_f8 K))))
def ex_10 (K : PySem.W.Frag) : Bool := decide (PySem.W.nsIn K mainGlobals "gaps" = some (some (.ref (pa_f9 K))))
def ex_11 (K : PySem.W.Frag) : Bool := decide (PySem.W.nsIn K mainGlobals "sums_before" = some (some (.ref (pa_f10 K))))
def ex_12 (K : PySem.W.Frag) : Bool := decide (PySem.W.nsIn K mainGlobals "cord_grid" = some (some (.ref (pa_f11 K))))
def ex_13 (K : PySem.W.Frag) : Bool := decide (PySem.W.nsIn K mainGlobals "table_rows" = some (some (.ref (pa_f12 K))))
def ex_14 (K : PySem.W.Frag) : Bool := decide (PySem.W.nsIn K mainGlobals "twice_between" = some (some (.ref (pa_f13 K))))
def ex_15 (K : PySem.W.Frag) : Bool := decide (PySem.W.nsIn K mainGlobals "cords_of_table" = some (some (.ref (pa_f14 K))))
def ex_16 (K : PySem.W.Frag) : Bool := decide (PySem.W.nsIn K mainGlobals "crosses" = some (some (.ref (pa_f15 K))))
def ex_17 (K : PySem.W.Frag) : Bool := decide (PySem.W.nsIn K mainGlobals "check_gap" = some (some (.ref (pa_f16 K))))
def ex_18 (K : PySem.W.Frag) : Bool := decide (PySem.W.nsIn K mainGlobals "next_pin" = some (some (.ref (pa_f17 K))))
def ex_19 (K : PySem.W.Frag) : Bool := decide (PySem.W.nsIn K mainGlobals "renamed" = some (some (.ref (pa_f18 K))))
def ex_20 (K : PySem.W.Frag) : Bool := decide (PySem.W.nsIn K mainGlobals "row_without" = some (some (.ref (pa_f19 K))))
def ex_21 (K : PySem.W.Frag) : Bool := decide (PySem.W.nsIn K mainGlobals "table_without" = some (some (.ref (pa_f20 K))))
def ex_22 (K : PySem.W.Frag) : Bool := decide (PySem.W.nsIn K mainGlobals "lot_of_mates" = some (some (.ref (pa_f21 K))))
def ex_23 (K : PySem.W.Frag) : Bool := decide (PySem.W.nsIn K mainGlobals "mates_of_lot" = some (some (.ref (pa_f22 K))))
def ex_24 (K : PySem.W.Frag) : Bool := decide (PySem.W.nsIn K mainGlobals "mates_crossed" = some (some (.ref (pa_f23 K))))
def ex_25 (K : PySem.W.Frag) : Bool := decide (PySem.W.nsIn K mainGlobals "mates_begun" = some (some (.ref (pa_f24 K))))
def ex_26 (K : PySem.W.Frag) : Bool := decide (PySem.W.nsIn K mainGlobals "mates_joined" = some (some (.ref (pa_f25 K))))
def ex_27 (K : PySem.W.Frag) : Bool := decide (PySem.W.nsIn K mainGlobals "is_letter" = some (some (.ref (pa_f26 K))))
def ex_28 (K : PySem.W.Frag) : Bool := decide (PySem.W.nsIn K mainGlobals "lanes_along" = some (some (.ref (pa_f27 K))))
def ex_29 (K : PySem.W.Frag) : Bool := decide (PySem.W.nsIn K mainGlobals "check_lanes" = some (some (.ref (pa_f28 K))))
def ex_30 (K : PySem.W.Frag) : Bool := decide (PySem.W.nsIn K mainGlobals "pairing_of" = some (some (.ref (pa_f29 K))))
def ex_31 (K : PySem.W.Frag) : Bool := decide (PySem.W.nsIn K mainGlobals "_law_whole" = some (some (.ref (pa_f30 K))))
def ex_32 (K : PySem.W.Frag) : Bool := decide (PySem.W.nsIn K mainGlobals "_law_cell" = some (some (.ref (pa_f31 K))))
def ex_33 (K : PySem.W.Frag) : Bool := decide (PySem.W.nsIn K mainGlobals "_law_digits" = some (some (.ref (pa_f32 K))))
def ex_34 (K : PySem.W.Frag) : Bool := decide (PySem.W.nsIn K mainGlobals "_law_gaps" = some (some (.ref (pa_f33 K))))
def ex_35 (K : PySem.W.Frag) : Bool := decide (PySem.W.nsIn K mainGlobals "_law_cross" = some (some (.ref (pa_f34 K))))
def ex_36 (K : PySem.W.Frag) : Bool := decide (PySem.W.nsIn K mainGlobals "_law_norm" = some (some (.ref (pa_f35 K))))
def ex_37 (K : PySem.W.Frag) : Bool := decide (PySem.W.nsIn K mainGlobals "_law_sides_table" = some (some (.ref (pa_f36 K))))
def ex_38 (K : PySem.W.Frag) : Bool := decide (PySem.W.nsIn K mainGlobals "_law_doubles" = some (some (.ref (pa_f37 K))))
def ex_39 (K : PySem.W.Frag) : Bool := decide (PySem.W.nsIn K mainGlobals "_law_cords" = some (some (.ref (pa_f38 K))))
def ex_40 (K : PySem.W.Frag) : Bool := decide (PySem.W.nsIn K mainGlobals "_law_dropped_table" = some (some (.ref (pa_f39 K))))
def ex_41 (K : PySem.W.Frag) : Bool := decide (PySem.W.nsIn K mainGlobals "_law_letters" = some (some (.ref (pa_f40 K))))
def ex_42 (K : PySem.W.Frag) : Bool := decide (PySem.W.nsIn K mainGlobals "_law_given" = some (some (.ref (pa_f41 K))))
def ex_43 (K : PySem.W.Frag) : Bool := decide (PySem.W.nsIn K mainGlobals "_law_is_lot" = some (some (.ref (pa_f42 K))))
def ex_44 (K : PySem.W.Frag) : Bool := decide (PySem.W.nsIn K mainGlobals "_law_straight_table" = some (some (.ref (pa_f43 K))))
def ex_45 (K : PySem.W.Frag) : Bool := decide (PySem.W.nsIn K mainGlobals "_law_table_letter" = some (some (.ref (pa_f44 K))))
def ex_46 (K : PySem.W.Frag) : Bool := decide (PySem.W.nsIn K mainGlobals "_law_joined_partners" = some (some (.ref (pa_f45 K))))
def ex_47 (K : PySem.W.Frag) : Bool := decide (PySem.W.nsIn K mainGlobals "_law_partners_letter" = some (some (.ref (pa_f46 K))))
def ex_48 (K : PySem.W.Frag) : Bool := decide (PySem.W.nsIn K mainGlobals "_law_of_partners" = some (some (.ref (pa_f47 K))))
def ex_49 (K : PySem.W.Frag) : Bool := decide (PySem.W.nsIn K mainGlobals "_law_bent" = some (some (.ref (pa_f48 K))))
def ex_50 (K : PySem.W.Frag) : Bool := decide (PySem.W.nsIn K mainGlobals "_law_bottom" = some (some (.ref (pa_f49 K))))
def ex_51 (K : PySem.W.Frag) : Bool := decide (PySem.W.nsIn K mainGlobals "_law_by_rules" = some (some (.ref (pa_f50 K))))
def ex_52 (K : PySem.W.Frag) : Bool := decide (PySem.W.nsIn K mainGlobals "_law_by_tables" = some (some (.ref (pa_f51 K))))
def ex_53 (K : PySem.W.Frag) : Bool := decide (PySem.W.nsIn K mainGlobals "_law_due" = some (some (.ref (pa_f52 K))))
def ex_54 (K : PySem.W.Frag) : Bool := decide (PySem.W.nsIn K mainGlobals "law" = some (some (.ref (pa_f53 K))))
def ex_55 (K : PySem.W.Frag) : Bool := decide (PySem.W.nsIn K mainGlobals "max" = some none)
def ex_56 (K : PySem.W.Frag) : Bool := decide (PySem.W.nsIn K mainGlobals "min" = some none)
def ex_57 (K : PySem.W.Frag) : Bool := decide (PySem.W.nsIn K mainGlobals "tuple" = some none)
def ex_58 (K : PySem.W.Frag) : Bool := decide (PySem.W.nsIn K mainGlobals "range" = some none)
def ex_59 (K : PySem.W.Frag) : Bool := decide (PySem.W.nsIn K mainGlobals "isinstance" = some none)
def ex_60 (K : PySem.W.Frag) : Bool := decide (PySem.W.nsIn K mainGlobals "int" = some none)
def ex_61 (K : PySem.W.Frag) : Bool := decide (PySem.W.nsIn K mainGlobals "bool" = some none)
def ex_62 (K : PySem.W.Frag) : Bool := decide (PySem.W.nsIn K mainGlobals "len" = some none)
def ex_63 (K : PySem.W.Frag) : Bool := decide (PySem.W.nsIn K mainGlobals "list" = some none)
def ex_64 (K : PySem.W.Frag) : Bool := decide (PySem.W.nsIn K mainGlobals "str" = some none)
def ex_65 (K : PySem.W.Frag) : Bool := decide (PySem.W.nsIn K mainGlobals "sorted" = some none)
def ex_66 (K : PySem.W.Frag) : Bool := decide (PySem.W.nsIn K mainGlobals "sum" = some none)
def ex_67 (K : PySem.W.Frag) : Bool := decide (PySem.W.nsIn K mainGlobals "Lot" = some (some (.ref (pa_CL K))))
def ex_68 (K : PySem.W.Frag) : Bool := decide (PySem.W.nsIn K mainGlobals "Row" = some (some (.ref (pa_CR K))))
def ex_69 (K : PySem.W.Frag) : Bool := PySem.W.plainGet K (pa_CL K) Str.empty
def ex_70 (K : PySem.W.Frag) : Bool := PySem.W.hasDictIn K (pa_CL K)
def ex_71 (K : PySem.W.Frag) : Bool := PySem.W.plainOver K (pa_CL K)
def ex_72 (K : PySem.W.Frag) : Bool := decide (PySem.W.findIn K (.ref (pa_CL K)) "__setattr__" = some (some (.builtin "object.__setattr__")))
def ex_73 (K : PySem.W.Frag) : Bool := PySem.W.makesIn K (pa_CL K)
def ex_74 (K : PySem.W.Frag) : Bool := PySem.W.keepIn K (.ref (pa_CL K))
def ex_75 (K : PySem.W.Frag) : Bool := decide (PySem.W.findIn K (.ref (pa_CL K)) "pins" = some none)
def ex_76 (K : PySem.W.Frag) : Bool := decide (PySem.W.findIn K (.ref (pa_CL K)) "cords" = some none)
def ex_77 (K : PySem.W.Frag) : Bool := decide (PySem.W.findIn K (.ref (pa_CL K)) "__class__" = some (some (.builtin "object.__class__")))
def ex_78 (K : PySem.W.Frag) : Bool := decide (PySem.W.mroIn K (pa_CL K) (.type "object") = some true)
def ex_79 (K : PySem.W.Frag) : Bool := decide (PySem.W.findIn K (.ref (pa_CL K)) "ends" = some (some (.ref (pa_f54 K))))
def ex_80 (K : PySem.W.Frag) : Bool := PySem.W.isFn K (.ref (pa_f54 K))
def ex_81 (K : PySem.W.Frag) : Bool := decide (PySem.W.findIn K (.ref (pa_CL K)) "__eq__" = some (some (.ref (pa_f55 K))))
def ex_82 (K : PySem.W.Frag) : Bool := PySem.W.isFn K (.ref (pa_f55 K))
def ex_83 (K : PySem.W.Frag) : Bool := decide (PySem.W.findIn K (.ref (pa_CL K)) "merged" = some (some (.ref (pa_f56 K))))
def ex_84 (K : PySem.W.Frag) : Bool := PySem.W.isFn K (.ref (pa_f56 K))
def ex_85 (K : PySem.W.Frag) : Bool := decide (PySem.W.findIn K (.ref (pa_CL K)) "dropped" = some (some (.ref (pa_f57 K))))
def ex_86 (K : PySem.W.Frag) : Bool := PySem.W.isFn K (.ref (pa_f57 K))
def ex_87 (K : PySem.W.Frag) : Bool := decide (PySem.W.findIn K (.ref (pa_CL K)) "__init__" = some (some (.ref (pa_f58 K))))
def ex_88 (K : PySem.W.Frag) : Bool := PySem.W.isFn K (.ref (pa_f58 K))
def ex_89 (K : PySem.W.Frag) : Bool := Hx.seqIs K (pa_TdCL K) #[.ref (pa_zdCL K)]
def ex_90 (K : PySem.W.Frag) : Bool := PySem.W.plainGet K (pa_CR K) Str.empty
def ex_91 (K : PySem.W.Frag) : Bool := PySem.W.hasDictIn K (pa_CR K)
def ex_92 (K : PySem.W.Frag) : Bool := PySem.W.plainOver K (pa_CR K)
def ex_93 (K : PySem.W.Frag) : Bool := decide (PySem.W.findIn K (.ref (pa_CR K)) "__setattr__" = some (some (.builtin "object.__setattr__")))
def ex_94 (K : PySem.W.Frag) : Bool := PySem.W.makesIn K (pa_CR K)
def ex_95 (K : PySem.W.Frag) : Bool := PySem.W.keepIn K (.ref (pa_CR K))
def ex_96 (K : PySem.W.Frag) : Bool := decide (PySem.W.findIn K (.ref (pa_CR K)) "top" = some none)
def ex_97 (K : PySem.W.Frag) : Bool := decide (PySem.W.findIn K (.ref (pa_CR K)) "_lanes" = some none)
def ex_98 (K : PySem.W.Frag) : Bool := decide (PySem.W.findIn K (.ref (pa_CR K)) "letters" = some none)
def ex_99 (K : PySem.W.Frag) : Bool := PySem.W.selfFirst K (pa_CR K)
def ex_100 (K : PySem.W.Frag) : Bool := decide (PySem.W.findIn K (.ref (pa_CR K)) "__rshift__" = some (some (.ref (pa_f59 K))))
def ex_101 (K : PySem.W.Frag) : Bool := PySem.W.isFn K (.ref (pa_f59 K))
def ex_102 (K : PySem.W.Frag) : Bool := decide (PySem.W.findIn K (.ref (pa_CR K)) "flipped" = some (some (.ref (pa_f60 K))))
def ex_103 (K : PySem.W.Frag) : Bool := PySem.W.isFn K (.ref (pa_f60 K))
def ex_104 (K : PySem.W.Frag) : Bool := decide (PySem.W.findIn K (.ref (pa_CR K)) "bottom" = some (some (.ref (pa_p_Row_bottom K))))
def ex_105 (K : PySem.W.Frag) : Bool := decide (PySem.W.recIn K (pa_p_Row_bottom K) "property" = some (.ref (pa_f61 K) :: (re_Row_bottom K)))
def ex_106 (K : PySem.W.Frag) : Bool := decide (PySem.W.specialIn K (.ref (pa_p_Row_bottom K)) "__get__" = some (some (.builtin "property.__get__")))
def ex_107 (K : PySem.W.Frag) : Bool := decide (PySem.W.takesIn K (.ref (pa_p_Row_bottom K)) = some true)
def ex_108 (K : PySem.W.Frag) : Bool := decide (PySem.W.findIn K (.ref (pa_CR K)) "pairing" = some (some (.ref (pa_p_Row_pairing K))))
def ex_109 (K : PySem.W.Frag) : Bool := decide (PySem.W.recIn K (pa_p_Row_pairing K) "property" = some (.ref (pa_f62 K) :: (re_Row_pairing K)))
def ex_110 (K : PySem.W.Frag) : Bool := decide (PySem.W.specialIn K (.ref (pa_p_Row_pairing K)) "__get__" = some (some (.builtin "property.__get__")))
def ex_111 (K : PySem.W.Frag) : Bool := decide (PySem.W.takesIn K (.ref (pa_p_Row_pairing K)) = some true)
def ex_112 (K : PySem.W.Frag) : Bool := decide (PySem.W.findIn K (.ref (pa_CR K)) "__init__" = some (some (.ref (pa_f63 K))))
def ex_113 (K : PySem.W.Frag) : Bool := PySem.W.isFn K (.ref (pa_f63 K))
def ex_114 (K : PySem.W.Frag) : Bool := Hx.seqIs K (pa_TdCR K) #[.ref (pa_zdCR K)]
def ex_115 (K : PySem.W.Frag) : Bool := decide (PySem.W.nsIn K mainGlobals "CHANGES" = some (some (.ref (pa_dN K))))
def ex_116 (K : PySem.W.Frag) : Bool := decide (((pa_dN K) == sysModules) = false)
def ex_117 (K : PySem.W.Frag) : Bool := decide (PySem.W.nsIn K mainGlobals "repr" = some none)
def ex_118 (K : PySem.W.Frag) : Bool := decide (PySem.W.nsIn K mainGlobals "UPSIDE_DOWN" = some (some (.ref (pa_dU K))))
def ex_119 (K : PySem.W.Frag) : Bool := He.valsB K (pa_dU K) kv_dU
def ex_120 (K : PySem.W.Frag) : Bool := decide (PySem.W.nsIn K mainGlobals "zip" = some none)
def ex_121 (K : PySem.W.Frag) : Bool := decide (PySem.W.nsIn K mainGlobals "enumerate" = some none)
def ex_122 (K : PySem.W.Frag) : Bool := decide (PySem.W.nsIn K mainGlobals "abs" = some none)
def ex_123 (K : PySem.W.Frag) : Bool := Hx.seqIs K (pa_zdCL K) #[] && Hx.typIs K (pa_zdCL K) "tuple"
def fdL0 : List (Hx.Fd) := [fd_0, fd_1, fd_2, fd_3, fd_4, fd_5, fd_6, fd_7, fd_8, fd_9, fd_10, fd_11, fd_12, fd_13, fd_14, fd_15, fd_16, fd_17, fd_18, fd_19, fd_20, fd_21, fd_22, fd_23, fd_24, fd_25, fd_26, fd_27, fd_28, fd_29]
def fdL1 : List (Hx.Fd) := [fd_30, fd_31, fd_32, fd_33, fd_34, fd_35, fd_36, fd_37, fd_38, fd_39, fd_40, fd_41, fd_42, fd_43, fd_44, fd_45, fd_46, fd_47, fd_48, fd_49, fd_50, fd_51, fd_52, fd_53, fd_54, fd_55, fd_56, fd_57, fd_58, fd_59]
def fdL2 : List (Hx.Fd) := [fd_60, fd_61, fd_62]
def exL0 : List (PySem.W.Frag → Bool) := [ex_0, ex_1, ex_2, ex_3, ex_4, ex_5, ex_6, ex_7, ex_8, ex_9, ex_10, ex_11, ex_12, ex_13, ex_14, ex_15, ex_16, ex_17, ex_18, ex_19, ex_20, ex_21, ex_22, ex_23, ex_24, ex_25, ex_26, ex_27, ex_28, ex_29]
def exL1 : List (PySem.W.Frag → Bool) := [ex_30, ex_31, ex_32, ex_33, ex_34, ex_35, ex_36, ex_37, ex_38, ex_39, ex_40, ex_41, ex_42, ex_43, ex_44, ex_45, ex_46, ex_47, ex_48, ex_49, ex_50, ex_51, ex_52, ex_53, ex_54, ex_55, ex_56, ex_57, ex_58, ex_59]
def exL2 : List (PySem.W.Frag → Bool) := [ex_60, ex_61, ex_62, ex_63, ex_64, ex_65, ex_66, ex_67, ex_68, ex_69, ex_70, ex_71, ex_72, ex_73, ex_74, ex_75, ex_76, ex_77, ex_78, ex_79, ex_80, ex_81, ex_82, ex_83, ex_84, ex_85, ex_86, ex_87, ex_88, ex_89]
def exL3 : List (PySem.W.Frag → Bool) := [ex_90, ex_91, ex_92, ex_93, ex_94, ex_95, ex_96, ex_97, ex_98, ex_99, ex_100, ex_101, ex_102, ex_103, ex_104, ex_105, ex_106, ex_107, ex_108, ex_109, ex_110, ex_111, ex_112, ex_113, ex_114, ex_115, ex_116, ex_117, ex_118, ex_119]
def exL4 : List (PySem.W.Frag → Bool) := [ex_120, ex_121, ex_122, ex_123]
def tabL : List ((PySem.W.Frag → Addr) × List (Str × Int)) := [(pa_dN, [("cross", 0), ("cup", 2), ("cap", -2)])]
def adL0 : List (Addr) := [3, 292, 293, 299, 300, 306, 307, 313, 314, 320, 321, 327, 328, 334, 335, 341, 342, 362, 363, 369, 370, 374, 375, 391, 392, 396, 397, 403, 404, 408]
def adL1 : List (Addr) := [409, 415, 416, 420, 421, 441, 442, 448, 449, 470, 471, 496, 497, 554, 555, 561, 562, 572, 573, 581, 582, 586, 587, 591, 592, 598, 599, 603, 604, 610]
def adL2 : List (Addr) := [611, 617, 618, 622, 623, 629, 630, 631, 632, 641, 645, 646, 660, 661, 662, 668, 669, 670, 690, 691, 709, 710, 719, 720, 730, 731, 737, 738, 744, 745]
def adL3 : List (Addr) := [751, 752, 758, 759, 765, 766, 772, 773, 779, 780, 786, 787, 791, 792, 798, 799, 805, 806, 810, 811, 817, 818, 824, 825, 831, 832, 836, 837, 841, 842]
def adL4 : List (Addr) := [846, 847, 851, 852, 856, 857, 861, 862, 868, 869, 873, 874, 880, 881, 887, 888, 892, 893]
def adL : List Addr := adL0 ++ (adL1 ++ (adL2 ++ (adL3 ++ (adL4))))
def lk : Hx.Look := { adrs := adL, fns := fdL0 ++ (fdL1 ++ (fdL2)), ex := exL0 ++ (exL1 ++ (exL2 ++ (exL3 ++ (exL4)))), tabs := tabL, txs := [(pa_dU, kv_dU.map (·.1))] }
def nmL0 : List (Str) := ["_wall", "RimError", "BadPins", "BadPin", "BadGap", "NoPair", "OddPin", "UnlikePins", "BadCord", "NotPart", "BadNumber", "BadLanes", "BadLetter", "UnlikeLanes", "gaps", "crosses", "is_whole", "is_sequence", "is_below", "check_pins", "check_pin", "check_gap", "check_like", "check_number", "next_pin", "is_entry", "gathered", "by_pair", "entries_of", "ends_at_pins"]
def nmL1 : List (Str) := ["cord_grid", "sums_before", "table_rows", "twice_between", "cords_of_table", "first_bar", "odd_pins", "Lot", "renamed", "table_without", "row_without", "pairing_of", "lot_of_mates", "mates_of_lot", "mates_crossed", "mates_begun", "mates_joined", "CHANGES", "UPSIDE_DOWN", "Row", "lanes_along", "is_letter", "check_lanes", "_law_whole", "_law_cell", "_law_digits", "_law_gaps", "_law_cross", "_law_norm", "_law_sides_table"]
def nmL2 : List (Str) := ["_law_doubles", "_law_cords", "_law_dropped_table", "_law_letters", "_law_given", "_law_is_lot", "_law_straight_table", "_law_table_letter", "_law_joined_partners", "_law_partners_letter", "_law_of_partners", "_law_bent", "_law_bottom", "_law_by_rules", "_law_by_tables", "_law_due"]
def nms : List Str := nmL0 ++ (nmL1 ++ (nmL2))
abbrev RR : PySem.W.OpenRow := PySem.W.OpenLaw.row PySem.Challenge.rw_rimcords_k61_pairings_whole
theorem run_false (w : World) : HandSHeadRun.RunEq RR (PySem.W.view RR.prog [84]) lk.hook lk.ob 20000 nms (w.withFollow "special-get-raises" false) := by
  intro os
  kernel_rfl
theorem run_true (w : World) : HandSHeadRun.RunEq RR (PySem.W.view RR.prog [84]) lk.hook lk.ob 20000 nms (w.withFollow "special-get-raises" true) := by
  intro os
  kernel_rfl
theorem run (w : World) : HandSHeadRun.RunEq RR (PySem.W.view RR.prog [84]) lk.hook lk.ob 20000 nms w := PySem.W.byRow2 "special-get-raises" (P := fun w => HandSHeadRun.RunEq RR (PySem.W.view RR.prog [84]) lk.hook lk.ob 20000 nms w) run_false run_true w
end Own

namespace Own
open PySem PySem.Spec PyProof.Rows L2
/-! ### heaps -/
theorem same_upd {H : Hp} {p : Addr} {o : HO} (h : H p = none) : Same H (upd H p o) := fun b x e => by
  rw [upd_ne (ne_of_none e h)]
  exact e
/-- a tuple of three ints -/
abbrev tv (t : Tr) : List V := [.int t.1, .int t.2.1, .int t.2.2]
def TrV (H : Hp) (vs : List V) (l : List Tr) : Prop := vs.length = l.length ∧ ∀ (i : Nat) (t : Tr), l[i]? = some t → ∃ b, vs[i]? = some (.ref b) ∧ H b = some (.tup (tv t))
def Trip (H : Hp) (a : Addr) (l : List Tr) : Prop := ∃ vs, H a = some (.tup vs) ∧ TrV H vs l
def TripL (H : Hp) (a : Addr) (l : List Tr) : Prop := ∃ vs, H a = some (.lst vs) ∧ TrV H vs l
theorem TrV.same {H H' : Hp} {vs : List V} {l : List Tr} (s : Same H H') (h : TrV H vs l) : TrV H' vs l := ⟨h.1, fun i t e => by
  obtain ⟨b, e1, e2⟩ := h.2 i t e
  exact ⟨b, e1, s _ _ e2⟩⟩
theorem Trip.same {H H' : Hp} {a : Addr} {l : List Tr} (s : Same H H') (h : Trip H a l) : Trip H' a l := by
  obtain ⟨vs, e, t⟩ := h
  exact ⟨vs, s _ _ e, t.same s⟩
theorem TripL.same {H H' : Hp} {a : Addr} {l : List Tr} (s : Same H H') (h : TripL H a l) : TripL H' a l := by
  obtain ⟨vs, e, t⟩ := h
  exact ⟨vs, s _ _ e, t.same s⟩
theorem TrV.nil {H : Hp} : TrV H [] [] := ⟨rfl, fun i t e => by simp at e⟩
theorem TrV.snoc {H : Hp} {vs : List V} {l : List Tr} {b : Addr} {t : Tr} (h : TrV H vs l) (e : H b = some (.tup (tv t))) : TrV H (vs ++ [.ref b]) (l ++ [t]) := by
  refine ⟨by rw [List.length_append, List.length_append, h.1]; rfl, fun i u hu => ?_⟩
  by_cases hi : i < l.length
  · rw [List.getElem?_append_left hi] at hu
    obtain ⟨c, e1, e2⟩ := h.2 i u hu
    exact ⟨c, by rw [List.getElem?_append_left (by rw [h.1]; exact hi)]; exact e1, e2⟩
  · rw [List.getElem?_append_right (by omega)] at hu
    have hi2 : i - l.length = 0 := by
      cases hk : i - l.length with
      | zero => rfl
      | succ k => rw [hk] at hu; simp at hu
    rw [hi2] at hu
    obtain rfl : t = u := Option.some.inj hu
    exact ⟨b, by rw [List.getElem?_append_right (by rw [h.1]; omega), h.1, hi2]; rfl, e⟩
theorem TrV.at_ {H : Hp} {vs : List V} {l : List Tr} (h : TrV H vs l) {i : Nat} {x : V} (e : vs[i]? = some x) : ∃ b t, x = .ref b ∧ l[i]? = some t ∧ H b = some (.tup (tv t)) := by
  have hi : i < l.length := by
    rw [← h.1]
    exact (List.getElem?_eq_some_iff.mp e).1
  obtain ⟨b, e1, e2⟩ := h.2 i l[i] (List.getElem?_eq_getElem hi)
  rw [e] at e1
  exact ⟨b, l[i], Option.some.inj e1, List.getElem?_eq_getElem hi, e2⟩
theorem SqB.same {K : PySem.W.Frag} {H H' : Hp} {a : Addr} {xs : List V} (s : Same H H') (h : SqB K H a xs) : SqB K H' a xs := by
  rcases h with h | ((h | ⟨o, h⟩) | h)
  · exact .inl (s.seq h)
  · exact .inr (.inl (.inl (s _ _ h)))
  · exact .inr (.inl (.inr ⟨o, s _ _ h⟩))
  · exact .inr (.inr h)
theorem Trip.sq {K : PySem.W.Frag} {H : Hp} {a : Addr} {l : List Tr} (h : Trip H a l) : ∃ vs, SqB K H a vs ∧ TrV H vs l := by
  obtain ⟨vs, e, t⟩ := h
  exact ⟨vs, .inr (.inl (.inl e)), t⟩
theorem TripL.sq {K : PySem.W.Frag} {H : Hp} {a : Addr} {l : List Tr} (h : TripL H a l) : ∃ vs, SqB K H a vs ∧ TrV H vs l := by
  obtain ⟨vs, e, t⟩ := h
  exact ⟨vs, .inl (.inl (.inl e)), t⟩
/-- a loop over a list or a tuple: what stood in Hb stands in each turn -/
theorem for_same {K : PySem.W.Frag} {a : Addr} {xs : List V} {g : TG} {tb : TS} {D : Ends} {σ : L2.St} {H Hb : Hp} (hB : SqB K Hb a xs) (Pv : Nat → L2.St → Hp → Prop) (h0 : Pv 0 σ H) (hk : ∀ i σ' H', Pv i σ' H' → Same Hb H')
    (hs : ∀ i x σ H, xs[i]? = some x → Pv i σ H → g x σ H fun σ2 H2 => tb { D with nx := Pv (i + 1), ct := Pv (i + 1), bk := D.nx } σ2 H2) (hd : ∀ σ H, Pv xs.length σ H → D.nx σ H) :
    ((∃ xs, SqL K H a xs) ∧ ∃ W : Nat → Nat → L2.St → Hp → Prop, (∃ m, W 0 m σ H) ∧ ∀ i m σ H, W i m σ H →
      ((Itl K a).stop i H ∧ D.nx σ H) ∨ ((Itl K a).go i H ∧ ∃ N : L2.St → Hp → Prop, (∀ σ' H', N σ' H' → ∃ m', m' < m ∧ W (i + 1) m' σ' H') ∧ ∀ x H', (Itl K a).yld i H x H' → g x σ H' fun σ2 H2 => tb { D with nx := N, ct := N, bk := D.nx } σ2 H2)) ∨
    ((∃ xs, SqT K H a xs) ∧ ∃ W : Nat → Nat → L2.St → Hp → Prop, (∃ m, W 0 m σ H) ∧ ∀ i m σ H, W i m σ H →
      ((Itt K a).stop i H ∧ D.nx σ H) ∨ ((Itt K a).go i H ∧ ∃ N : L2.St → Hp → Prop, (∀ σ' H', N σ' H' → ∃ m', m' < m ∧ W (i + 1) m' σ' H') ∧ ∀ x H', (Itt K a).yld i H x H' → g x σ H' fun σ2 H2 => tb { D with nx := N, ct := N, bk := D.nx } σ2 H2)) := by
  have tup : ∀ {H'}, SqT K Hb a xs → Same Hb H' → SqT K H' a xs := fun h s => by
    rcases h with (h | ⟨o, h⟩) | h
    · exact .inl (.inl (s _ _ h))
    · exact .inl (.inr ⟨o, s _ _ h⟩)
    · exact .inr h
  rcases hB with h | h
  · exact .inl ⟨⟨xs, (hk 0 σ H h0).seq h⟩, for_list Pv h0 (fun i σ' H' _ p => (hk i σ' H' p).seq h) hs hd⟩
  · exact .inr ⟨⟨xs, tup h (hk 0 σ H h0)⟩, for_tup Pv h0 (fun i σ' H' _ p => tup h (hk i σ' H' p)) hs hd⟩
theorem kitTrue {K : PySem.W.Frag} {t : Value} : PySem.W.kitOne K t t = some true := by
  unfold PySem.W.kitOne
  rw [if_pos (beq_self_eq_true t)]
section
variable {P : Program} {w : World} {K : PySem.W.Frag} {mg : Str → Option Value} {base : Heap}
structure Df (K : PySem.W.Frag) (mg : Str → Option Value) (x : Str) (st : Stmt) (ps : List Str) (f : Addr) (fd : FuncData) : Prop where
  F : Fun K x x st f fd
  g : mg x = some (.ref f)
  b : Binds K fd ps []
/-- the built-ins that the text calls -/
structure Bi (mg : Str → Option Value) : Prop where
  b_max : mg "max" = none
  b_min : mg "min" = none
  b_tuple : mg "tuple" = none
  b_range : mg "range" = none
  b_isinstance : mg "isinstance" = none
  b_int : mg "int" = none
  b_bool : mg "bool" = none
  b_len : mg "len" = none
  b_list : mg "list" = none
  b_str : mg "str" = none
  b_sorted : mg "sorted" = none
  b_sum : mg "sum" = none
/-! ### kinds -/
def spWhole : Sp := fun vs H Q _ => ∃ i : Int, vs = [.int i] ∧ Q (.bl true) H
theorem ok_whole {f : Addr} {fd : FuncData} (F : Fun K "is_whole" "is_whole" s_is_whole f fd) (T : Bi mg) : FnOk P w K mg base CX0 1 f fd ["value"] spWhole := by
  refine F.ok sc_is_whole (fun vs H Q E h => ?_) (fun cdv A outer s H vs Q E hr h => ?_)
  · obtain ⟨i, rfl, _⟩ := h
    rfl
  · obtain ⟨i, rfl, q⟩ := h
    refine ⟨_, (pss_one (ps_ret (pe_and (pe_callB call_isi (by rfl) T.b_isinstance (by decide +kernel) (pa_cons (pv 0) (pa_cons (pe_bltn (v := .ty "int") (by rfl) T.b_int (by decide +kernel) rfl) pa_nil))) (pe_one (pe_not (pe_callB call_isi (by rfl) T.b_isinstance (by decide +kernel) (pa_cons (pv 0) (pa_cons (pe_bltn (v := .ty "bool") (by rfl) T.b_bool (by decide +kernel) rfl) pa_nil)))))))), ?_⟩
    refine ⟨_, rfl, _, _, _, _, true, rfl, .ty "int", .base (.int i), kit_ty (by decide +kernel), true, rfl, ?_⟩
    exact ⟨_, rfl, _, _, _, _, false, rfl, .ty "bool", .base (.int i), kit_ty (by decide +kernel), false, rfl, q⟩
def spSeq : Sp := fun vs H Q _ => ∃ (a : Addr) (xs : List V), vs = [.ref a] ∧ H a = some (.tup xs) ∧ ∀ H', Same H H' → Q (.bl true) H'
theorem ok_seq {f : Addr} {fd : FuncData} (F : Fun K "is_sequence" "is_sequence" s_is_sequence f fd) (T : Bi mg) : FnOk P w K mg base CX0 1 f fd ["value"] spSeq := by
  refine F.ok sc_is_sequence (fun vs H Q E h => ?_) (fun cdv A outer s H vs Q E hr h => ?_)
  · obtain ⟨a, xs, rfl, _⟩ := h
    rfl
  · obtain ⟨a, xs, rfl, ha, q⟩ := h
    refine ⟨_, (pss_one (ps_ret (pe_callB call_isiT (by rfl) T.b_isinstance (by decide +kernel) (pa_cons (pv 0) (pa_cons (pe_tup (pa_cons (pe_bltn (v := .ty "list") (by rfl) T.b_list (by decide +kernel) rfl) (pa_cons (pe_bltn (v := .ty "tuple") (by rfl) T.b_tuple (by decide +kernel) rfl) pa_nil))) pa_nil))))), ?_⟩
    refine ⟨_, rfl, by show 2 ≤ sizeLine; decide, fun p np => ?_⟩
    have s1 : Same H (upd H p (.tup [.ty "list", .ty "tuple"])) := same_upd np
    exact ⟨_, p, _, _, _, true, rfl, upd_same, .cons (.ty "list") (.cons (.ty "tuple") .nil), .base (.tup (s1 _ _ ha)), kitAny_cons (b := false) (kit_ty (by decide +kernel)) (fun _ => kitAny_cons (b := true) (kit_ty (by decide +kernel)) (fun z => by cases z) (fun _ => rfl)) (fun z => by cases z), q _ s1⟩
def spBelow : Sp := fun vs H Q _ => ∃ x n : Int, vs = [.int x, .int n] ∧ 0 ≤ x ∧ x < n ∧ Q (.bl true) H
theorem ok_below {f : Addr} {fd : FuncData} (F : Fun K "is_below" "is_below" s_is_below f fd) (T : Bi mg) {f_w : Addr} {d_w : FuncData} (D_w : Df K mg "is_whole" s_is_whole ["value"] f_w d_w) : FnOk P w K mg base CX0 2 f fd ["value", "bound"] spBelow := by
  have G_w : FnOk P w K mg base CX0 1 f_w d_w ["value"] spWhole := ok_whole D_w.F T
  refine F.ok sc_is_below (fun vs H Q E h => ?_) (fun cdv A outer s H vs Q E hr h => ?_)
  · obtain ⟨x, n, rfl, _⟩ := h
    rfl
  · obtain ⟨x, n, rfl, h0, h1, q⟩ := h
    refine ⟨_, (pss_one (ps_ret (pe_and (pe_call G_w hr (by rfl) D_w.g D_w.F.kp D_w.b .nil pass0 (pa_cons (pv 0) pa_nil)) (pe_one (pe_chain op_le op_lt pe_int (pv 0) (pv 1)))))), ?_⟩
    refine ⟨_, rfl, x, rfl, true, rfl, ?_⟩
    refine ⟨_, rfl, 0, x, rfl, rfl, _, rfl, ?_⟩
    rw [decide_eq_true h0, if_pos rfl]
    refine ⟨_, rfl, x, n, rfl, rfl, ?_⟩
    show Q (.bl (decide (x < n))) H
    rw [decide_eq_true h1]
    exact q
def spCkPins : Sp := fun vs H Q _ => ∃ n : Int, vs = [.int n] ∧ 0 ≤ n ∧ Q .non H
theorem ok_ckpins {f : Addr} {fd : FuncData} (F : Fun K "check_pins" "check_pins" s_check_pins f fd) (T : Bi mg) {f_w : Addr} {d_w : FuncData} (D_w : Df K mg "is_whole" s_is_whole ["value"] f_w d_w) : FnOk P w K mg base CX0 2 f fd ["pins"] spCkPins := by
  have G_w : FnOk P w K mg base CX0 1 f_w d_w ["value"] spWhole := ok_whole D_w.F T
  refine F.ok sc_check_pins (fun vs H Q E h => ?_) (fun cdv A outer s H vs Q E hr h => ?_)
  · obtain ⟨n, rfl, _⟩ := h
    rfl
  · obtain ⟨n, rfl, h0, q⟩ := h
    refine ⟨_, (pss_one (ps_if (PW.pt (pw_or (pt_not (pt_val (pe_call G_w hr (by rfl) D_w.g D_w.F.kp D_w.b .nil pass0 (pa_cons (pv 0) pa_nil)))) (pw_or1 (pt_cmpR op_lt (pv 0) pe_int (nomark _))))) (pss_one ps_never) pss_nil)), ?_⟩
    refine ⟨_, rfl, n, rfl, true, rfl, ?_⟩
    refine ⟨_, rfl, n, 0, rfl, rfl, _, rfl, ?_⟩
    rw [decide_eq_false (by omega)]
    exact q
def spCkPin : Sp := fun vs H Q _ => ∃ n x : Int, vs = [.int n, .int x] ∧ 0 ≤ x ∧ x < n ∧ Q .non H
theorem ok_ckpin {f : Addr} {fd : FuncData} (F : Fun K "check_pin" "check_pin" s_check_pin f fd) (T : Bi mg) {f_w : Addr} {d_w : FuncData} (D_w : Df K mg "is_whole" s_is_whole ["value"] f_w d_w) {f_b : Addr} {d_b : FuncData} (D_b : Df K mg "is_below" s_is_below ["value", "bound"] f_b d_b) : FnOk P w K mg base CX0 3 f fd ["pins", "pin"] spCkPin := by
  have G_b : FnOk P w K mg base CX0 2 f_b d_b ["value", "bound"] spBelow := ok_below D_b.F T D_w
  refine F.ok sc_check_pin (fun vs H Q E h => ?_) (fun cdv A outer s H vs Q E hr h => ?_)
  · obtain ⟨n, x, rfl, _⟩ := h
    rfl
  · obtain ⟨n, x, rfl, h0, h1, q⟩ := h
    refine ⟨_, (pss_one (ps_if (pt_not (pt_val (pe_call G_b hr (by rfl) D_b.g D_b.F.kp D_b.b .nil pass0 (pa_cons (pv 1) (pa_cons (pv 0) pa_nil))))) (pss_one ps_never) pss_nil)), ?_⟩
    exact ⟨_, rfl, _, rfl, x, n, rfl, h0, h1, true, rfl, q⟩
def spEntry : Sp := fun vs H Q _ => ∃ (n : Int) (b : Addr) (t : Tr), vs = [.int n, .ref b] ∧ H b = some (.tup (tv t)) ∧ Vld n t ∧ ∀ H', Same H H' → Q (.bl true) H'
theorem ok_entry {f : Addr} {fd : FuncData} (F : Fun K "is_entry" "is_entry" s_is_entry f fd) (T : Bi mg) {f_w : Addr} {d_w : FuncData} (D_w : Df K mg "is_whole" s_is_whole ["value"] f_w d_w) {f_b : Addr} {d_b : FuncData} (D_b : Df K mg "is_below" s_is_below ["value", "bound"] f_b d_b) {f_q : Addr} {d_q : FuncData} (D_q : Df K mg "is_sequence" s_is_sequence ["value"] f_q d_q) : FnOk P w K mg base CX0 3 f fd ["pins", "entry"] spEntry := by
  have G_w : FnOk P w K mg base CX0 1 f_w d_w ["value"] spWhole := ok_whole D_w.F T
  have G_b : FnOk P w K mg base CX0 2 f_b d_b ["value", "bound"] spBelow := ok_below D_b.F T D_w
  have G_q : FnOk P w K mg base CX0 1 f_q d_q ["value"] spSeq := ok_seq D_q.F T
  refine F.ok sc_is_entry (fun vs H Q E h => ?_) (fun cdv A outer s H vs Q E hr h => ?_)
  · obtain ⟨n, b, t, rfl, _⟩ := h
    rfl
  · obtain ⟨n, b, t, rfl, hb, hv, q⟩ := h
    refine ⟨_, (pss_cons (ps_if (PW.pt (pw_or (pt_not (pt_val (pe_call G_q (hr.mono (by decide)) (by rfl) D_q.g D_q.F.kp D_q.b .nil pass0 (pa_cons (pv 1) pa_nil)))) (pw_or1 (pt_cmpR op_ne (pe_callB call_len_seq (by rfl) T.b_len PySem.boot_len (pa_cons (pv 1) pa_nil)) pe_int (nomark _))))) (pss_one (ps_ret pe_bl)) pss_nil)
        (pss_cons (ps_asg (pv 1) (pg_tup (by rfl) (pgs_cons (pg_name (i := 2) sc_is_entry.nd rfl (.inl rfl)) (pgs_cons (pg_name (i := 3) sc_is_entry.nd rfl (.inl rfl)) (pgs_cons (pg_name (i := 4) sc_is_entry.nd rfl (.inl rfl)) pgs_nil)))))
        (pss_one (ps_ret (pe_and (pe_call G_b hr (by rfl) D_b.g D_b.F.kp D_b.b .nil pass0 (pa_cons (pv 2) (pa_cons (pv 0) pa_nil))) (pe_and (pe_call G_b hr (by rfl) D_b.g D_b.F.kp D_b.b .nil pass0 (pa_cons (pv 3) (pa_cons (pv 0) pa_nil))) (pe_and (pe_cmpR op_ne (pv 2) (pv 3) (nomark _)) (pe_and (pe_call G_w (hr.mono (by decide)) (by rfl) D_w.g D_w.F.kp D_w.b .nil pass0 (pa_cons (pv 4) pa_nil)) (pe_one (pe_cmpR op_ge (pv 4) pe_int (nomark _))))))))))), ?_⟩
    obtain ⟨v0, v1, v2, v3, v4, v5⟩ := hv
    refine ⟨_, rfl, b, _, rfl, hb, fun H1 sm => ⟨true, rfl, ?_⟩⟩
    have hT : SqT K H1 b (tv t) := .inl (.inl (sm _ _ hb))
    refine ⟨_, rfl, b, _, rfl, .inr hT, rfl, _, rfl, iteNS rfl ?_⟩
    refine ⟨_, rfl, b, _, rfl, hT, rfl, _, _, rfl, _, _, rfl, _, _, rfl, rfl, ?_⟩
    refine ⟨_, rfl, _, rfl, t.1, n, rfl, v0, v1, true, rfl, ?_⟩
    refine ⟨_, rfl, _, rfl, t.2.1, n, rfl, v2, v3, true, rfl, ?_⟩
    refine ⟨_, rfl, _, rfl, rfl, _, rfl, ?_⟩
    rw [decide_eq_false (fun z => v4 (V.int.inj z))]
    refine ⟨_, rfl, t.2.2, rfl, true, rfl, ?_⟩
    refine ⟨_, rfl, t.2.2, 1, rfl, rfl, ?_⟩
    show Q (.bl (decide (1 ≤ t.2.2))) H1
    rw [decide_eq_true v5]
    exact q H1 sm
end
end Own

/-! The dict of a lot that is made. -/
namespace Own
open PySem PySem.Spec PyProof.Rows L2
def kk (p : Int × Int) : List Key := [.inl p.1, .inl p.2]
theorem kk_inj {p q : Int × Int} (h : kk p = kk q) : p = q := by
  unfold kk at h
  injection h with h1 h2
  injection h2 with h3 _
  injection h1 with h1
  injection h3 with h3
  exact Prod.ext h1 h3
structure DInv (kvs : List (List Key × V)) (m : List Tr) : Prop where
  val : ∀ p, valV kvs (kk p) = if p ∈ m.map ky then some (.int (tot p m)) else none
  frm : ∀ kv ∈ kvs, ∃ p, kv.1 = kk p
  nd : (kvs.map (·.1)).Nodup
theorem DInv.nil : DInv [] [] := ⟨fun p => rfl, fun kv (h : kv ∈ []) => absurd h List.not_mem_nil, List.nodup_nil⟩
theorem putK_keys {kvs : List (List Key × V)} {k : List Key} {v : V} : (∃ x, valV kvs k = some x) → (putK kvs k v).map (·.1) = kvs.map (·.1) := fun ⟨x, h⟩ => by
  unfold putK
  rw [valV_any, h]
  show (kvs.map _).map _ = _
  rw [List.map_map]
  refine List.map_congr_left fun kv _ => ?_
  show (if kv.1 = k then (kv.1, v) else kv).1 = kv.1
  split <;> rfl
theorem not_key {kvs : List (List Key × V)} {k : List Key} (h : valV kvs k = none) : k ∉ kvs.map (·.1) := fun m => by
  have a := valV_any k kvs
  rw [h] at a
  obtain ⟨kv, hm, e⟩ := List.mem_map.mp m
  have : (kvs.any fun kv => decide (kv.1 = k)) = true := List.any_eq_true.mpr ⟨kv, hm, decide_eq_true e⟩
  rw [this] at a
  cases a
theorem tot_snoc (p : Int × Int) (m : List Tr) (t : Tr) : tot p (m ++ [t]) = tot p m + (if ky t = p then t.2.2 else 0) := by
  unfold tot
  rw [bk_append]
  show _ + ((if decide (ky t = p) = true then t.2.2 else 0) + 0) = _
  by_cases h : ky t = p
  · rw [if_pos (decide_eq_true h), if_pos h]
    omega
  · rw [if_neg (by rw [decide_eq_false h]; decide), if_neg h]
    omega
theorem tot_out {p : Int × Int} {m : List Tr} (h : p ∉ m.map ky) : tot p m = 0 := by
  induction m with
  | nil => rfl
  | cons t r ih =>
    rw [tot_cons, ih fun z => h (by rw [List.map_cons]; exact List.mem_cons_of_mem _ z), if_neg fun z => h (by rw [List.map_cons, z]; exact List.mem_cons_self)]
    rfl
/-- what stands there, or 0 -/
theorem DInv.get {kvs : List (List Key × V)} {m : List Tr} (d : DInv kvs m) (p : Int × Int) : (valV kvs (kk p)).getD (.int 0) = .int (tot p m) := by
  rw [d.val]
  split
  · rfl
  · rename_i h
    rw [tot_out h]
    rfl
theorem DInv.put {kvs : List (List Key × V)} {m : List Tr} (d : DInv kvs m) (t : Tr) : DInv (putK kvs (kk (ky t)) (.int (tot (ky t) m + t.2.2))) (m ++ [t]) := by
  refine ⟨fun p => ?_, fun kv h => ?_, ?_⟩
  · rw [valV_put, d.val, tot_snoc, List.map_append]
    by_cases h : p = ky t
    · subst h
      rw [if_pos rfl, if_pos (List.mem_append_right _ (by rw [List.map_cons]; exact List.mem_cons_self)), if_pos rfl]
    · have hne : ¬ ky t = p := fun z => h z.symm
      rw [if_neg fun z : kk p = kk (ky t) => h (kk_inj z)]
      by_cases hm : p ∈ m.map ky
      · rw [if_pos hm, if_pos (List.mem_append_left _ hm), if_neg hne, Int.add_zero]
      · rw [if_neg hm, if_neg fun z => by
          rcases List.mem_append.mp z with z | z
          · exact hm z
          · exact h (List.mem_singleton.mp z)]
  · cases e : valV kvs (kk (ky t)) with
    | none =>
      rw [putK_new _ e] at h
      rcases List.mem_append.mp h with h | h
      · exact d.frm kv h
      · exact ⟨ky t, by rw [List.mem_singleton.mp h]⟩
    | some x =>
      have hk : kv.1 ∈ (putK kvs (kk (ky t)) (.int (tot (ky t) m + t.2.2))).map (·.1) := List.mem_map.mpr ⟨kv, h, rfl⟩
      rw [putK_keys ⟨x, e⟩] at hk
      obtain ⟨kv2, h2, e2⟩ := List.mem_map.mp hk
      obtain ⟨p, hp⟩ := d.frm kv2 h2
      exact ⟨p, by rw [← e2]; exact hp⟩
  · cases e : valV kvs (kk (ky t)) with
    | none =>
      rw [putK_new _ e, List.map_append]
      exact List.nodup_append.mpr ⟨d.nd, by simp, fun a ha b hb z => not_key e (by
        have hb2 : b = kk (ky t) := List.mem_singleton.mp hb
        rw [hb2] at z
        rw [← z]
        exact ha)⟩
    | some x =>
      rw [putK_keys ⟨x, e⟩]
      exact d.nd
theorem putK_len {kvs : List (List Key × V)} {k : List Key} {v : V} : (putK kvs k v).length ≤ kvs.length + 1 := by
  cases e : valV kvs k with
  | none =>
    rw [putK_new _ e, List.length_append]
    exact Nat.le_refl _
  | some x =>
    have := congrArg List.length (putK_keys (v := v) ⟨x, e⟩)
    rw [List.length_map, List.length_map] at this
    omega
theorem DInv.mem {kvs : List (List Key × V)} {m : List Tr} (d : DInv kvs m) (p : Int × Int) : kk p ∈ kvs.map (·.1) ↔ p ∈ m.map ky := by
  constructor
  · intro h
    by_cases hm : p ∈ m.map ky
    · exact hm
    · exact absurd h (not_key (by rw [d.val, if_neg hm]))
  · intro h
    have e := d.val p
    rw [if_pos h] at e
    have a := valV_any (kk p) kvs
    rw [e] at a
    obtain ⟨kv, hm, hk⟩ := List.any_eq_true.mp a
    exact List.mem_map.mpr ⟨kv, hm, of_decide_eq_true hk⟩
/-- the sorted keys, strictly in order -/
theorem sorted_lex {xs : List (Int × Int)} (hn : xs.Nodup) (hs : xs.Pairwise fun x y => SrtO.lexB y x = false) : xs.Pairwise Lex := by
  refine List.Pairwise.imp₂ (R := fun x y => SrtO.lexB y x = false) (S := fun x y => x ≠ y) ?_ hs hn
  intro a b h1 h2
  have h3 := SrtO.lexB_no.mp h1
  unfold Lex
  have h4 : ¬ (a.1 = b.1 ∧ a.2 = b.2) := fun z => h2 (Prod.ext z.1 z.2)
  omega
end Own

namespace Own
open PySem PySem.Spec PyProof.Rows L2
def SameT (H H' : Hp) : Prop := ∀ b o, H b = some (.tup o) → H' b = some (.tup o)
theorem TrV.sameT {H H' : Hp} {vs : List V} {l : List Tr} (s : SameT H H') (h : TrV H vs l) : TrV H' vs l := ⟨h.1, fun i t e => by
  obtain ⟨b, e1, e2⟩ := h.2 i t e
  exact ⟨b, e1, s _ _ e2⟩⟩
theorem sameT_put {H H' : Hp} {D : Addr} {vs ws : List V} (e : H D = some (.lst vs)) (s : Same H H') : SameT H (upd H' D (.lst ws)) := fun b o h => by
  have hb : b ≠ D := fun z => by
    rw [z, e] at h
    cases h
  rw [upd_ne hb]
  exact s _ _ h
theorem same_put {H H1 H' : Hp} {D : Addr} {o : HO} (n : H D = none) (s : Same H H') : Same H (upd H' D o) := fun b u h => by
  rw [upd_ne (ne_of_none h n)]
  exact s _ _ h
theorem keys_of {H : Hp} {kvs : List (List Key × V)} {bs : List Addr} (h : IsKeys H kvs bs) (f : ∀ kv ∈ kvs, ∃ p, kv.1 = kk p) : ((bs.map V.ref).map (kOf H)).map kk = kvs.map (·.1) ∧ ∀ b ∈ bs, ∃ p : Int × Int, H b = some (.tup [.int p.1, .int p.2]) := by
  unfold IsKeys at h
  induction h with
  | nil => exact ⟨rfl, fun b h => by cases h⟩
  | @cons kv b ks bs hb t ih =>
    obtain ⟨p, hp⟩ := f kv List.mem_cons_self
    rw [hp] at hb
    have hb2 : H b = some (.tup [.int p.1, .int p.2]) := hb
    obtain ⟨i1, i2⟩ := ih fun kv h => f kv (List.mem_cons_of_mem _ h)
    refine ⟨?_, fun c hc => ?_⟩
    · rw [List.map_cons, List.map_cons, List.map_cons, List.map_cons, i1, kOf_at hb2, hp]
    · rcases List.mem_cons.mp hc with e | e
      · exact ⟨p, by rw [e]; exact hb2⟩
      · exact i2 c e
section
variable {P : Program} {w : World} {K : PySem.W.Frag} {mg : Str → Option Value} {base : Heap}
/-! ### the entries of a lot, gathered -/
def spGathered (K : PySem.W.Frag) : Sp := fun vs H Q _ => ∃ (n : Int) (a : Addr) (xs : List V) (l : List Tr), vs = [.int n, .ref a] ∧ SqB K H a xs ∧ TrV H xs l ∧ (∀ t ∈ l, Vld n t) ∧ l.length ≤ 1000 ∧
  ∀ H' c r, Same H H' → H c = none → Trip H' c r → IsNorm l r → Q (.ref c) H'
theorem ok_gathered {f : Addr} {fd : FuncData} (F : Fun K "gathered" "gathered" s_gathered f fd) (T : Bi mg) {f_e : Addr} {d_e : FuncData} (D_e : Df K mg "is_entry" s_is_entry ["pins", "entry"] f_e d_e) (G_e : FnOk P w K mg base CX0 3 f_e d_e ["pins", "entry"] spEntry) :
    FnOk P w K mg base CX0 4 f fd ["pins", "entries"] (spGathered K) := by
  refine F.ok sc_gathered (fun vs H Q E h => ?_) (fun cdv A outer s H vs Q E hr h => ?_)
  · obtain ⟨n, a, xs, l, rfl, _⟩ := h
    rfl
  · obtain ⟨n, a, xs, l, rfl, hB, hx, hv, hl, q⟩ := h
    have hu := hu_of hr
    refine ⟨_, (pss_cons (ps_set (i := 2) sc_gathered.nd rfl (.inr rfl) pe_dnewT)
        (pss_cons (ps_for PassesOwn.never rfl (pi_seq (pv 1)) (pg_name (i := 3) sc_gathered.nd rfl (.inl rfl))
        (pss_cons (ps_if (pt_not (pt_val (pe_call G_e hr (by rfl) D_e.g D_e.F.kp D_e.b .nil pass0 (pa_cons (pv 0) (pa_cons (pv 3) pa_nil))))) (pss_one ps_never) pss_nil)
        (pss_cons (ps_asg (pv 3) (pg_tup (by rfl) (pgs_cons (pg_name (i := 5) sc_gathered.nd rfl (.inl rfl)) (pgs_cons (pg_name (i := 6) sc_gathered.nd rfl (.inl rfl)) (pgs_cons (pg_name (i := 7) sc_gathered.nd rfl (.inl rfl)) pgs_nil)))))
        (pss_cons (ps_set (i := 4) sc_gathered.nd rfl (.inl rfl) (pe_tup (pa_cons (pe_callB (call_min2 rfl) (by rfl) T.b_min (by decide +kernel) (pa_cons (pv 5) (pa_cons (pv 6) pa_nil))) (pa_cons (pe_callB (call_max2 rfl) (by rfl) T.b_max (by decide +kernel) (pa_cons (pv 5) (pa_cons (pv 6) pa_nil))) pa_nil))))
        (pss_one (ps_dput hu (pv 2) (pv 4) (pe_op op_add (pe_dget2 hu (pv 2) (pv 4) pe_int ⟨rfl, rfl, rfl, rfl⟩) (pv 7)) rfl))))))
        (pss_one (ps_ret (pe_callTy call_tuple_of (by rfl) T.b_tuple (by decide +kernel) (pa_cons (pe_lc (own := [("a", 5), ("b", 6)]) (g := gTup K 2 (gCons (gName 5) (gCons (gName 6) gNil))) (tt := tYes) rfl sc_gathered.nd (pi_list (pe_callB (cr_sortedDT rfl) (by rfl) T.b_sorted (by decide +kernel) (pa_cons (pv 2) pa_nil))) (blkOk_by (own := [("a", 5), ("b", 6)]) (N := ["pins", "entries", "held", "entry", "pair", "a", "b", "many"]) (sc := defScope s_gathered) (by decide +kernel)) (fun _ _ _ _ _ => (pg_tup (by rfl) (pgs_cons (pg_name (i := 5) sc_gathered.nd rfl (.inl rfl)) (pgs_cons (pg_name (i := 6) sc_gathered.nd rfl (.inl rfl)) pgs_nil)))) (fun _ _ _ _ _ => pts_nil) (fun _ _ _ _ _ => (pe_tup (pa_cons (pv 5) (pa_cons (pv 6) (pa_cons (pe_dget hu (pv 2) (pe_tup (pa_cons (pv 5) (pa_cons (pv 6) pa_nil))) (fun _ _ => rfl)) pa_nil)))))) pa_nil)))))), ?_⟩
    intro d hd
    refine ⟨_, rfl, a, rfl, for_same (Hb := H) hB (fun i σ H' => ∃ kvs y3 y4 y5 y6 y7, σ = [some (.int n), some (.ref a), some (.ref d), y3, y4, y5, y6, y7] ∧ H' d = some (.dT kvs) ∧ DInv kvs (l.take i) ∧ kvs.length ≤ i ∧ Same H H') ⟨[], none, none, none, none, none, rfl, upd_same, DInv.nil, Nat.le_refl _, same_upd hd⟩ (fun i σ' H' p => by obtain ⟨_, _, _, _, _, _, _, _, _, _, s⟩ := p; exact s) (fun i x σ H' hxi p => ?_) (fun σ H' p => ?_)⟩
    · obtain ⟨kvs, y3, y4, y5, y6, y7, rfl, ed, dI, klen, sm⟩ := p
      obtain ⟨b, t, rfl, hti, hb⟩ := (hx.same sm).at_ hxi
      have hil : i < l.length := (List.getElem?_eq_some_iff.mp hti).1
      have hvt : Vld n t := hv t (List.mem_of_getElem? hti)
      refine ⟨_, rfl, _, rfl, n, b, t, rfl, hb, hvt, fun H1 s1 => ⟨true, rfl, ?_⟩⟩
      refine ⟨_, rfl, b, _, rfl, .inl (.inl (s1 _ _ hb)), rfl, _, _, rfl, _, _, rfl, _, _, rfl, rfl, ?_⟩
      refine ⟨_, rfl, _, rfl, _, _, rfl, _, rfl, _, rfl, _, _, rfl, by show 2 ≤ sizeLine; decide, fun p np => ?_⟩
      have ed1 : (upd H1 p (.tup [.int (lo t.1 t.2.1), .int (hi t.1 t.2.1)])) d = some (.dT kvs) := by
        rw [upd_ne (ne_of_none (s1 _ _ ed) np)]
        exact s1 _ _ ed
      have ep : (upd H1 p (.tup [.int (lo t.1 t.2.1), .int (hi t.1 t.2.1)])) p = some (.tup ((kk (ky t)).map kV)) := upd_same
      refine ⟨_, rfl, d, rfl, .inr ⟨kvs, .inl ed1⟩, _, rfl, _, DGet.t ed1 ep, ?_⟩
      rw [dI.get]
      refine ⟨_, rfl, _, _, rfl, rfl, _, rfl, _, rfl, d, _, rfl, DPut.t ed1 ep (small1000 (by omega)), ?_⟩
      have hd1 : H1 d ≠ none := fun z => by rw [s1 _ _ ed] at z; cases z
      refine ⟨_, _, _, _, _, _, rfl, upd_same, ?_, Nat.le_trans putK_len (by omega), fun c o e => ?_⟩
      · rw [List.take_add_one, hti]
        exact dI.put t
      · rw [upd_ne (ne_of_none e hd)]
        exact same_upd np _ _ (s1 _ _ (sm _ _ e))
    · obtain ⟨kvs, y3, y4, y5, y6, y7, rfl, ed, dI, klen, sm⟩ := p
      rw [hx.1, List.take_length] at dI
      refine ⟨_, rfl, d, kvs, rfl, .inl ed, fun kv hkv => by obtain ⟨p, hp⟩ := dI.frm kv hkv; exact ⟨p.1, p.2, hp⟩, fun bs ys p0 hk hsrt hstb np0 => ?_⟩
      obtain ⟨kEq, kAt⟩ := keys_of hk dI.frm
      have hall : ∀ y ∈ ys, ∃ b, y = .ref b ∧ H' b = some (.tup [.int (kOf H' y).1, .int (kOf H' y).2]) := fun y hy => by
        obtain ⟨b, hb, rfl⟩ := List.mem_map.mp (hstb.perm.mem_iff.mp hy)
        obtain ⟨p, hp⟩ := kAt b hb
        exact ⟨b, rfl, by rw [kOf_at hp]; exact hp⟩
      have hperm : (ys.map (kOf H')).Perm ((bs.map V.ref).map (kOf H')) := hstb.perm.map _
      have hnd : (ys.map (kOf H')).Nodup := by
        refine hperm.nodup_iff.mpr ?_
        have := dI.nd
        rw [← kEq] at this
        unfold List.Nodup at this ⊢
        exact (List.pairwise_map.mp this).imp fun h e => h (congrArg kk e)
      have hmem : ∀ p, p ∈ ys.map (kOf H') ↔ p ∈ l.map ky := fun p => by
        rw [hperm.mem_iff, ← dI.mem p, ← kEq]
        exact ⟨fun m => List.mem_map.mpr ⟨p, m, rfl⟩, fun m => by
          obtain ⟨p2, m2, e2⟩ := List.mem_map.mp m
          rw [← kk_inj e2]
          exact m2⟩
      have hlex : (ys.map (kOf H')).Pairwise Lex := sorted_lex hnd (SrtO.srtd_map (lt := SrtO.lexB) (f := kOf H') hsrt)
      have hN : IsNorm l ((ys.map (kOf H')).map fun p => (p.1, p.2, tot p l)) := by
        have e1 : (((ys.map (kOf H')).map fun p => ((p.1, p.2, tot p l) : Tr))).map pr = ys.map (kOf H') := by
          rw [List.map_map]
          exact List.map_id' _
        refine ⟨by rw [e1]; exact hlex, fun p => by rw [e1]; exact hmem p, fun e he => ?_⟩
        obtain ⟨p, _, rfl⟩ := List.mem_map.mp he
        rfl
      have hylen : ys.length ≤ 1000 := by
        have h1 := hstb.perm.length_eq
        have h2 := congrArg List.length kEq
        rw [List.length_map] at h1
        rw [List.length_map, List.length_map, List.length_map, List.length_map] at h2
        rw [hx.1] at klen
        omega
      generalize hr0 : ((ys.map (kOf H')).map fun p => ((p.1, p.2, tot p l) : Tr)) = r at hN
      have hrl : r.length = ys.length := by rw [← hr0, List.length_map, List.length_map]
      have s0 : Same H' (upd H' p0 (.lst ys)) := same_upd np0
      refine ⟨p0, rfl, ⟨_, .inl (.inl upd_same)⟩, fun D hD => ?_⟩
      refine lc_list (K := K) (a := p0) (xs := ys) (fun i H2 => Same (upd H' p0 (.lst ys)) H2 ∧ ∃ vs, H2 D = some (.lst vs) ∧ TrV H2 vs (r.take i)) ⟨same_upd hD, [], upd_same, TrV.nil⟩ (fun i H2 _ p => .inl (.inl (p.1 _ _ upd_same))) (fun i x H2 hxi p => ?_) (fun H2 p => ?_)
      · obtain ⟨s2, vs, eD, tV⟩ := p
        obtain ⟨b, rfl, hb⟩ := hall x (List.mem_of_getElem? hxi)
        have hil : i < ys.length := (List.getElem?_eq_some_iff.mp hxi).1
        generalize hp : kOf H' (.ref b) = p at hb
        have hri : r[i]? = some (p.1, p.2, tot p l) := by
          rw [← hr0, List.getElem?_map, List.getElem?_map, hxi, ← hp]
          rfl
        have hpm : p ∈ l.map ky := (hmem p).mp (by rw [← hp]; exact List.mem_map.mpr ⟨_, List.mem_of_getElem? hxi, rfl⟩)
        have hval : valV kvs (kk p) = some (.int (tot p l)) := by
          rw [dI.val, if_pos hpm]
        have hb2 := s2 _ _ (s0 _ _ hb)
        have ed2 := s2 _ _ (s0 _ _ ed)
        refine ⟨b, _, rfl, .inl (.inl hb2), rfl, _, _, rfl, _, _, rfl, rfl, rfl, ?_⟩
        refine ⟨_, rfl, _, rfl, _, rfl, _, rfl, _, rfl, by show 2 ≤ sizeLine; decide, fun p1 np1 => ⟨d, .int (tot p l), rfl, ?_, ?_⟩⟩
        · have g := DGet.t (k := kk p) (b := p1) (H := upd H2 p1 (.tup [.int p.1, .int p.2])) (a := d) (kvs := kvs) (by rw [upd_ne (ne_of_none ed2 np1)]; exact ed2) upd_same
          rw [hval] at g
          exact g
        · refine ⟨by show 3 ≤ sizeLine; decide, fun p2 np2 => ?_⟩
          have s3 : Same H2 (upd (upd H2 p1 (.tup [.int p.1, .int p.2])) p2 (.tup [.int p.1, .int p.2, .int (tot p l)])) := (same_upd np1).trans (same_upd np2)
          refine ⟨vs, s3 _ _ eD, ?_, same_put (H1 := H2) hD (s2.trans s3), _, upd_same, ?_⟩
          · rw [tV.1, List.length_take]
            exact Nat.lt_of_le_of_lt (Nat.min_le_right _ _) (small1000 (by omega))
          · rw [List.take_add_one, hri]
            have nD : p2 ≠ D := fun z => by
              rw [z] at np2
              have := (same_upd (o := .tup [.int p.1, .int p.2]) np1) _ _ eD
              rw [this] at np2
              cases np2
            refine (tV.sameT (sameT_put eD s3)).snoc ?_
            rw [upd_ne nD, upd_same]
      · obtain ⟨s2, vs, eD, tV⟩ := p
        rw [← hrl, List.take_length] at tV
        refine ⟨D, vs, rfl, .inl ⟨.inl (.inl eD), fun c nc => ?_⟩⟩
        have sA : Same H (upd H2 c (.tup vs)) := ((sm.trans s0).trans s2).trans (same_upd nc)
        exact q _ c r sA (((sm.trans s0).trans s2).free nc) ⟨vs, upd_same, tV.same (same_upd nc)⟩ hN
end
end Own

namespace Own
open PySem PySem.Spec PyProof.Rows L2
/-! ### a lot as an object -/
theorem kpc : ¬ (("cords" : Str) = "pins") := by decide +kernel
theorem kpc2 : ¬ (("pins" : Str) = "cords") := by decide +kernel
def flds (n : Int) (c : Addr) : List (Str × V) := putF "cords" (.ref c) (putF "pins" (.int n) [])
theorem flds_pins (n : Int) (c : Addr) : (flds n c).lookup ("pins" : Str) = some (.int n) := by
  unfold flds
  rw [lookup_putF, if_neg kpc2, lookup_putF, if_pos rfl]
theorem flds_cords (n : Int) (c : Addr) : (flds n c).lookup ("cords" : Str) = some (.ref c) := by
  unfold flds
  rw [lookup_putF, if_pos rfl]
theorem flds_no (n : Int) (c : Addr) {m : Str} (h1 : ¬ m = "pins") (h2 : ¬ m = "cords") : (flds n c).lookup m = none := by
  unfold flds
  rw [lookup_putF, if_neg h2, lookup_putF, if_neg h1]
  all_goals rfl
/-- a lot stands at p -/
def LotAt (C : Addr) (H : Hp) (p : Addr) (n : Int) (cs : List Tr) : Prop := ∃ dx c, H p = some (.ins C dx (flds n c)) ∧ Trip H c cs
theorem LotAt.same {C : Addr} {H H' : Hp} {p : Addr} {n : Int} {cs : List Tr} (s : Same H H') (h : LotAt C H p n cs) : LotAt C H' p n cs := by
  obtain ⟨dx, c, e, t⟩ := h
  exact ⟨dx, c, s _ _ e, t.same s⟩
structure LotC (K : PySem.W.Frag) (mg : Str → Option Value) (C : Addr) : Prop where
  cl : Cls K C
  nP : NoAttr K C "pins"
  nC : NoAttr K C "cords"
  g : mg "Lot" = some (.ref C)
/-- a method of the text -/
structure Mt (K : PySem.W.Frag) (C : Addr) (m qual : Str) (st : Stmt) (ps : List Str) (f : Addr) (fd : FuncData) : Prop where
  F : Fun K m qual st f fd
  m : Meth K C m f
  b : Binds K fd ps []
abbrev FI (K : PySem.W.Frag) (z : Addr) (f : Addr) (fd : FuncData) : Prop := FunD K "__init__" "Lot.__init__" (defArgs s_Lot_init) (defBody s_Lot_init) (defScope s_Lot_init) [.ref z] [] f fd
section
variable {P : Program} {w : World} {K : PySem.W.Frag} {mg : Str → Option Value} {base : Heap} {C : Addr}
def spInit (K : PySem.W.Frag) (C : Addr) : Sp := fun vs H Q _ => ∃ (p dx : Addr) (n : Int) (a : Addr) (xs : List V) (l : List Tr), vs = [.ref p, .int n, .ref a] ∧ H p = some (.ins C dx []) ∧ 0 ≤ n ∧ SqB K H a xs ∧ TrV H xs l ∧ (∀ t ∈ l, Vld n t) ∧ l.length ≤ 1000 ∧
  ∀ H' c r, (∀ b o, H b = some o → b ≠ p → H' b = some o) → H' p = some (.ins C dx (flds n c)) → Trip H' c r → IsNorm l r → Q .non H'
theorem SqB.keep {K : PySem.W.Frag} {H H' : Hp} {a p : Addr} {xs : List V} {dx : Addr} {fs : List (Str × V)} (e : H p = some (.ins C dx fs)) (s : ∀ b o, H b = some o → b ≠ p → H' b = some o) (h : SqB K H a xs) : SqB K H' a xs := by
  have go : ∀ {o : HO}, H a = some o → (∀ D d f, o ≠ .ins D d f) → H' a = some o := fun {o} h n => s _ _ h fun z => by
    rw [z, e] at h
    exact n _ _ _ (Option.some.inj h).symm
  rcases h with ((h | ⟨o, h⟩) | h) | ((h | ⟨o, h⟩) | h)
  · exact .inl (.inl (.inl (go h fun _ _ _ z => by cases z)))
  · exact .inl (.inl (.inr ⟨o, go h fun _ _ _ z => by cases z⟩))
  · exact .inl (.inr h)
  · exact .inr (.inl (.inl (go h fun _ _ _ z => by cases z)))
  · exact .inr (.inl (.inr ⟨o, go h fun _ _ _ z => by cases z⟩))
  · exact .inr (.inr h)
theorem ok_init {z f : Addr} {fd : FuncData} (F : FI K z f fd) (T : Bi mg) (L : LotC K mg C) {f_k : Addr} {d_k : FuncData} (D_k : Df K mg "check_pins" s_check_pins ["pins"] f_k d_k) (G_k : FnOk P w K mg base CX0 2 f_k d_k ["pins"] spCkPins)
    {f_g : Addr} {d_g : FuncData} (D_g : Df K mg "gathered" s_gathered ["pins", "entries"] f_g d_g) (G_g : FnOk P w K mg base CX0 4 f_g d_g ["pins", "entries"] (spGathered K)) :
    FnOk P w K mg base CX0 5 f fd ["self", "pins", "cords"] (spInit K C) := by
  refine F.ok sc_Lot_init (fun vs H Q E h => ?_) (fun cdv A outer s H vs Q E hr h => ?_)
  · obtain ⟨p, dx, n, a, xs, l, rfl, _⟩ := h
    rfl
  · obtain ⟨p, dx, n, a, xs, l, rfl, ep, hn, hB, hx, hv, hl, q⟩ := h
    refine ⟨_, pss_cons (ps_expr (pe_call G_k (hr.mono (by decide)) (by rfl) D_k.g D_k.F.kp D_k.b .nil pass0 (pa_cons (pv 1) pa_nil)))
      (pss_cons (ps_fld (pv 0) (pv 1) rfl) (pss_one (ps_fld (pv 0) (pe_call G_g hr (by rfl) D_g.g D_g.F.kp D_g.b .nil pass0 (pa_cons (pv 1) (pa_cons (pv 2) pa_nil))) rfl))), ?_⟩
    refine ⟨_, rfl, n, rfl, hn, ?_⟩
    refine ⟨_, rfl, _, rfl, p, C, dx, [], rfl, ep, L.cl, L.nP, by show 0 < 1000; decide, ?_⟩
    have k1 : ∀ b o, H b = some o → b ≠ p → (upd H p (.ins C dx (putF "pins" (.int n) []))) b = some o := fun b o e nb => by
      rw [upd_ne nb]
      exact e
    have hx1 : TrV (upd H p (.ins C dx (putF "pins" (.int n) []))) xs l := hx.sameT fun b o e => k1 b _ e fun z => by
      rw [z, ep] at e
      cases e
    refine ⟨_, rfl, _, rfl, n, a, xs, l, rfl, hB.keep ep k1, hx1, hv, hl, fun H1 c r s1 nc tc hN => ?_⟩
    refine ⟨_, rfl, p, C, dx, _, rfl, s1 _ _ upd_same, L.cl, L.nC, by show 1 < 1000; decide, ?_⟩
    have s2 : ∀ b o, H1 b = some o → b ≠ p → (upd H1 p (.ins C dx (putF "cords" (.ref c) (putF "pins" (.int n) [])))) b = some o := fun b o e nb => by
      rw [upd_ne nb]
      exact e
    refine q _ c r (fun b o e nb => s2 b o (s1 b o (k1 b o e nb)) nb) upd_same ?_ hN
    obtain ⟨vs, e, t⟩ := tc
    have eH : H1 p = some (.ins C dx (putF "pins" (.int n) [])) := s1 _ _ upd_same
    refine ⟨vs, s2 _ _ e fun z => ?_, t.sameT fun b o h => s2 _ _ h fun z => ?_⟩
    · rw [z, eH] at e
      cases e
    · rw [z, eH] at h
      cases h
/-- Lot(n, entries) -/
theorem rd_make {n : Int} {a : Addr} {xs : List V} {l : List Tr} {H : Hp} {Q : VK} (hn : 0 ≤ n) (hB : SqB K H a xs) (hx : TrV H xs l) (hv : ∀ t ∈ l, Vld n t) (hl : l.length ≤ 1000) (q : ∀ H' x cs, Same H H' → LotAt C H' x n cs → IsNorm l cs → Q (.ref x) H') :
    ∀ x dx, H x = none → H dx = none → dx ≠ x → spInit K C (.ref x :: ([.int n, .ref a] ++ [])) (upd (upd H dx (.own x)) x (.ins C dx [])) (fun v H2 => v = .non ∧ Q (.ref x) H2) E0 := fun x dx nx nd ne => by
  have s1 : Same H (upd H dx (.own x)) := same_upd nd
  have nx1 : (upd H dx (.own x)) x = none := by
    rw [upd_ne ne.symm]
    exact nx
  have s2 : Same H (upd (upd H dx (.own x)) x (.ins C dx [])) := s1.trans (same_upd nx1)
  refine ⟨x, dx, n, a, xs, l, rfl, upd_same, hn, hB.same s2, hx.same s2, hv, hl, fun H' c r k e t hN => ⟨rfl, q H' x r (fun b o h => ?_) ⟨dx, c, e, t⟩ hN⟩⟩
  exact k b o (s2 b o h) (ne_of_none h nx)
/-! ### renamed pins -/
def gl (n : Int) (g : Int → Int) : List V := (List.range n.toNat).map fun j : Nat => V.int (g (j : Int))
theorem gl_at {n x : Int} (g : Int → Int) (h0 : 0 ≤ x) (h1 : x < n) : atI (gl n g) x = some (.int (g x)) := by
  have e : x = ((x.toNat : Nat) : Int) := by omega
  have hx : (gl n g)[x.toNat]? = some (.int (g x)) := by
    unfold gl
    rw [List.getElem?_map, List.getElem?_range (by omega)]
    show some (V.int (g ((x.toNat : Nat) : Int))) = _
    rw [← e]
  exact at_of e hx
def Inj (n : Int) (g : Int → Int) : Prop := ∀ x y, 0 ≤ x → x < n → 0 ≤ y → y < n → g x = g y → x = y
end
end Own

namespace Own
open PySem PySem.Spec PyProof.Rows L2
theorem rep_gl (v : V) (k : Nat) : (List.replicate k [v]).flatten = List.replicate k v := by
  induction k with
  | zero => rfl
  | succ k ih =>
    rw [List.replicate_succ, List.flatten_cons, ih]
    rfl
theorem gl_const (n v : Int) : List.replicate n.toNat (V.int v) = gl n fun _ => v := by
  unfold gl
  rw [List.map_const', List.length_range]
theorem gl_len (n : Int) (g : Int → Int) : (gl n g).length = n.toNat := by
  unfold gl
  rw [List.length_map, List.length_range]
theorem gl_congr {n : Int} {g h : Int → Int} (e : ∀ x, 0 ≤ x → x < n → g x = h x) : gl n g = gl n h := by
  unfold gl
  refine List.map_congr_left fun j hj => ?_
  have := List.mem_range.mp hj
  rw [e (j : Int) (by omega) (by omega)]
theorem gl_ix {n x : Int} (g : Int → Int) (h0 : 0 ≤ x) (h1 : x < n) : ixN (gl n g).length x = some x.toNat := by
  unfold ixN
  rw [gl_len, if_pos h0, if_pos (by omega)]
theorem gl_set {n x : Int} (g : Int → Int) (v : Int) (h0 : 0 ≤ x) (h1 : x < n) : (gl n g).set x.toNat (.int v) = gl n fun y => if y = x then v else g y := by
  unfold gl
  apply List.ext_getElem
  · rw [List.length_set, List.length_map, List.length_map]
  · intro j hj hj2
    rw [List.length_map, List.length_range] at hj2
    rw [List.getElem_set, List.getElem_map, List.getElem_map, List.getElem_range]
    by_cases e : x.toNat = j
    · rw [if_pos e]
      show V.int v = V.int (if ((j : Nat) : Int) = x then v else g j)
      rw [if_pos (by omega)]
    · rw [if_neg e]
      show V.int (g j) = V.int (if ((j : Nat) : Int) = x then v else g j)
      rw [if_neg (by omega)]
def endsOf (cs : List Tr) (x : Int) : Int := bs (fun q => decide (q.1 = x ∨ q.2 = x)) cs
theorem endsOf_snoc (cs : List Tr) (t : Tr) (x : Int) : endsOf (cs ++ [t]) x = endsOf cs x + (if t.1 = x ∨ t.2.1 = x then t.2.2 else 0) := by
  unfold endsOf
  rw [bs_append]
  show _ + ((if decide (t.1 = x ∨ t.2.1 = x) = true then t.2.2 else 0) + 0) = _
  by_cases h : t.1 = x ∨ t.2.1 = x
  · rw [if_pos (decide_eq_true h), if_pos h]
    omega
  · rw [if_neg (by rw [decide_eq_false h]; decide), if_neg h]
    omega
def totOf (cs : List Tr) : Int := (cs.map fun t => t.2.2).sum
theorem fmod_in (x : Int) {n : Int} (h : 0 < n) : 0 ≤ x.fmod n ∧ x.fmod n < n := by
  rw [Int.fmod_eq_emod_of_nonneg _ (Int.le_of_lt h)]
  exact ⟨Int.emod_nonneg _ (by omega), Int.emod_lt_of_pos _ h⟩
def sh (n s x : Int) : Int := (x + s).fmod n
def mi (n x : Int) : Int := n - 1 - x
theorem sh_in {n s x : Int} (h : 0 < n) : 0 ≤ sh n s x ∧ sh n s x < n := fmod_in _ h
theorem sub_mod {n a b : Int} (h : a % n = b % n) : (a - b) % n = 0 := by
  rw [Int.sub_emod, h, Int.sub_self, Int.zero_emod]
theorem sh_inj (n s : Int) : Inj n (sh n s) := fun x y x0 x1 y0 y1 e => by
  have n0 : 0 < n := by omega
  unfold sh at e
  rw [Int.fmod_eq_emod_of_nonneg _ (by omega), Int.fmod_eq_emod_of_nonneg _ (by omega)] at e
  have h1 := sub_mod e
  have h2 := sub_mod e.symm
  rw [show x + s - (y + s) = x - y by omega] at h1
  rw [show y + s - (x + s) = y - x by omega] at h2
  by_cases h : y ≤ x
  · rw [Int.emod_eq_of_lt (by omega) (by omega)] at h1
    omega
  · rw [Int.emod_eq_of_lt (by omega) (by omega)] at h2
    omega
theorem mi_inj (n : Int) : Inj n (mi n) := fun x y _ _ _ _ e => by
  unfold mi at e
  omega
theorem mi_in {n x : Int} (h0 : 0 ≤ x) (h1 : x < n) : 0 ≤ mi n x ∧ mi n x < n := by
  unfold mi
  omega
section
variable {P : Program} {w : World} {K : PySem.W.Frag} {mg : Str → Option Value} {base : Heap} {C : Addr}
/-! ### the ends at each pin -/
def spEap : Sp := fun vs H Q _ => ∃ (n : Int) (c : Addr) (cs : List Tr), vs = [.int n, .ref c] ∧ 0 ≤ n ∧ n ≤ 1000 ∧ Trip H c cs ∧ (∀ t ∈ cs, Vld n t) ∧ ∀ H' p, Same H H' → H p = none → H' p = some (.lst (gl n (endsOf cs))) → Q (.ref p) H'
theorem ok_eap {f : Addr} {fd : FuncData} (F : Fun K "ends_at_pins" "ends_at_pins" s_ends_at_pins f fd) (T : Bi mg) : FnOk P w K mg base CX0 1 f fd ["pins", "cords"] spEap := by
  refine F.ok sc_ends_at_pins (fun vs H Q E h => ?_) (fun cdv A outer s H vs Q E hr h => ?_)
  · obtain ⟨n, c, cs, rfl, _⟩ := h
    rfl
  · obtain ⟨n, c, cs, rfl, n0, n1, hc, hv, q⟩ := h
    refine ⟨_, (pss_cons (ps_set (i := 2) sc_ends_at_pins.nd rfl (.inl rfl) (pe_op op_rep (pe_lst (pa_cons pe_int pa_nil)) (pv 0)))
        (pss_cons (ps_for PassesOwn.never rfl (pi_tup (pv 1)) (pg_tup (by rfl) (pgs_cons (pg_name (i := 3) sc_ends_at_pins.nd rfl (.inl rfl)) (pgs_cons (pg_name (i := 4) sc_ends_at_pins.nd rfl (.inl rfl)) (pgs_cons (pg_name (i := 5) sc_ends_at_pins.nd rfl (.inl rfl)) pgs_nil))))
        (pss_cons (ps_asg (pe_op op_add (pe_ix (r := rIxL K) ix_list (pv 2) (pv 3) (fun _ _ => rfl)) (pv 5)) (pg_sub (pv 2) (pv 3) set_list))
        (pss_one (ps_asg (pe_op op_add (pe_ix (r := rIxL K) ix_list (pv 2) (pv 4) (fun _ _ => rfl)) (pv 5)) (pg_sub (pv 2) (pv 4) set_list)))))
        (pss_one (ps_ret (pv 2))))), ?_⟩
    obtain ⟨vs, ec, tc⟩ := id hc
    refine ⟨by show 1 ≤ sizeLine; decide, fun l hl => ⟨_, rfl, l, n, _, rfl, rfl, upd_same, by omega, by omega, ?_, fun p np => ?_⟩⟩
    · show 1 * n.toNat ≤ sizeLine
      rw [Nat.one_mul]
      exact Nat.le_of_lt (small1000 (by omega))
    have np0 : H p = none := (same_upd (o := .lst [.int 0]) hl).free np
    have sL : Same H (upd (upd H l (.lst [.int 0])) p (.lst (List.replicate n.toNat [V.int 0]).flatten)) := (same_upd hl).trans (same_upd np)
    refine ⟨_, rfl, c, rfl, ⟨vs, .inl (.inl (sL _ _ ec))⟩, for_tup (xs := vs) (fun i σ H' => (∃ y3 y4 y5, σ = [some (.int n), some (.ref c), some (.ref p), y3, y4, y5]) ∧ Same H H' ∧ H' p = some (.lst (gl n (endsOf (cs.take i))))) ⟨⟨_, _, _, rfl⟩, sL, ?_⟩ (fun i σ H' _ p => .inl (.inl (p.2.1 _ _ ec))) (fun i x σ H' hxi p => ?_) (fun σ H' p => ?_)⟩
    · rw [upd_same, rep_gl, gl_const]
      rfl
    · obtain ⟨⟨y3, y4, y5, rfl⟩, sm, ep⟩ := p
      obtain ⟨u, t, rfl, hti, hu⟩ := (tc.same sm).at_ hxi
      obtain ⟨v0, v1, v2, v3, v4, v5⟩ := hv t (List.mem_of_getElem? hti)
      refine ⟨u, _, rfl, .inl (.inl hu), rfl, _, _, rfl, _, _, rfl, _, _, rfl, rfl, ?_⟩
      refine ⟨_, rfl, _, rfl, p, _, _, _, rfl, rfl, .inl (.inl ep), gl_at _ v0 v1, _, rfl, _, _, rfl, rfl, _, rfl, _, rfl, p, _, _, _, rfl, rfl, ep, gl_ix _ v0 v1, ?_⟩
      rw [gl_set _ _ v0 v1]
      refine ⟨_, rfl, _, rfl, p, _, _, _, rfl, rfl, .inl (.inl upd_same), gl_at _ v2 v3, _, rfl, _, _, rfl, rfl, _, rfl, _, rfl, p, _, _, _, rfl, rfl, upd_same, gl_ix _ v2 v3, ?_⟩
      rw [gl_set _ _ v2 v3, upd_upd]
      refine ⟨⟨_, _, _, rfl⟩, same_put (H1 := H) np0 sm, ?_⟩
      rw [upd_same, List.take_add_one, hti]
      congr 2
      refine gl_congr fun x _ _ => ?_
      show _ = endsOf (cs.take i ++ [t]) x
      rw [endsOf_snoc]
      by_cases e1 : x = t.2.1
      · subst e1
        rw [if_pos rfl, if_neg (fun z => v4 z.symm), if_pos (.inr rfl)]
      · by_cases e2 : x = t.1
        · subst e2
          rw [if_neg e1, if_pos rfl, if_pos (.inl rfl)]
        · rw [if_neg e1, if_neg e2, if_neg fun z => by rcases z with z | z <;> omega]
          omega
    · obtain ⟨⟨y3, y4, y5, rfl⟩, sm, ep⟩ := p
      rw [tc.1, List.take_length] at ep
      exact ⟨_, rfl, q H' p sm np0 ep⟩
def spEnds (C : Addr) : Sp := fun vs H Q _ => ∃ (p : Addr) (x n : Int) (cs : List Tr), vs = [.ref p, .int x] ∧ LotAt C H p n cs ∧ 0 ≤ x ∧ x < n ∧ n ≤ 1000 ∧ (∀ t ∈ cs, Vld n t) ∧ ∀ H', Same H H' → Q (.int (endsOf cs x)) H'
theorem ok_ends {f : Addr} {fd : FuncData} (F : Fun K "ends" "Lot.ends" s_Lot_ends f fd) (T : Bi mg) (L : LotC K mg C) {f_k : Addr} {d_k : FuncData} (D_k : Df K mg "check_pin" s_check_pin ["pins", "pin"] f_k d_k) (G_k : FnOk P w K mg base CX0 3 f_k d_k ["pins", "pin"] spCkPin)
    {f_p : Addr} {d_p : FuncData} (D_p : Df K mg "ends_at_pins" s_ends_at_pins ["pins", "cords"] f_p d_p) (G_p : FnOk P w K mg base CX0 1 f_p d_p ["pins", "cords"] spEap) : FnOk P w K mg base CX0 4 f fd ["self", "pin"] (spEnds C) := by
  refine F.ok sc_Lot_ends (fun vs H Q E h => ?_) (fun cdv A outer s H vs Q E hr h => ?_)
  · obtain ⟨p, x, n, cs, rfl, _⟩ := h
    rfl
  · obtain ⟨p, x, n, cs, rfl, hL, x0, x1, n1, hv, q⟩ := h
    refine ⟨_, (pss_cons (ps_expr (pe_call G_k hr (by rfl) D_k.g D_k.F.kp D_k.b .nil pass0 (pa_cons (pe_fld (pv 0) rfl) (pa_cons (pv 1) pa_nil))))
        (pss_one (ps_ret (pe_ix (r := rIxL K) ix_list (pe_call G_p (hr.mono (by decide)) (by rfl) D_p.g D_p.F.kp D_p.b .nil pass0 (pa_cons (pe_fld (pv 0) rfl) (pa_cons (pe_fld (pv 0) rfl) pa_nil))) (pv 1) (fun _ _ => rfl))))), ?_⟩
    obtain ⟨dx, c, e, t⟩ := hL
    refine ⟨_, rfl, p, C, dx, _, _, rfl, e, L.cl, L.nP, flds_pins _ _, _, rfl, n, x, rfl, x0, x1, ?_⟩
    refine ⟨_, rfl, p, C, dx, _, _, rfl, e, L.cl, L.nP, flds_pins _ _, _, rfl, p, C, dx, _, _, rfl, e, L.cl, L.nC, flds_cords _ _, n, c, cs, rfl, by omega, n1, t, hv, fun H1 u s1 nu eu => ?_⟩
    exact ⟨_, rfl, u, _, x, _, rfl, rfl, .inl (.inl eu), gl_at _ x0 x1, q H1 s1⟩
abbrev GI (P : Program) (w : World) (K : PySem.W.Frag) (mg : Str → Option Value) (base : Heap) (C f : Addr) (d : FuncData) : Prop := FnOk P w K mg base CX0 5 f d ["self", "pins", "cords"] (spInit K C)
end
end Own

/-! Tables of lots. -/
namespace Own
open PySem PySem.Spec PyProof.Rows L2
def gr (cs : List Tr) (a b : Int) : Int := bs (fun q => decide ((q.1 = a ∧ q.2 = b) ∨ (q.1 = b ∧ q.2 = a))) cs
theorem gr_snoc (cs : List Tr) (t : Tr) (a b : Int) : gr (cs ++ [t]) a b = gr cs a b + (if (t.1 = a ∧ t.2.1 = b) ∨ (t.1 = b ∧ t.2.1 = a) then t.2.2 else 0) := by
  unfold gr
  rw [bs_append]
  show _ + ((if decide ((t.1 = a ∧ t.2.1 = b) ∨ (t.1 = b ∧ t.2.1 = a)) = true then t.2.2 else 0) + 0) = _
  by_cases h : (t.1 = a ∧ t.2.1 = b) ∨ (t.1 = b ∧ t.2.1 = a)
  · rw [if_pos (decide_eq_true h), if_pos h]
    omega
  · rw [if_neg (by rw [decide_eq_false h]; decide), if_neg h]
    omega
theorem gr_new {n : Int} {cs : List Tr} (g : Good n cs) {i : Nat} {t : Tr} (h : cs[i]? = some t) : gr (cs.take i) t.1 t.2.1 = 0 ∧ gr (cs.take i) t.2.1 t.1 = 0 := by
  have hnd := srt_nodup g.srt
  have hi : i < cs.length := (List.getElem?_eq_some_iff.mp h).1
  have ht := g.ord t (List.mem_of_getElem? h)
  have hne : ∀ e ∈ cs.take i, ¬ (e.1 = t.1 ∧ e.2.1 = t.2.1) ∧ ¬ (e.1 = t.2.1 ∧ e.2.1 = t.1) := fun e he => by
    obtain ⟨j, hj, e1⟩ := List.mem_iff_getElem.mp he
    rw [List.length_take] at hj
    rw [List.getElem_take] at e1
    have ho := g.ord e (List.mem_of_mem_take he)
    refine ⟨fun z => ?_, fun z => by omega⟩
    have h1 : (cs.map pr)[j]? = (cs.map pr)[i]? := by
      rw [List.getElem?_map, List.getElem?_map, h, List.getElem?_eq_getElem (by omega), e1]
      show some (e.1, e.2.1) = some (t.1, t.2.1)
      rw [z.1, z.2]
    have h2 := (List.getElem?_inj (by rw [List.length_map]; omega) hnd).mp h1
    omega
  constructor
  · exact bs_none fun e he => decide_eq_false fun z => by
      have := hne e he
      unfold pr at z
      rcases z with z | z
      · exact this.1 z
      · exact this.2 z
  · exact bs_none fun e he => decide_eq_false fun z => by
      have := hne e he
      unfold pr at z
      rcases z with z | z
      · exact this.2 z
      · exact this.1 z
/-- the sum of the first k -/
def pre (f : Int → Int) : Nat → Int
  | 0 => 0
  | k + 1 => pre f k + f (k : Int)
def ite0 (b : Bool) (c : Int) : Int := if b = true then c else 0
theorem bs_add {f g h : Int × Int → Bool} {cs : List Tr} (H : ∀ t ∈ cs, ∀ c, ite0 (f (pr t)) c = ite0 (g (pr t)) c + ite0 (h (pr t)) c) : bs f cs = bs g cs + bs h cs := by
  induction cs with
  | nil => rfl
  | cons t r ih =>
    have h1 := H t List.mem_cons_self t.2.2
    have h2 := ih fun u hu => H u (List.mem_cons_of_mem _ hu)
    unfold ite0 at h1
    rw [bs, bs, bs]
    omega
theorem bs_four {f g h k m : Int × Int → Bool} {cs : List Tr} (H : ∀ t ∈ cs, ∀ c, ite0 (f (pr t)) c = ite0 (g (pr t)) c + ite0 (h (pr t)) c - 2 * (ite0 (k (pr t)) c - ite0 (m (pr t)) c)) : bs f cs = bs g cs + bs h cs - 2 * (bs k cs - bs m cs) := by
  induction cs with
  | nil => rfl
  | cons t r ih =>
    have h1 := H t List.mem_cons_self t.2.2
    have h2 := ih fun u hu => H u (List.mem_cons_of_mem _ hu)
    unfold ite0 at h1
    rw [bs, bs, bs, bs, bs]
    omega
theorem ite0_dec (p : Prop) [Decidable p] (c : Int) : ite0 (decide p) c = if p then c else 0 := by
  unfold ite0
  by_cases h : p
  · rw [if_pos (decide_eq_true h), if_pos h]
  · rw [if_neg (by rw [decide_eq_false h]; decide), if_neg h]
def upTo (j m : Int) (q : Int × Int) : Bool := decide ((q.1 = j ∧ q.2 < m) ∨ (q.2 = j ∧ q.1 < m))
theorem pre_gr {n : Int} {cs : List Tr} (g : Good n cs) (j : Int) (m : Nat) : pre (gr cs j) m = bs (upTo j m) cs := by
  induction m with
  | zero =>
    rw [bs_none]
    · rfl
    · intro e he
      have ho := g.ord e he
      refine decide_eq_false fun z => ?_
      unfold pr at z
      dsimp only at z
      omega
  | succ m ih =>
    rw [pre, ih]
    unfold gr
    symm
    refine bs_add fun e he c => ?_
    have ho := g.ord e he
    unfold upTo pr
    rw [ite0_dec, ite0_dec, ite0_dec]
    dsimp only
    grind
/-- does x lie between the gaps i and j? -/
def sepB (i j x : Int) : Bool := decide (lo i j < x ∧ x ≤ hi i j)
def tabE (cs : List Tr) (i j : Int) : Int := bs (fun q => sepB i j q.1 != sepB i j q.2) cs
theorem bne_dec (p q : Prop) [Decidable p] [Decidable q] : (decide p != decide q) = decide (¬ (p ↔ q)) := by
  by_cases h : p <;> by_cases k : q <;> simp [h, k]
theorem tabE_comm (cs : List Tr) (i j : Int) : tabE cs i j = tabE cs j i := by
  have e : ∀ x, sepB i j x = sepB j i x := fun x => by
    unfold sepB
    have h1 := lo_hi i j
    have h2 := lo_hi j i
    exact decide_eq_decide.mpr (by omega)
  unfold tabE
  refine bs_congr fun t _ => ?_
  rw [e, e]
theorem tabE_same (cs : List Tr) (i : Int) : tabE cs i i = 0 := by
  refine bs_none fun t _ => ?_
  have h : ∀ x, sepB i i x = false := fun x => decide_eq_false fun z => by
    have := lo_hi i i
    omega
  rw [h, h]
  rfl
/-- one gap further -/
theorem tabE_step {n : Int} {cs : List Tr} (g : Good n cs) {i j : Int} (h0 : 0 ≤ i) (h1 : i < j) (h2 : j < n) :
    tabE cs i j = tabE cs i (j - 1) + bs (upTo j n) cs - 2 * (bs (upTo j j) cs - bs (upTo j (i + 1)) cs) := by
  unfold tabE
  refine bs_four fun e he c => ?_
  have ho := g.ord e he
  have a := lo_hi i j
  have b := lo_hi i (j - 1)
  unfold sepB upTo pr
  rw [bne_dec, bne_dec, ite0_dec, ite0_dec, ite0_dec, ite0_dec, ite0_dec]
  dsimp only
  grind
end Own

namespace Own
open PySem PySem.Spec PyProof.Rows L2
/-! ### a list of lists of ints -/
structure Grid (H : Hp) (p : Addr) (rs : List Addr) (n m : Int) (f : Int → Int → Int) : Prop where
  at_ : H p = some (.lst (rs.map V.ref))
  len : rs.length = n.toNat
  nd : rs.Nodup
  out : p ∉ rs
  row : ∀ (j : Nat) (r : Addr), rs[j]? = some r → H r = some (.lst (gl m (f j)))
theorem Grid.same {H H' : Hp} {p : Addr} {rs : List Addr} {n m : Int} {f : Int → Int → Int} (s : Same H H') (g : Grid H p rs n m f) : Grid H' p rs n m f :=
  ⟨s _ _ g.at_, g.len, g.nd, g.out, fun j r e => s _ _ (g.row j r e)⟩
theorem Grid.get {H : Hp} {p : Addr} {rs : List Addr} {n m : Int} {f : Int → Int → Int} (g : Grid H p rs n m f) {a : Int} (h0 : 0 ≤ a) (h1 : a < n) : ∃ r, rs[a.toNat]? = some r ∧ atI (rs.map V.ref) a = some (.ref r) ∧ H r = some (.lst (gl m (f a))) := by
  have hl := g.len
  have hi : a.toNat < rs.length := by omega
  refine ⟨rs[a.toNat], List.getElem?_eq_getElem hi, ?_, ?_⟩
  · refine at_of (j := a.toNat) (by omega) ?_
    rw [List.getElem?_map, List.getElem?_eq_getElem hi]
    rfl
  · have := g.row a.toNat _ (List.getElem?_eq_getElem hi)
    rw [show ((a.toNat : Nat) : Int) = a by omega] at this
    exact this
theorem Grid.set {H : Hp} {p r : Addr} {rs : List Addr} {n m a b v : Int} {f : Int → Int → Int} (g : Grid H p rs n m f) (a0 : 0 ≤ a) (b0 : 0 ≤ b) (b1 : b < m) (hr : rs[a.toNat]? = some r) :
    Grid (upd H r (.lst ((gl m (f a)).set b.toNat (.int v)))) p rs n m (fun x y => if x = a ∧ y = b then v else f x y) := by
  have hm : r ∈ rs := List.mem_of_getElem? hr
  have hpr : p ≠ r := fun z => g.out (by rw [z]; exact hm)
  refine ⟨by rw [upd_ne hpr]; exact g.at_, g.len, g.nd, g.out, fun j u e => ?_⟩
  rw [gl_set _ _ b0 b1]
  by_cases h : u = r
  · subst h
    have ej : j = a.toNat := nd_ix g.nd e hr
    rw [upd_same]
    congr 2
    refine gl_congr fun y _ _ => ?_
    have ej2 : ((j : Nat) : Int) = a := by omega
    by_cases hy : y = b
    · rw [if_pos hy, if_pos ⟨ej2, hy⟩]
    · rw [if_neg hy, if_neg fun z => hy z.2, ej2]
  · rw [upd_ne h, g.row j u e]
    congr 2
    refine gl_congr fun y _ _ => ?_
    have : ¬ (((j : Nat) : Int) = a ∧ y = b) := fun z => h (by
      have : j = a.toNat := by omega
      rw [this, hr] at e
      exact (Option.some.inj e).symm)
    rw [if_neg this]
theorem Grid.congr {H : Hp} {p : Addr} {rs : List Addr} {n m : Int} {f h : Int → Int → Int} (g : Grid H p rs n m f) (e : ∀ x y, 0 ≤ x → x < n → 0 ≤ y → y < m → f x y = h x y) : Grid H p rs n m h :=
  ⟨g.at_, g.len, g.nd, g.out, fun j r hr => by
    have hj : j < n.toNat := by
      rw [← g.len]
      exact (List.getElem?_eq_some_iff.mp hr).1
    rw [g.row j r hr]
    congr 2
    exact gl_congr fun y y0 y1 => e _ y (by omega) (by omega) y0 y1⟩
/-- nothing of a base is among the rows -/
def Fresh (Hb : Hp) (p : Addr) (rs : List Addr) : Prop := Hb p = none ∧ ∀ r ∈ rs, Hb r = none
theorem Fresh.row {Hb H : Hp} {p r : Addr} {rs : List Addr} {o : HO} (f : Fresh Hb p rs) (s : Same Hb H) (h : r ∈ rs) : Same Hb (upd H r o) := same_put (H1 := Hb) (f.2 r h) s
section
variable {P : Program} {w : World} {K : PySem.W.Frag} {mg : Str → Option Value} {base : Heap} {C : Addr}
def spGaps : Sp := fun vs H Q _ => ∃ n : Int, vs = [.int n] ∧ Q (.int (hi n 1)) H
theorem ok_gaps {f : Addr} {fd : FuncData} (F : Fun K "gaps" "gaps" s_gaps f fd) (T : Bi mg) : FnOk P w K mg base CX0 1 f fd ["pins"] spGaps := by
  refine F.ok sc_gaps (fun vs H Q E h => ?_) (fun cdv A outer s H vs Q E hr h => ?_)
  · obtain ⟨n, rfl, _⟩ := h
    rfl
  · obtain ⟨n, rfl, q⟩ := h
    refine ⟨_, (pss_one (ps_ret (pe_callB (call_max2 rfl) (by rfl) T.b_max (by decide +kernel) (pa_cons (pv 0) (pa_cons pe_int pa_nil))))), ?_⟩
    exact ⟨_, rfl, n, 1, rfl, q⟩
/-! ### the sums before each place -/
def spSums (K : PySem.W.Frag) : Sp := fun vs H Q _ => ∃ (r : Addr) (n : Int) (f : Int → Int), vs = [.ref r] ∧ H r = some (.lst (gl n f)) ∧ 0 ≤ n ∧ n ≤ 1000 ∧ ∀ H' p, Same H H' → H p = none → H' p = some (.lst (gl (n + 1) fun x => pre f x.toNat)) → Q (.ref p) H'
theorem ok_sums {f : Addr} {fd : FuncData} (F : Fun K "sums_before" "sums_before" s_sums_before f fd) (T : Bi mg) : FnOk P w K mg base CX0 1 f fd ["row"] (spSums K) := by
  refine F.ok sc_sums_before (fun vs H Q E h => ?_) (fun cdv A outer s H vs Q E hr h => ?_)
  · obtain ⟨r, n, f, rfl, _⟩ := h
    rfl
  · obtain ⟨r, n, f, rfl, er, n0, n1, q⟩ := h
    refine ⟨_, (pss_cons (ps_set (i := 1) sc_sums_before.nd rfl (.inl rfl) (pe_lst (pa_cons pe_int pa_nil)))
        (pss_cons (ps_set (i := 2) sc_sums_before.nd rfl (.inl rfl) pe_int)
        (pss_cons (ps_for PassesOwn.never rfl (pi_list (pv 0)) (pg_name (i := 3) sc_sums_before.nd rfl (.inl rfl))
        (pss_cons (ps_set (i := 2) sc_sums_before.nd rfl (.inl rfl) (pe_op op_add (pv 2) (pv 3)))
        (pss_one (ps_expr (pe_bm PySem.F.plainAttrs_list PySem.F.slot_list_append PySem.F.type_list_append mt_append (pv 1) (pa_cons (pv 2) pa_nil))))))
        (pss_one (ps_ret (pv 1)))))), ?_⟩
    refine ⟨by show 1 ≤ sizeLine; decide, fun p np => ?_⟩
    refine ⟨_, rfl, r, rfl, ⟨_, .inl (.inl (same_upd np _ _ er))⟩, for_list (xs := gl n f) (fun i σ H' => (∃ y, σ = [some (.ref r), some (.ref p), some (.int (pre f i)), y]) ∧ H' = upd H p (.lst ((List.range (i + 1)).map fun j : Nat => V.int (pre f j)))) ⟨⟨_, rfl⟩, rfl⟩ (fun i σ H' _ pv => by obtain ⟨_, rfl⟩ := pv; exact .inl (.inl (same_upd np _ _ er))) (fun i x σ H' hx pv => ?_) (fun σ H' pv => ?_)⟩
    · obtain ⟨⟨y, rfl⟩, rfl⟩ := pv
      have hi : i < n.toNat := by
        have := (List.getElem?_eq_some_iff.mp hx).1
        rw [gl_len] at this
        exact this
      obtain rfl : x = .int (f (i : Int)) := by
        unfold gl at hx
        rw [List.getElem?_map, List.getElem?_range hi] at hx
        exact (Option.some.inj hx).symm
      refine ⟨_, rfl, _, rfl, _, _, rfl, rfl, ?_⟩
      refine ⟨_, rfl, .inl ⟨rfl, _, .inl (.inl upd_same)⟩, _, rfl, p, _, _, rfl, rfl, upd_same, ?_, ⟨_, rfl⟩, ?_⟩
      · rw [List.length_map, List.length_range]
        exact small1000 (by omega)
      · rw [upd_upd, List.range_succ (n := i + 1), List.map_append]
        rfl
    · obtain ⟨⟨y, rfl⟩, rfl⟩ := pv
      refine ⟨_, rfl, q _ p (same_upd np) np ?_⟩
      rw [upd_same, gl_len]
      unfold gl
      rw [show (n + 1).toNat = n.toNat + 1 by omega]
      rfl
/-! ### the cords between each two pins -/
def spGrid : Sp := fun vs H Q _ => ∃ (n : Int) (c : Addr) (cs : List Tr), vs = [.int n, .ref c] ∧ 0 ≤ n ∧ n ≤ 1000 ∧ Trip H c cs ∧ Good n cs ∧ ∀ H' p rs, Same H H' → Fresh H p rs → Grid H' p rs n n (gr cs) → Q (.ref p) H'
theorem ok_grid {f : Addr} {fd : FuncData} (F : Fun K "cord_grid" "cord_grid" s_cord_grid f fd) (T : Bi mg) : FnOk P w K mg base CX0 1 f fd ["pins", "cords"] spGrid := by
  refine F.ok sc_cord_grid (fun vs H Q E h => ?_) (fun cdv A outer s H vs Q E hr h => ?_)
  · obtain ⟨n, c, cs, rfl, _⟩ := h
    rfl
  · obtain ⟨n, c, cs, rfl, n0, n1, hc, hG, q⟩ := h
    refine ⟨_, (pss_cons (ps_setLc (i := 2) (own := [("_", 6)]) (g := gName 6) (tt := tYes) rfl sc_cord_grid.nd rfl rfl (sw_true rfl rfl rfl (by decide +kernel)) (pi_range1 (by rfl) T.b_range (pa_cons (pv 0) pa_nil)) (blkOk_by (own := [("_", 6)]) (N := ["pins", "cords", "rows", "a", "b", "many", "_"]) (sc := defScope s_cord_grid) (by decide +kernel)) (fun _ _ _ _ _ => (pg_name (i := 6) sc_cord_grid.nd rfl (.inl rfl))) (fun _ _ _ _ _ => pts_nil) (fun _ _ _ _ _ => (pe_op op_rep (pe_lst (pa_cons pe_int pa_nil)) (pv 0))))
        (pss_cons (ps_for PassesOwn.never rfl (pi_tup (pv 1)) (pg_tup (by rfl) (pgs_cons (pg_name (i := 3) sc_cord_grid.nd rfl (.inl rfl)) (pgs_cons (pg_name (i := 4) sc_cord_grid.nd rfl (.inl rfl)) (pgs_cons (pg_name (i := 5) sc_cord_grid.nd rfl (.inl rfl)) pgs_nil))))
        (pss_cons (ps_asg (pv 5) (pg_sub (pe_ix (r := rIxL K) ix_list (pv 2) (pv 3) (fun _ _ => rfl)) (pv 4) set_list))
        (pss_one (ps_asg (pv 5) (pg_sub (pe_ix (r := rIxL K) ix_list (pv 2) (pv 4) (fun _ _ => rfl)) (pv 3) set_list)))))
        (pss_one (ps_ret (pv 2))))), ?_⟩
    obtain ⟨vs, ec, tc⟩ := id hc
    refine ⟨_, rfl, n, rfl, by omega, by omega, fun D hD => ?_⟩
    refine lc_range (lo := 0) (n := n.toNat) (fun i H' => Same H H' ∧ ∃ rs, H' D = some (.lst (rs.map V.ref)) ∧ rs.length = i ∧ rs.Nodup ∧ D ∉ rs ∧ (∀ r ∈ rs, H r = none) ∧ ∀ (j : Nat) (r : Addr), rs[j]? = some r → H' r = some (.lst (gl n fun _ => 0))) ⟨same_upd hD, [], upd_same, rfl, List.nodup_nil, by simp, by simp, by simp⟩ (fun i H' hi pv => ?_) (fun H' pv => ?_)
    · obtain ⟨sm, rs, eD, hlen, hnd, hout, hfr, hrow⟩ := pv
      refine ⟨rfl, ?_⟩
      refine ⟨by show 1 ≤ sizeLine; decide, fun l hl => ⟨_, rfl, l, n, _, rfl, rfl, upd_same, by omega, by omega, ?_, fun r nr => ?_⟩⟩
      · show 1 * n.toNat ≤ sizeLine
        rw [Nat.one_mul]
        exact Nat.le_of_lt (small1000 (by omega))
      have s1 : Same H' (upd (upd H' l (.lst [.int 0])) r (.lst (List.replicate n.toNat [V.int 0]).flatten)) := (same_upd hl).trans (same_upd nr)
      have nr0 : H' r = none := (same_upd (o := .lst [.int 0]) hl).free nr
      have nrD : r ≠ D := fun z => by
        rw [z, eD] at nr0
        cases nr0
      have nin : r ∉ rs := fun m => by
        obtain ⟨j, hj, ej⟩ := List.mem_iff_getElem.mp m
        rw [hrow j r (by rw [List.getElem?_eq_getElem hj, ej])] at nr0
        cases nr0
      refine ⟨_, s1 _ _ eD, ?_, same_put (H1 := H) hD (sm.trans s1), rs ++ [r], ?_, ?_, ?_, ?_, ?_, ?_⟩
      · rw [List.length_map, hlen]
        exact small1000 (by omega)
      · rw [upd_same, List.map_append]
        rfl
      · rw [List.length_append, hlen]
        rfl
      · exact List.nodup_append.mpr ⟨hnd, by simp, fun a ha b hb z => nin (by rw [List.mem_singleton.mp hb] at z; rw [← z]; exact ha)⟩
      · intro m
        rcases List.mem_append.mp m with m | m
        · exact hout m
        · exact nrD (List.mem_singleton.mp m).symm
      · intro u m
        rcases List.mem_append.mp m with m | m
        · exact hfr u m
        · rw [List.mem_singleton.mp m]
          exact sm.free nr0
      · intro j u e
        have hu : u ≠ D := fun z => by
          have m := List.mem_of_getElem? e
          rcases List.mem_append.mp m with m | m
          · exact hout (z ▸ m)
          · exact nrD ((List.mem_singleton.mp m).symm.trans z)
        rw [upd_ne hu]
        by_cases hj : j < rs.length
        · rw [List.getElem?_append_left hj] at e
          exact s1 _ _ (hrow j u e)
        · rw [List.getElem?_append_right (by omega)] at e
          obtain rfl : r = u := by
            cases hk : j - rs.length with
            | zero =>
              rw [hk] at e
              exact Option.some.inj e
            | succ k =>
              rw [hk] at e
              simp at e
          rw [upd_same, rep_gl, gl_const]
    · obtain ⟨sm, rs, eD, hlen, hnd, hout, hfr, hrow⟩ := pv
      have g0 : Grid H' D rs n n (gr []) := ⟨eD, hlen, hnd, hout, fun j r e => hrow j r e⟩
      refine ⟨_, rfl, c, rfl, ⟨vs, .inl (.inl (sm _ _ ec))⟩, for_tup (xs := vs) (fun i σ H2 => (∃ y3 y4 y5 y6, σ = [some (.int n), some (.ref c), some (.ref D), y3, y4, y5, y6]) ∧ Same H H2 ∧ Grid H2 D rs n n (gr (cs.take i))) ⟨⟨_, _, _, _, rfl⟩, sm, g0⟩ (fun i σ H2 _ p => .inl (.inl (p.2.1 _ _ ec))) (fun i x σ H2 hxi p => ?_) (fun σ H2 p => ?_)⟩
      · obtain ⟨⟨y3, y4, y5, y6, rfl⟩, s2, g2⟩ := p
        obtain ⟨u, t, rfl, hti, hu⟩ := (tc.same s2).at_ hxi
        have ho := hG.ord t (List.mem_of_getElem? hti)
        have hnew := gr_new hG hti
        refine ⟨u, _, rfl, .inl (.inl hu), rfl, _, _, rfl, _, _, rfl, _, _, rfl, rfl, ?_⟩
        obtain ⟨r1, e1, a1, h1⟩ := g2.get (a := t.1) (by omega) (by omega)
        refine ⟨_, rfl, _, rfl, _, rfl, D, _, _, _, rfl, rfl, .inl (.inl g2.at_), a1, _, rfl, r1, _, _, _, rfl, rfl, h1, gl_ix _ (by omega) (by omega), ?_⟩
        have g3 := g2.set (v := t.2.2) (by omega) (show 0 ≤ t.2.1 by omega) (by omega) e1
        have s3 : Same H (upd H2 r1 (.lst ((gl n (gr (cs.take i) t.1)).set t.2.1.toNat (.int t.2.2)))) := same_put (H1 := H) (hfr r1 (List.mem_of_getElem? e1)) s2
        obtain ⟨r2, e2, a2, h2⟩ := g3.get (a := t.2.1) (by omega) (by omega)
        refine ⟨_, rfl, _, rfl, _, rfl, D, _, _, _, rfl, rfl, .inl (.inl g3.at_), a2, _, rfl, r2, _, _, _, rfl, rfl, h2, gl_ix _ (by omega) (by omega), ?_⟩
        have g4 := g3.set (v := t.2.2) (by omega) (show 0 ≤ t.1 by omega) (by omega) e2
        refine ⟨⟨_, _, _, _, rfl⟩, same_put (H1 := H) (hfr r2 (List.mem_of_getElem? e2)) s3, ?_⟩
        rw [List.take_add_one, hti]
        refine g4.congr fun x y _ _ _ _ => ?_
        show (if x = t.2.1 ∧ y = t.1 then t.2.2 else if x = t.1 ∧ y = t.2.1 then t.2.2 else gr (cs.take i) x y) = gr (cs.take i ++ [t]) x y
        rw [gr_snoc]
        by_cases q1 : x = t.2.1 ∧ y = t.1
        · rw [if_pos q1, if_pos (by omega), q1.1, q1.2, hnew.2]
          omega
        · by_cases q2 : x = t.1 ∧ y = t.2.1
          · rw [if_neg q1, if_pos q2, if_pos (by omega), q2.1, q2.2, hnew.1]
            omega
          · rw [if_neg q1, if_neg q2, if_neg (by omega)]
            omega
      · obtain ⟨⟨y3, y4, y5, y6, rfl⟩, s2, g2⟩ := p
        rw [tc.1, List.take_length] at g2
        exact ⟨_, rfl, q H2 D rs s2 ⟨hD, hfr⟩ g2⟩
end
end Own

namespace Own
open PySem PySem.Spec PyProof.Rows L2
def rTupOf (K : PySem.W.Frag) : List V → Hp → VK → Prop := fun xs H Q => ∃ p ys, xs = [V.ref p] ∧ ((SqL K H p ys ∧ ∀ l, H l = none → Q (.ref l) (upd H l (.tup ys))) ∨ (SqT K H p ys ∧ Q (.ref p) H))
theorem cr_tupOf {X : Cx} : CallR X (.type "tuple") (rTupOf X.K) := call_tuple_of
/-- rows of zeros, being made -/
structure ZInv (Hb : Hp) (D : Addr) (m : Int) (i : Nat) (rs : List Addr) (H : Hp) : Prop where
  sm : Same Hb H
  at_ : H D = some (.lst (rs.map V.ref))
  len : rs.length = i
  nd : rs.Nodup
  out : D ∉ rs
  fr : ∀ r ∈ rs, Hb r = none
  row : ∀ (j : Nat) (r : Addr), rs[j]? = some r → H r = some (.lst (gl m fun _ => 0))
theorem ZInv.step {Hb H H1 : Hp} {D r : Addr} {m : Int} {i : Nat} {rs : List Addr} (z : ZInv Hb D m i rs H) (nD : Hb D = none) (s1 : Same H H1) (nr : H r = none) (er : H1 r = some (.lst (gl m fun _ => 0))) : ZInv Hb D m (i + 1) (rs ++ [r]) (upd H1 D (.lst (rs.map V.ref ++ [.ref r]))) := by
  have nrD : r ≠ D := fun e => by
    rw [e, z.at_] at nr
    cases nr
  have nin : r ∉ rs := fun mm => by
    obtain ⟨j, hj, ej⟩ := List.mem_iff_getElem.mp mm
    rw [z.row j r (by rw [List.getElem?_eq_getElem hj, ej])] at nr
    cases nr
  refine ⟨same_put (H1 := Hb) nD (z.sm.trans s1), ?_, ?_, ?_, ?_, ?_, ?_⟩
  · rw [upd_same, List.map_append]
    rfl
  · rw [List.length_append, z.len]
    rfl
  · exact List.nodup_append.mpr ⟨z.nd, by simp, fun a ha b hb e => nin (by rw [List.mem_singleton.mp hb] at e; rw [← e]; exact ha)⟩
  · intro mm
    rcases List.mem_append.mp mm with mm | mm
    · exact z.out mm
    · exact nrD (List.mem_singleton.mp mm).symm
  · intro u mm
    rcases List.mem_append.mp mm with mm | mm
    · exact z.fr u mm
    · rw [List.mem_singleton.mp mm]
      exact z.sm.free nr
  · intro j u e
    have hu : u ≠ D := fun e2 => by
      rcases List.mem_append.mp (List.mem_of_getElem? e) with mm | mm
      · exact z.out (by rw [← e2]; exact mm)
      · exact nrD ((List.mem_singleton.mp mm).symm.trans e2)
    rw [upd_ne hu]
    by_cases hj : j < rs.length
    · rw [List.getElem?_append_left hj] at e
      exact s1 _ _ (z.row j u e)
    · rw [List.getElem?_append_right (by omega)] at e
      obtain rfl : r = u := by
        cases hk : j - rs.length with
        | zero =>
          rw [hk] at e
          exact Option.some.inj e
        | succ k =>
          rw [hk] at e
          simp at e
      exact er
/-- a table: a tuple of tuples of ints -/
def TabAt (H : Hp) (a : Addr) (sz : Int) (f : Int → Int → Int) : Prop := ∃ vs, H a = some (.tup vs) ∧ vs.length = sz.toNat ∧ ∀ j : Nat, j < sz.toNat → ∃ r, vs[j]? = some (.ref r) ∧ H r = some (.tup (gl sz (f j)))
theorem TabAt.same {H H' : Hp} {a : Addr} {sz : Int} {f : Int → Int → Int} (s : Same H H') (h : TabAt H a sz f) : TabAt H' a sz f := by
  obtain ⟨vs, e, l, r⟩ := h
  refine ⟨vs, s _ _ e, l, fun j hj => ?_⟩
  obtain ⟨u, e1, e2⟩ := r j hj
  exact ⟨u, e1, s _ _ e2⟩
section
variable {P : Program} {w : World} {K : PySem.W.Frag} {mg : Str → Option Value} {base : Heap} {C : Addr}
def spTable : Sp := fun vs H Q _ => ∃ (n : Int) (c : Addr) (cs : List Tr), vs = [.int n, .ref c] ∧ 0 ≤ n ∧ n ≤ 1000 ∧ Trip H c cs ∧ Good n cs ∧ ∀ H' p, Same H H' → TabAt H' p (hi n 1) (tabE cs) → Q (.ref p) H'
theorem ok_table {f : Addr} {fd : FuncData} (F : Fun K "table_rows" "table_rows" s_table_rows f fd) (T : Bi mg) {f_c : Addr} {d_c : FuncData} (D_c : Df K mg "cord_grid" s_cord_grid ["pins", "cords"] f_c d_c) (G_c : FnOk P w K mg base CX0 1 f_c d_c ["pins", "cords"] spGrid)
    {f_z : Addr} {d_z : FuncData} (D_z : Df K mg "gaps" s_gaps ["pins"] f_z d_z) (G_z : FnOk P w K mg base CX0 1 f_z d_z ["pins"] spGaps) {f_s : Addr} {d_s : FuncData} (D_s : Df K mg "sums_before" s_sums_before ["row"] f_s d_s) (G_s : FnOk P w K mg base CX0 1 f_s d_s ["row"] (spSums K)) :
    FnOk P w K mg base CX0 2 f fd ["pins", "cords"] spTable := by
  refine F.ok sc_table_rows (fun vs H Q E h => ?_) (fun cdv A outer s H vs Q E hr h => ?_)
  · obtain ⟨n, c, cs, rfl, _⟩ := h
    rfl
  · obtain ⟨n, c, cs, rfl, n0, n1, hc, hG, q⟩ := h
    refine ⟨_, (pss_cons (ps_setLc (i := 2) (own := [("row", 8)]) (g := gName 8) (tt := tYes) rfl sc_table_rows.nd rfl rfl (sw_true rfl rfl rfl (by decide +kernel)) (pi_list (pe_call G_c hr (by rfl) D_c.g D_c.F.kp D_c.b .nil pass0 (pa_cons (pv 0) (pa_cons (pv 1) pa_nil)))) (blkOk_by (own := [("row", 8)]) (N := ["pins", "cords", "sums", "size", "rows", "i", "across", "j", "row", "_"]) (sc := defScope s_table_rows) (by decide +kernel)) (fun _ _ _ _ _ => (pg_name (i := 8) sc_table_rows.nd rfl (.inl rfl))) (fun _ _ _ _ _ => pts_nil) (fun _ _ _ _ _ => (show PE _ _ (tCall (spSums K) [] E0 (tCons (tVar 8) tNil)) from pe_call G_s (hr.mono (by decide)) (by rfl) D_s.g D_s.F.kp D_s.b .nil pass0 (pa_cons (pv 8) pa_nil))))
        (pss_cons (ps_set (i := 3) sc_table_rows.nd rfl (.inr rfl) (pe_call G_z hr (by rfl) D_z.g D_z.F.kp D_z.b .nil pass0 (pa_cons (pv 0) pa_nil)))
        (pss_cons (ps_setLc (i := 4) (own := [("_", 9)]) (g := gName 9) (tt := tYes) rfl sc_table_rows.nd rfl rfl (sw_true rfl rfl rfl (by decide +kernel)) (pi_range1 (by rfl) T.b_range (pa_cons (pv 3) pa_nil)) (blkOk_by (own := [("_", 9)]) (N := ["pins", "cords", "sums", "size", "rows", "i", "across", "j", "row", "_"]) (sc := defScope s_table_rows) (by decide +kernel)) (fun _ _ _ _ _ => (pg_name (i := 9) sc_table_rows.nd rfl (.inl rfl))) (fun _ _ _ _ _ => pts_nil) (fun _ _ _ _ _ => (pe_op op_rep (pe_lst (pa_cons pe_int pa_nil)) (pv 3))))
        (pss_cons (ps_for PassesOwn.never rfl (pi_range1 (by rfl) T.b_range (pa_cons (pv 3) pa_nil)) (pg_name (i := 5) sc_table_rows.nd rfl (.inl rfl))
        (pss_cons (ps_set (i := 6) sc_table_rows.nd rfl (.inl rfl) pe_int)
        (pss_one (ps_for PassesOwn.never rfl (pi_range2 (by rfl) T.b_range (pa_cons (pe_op op_add (pv 5) pe_int) (pa_cons (pv 3) pa_nil))) (pg_name (i := 7) sc_table_rows.nd rfl (.inl rfl))
        (pss_cons (ps_set (i := 6) sc_table_rows.nd rfl (.inl rfl) (pe_op op_sub (pe_op op_add (pv 6) (pe_ix (r := rIxL K) ix_list (pe_ix (r := rIxL K) ix_list (pv 2) (pv 7) (fun _ _ => rfl)) (pv 0) (fun _ _ => rfl))) (pe_op op_mul pe_int (pe_op op_sub (pe_ix (r := rIxL K) ix_list (pe_ix (r := rIxL K) ix_list (pv 2) (pv 7) (fun _ _ => rfl)) (pv 7) (fun _ _ => rfl)) (pe_ix (r := rIxL K) ix_list (pe_ix (r := rIxL K) ix_list (pv 2) (pv 7) (fun _ _ => rfl)) (pe_op op_add (pv 5) pe_int) (fun _ _ => rfl))))))
        (pss_cons (ps_asg (pv 6) (pg_sub (pe_ix (r := rIxL K) ix_list (pv 4) (pv 5) (fun _ _ => rfl)) (pv 7) set_list))
        (pss_one (ps_asg (pv 6) (pg_sub (pe_ix (r := rIxL K) ix_list (pv 4) (pv 7) (fun _ _ => rfl)) (pv 5) set_list)))))))))
        (pss_one (ps_ret (pe_callTy call_tuple_of (by rfl) T.b_tuple (by decide +kernel) (pa_cons (pe_lc (own := [("row", 8)]) (g := gName 8) (tt := tYes) rfl sc_table_rows.nd (pi_list (pv 4)) (blkOk_by (own := [("row", 8)]) (N := ["pins", "cords", "sums", "size", "rows", "i", "across", "j", "row", "_"]) (sc := defScope s_table_rows) (by decide +kernel)) (fun _ _ _ _ _ => (pg_name (i := 8) sc_table_rows.nd rfl (.inl rfl))) (fun _ _ _ _ _ => pts_nil) (fun _ _ _ _ _ => (pe_callTy (r := rTupOf K) cr_tupOf (by rfl) T.b_tuple (by decide +kernel) (pa_cons (pv 8) pa_nil)))) pa_nil)))))))), ?_⟩
    refine ⟨_, rfl, _, rfl, n, c, cs, rfl, n0, n1, hc, hG, fun H1 p0 rs0 s1 _ g1 => ⟨p0, rfl, ⟨_, .inl (.inl g1.at_)⟩, fun D hD => ?_⟩⟩
    -- sums
    refine lc_list (K := K) (a := p0) (xs := rs0.map V.ref) (fun i H2 => Same H1 H2 ∧ ∃ ss : List Addr, H2 D = some (.lst (ss.map V.ref)) ∧ ss.length = i ∧ D ∉ ss ∧ ∀ (j : Nat) (u : Addr), ss[j]? = some u → H2 u = some (.lst (gl (n + 1) fun x => pre (gr cs j) x.toNat))) ⟨same_upd hD, [], upd_same, rfl, by simp, by simp⟩ (fun i H2 _ p => .inl (.inl (p.1 _ _ g1.at_))) (fun i x H2 hxi p => ?_) (fun H2 p => ?_)
    · obtain ⟨s2, ss, eD, hlen, hout, hss⟩ := p
      obtain ⟨r, hri, rfl⟩ : ∃ r, rs0[i]? = some r ∧ x = .ref r := by
        rw [List.getElem?_map] at hxi
        cases e : rs0[i]? with
        | none => rw [e] at hxi; cases hxi
        | some r =>
          rw [e] at hxi
          exact ⟨r, rfl, (Option.some.inj hxi).symm⟩
      have hi0 : i < n.toNat := by
        rw [← g1.len]
        exact (List.getElem?_eq_some_iff.mp hri).1
      refine ⟨rfl, ?_⟩
      refine ⟨_, rfl, r, n, gr cs i, rfl, s2 _ _ (g1.row i r hri), n0, n1, fun H3 u s3 nu eu => ?_⟩
      have nuD : u ≠ D := fun z => by
        rw [z, eD] at nu
        cases nu
      refine ⟨_, s3 _ _ eD, ?_, same_put (H1 := H1) hD (s2.trans s3), ss ++ [u], ?_, ?_, ?_, ?_⟩
      · rw [List.length_map, hlen]
        exact small1000 (by omega)
      · rw [upd_same, List.map_append]
        rfl
      · rw [List.length_append, hlen]
        rfl
      · intro m
        rcases List.mem_append.mp m with m | m
        · exact hout m
        · exact nuD (List.mem_singleton.mp m).symm
      · intro j v e
        have hv : v ≠ D := fun e2 => by
          rcases List.mem_append.mp (List.mem_of_getElem? e) with m | m
          · exact hout (by rw [← e2]; exact m)
          · exact nuD ((List.mem_singleton.mp m).symm.trans e2)
        rw [upd_ne hv]
        by_cases hj : j < ss.length
        · rw [List.getElem?_append_left hj] at e
          exact s3 _ _ (hss j v e)
        · rw [List.getElem?_append_right (by omega)] at e
          have hk : j - ss.length = 0 := by
            cases hk : j - ss.length with
            | zero => rfl
            | succ k =>
              rw [hk] at e
              simp at e
          rw [hk] at e
          obtain rfl : u = v := Option.some.inj e
          have ej : j = i := by omega
          subst ej
          exact eu
    obtain ⟨s2, ss, eD, hlen, hout, hss⟩ := p
    rw [List.length_map, g1.len] at hlen
    -- size, rows
    refine ⟨_, rfl, n, rfl, ?_⟩
    have hsz := lo_hi n 1
    have hz0 : 1 ≤ hi n 1 ∧ hi n 1 ≤ 1000 ∧ (2 ≤ hi n 1 → hi n 1 = n) := by omega
    refine ⟨_, rfl, hi n 1, rfl, by omega, by omega, fun R hR => ?_⟩
    refine lc_range (lo := 0) (n := (hi n 1).toNat) (fun i H3 => ∃ rr, ZInv H2 R (hi n 1) i rr H3) ⟨[], same_upd hR, upd_same, rfl, List.nodup_nil, by simp, by simp, by simp⟩ (fun i H3 hi3 pv => ?_) (fun H3 pv => ?_)
    · obtain ⟨rr, z⟩ := pv
      refine ⟨rfl, ?_⟩
      refine ⟨by show 1 ≤ sizeLine; decide, fun l hl => ⟨_, rfl, l, hi n 1, _, rfl, rfl, upd_same, by omega, by omega, ?_, fun r nr => ?_⟩⟩
      · show 1 * (hi n 1).toNat ≤ sizeLine
        rw [Nat.one_mul]
        exact Nat.le_of_lt (small1000 (by omega))
      have sA : Same H3 (upd (upd H3 l (.lst [.int 0])) r (.lst (List.replicate (hi n 1).toNat [V.int 0]).flatten)) := (same_upd hl).trans (same_upd nr)
      refine ⟨_, sA _ _ z.at_, ?_, _, z.step hR sA ((same_upd (o := .lst [.int 0]) hl).free nr) ?_⟩
      · rw [List.length_map, z.len]
        exact small1000 (by omega)
      · rw [upd_same, rep_gl, gl_const]
    obtain ⟨rr, z⟩ := pv
    have gz : Grid H3 R rr (hi n 1) (hi n 1) (fun x y => if x ≠ y ∧ lo x y < 0 then tabE cs x y else 0) := by
      refine Grid.congr (f := fun _ _ => 0) ⟨z.at_, z.len, z.nd, z.out, fun j r e => z.row j r e⟩ fun x y x0 x1 y0 y1 => ?_
      have := lo_hi x y
      rw [if_neg (by omega)]
    generalize hsz2 : hi n 1 = sz at hz0 gz
    -- the places
    refine ⟨_, rfl, sz, rfl, by omega, by omega, for_range (lo := 0) (n := sz.toNat) (fun i σ H4 => (∃ y5 y6 y7 y8 y9, σ = [some (.int n), some (.ref c), some (.ref D), some (.int sz), some (.ref R), y5, y6, y7, y8, y9]) ∧ Same H2 H4 ∧ Grid H4 R rr sz sz (fun x y => if x ≠ y ∧ lo x y < (i : Int) then tabE cs x y else 0)) ⟨⟨none, none, none, none, none, rfl⟩, z.sm, gz⟩ (fun i σ H4 hi4 pv => ?_) (fun σ H4 pv => ?_)⟩
    · obtain ⟨⟨y5, y6, y7, y8, y9, rfl⟩, s4, g4⟩ := pv
      rw [Int.zero_add]
      refine ⟨_, rfl, _, _, rfl, rfl, _, rfl, (i : Int) + 1, sz, rfl, ⟨by omega, by omega, by omega, by omega⟩, for_range (lo := (i : Int) + 1) (n := (sz - ((i : Int) + 1)).toNat) (fun k σ H5 => (∃ y7, σ = [some (.int n), some (.ref c), some (.ref D), some (.int sz), some (.ref R), some (.int (i : Int)), some (.int (tabE cs i ((i : Int) + k))), y7, y8, y9]) ∧ Same H2 H5 ∧ Grid H5 R rr sz sz (fun x y => if x ≠ y ∧ (lo x y < (i : Int) ∨ (lo x y = (i : Int) ∧ hi x y < (i : Int) + 1 + k)) then tabE cs x y else 0)) ⟨⟨y7, ?_⟩, s4, ?_⟩ (fun k σ H5 hk pv => ?_) (fun σ H5 pv => ?_)⟩
      · rw [show ((i : Int) + ((0 : Nat) : Int)) = (i : Int) by omega, tabE_same]
        rfl
      · refine g4.congr fun x y x0 x1 y0 y1 => ?_
        have := lo_hi x y
        by_cases h : x ≠ y ∧ lo x y < (i : Int)
        · rw [if_pos h, if_pos ⟨h.1, .inl h.2⟩]
        · rw [if_neg h, if_neg (by omega)]
      · obtain ⟨⟨y7, rfl⟩, s5, g5⟩ := pv
        have hn : sz = n := hz0.2.2 (by omega)
        generalize hj : (i : Int) + 1 + (k : Int) = j
        have j0 : (i : Int) < j ∧ j < n := by omega
        have hsj : ∃ u, atI (ss.map V.ref) j = some (.ref u) ∧ H2 u = some (.lst (gl (n + 1) fun x => pre (gr cs j) x.toNat)) := by
          have hl2 : j.toNat < ss.length := by omega
          refine ⟨ss[j.toNat], at_of (j := j.toNat) (by omega) ?_, ?_⟩
          · rw [List.getElem?_map, List.getElem?_eq_getElem hl2]
            rfl
          · have := hss j.toNat _ (List.getElem?_eq_getElem hl2)
            rw [show ((j.toNat : Nat) : Int) = j by omega] at this
            exact this
        obtain ⟨u, au, hu⟩ := hsj
        have eD5 : SqL K H5 D (ss.map V.ref) := .inl (.inl (s5 _ _ eD))
        have eu5 : SqL K H5 u (gl (n + 1) fun x => pre (gr cs j) x.toNat) := .inl (.inl (s5 _ _ hu))
        refine ⟨_, rfl, _, rfl, _, rfl, D, _, j, _, rfl, rfl, eD5, au, _, rfl, u, _, n, _, rfl, rfl, eu5, gl_at _ (by omega) (by omega), _, _, rfl, rfl, ?_⟩
        refine ⟨_, rfl, _, rfl, D, _, j, _, rfl, rfl, eD5, au, _, rfl, u, _, j, _, rfl, rfl, eu5, gl_at _ (by omega) (by omega), ?_⟩
        refine ⟨_, rfl, _, rfl, D, _, j, _, rfl, rfl, eD5, au, _, rfl, _, _, rfl, rfl, u, _, _, _, rfl, rfl, eu5, gl_at _ (by omega) (by omega), _, _, rfl, rfl, _, _, rfl, rfl, .inl ⟨by decide, by decide⟩, _, _, rfl, rfl, ?_⟩
        have hval : tabE cs i ((i : Int) + k) + pre (gr cs j) n.toNat - 2 * (pre (gr cs j) j.toNat - pre (gr cs j) ((i : Int) + 1).toNat) = tabE cs i j := by
          rw [pre_gr hG, pre_gr hG, pre_gr hG, show ((n.toNat : Nat) : Int) = n by omega, show ((j.toNat : Nat) : Int) = j by omega, show ((((i : Int) + 1).toNat : Nat) : Int) = (i : Int) + 1 by omega,
            tabE_step hG (by omega) j0.1 j0.2, show (i : Int) + (k : Int) = j - 1 by omega]
        show (tSeq _ _) _ ([some (.int n), some (.ref c), some (.ref D), some (.int sz), some (.ref R), some (.int (i : Int)), some (.int (tabE cs i ((i : Int) + k) + pre (gr cs j) n.toNat - 2 * (pre (gr cs j) j.toNat - pre (gr cs j) ((i : Int) + 1).toNat))), some (.int j), y8, y9]) _
        rw [hval]
        obtain ⟨r1, e1, a1, h1⟩ := g5.get (a := (i : Int)) (by omega) (by omega)
        refine ⟨_, rfl, _, rfl, _, rfl, R, _, _, _, rfl, rfl, .inl (.inl g5.at_), a1, _, rfl, r1, _, _, _, rfl, rfl, h1, gl_ix _ (by omega) (by omega), ?_⟩
        have g6 := g5.set (v := tabE cs i j) (by omega) (show 0 ≤ j by omega) (by omega) e1
        have s6 := same_put (H1 := H2) (o := .lst ((gl sz (fun y => if (i : Int) ≠ y ∧ (lo i y < (i : Int) ∨ (lo i y = (i : Int) ∧ hi i y < (i : Int) + 1 + k)) then tabE cs i y else 0)).set j.toNat (.int (tabE cs i j)))) (z.fr r1 (List.mem_of_getElem? e1)) s5
        obtain ⟨r2, e2, a2, h2⟩ := g6.get (a := j) (by omega) (by omega)
        refine ⟨_, rfl, _, rfl, _, rfl, R, _, _, _, rfl, rfl, .inl (.inl g6.at_), a2, _, rfl, r2, _, _, _, rfl, rfl, h2, gl_ix _ (by omega) (by omega), ?_⟩
        have g7 := g6.set (v := tabE cs i j) (by omega) (show 0 ≤ (i : Int) by omega) (by omega) e2
        refine ⟨⟨some (.int j), ?_⟩, same_put (H1 := H2) (z.fr r2 (List.mem_of_getElem? e2)) s6, g7.congr fun x y x0 x1 y0 y1 => ?_⟩
        · rw [show (i : Int) + ((k + 1 : Nat) : Int) = j by omega]
        · have hxy := lo_hi x y
          by_cases q1 : x = j ∧ y = (i : Int)
          · rw [if_pos q1, if_pos (by omega), q1.1, q1.2, tabE_comm]
          · rw [if_neg q1]
            by_cases q2 : x = (i : Int) ∧ y = j
            · rw [if_pos q2, if_pos (by omega), q2.1, q2.2]
            · rw [if_neg q2]
              by_cases q3 : x ≠ y ∧ (lo x y < (i : Int) ∨ (lo x y = (i : Int) ∧ hi x y < (i : Int) + 1 + k))
              · rw [if_pos q3, if_pos (by omega)]
              · rw [if_neg q3, if_neg (by omega)]
      · obtain ⟨⟨y7, rfl⟩, s5, g5⟩ := pv
        refine ⟨⟨_, _, _, _, _, rfl⟩, s5, g5.congr fun x y x0 x1 y0 y1 => ?_⟩
        have hxy := lo_hi x y
        by_cases q3 : x ≠ y ∧ lo x y < ((i + 1 : Nat) : Int)
        · rw [if_pos q3, if_pos (by omega)]
        · rw [if_neg q3, if_neg (by omega)]
    -- the tuples
    obtain ⟨⟨y5, y6, y7, y8, y9, rfl⟩, s4, g4⟩ := pv
    have g5 : Grid H4 R rr sz sz (tabE cs) := g4.congr fun x y x0 x1 y0 y1 => by
      have hxy := lo_hi x y
      by_cases h : x = y
      · rw [if_neg (by omega), h, tabE_same]
      · rw [if_pos (by omega)]
    refine ⟨_, rfl, R, rfl, ⟨_, .inl (.inl g5.at_)⟩, fun O hO => ?_⟩
    refine lc_list (K := K) (a := R) (xs := rr.map V.ref) (fun i H5 => Same H4 H5 ∧ ∃ us : List Addr, H5 O = some (.lst (us.map V.ref)) ∧ us.length = i ∧ ∀ (j : Nat) (u : Addr), us[j]? = some u → H5 u = some (.tup (gl sz (tabE cs j)))) ⟨same_upd hO, [], upd_same, rfl, by simp⟩ (fun i H5 _ p => .inl (.inl (p.1 _ _ g5.at_))) (fun i x H5 hxi p => ?_) (fun H5 p => ?_)
    · obtain ⟨s5, us, eO, hul, hus⟩ := p
      obtain ⟨r, hri, rfl⟩ : ∃ r, rr[i]? = some r ∧ x = .ref r := by
        rw [List.getElem?_map] at hxi
        cases e : rr[i]? with
        | none => rw [e] at hxi; cases hxi
        | some r =>
          rw [e] at hxi
          exact ⟨r, rfl, (Option.some.inj hxi).symm⟩
      have hi0 : i < sz.toNat := by
        rw [← g5.len]
        exact (List.getElem?_eq_some_iff.mp hri).1
      refine ⟨rfl, ?_⟩
      refine ⟨_, rfl, r, _, rfl, .inl ⟨.inl (.inl (s5 _ _ (g5.row i r hri))), fun u nu => ?_⟩⟩
      have nuO : u ≠ O := fun z => by
        rw [z, eO] at nu
        cases nu
      refine ⟨_, same_upd nu _ _ eO, ?_, same_put (H1 := H4) hO (s5.trans (same_upd nu)), us ++ [u], ?_, ?_, ?_⟩
      · rw [List.length_map, hul]
        exact small1000 (by omega)
      · rw [upd_same, List.map_append]
        rfl
      · rw [List.length_append, hul]
        rfl
      · intro j v e
        by_cases hj : j < us.length
        · rw [List.getElem?_append_left hj] at e
          have h5 := hus j v e
          have hv : v ≠ O := fun z => by
            rw [z, eO] at h5
            cases h5
          rw [upd_ne hv]
          exact same_upd nu _ _ h5
        · rw [List.getElem?_append_right (by omega)] at e
          have hk : j - us.length = 0 := by
            cases hk : j - us.length with
            | zero => rfl
            | succ k =>
              rw [hk] at e
              simp at e
          rw [hk] at e
          obtain rfl : u = v := Option.some.inj e
          have ej : j = i := by omega
          subst ej
          rw [upd_ne nuO, upd_same]
    · obtain ⟨s5, us, eO, hul, hus⟩ := p
      rw [List.length_map, g5.len] at hul
      refine ⟨O, _, rfl, .inl ⟨.inl (.inl eO), fun a na => ?_⟩⟩
      refine q _ a ((((s1.trans s2).trans s4).trans s5).trans (same_upd na)) ⟨_, upd_same, ?_, fun j hj => ?_⟩
      · rw [List.length_map, hul, hsz2]
      · rw [hsz2] at hj
        have hj2 : j < us.length := by omega
        refine ⟨us[j], ?_, ?_⟩
        · rw [List.getElem?_map, List.getElem?_eq_getElem hj2]
          rfl
        · rw [hsz2]
          exact same_upd na _ _ (hus j _ (List.getElem?_eq_getElem hj2))
end
end Own

namespace Own
open PySem PySem.Spec PyProof.Rows L2
section
variable {P : Program} {w : World} {K : PySem.W.Frag} {mg : Str → Option Value} {base : Heap} {C : Addr}
/-! ### the law's helpers: kinds, cells, digits -/
theorem ok_lwhole {f : Addr} {fd : FuncData} (F : Fun K "_law_whole" "_law_whole" s__law_whole f fd) (T : Bi mg) : FnOk P w K mg base CX0 1 f fd ["_law_value"] spWhole := by
  refine F.ok sc__law_whole (fun vs H Q E h => ?_) (fun cdv A outer s H vs Q E hr h => ?_)
  · obtain ⟨i, rfl, _⟩ := h
    rfl
  · obtain ⟨i, rfl, q⟩ := h
    refine ⟨_, (pss_one (ps_ret (pe_and (pe_callB call_isi (by rfl) T.b_isinstance (by decide +kernel) (pa_cons (pv 0) (pa_cons (pe_bltn (v := .ty "int") (by rfl) T.b_int (by decide +kernel) rfl) pa_nil))) (pe_one (pe_not (pe_callB call_isi (by rfl) T.b_isinstance (by decide +kernel) (pa_cons (pv 0) (pa_cons (pe_bltn (v := .ty "bool") (by rfl) T.b_bool (by decide +kernel) rfl) pa_nil)))))))), ?_⟩
    refine ⟨_, rfl, _, _, _, _, true, rfl, .ty "int", .base (.int i), kit_ty (by decide +kernel), true, rfl, ?_⟩
    exact ⟨_, rfl, _, _, _, _, false, rfl, .ty "bool", .base (.int i), kit_ty (by decide +kernel), false, rfl, q⟩
def spCell (K : PySem.W.Frag) : Sp := fun vs H Q _ => ∃ (l : Addr) (ns : List Int) (j : Nat), vs = [.ref l, .int (j : Int)] ∧ SqL K H l (ns.map V.int) ∧ j ≤ 100000 ∧ ns.length ≤ 1000 ∧ ∀ c : Int, Q (.int c) H
theorem ok_cell {f : Addr} {fd : FuncData} (F : Fun K "_law_cell" "_law_cell" s__law_cell f fd) (T : Bi mg) : FnOk P w K mg base CX0 1 f fd ["_law_script", "_law_k"] (spCell K) := by
  refine F.ok sc__law_cell (fun vs H Q E h => ?_) (fun cdv A outer s H vs Q E hr h => ?_)
  · obtain ⟨l, ns, j, rfl, _⟩ := h
    rfl
  · obtain ⟨l, ns, j, rfl, hs, hj, hn, q⟩ := h
    refine ⟨_, (pss_cons (ps_if (pt_cmpR op_lt (pv 1) (pe_callB call_len_seq (by rfl) T.b_len PySem.boot_len (pa_cons (pv 0) pa_nil)) (nomark _)) (pss_one (ps_ret (pe_ix (r := rIxL K) ix_list (pv 0) (pv 1) (fun _ _ => rfl)))) pss_nil)
        (pss_cons (ps_set (i := 2) sc__law_cell.nd rfl (.inl rfl) pe_int)
        (pss_cons (ps_for PassesOwn.never rfl (pi_list (pv 0)) (pg_name (i := 3) sc__law_cell.nd rfl (.inl rfl))
        (pss_one (ps_set (i := 2) sc__law_cell.nd rfl (.inl rfl) (pe_op op_mod (pe_callTy call_int1 (by rfl) T.b_int (by decide +kernel) (pa_cons (pe_op op_add (pe_op op_mul (pv 2) pe_int) (pe_op op_mod (pe_callTy call_int1 (by rfl) T.b_int (by decide +kernel) (pa_cons (pv 3) pa_nil)) pe_int)) pa_nil)) pe_int))))
        (pss_one (ps_ret (pe_op op_mod (pe_callTy call_int1 (by rfl) T.b_int (by decide +kernel) (pa_cons (pe_op op_mul (pe_op op_mul (pe_op op_add (pv 2) pe_int) (pe_op op_add (pv 1) pe_int)) pe_int) pa_nil)) pe_int)))))), ?_⟩
    refine ⟨_, rfl, _, rfl, l, _, rfl, .inl hs, _, _, rfl, rfl, _, rfl, ite2 (fun e => ?_) (fun e => ?_)⟩
    · have e1 : (j : Int) < ((ns.map V.int).length : Int) := of_decide_eq_true e
      rw [List.length_map] at e1
      have hj2 : j < ns.length := by omega
      have g : (ns.map V.int)[j]? = some (.int ns[j]) := by
        rw [List.getElem?_map, List.getElem?_eq_getElem hj2]
        rfl
      exact ⟨_, rfl, _, rfl, _, _, _, _, rfl, rfl, hs, atI_nat g, q _⟩
    · refine ⟨_, rfl, l, rfl, ⟨_, hs⟩, for_list (xs := ns.map V.int) (fun i σ H' => (∃ (z : Int) (y : Option V), 0 ≤ z ∧ z < 1000003 ∧ σ = [some (.ref l), some (.int (j : Int)), some (.int z), y]) ∧ H' = H) ⟨⟨17, none, by decide, by decide, rfl⟩, rfl⟩ (fun i σ H' _ p => by rw [p.2]; exact hs) (fun i x σ H' hx p => ?_) (fun σ H' p => ?_)⟩
      · obtain ⟨⟨z, y, z0, z1, rfl⟩, rfl⟩ := p
        obtain ⟨c, rfl⟩ : ∃ c, x = .int c := by
          rw [List.getElem?_map] at hx
          cases e2 : ns[i]? with
          | none => rw [e2] at hx; cases hx
          | some c =>
            rw [e2] at hx
            exact ⟨c, (Option.some.inj hx).symm⟩
        refine ⟨_, rfl, _, _, rfl, rfl, .inl ⟨by omega, by omega⟩, _, rfl, .inl ⟨_, rfl, _, _, rfl, rfl, by show (0 : Int) < 1000003; decide, _, _, rfl, rfl, .inl ⟨_, rfl, _, _, rfl, rfl, by show (0 : Int) < 1000003; decide, ?_⟩⟩⟩
        exact ⟨⟨_, _, Int.emod_nonneg _ (by decide), Int.emod_lt_of_pos _ (by decide), rfl⟩, rfl⟩
      · obtain ⟨⟨z, y, z0, z1, rfl⟩, rfl⟩ := p
        have hp : (z + 7) * ((j : Int) + 3) < 2 ^ 64 ∧ -(2 ^ 64) < (z + 7) * ((j : Int) + 3) := by
          have a1 : 0 ≤ z + 7 := by omega
          have a2 : z + 7 ≤ 1000010 := by omega
          have b1 : 0 ≤ (j : Int) + 3 := by omega
          have b2 : (j : Int) + 3 ≤ 100003 := by omega
          have c1 : (z + 7) * ((j : Int) + 3) ≤ 1000010 * 100003 := Int.mul_le_mul a2 b2 b1 (by decide)
          have c2 : 0 ≤ (z + 7) * ((j : Int) + 3) := Int.mul_nonneg a1 b1
          omega
        exact ⟨_, rfl, _, _, rfl, rfl, _, rfl, _, _, rfl, rfl, _, _, rfl, rfl, .inl ⟨by omega, by omega⟩, _, _, rfl, rfl, .inl ⟨hp.2, hp.1⟩, .inl ⟨_, rfl, _, _, rfl, rfl, by show (0 : Int) < 2147483647; decide, q _⟩⟩
/-- each digit lies below its size -/
def Digs (ds szs : List Int) : Prop := ds.length = szs.length ∧ ∀ (i : Nat) (d s : Int), ds[i]? = some d → szs[i]? = some s → 0 ≤ d ∧ d < s
theorem Digs.snoc {ds szs : List Int} {i : Nat} {d s : Int} (h : Digs ds (szs.take i)) (e : szs[i]? = some s) (h0 : 0 ≤ d) (h1 : d < s) : Digs (ds ++ [d]) (szs.take (i + 1)) := by
  have hi : i < szs.length := (List.getElem?_eq_some_iff.mp e).1
  have hl : ds.length = i := by
    rw [h.1, List.length_take]
    omega
  rw [List.take_add_one, e]
  refine ⟨by rw [List.length_append, List.length_append, h.1]; rfl, fun j x y hx hy => ?_⟩
  by_cases hj : j < i
  · rw [List.getElem?_append_left (by omega)] at hx
    rw [List.getElem?_append_left (by rw [List.length_take]; omega)] at hy
    exact h.2 j x y hx hy
  · rw [List.getElem?_append_right (by omega)] at hx
    rw [List.getElem?_append_right (by rw [List.length_take]; omega), List.length_take] at hy
    have hk : j - ds.length = 0 := by
      cases hk : j - ds.length with
      | zero => rfl
      | succ k =>
        rw [hk] at hx
        simp at hx
    rw [hk] at hx
    rw [show j - min i szs.length = 0 by omega] at hy
    obtain rfl : d = x := Option.some.inj hx
    obtain rfl : s = y := Option.some.inj hy
    exact ⟨h0, h1⟩
def spDigs (K : PySem.W.Frag) : Sp := fun vs H Q _ => ∃ (c : Int) (b : Addr) (szs : List Int), vs = [.int c, .ref b] ∧ SqL K H b (szs.map V.int) ∧ szs.length ≤ 1000 ∧ (∀ s ∈ szs, 0 < s ∧ s < 1073741824) ∧ ∀ H' p ds, Same H H' → H p = none → H' p = some (.lst (ds.map V.int)) → Digs ds szs → Q (.ref p) H'
theorem int_at {ns : List Int} {i : Nat} {x : V} (h : (ns.map V.int)[i]? = some x) : ∃ c, x = .int c ∧ ns[i]? = some c := by
  rw [List.getElem?_map] at h
  cases e : ns[i]? with
  | none => rw [e] at h; cases h
  | some c =>
    rw [e] at h
    exact ⟨c, (Option.some.inj h).symm, rfl⟩
theorem ok_digits {f : Addr} {fd : FuncData} (F : Fun K "_law_digits" "_law_digits" s__law_digits f fd) (T : Bi mg) : FnOk P w K mg base CX0 1 f fd ["_law_cell_here", "_law_sizes"] (spDigs K) := by
  refine F.ok sc__law_digits (fun vs H Q E h => ?_) (fun cdv A outer s H vs Q E hr h => ?_)
  · obtain ⟨c, b, szs, rfl, _⟩ := h
    rfl
  · obtain ⟨c, b, szs, rfl, hb, hl, hsz, q⟩ := h
    refine ⟨_, (pss_cons (ps_set (i := 2) sc__law_digits.nd rfl (.inl rfl) (pe_lst pa_nil))
        (pss_cons (ps_set (i := 3) sc__law_digits.nd rfl (.inl rfl) (pe_callTy call_int1 (by rfl) T.b_int (by decide +kernel) (pa_cons (pv 0) pa_nil)))
        (pss_cons (ps_if (pt_cmpR op_ge (pv 3) (pe_op op_pow pe_int pe_int) (nomark _)) (pss_cons (ps_set (i := 3) sc__law_digits.nd rfl (.inl rfl) (pe_op op_sub (pv 3) (pe_op op_pow pe_int pe_int)))
        (pss_cons (ps_for PassesOwn.never rfl (pi_list (pv 1)) (pg_name (i := 6) sc__law_digits.nd rfl (.inl rfl))
        (pss_cons (ps_expr (pe_bm PySem.F.plainAttrs_list PySem.F.slot_list_append PySem.F.type_list_append mt_append (pv 2) (pa_cons (pe_op op_modN (pe_callTy call_int1 (by rfl) T.b_int (by decide +kernel) (pa_cons (pv 3) pa_nil)) (pv 6)) pa_nil)))
        (pss_one (ps_set (i := 3) sc__law_digits.nd rfl (.inl rfl) (pe_op op_fdivN (pe_callTy call_int1 (by rfl) T.b_int (by decide +kernel) (pa_cons (pv 3) pa_nil)) (pv 6))))))
        (pss_one (ps_ret (pv 2))))) pss_nil)
        (pss_cons (ps_set (i := 4) sc__law_digits.nd rfl (.inl rfl) (pe_op op_mod (pe_callTy call_int1 (by rfl) T.b_int (by decide +kernel) (pa_cons (pv 3) pa_nil)) pe_int))
        (pss_cons (ps_for PassesOwn.never rfl (pi_range1 (by rfl) T.b_range (pa_cons (pe_callB call_len_seq (by rfl) T.b_len PySem.boot_len (pa_cons (pv 1) pa_nil)) pa_nil)) (pg_name (i := 5) sc__law_digits.nd rfl (.inl rfl))
        (pss_cons (ps_set (i := 4) sc__law_digits.nd rfl (.inl rfl) (pe_op op_mod (pe_callTy call_int1 (by rfl) T.b_int (by decide +kernel) (pa_cons (pe_op op_add (pe_op op_add (pe_op op_mul (pv 4) pe_int) (pe_op op_mul pe_int (pv 5))) pe_int) pa_nil)) pe_int))
        (pss_cons (ps_set (i := 7) sc__law_digits.nd rfl (.inl rfl) (pe_op op_mod (pe_callTy call_int1 (by rfl) T.b_int (by decide +kernel) (pa_cons (pe_op op_mul (pv 4) (pe_op op_add (pe_op op_fdiv (pv 4) pe_int) pe_int)) pa_nil)) pe_int))
        (pss_one (ps_expr (pe_bm PySem.F.plainAttrs_list PySem.F.slot_list_append PySem.F.type_list_append mt_append (pv 2) (pa_cons (pe_op op_modN (pe_op op_fdiv (pv 7) pe_int) (pe_ix (r := rIxL K) ix_list (pv 1) (pv 5) (fun _ _ => rfl))) pa_nil)))))))
        (pss_one (ps_ret (pv 2)))))))), ?_⟩
    refine ⟨Nat.zero_le _, fun p np => ?_⟩
    have sp : Same H (upd H p (.lst [])) := same_upd np
    refine ⟨_, rfl, .inl ⟨_, rfl, ?_⟩⟩
    refine ⟨_, rfl, _, _, rfl, rfl, ⟨by decide, by decide, by decide⟩, _, _, rfl, rfl, _, rfl, ite2 (fun e => ?_) (fun e => ?_)⟩
    · refine ⟨_, rfl, _, _, rfl, rfl, ⟨by decide, by decide, by decide⟩, _, _, rfl, rfl, ?_⟩
      refine ⟨_, rfl, b, rfl, ⟨_, sp.seq hb⟩, for_list (xs := szs.map V.int) (fun i σ H' => (∃ (z : Int) (ds : List Int) (y4 y5 y6 y7 : Option V), σ = [some (.int c), some (.ref b), some (.ref p), some (.int z), y4, y5, y6, y7] ∧ H' = upd H p (.lst (ds.map V.int)) ∧ Digs ds (szs.take i))) ⟨_, [], _, _, _, _, rfl, rfl, rfl, fun j d s h => by simp at h⟩ (fun i σ H' _ p => by obtain ⟨_, _, _, _, _, _, _, rfl, _⟩ := p; exact (same_upd np).seq hb) (fun i x σ H' hx pv => ?_) (fun σ H' pv => ?_)⟩
      · obtain ⟨z, ds, y4, y5, y6, y7, rfl, rfl, dg⟩ := pv
        obtain ⟨sz, rfl, hsi⟩ := int_at hx
        have hs := hsz sz (List.mem_of_getElem? hsi)
        have hi : i < szs.length := (List.getElem?_eq_some_iff.mp hsi).1
        refine ⟨_, rfl, .inl ⟨rfl, _, .inl (.inl upd_same)⟩, _, rfl, .inl ⟨_, rfl, _, rfl, _, _, rfl, rfl, by omega, p, _, _, rfl, rfl, upd_same, ?_, ?_⟩⟩
        · rw [List.length_map, dg.1, List.length_take]
          exact Nat.lt_of_le_of_lt (Nat.min_le_right _ _) (small1000 hl)
        refine ⟨_, rfl, .inl ⟨_, rfl, _, rfl, _, _, rfl, rfl, ⟨by omega, by omega⟩, ?_⟩⟩
        have hm := fmod_in z hs.1
        refine ⟨_, ds ++ [z.fmod sz], _, _, _, _, rfl, ?_, dg.snoc hsi hm.1 hm.2⟩
        rw [upd_upd, List.map_append]
        rfl
      · obtain ⟨z, ds, y4, y5, y6, y7, rfl, rfl, dg⟩ := pv
        rw [List.length_map, List.take_length] at dg
        exact ⟨_, rfl, q _ p ds (same_upd np) np upd_same dg⟩
    · refine ⟨_, rfl, .inl ⟨_, rfl, _, _, rfl, rfl, by show (0 : Int) < 2147483629; decide, ?_⟩⟩
      refine ⟨_, rfl, b, _, rfl, .inl (sp.seq hb), _, rfl, by omega, by rw [List.length_map]; omega, ?_⟩
      rw [show ((szs.map V.int).length : Int).toNat = szs.length by rw [List.length_map]; omega]
      refine for_range (lo := 0) (n := szs.length) (fun i σ H' => (∃ (z : Int) (ds : List Int) (y3 y4 y6 y7 : Option V), 0 ≤ z ∧ z < 2147483647 ∧ σ = [some (.int c), some (.ref b), some (.ref p), y3, some (.int z), y4, y6, y7] ∧ H' = upd H p (.lst (ds.map V.int)) ∧ Digs ds (szs.take i))) ⟨_, [], _, _, _, _, Int.emod_nonneg _ (by decide), Int.lt_of_lt_of_le (Int.emod_lt_of_pos _ (by decide)) (by decide), rfl, rfl, rfl, fun j d s h => by simp at h⟩ (fun i σ H' hi pv => ?_) (fun σ H' pv => ?_)
      · obtain ⟨z, ds, y3, y4, y6, y7, z0, z1, rfl, rfl, dg⟩ := pv
        have hsi : szs[i]? = some szs[i] := List.getElem?_eq_getElem hi
        have hs := hsz szs[i] (List.mem_of_getElem? hsi)
        generalize szs[i] = sz at hsi hs
        refine ⟨_, rfl, _, _, rfl, rfl, .inl ⟨by omega, by omega⟩, _, rfl, _, _, rfl, rfl, .inl ⟨by decide, by decide⟩, _, _, rfl, rfl, _, _, rfl, rfl, .inl ⟨_, rfl, _, _, rfl, rfl, by show (0 : Int) < 2147483647; decide, ?_⟩⟩
        generalize hz : (z * 48271 + 974711 * (0 + (i : Int)) + 12345) % 2147483647 = z2
        have z20 : 0 ≤ z2 := by rw [← hz]; exact Int.emod_nonneg _ (by decide)
        have z21 : z2 < 2147483647 := by rw [← hz]; exact Int.emod_lt_of_pos _ (by decide)
        refine ⟨_, rfl, _, rfl, _, _, rfl, rfl, ⟨by decide, by decide⟩, _, _, rfl, rfl, _, _, rfl, rfl, .inl ⟨?_, ?_⟩, .inl ⟨_, rfl, _, _, rfl, rfl, by show (0 : Int) < 2147483629; decide, ?_⟩⟩
        · show -(2 ^ 64) < (z * 48271 + 974711 * (0 + (i : Int)) + 12345) % 2147483647
          rw [hz]
          omega
        · show (z * 48271 + 974711 * (0 + (i : Int)) + 12345) % 2147483647 < 2 ^ 64
          rw [hz]
          omega
        refine ⟨_, rfl, .inl ⟨rfl, _, .inl (.inl upd_same)⟩, _, rfl, _, _, rfl, rfl, ⟨by decide, by decide⟩, _, rfl, _, rfl, b, _, _, _, rfl, rfl, (same_upd np).seq hb, at_of (j := i) (by omega) (by rw [List.getElem?_map, hsi]; rfl), _, _, rfl, rfl, by omega, p, _, _, rfl, rfl, upd_same, ?_, ?_⟩
        · rw [List.length_map, dg.1, List.length_take]
          exact Nat.lt_of_le_of_lt (Nat.min_le_right _ _) (small1000 hl)
        have hm := fun x : Int => fmod_in x hs.1
        refine ⟨_, ds ++ [((((z * 48271 + 974711 * (0 + (i : Int)) + 12345) % 2147483647) * (((z * 48271 + 974711 * (0 + (i : Int)) + 12345) % 2147483647) / 65537 + 3)) % 2147483629 / 19).fmod sz], _, _, _, _, ?_, ?_, rfl, ?_, dg.snoc hsi (hm _).1 (hm _).2⟩
        · exact Int.emod_nonneg _ (by decide)
        · exact Int.emod_lt_of_pos _ (by decide)
        · rw [upd_upd, List.map_append]
          rfl
      · obtain ⟨z, ds, y3, y4, y6, y7, z0, z1, rfl, rfl, dg⟩ := pv
        rw [List.take_length] at dg
        exact ⟨_, rfl, q _ p ds (same_upd np) np upd_same dg⟩
end
end Own

/-! Mates and their tables. -/
namespace Own
theorem pre_congr {f g : Int → Int} {k : Nat} (h : ∀ x : Int, 0 ≤ x → x < (k : Int) → f x = g x) : pre f k = pre g k := by
  induction k with
  | zero => rfl
  | succ k ih =>
    rw [pre, pre, ih fun x h0 h1 => h x h0 (by omega), h (k : Int) (by omega) (by omega)]
theorem pre_one {f g : Int → Int} {k : Nat} {a : Int} (a0 : 0 ≤ a) (a1 : a < (k : Int)) (h : ∀ x : Int, 0 ≤ x → x < (k : Int) → x ≠ a → f x = g x) : pre f k = pre g k + (f a - g a) := by
  induction k with
  | zero => omega
  | succ k ih =>
    rw [pre, pre]
    by_cases e : (k : Int) = a
    · rw [pre_congr fun x h0 h1 => h x h0 (by omega) (by omega), e]
      omega
    · rw [ih (by omega) fun x h0 h1 h2 => h x h0 (by omega) h2, h (k : Int) (by omega) (by omega) e]
      omega
/-- two sums that differ at some places only -/
theorem pre_some {f : Int → Int} {k : Nat} : ∀ (S : List Int) (g : Int → Int), S.Nodup → (∀ a ∈ S, 0 ≤ a ∧ a < (k : Int)) → (∀ x : Int, 0 ≤ x → x < (k : Int) → x ∉ S → f x = g x) → pre f k = pre g k + (S.map fun a => f a - g a).sum
  | [], g, _, _, h => by
    rw [pre_congr fun x h0 h1 => h x h0 h1 List.not_mem_nil]
    simp
  | a :: S, g, nd, hr, h => by
    obtain ⟨n1, n2⟩ := List.nodup_cons.mp nd
    obtain ⟨a0, a1⟩ := hr a List.mem_cons_self
    have e1 := pre_one (f := fun x => if x = a then f x else g x) (g := g) a0 a1 fun x _ _ hx => if_neg hx
    have e2 := pre_some S (fun x => if x = a then f x else g x) n2 (fun b hb => hr b (List.mem_cons_of_mem _ hb)) fun x h0 h1 hx => by
      by_cases e : x = a
      · rw [if_pos e]
      · rw [if_neg e]
        exact h x h0 h1 fun m => (List.mem_cons.mp m).elim e hx
    have e3 : (S.map fun b => f b - (if b = a then f b else g b)) = S.map fun b => f b - g b := List.map_congr_left fun b hb => by
      rw [if_neg fun z => n1 (by rw [← z]; exact hb)]
    simp only [if_true] at e1
    rw [e2, e3, List.map_cons, List.sum_cons]
    omega
/-- M tells the other end of the cord of each pin -/
structure Mat (n : Int) (M : Int → Int) : Prop where
  in_ : ∀ x, 0 ≤ x → x < n → 0 ≤ M x ∧ M x < n
  ne : ∀ x, 0 ≤ x → x < n → M x ≠ x
  inv : ∀ x, 0 ≤ x → x < n → M (M x) = x
/-- does the cord from p to M p part the gaps i and j? -/
def fM (M : Int → Int) (i j p : Int) : Int := if p < M p ∧ ¬ ((p ≤ i ∧ i < M p) ↔ (p ≤ j ∧ j < M p)) then 1 else 0
def tM (n : Int) (M : Int → Int) (i j : Int) : Int := pre (fM M i j) n.toNat
/-- one cord, its ends in any order -/
def ct (a m i j : Int) : Int := if ¬ ((lo a m ≤ i ∧ i < hi a m) ↔ (lo a m ≤ j ∧ j < hi a m)) then 1 else 0
theorem fM_pair {n : Int} {M : Int → Int} (h : Mat n M) {a : Int} (a0 : 0 ≤ a) (a1 : a < n) (i j : Int) : fM M i j a + fM M i j (M a) = ct a (M a) i j := by
  have h1 := h.ne a a0 a1
  have h2 := h.inv a a0 a1
  have h3 := lo_hi a (M a)
  unfold fM ct
  rw [h2]
  generalize M a = m at *
  rcases h3 with h3 | h3
  · rw [if_neg (c := m < a ∧ _) (by omega), h3.2.1, h3.2.2]
    split <;> split <;> omega
  · rw [if_neg (c := a < m ∧ _) (by omega), h3.2.1, h3.2.2]
    split <;> split <;> omega
theorem tM_comm (n : Int) (M : Int → Int) (i j : Int) : tM n M i j = tM n M j i := pre_congr fun x _ _ => by
  unfold fM
  split <;> split <;> omega
theorem tM_same (n : Int) (M : Int → Int) (i : Int) : tM n M i i = 0 := by
  unfold tM
  have : ∀ k : Nat, pre (fM M i i) k = 0 := fun k => by
    induction k with
    | zero => rfl
    | succ k ih =>
      rw [pre, ih]
      unfold fM
      rw [if_neg (by omega)]
      rfl
  exact this _
theorem tM_nn (n : Int) (M : Int → Int) (i j : Int) : 0 ≤ tM n M i j := by
  unfold tM
  have : ∀ k : Nat, 0 ≤ pre (fM M i j) k := fun k => by
    induction k with
    | zero => exact Int.le_refl 0
    | succ k ih =>
      rw [pre]
      have : 0 ≤ fM M i j (k : Int) := by unfold fM; split <;> omega
      omega
  exact this _
/-- the last gap is the gap ahead of pin 0 -/
theorem tM_last {n : Int} {M : Int → Int} (h : Mat n M) (i : Int) : tM n M i (n - 1) = tM n M i (-1) := by
  refine pre_congr fun x h0 h1 => ?_
  have h2 := h.in_ x h0 (by omega)
  unfold fM
  split <;> split <;> omega
/-- tables of mates that differ at two cords only -/
theorem tM_diff {n : Int} {M N : Int → Int} {i j k l : Int} (S : List Int) (nd : S.Nodup) (hr : ∀ a ∈ S, 0 ≤ a ∧ a < n) (h : ∀ x : Int, 0 ≤ x → x < n → x ∉ S → fM M i j x = fM N k l x) : tM n M i j = tM n N k l + (S.map fun a => fM M i j a - fM N k l a).sum :=
  pre_some S _ nd (fun a ha => by have := hr a ha; omega) fun x h0 h1 hx => h x h0 (by omega) hx
/-- one gap further -/
def stp (a m k : Int) : Int := if a < m then (if a ≤ k ∧ k < m then -1 else 1) else (if m ≤ k ∧ k < a then 1 else -1)
theorem tM_step {n : Int} {M : Int → Int} (h : Mat n M) {a : Int} (a0 : 0 ≤ a) (a1 : a < n) (k : Int) : tM n M k a = tM n M k (a - 1) + stp a (M a) k := by
  have h1 := h.ne a a0 a1
  have h2 := h.in_ a a0 a1
  have e := tM_diff (n := n) (M := M) (N := M) (i := k) (j := a) (k := k) (l := a - 1) [a, M a] (List.nodup_cons.mpr ⟨fun z => h1 (List.mem_singleton.mp z).symm, by simp⟩) (fun b hb => by
    rcases List.mem_cons.mp hb with rfl | hb
    · exact ⟨a0, a1⟩
    · rw [List.mem_singleton.mp hb]; exact h2) fun x x0 x1 hx => by
    have n1 : x ≠ a := fun z => hx (by rw [z]; exact List.mem_cons_self)
    have n2 : M x ≠ a := fun z => hx (by
      have := h.inv x x0 x1
      rw [z] at this
      rw [← this]
      exact List.mem_cons_of_mem _ List.mem_cons_self)
    unfold fM
    split <;> split <;> omega
  have p1 := fM_pair h a0 a1 k a
  have p2 := fM_pair h a0 a1 k (a - 1)
  have e2 : ([a, M a].map fun b => fM M k a b - fM M k (a - 1) b).sum = ct a (M a) k a - ct a (M a) k (a - 1) := by
    simp only [List.map_cons, List.map_nil, List.sum_cons, List.sum_nil]
    omega
  have e3 : ct a (M a) k a - ct a (M a) k (a - 1) = stp a (M a) k := by
    have h3 := lo_hi a (M a)
    unfold ct stp
    generalize M a = m at *
    rcases h3 with h3 | h3
    · rw [h3.2.1, h3.2.2, if_pos (c := a < m) (by omega)]
      split <;> split <;> split <;> omega
    · rw [h3.2.1, h3.2.2, if_neg (c := a < m) (by omega)]
      split <;> split <;> split <;> omega
  rw [e, e2, e3]
/-! ### two strands cross -/
/-- the mates when the strands at a and a + 1 change their places -/
def swM (M : Int → Int) (a : Int) (x : Int) : Int := if x = a then M (a + 1) else if x = a + 1 then M a else if x = M (a + 1) then a else if x = M a then a + 1 else M x
theorem sw_vals {n : Int} {M : Int → Int} (h : Mat n M) {a : Int} (a0 : 0 ≤ a) (a1 : a + 1 < n) (d : M a ≠ a + 1) : swM M a a = M (a + 1) ∧ swM M a (a + 1) = M a ∧ swM M a (M (a + 1)) = a ∧ swM M a (M a) = a + 1 ∧
    M a ≠ M (a + 1) ∧ M a ≠ a ∧ M (a + 1) ≠ a ∧ M (a + 1) ≠ a + 1 ∧ (∀ x, x ≠ a → x ≠ a + 1 → x ≠ M a → x ≠ M (a + 1) → swM M a x = M x) := by
  have h1 := h.ne a a0 (by omega)
  have h2 := h.ne (a + 1) (by omega) a1
  have h3 : M (a + 1) ≠ a := fun z => d (by have := h.inv (a + 1) (by omega) a1; rw [z] at this; exact this)
  have h4 : M a ≠ M (a + 1) := fun z => by
    have e1 := h.inv a a0 (by omega)
    have e2 := h.inv (a + 1) (by omega) a1
    rw [z, e2] at e1
    omega
  refine ⟨by unfold swM; rw [if_pos rfl], by unfold swM; rw [if_neg (by omega), if_pos rfl], by unfold swM; rw [if_neg h3, if_neg h2, if_pos rfl], by unfold swM; rw [if_neg h1, if_neg d, if_neg h4, if_pos rfl], h4, h1, h3, h2, fun x x1 x2 x3 x4 => ?_⟩
  unfold swM
  rw [if_neg x1, if_neg x2, if_neg x4, if_neg x3]
theorem sw_mat {n : Int} {M : Int → Int} (h : Mat n M) {a : Int} (a0 : 0 ≤ a) (a1 : a + 1 < n) (d : M a ≠ a + 1) : Mat n (swM M a) := by
  obtain ⟨v1, v2, v3, v4, v5, v6, v7, v8, v9⟩ := sw_vals h a0 a1 d
  have r1 := h.in_ a a0 (by omega)
  have r2 := h.in_ (a + 1) (by omega) a1
  have key : ∀ x, 0 ≤ x → x < n → (0 ≤ swM M a x ∧ swM M a x < n) ∧ swM M a x ≠ x ∧ swM M a (swM M a x) = x := fun x x0 x1 => by
    by_cases c1 : x = a
    · rw [c1, v1, v3]; omega
    by_cases c2 : x = a + 1
    · rw [c2, v2, v4]; omega
    by_cases c3 : x = M a
    · rw [c3, v4, v2]; omega
    by_cases c4 : x = M (a + 1)
    · rw [c4, v3, v1]; omega
    have e := v9 x c1 c2 c3 c4
    have q1 := h.in_ x x0 x1
    have q2 := h.ne x x0 x1
    have q3 := h.inv x x0 x1
    rw [e]
    refine ⟨q1, q2, ?_⟩
    rw [v9 (M x) (fun z => c3 (by rw [← z, q3])) (fun z => c4 (by rw [← z, q3])) (fun z => c1 (by rw [← q3, z, h.inv a a0 (by omega)])) fun z => c2 (by rw [← q3, z, h.inv (a + 1) (by omega) a1])]
    exact q3
  exact ⟨fun x x0 x1 => (key x x0 x1).1, fun x x0 x1 => (key x x0 x1).2.1, fun x x0 x1 => (key x x0 x1).2.2⟩
theorem ct_next {a m i j : Int} (h1 : m ≠ a) (h2 : m ≠ a + 1) (hi_ : i ≠ a) (hj : j ≠ a) : ct a m i j = ct (a + 1) m i j := by
  have h3 := lo_hi a m
  have h4 := lo_hi (a + 1) m
  unfold ct
  rcases h3 with h3 | h3 <;> rcases h4 with h4 | h4 <;> rw [h3.2.1, h3.2.2, h4.2.1, h4.2.2] <;> split <;> split <;> omega
/-- away from the gap between them nothing changes -/
theorem sw_far {n : Int} {M : Int → Int} (h : Mat n M) {a : Int} (a0 : 0 ≤ a) (a1 : a + 1 < n) (d : M a ≠ a + 1) {i j : Int} (hi_ : i ≠ a) (hj : j ≠ a) : tM n (swM M a) i j = tM n M i j := by
  obtain ⟨v1, v2, v3, v4, v5, v6, v7, v8, v9⟩ := sw_vals h a0 a1 d
  have hm := sw_mat h a0 a1 d
  have r1 := h.in_ a a0 (by omega)
  have r2 := h.in_ (a + 1) (by omega) a1
  have e := tM_diff (n := n) (M := swM M a) (N := M) (i := i) (j := j) (k := i) (l := j) [a, a + 1, M a, M (a + 1)] (by
      simp only [List.nodup_cons, List.mem_cons, List.not_mem_nil, or_false, List.nodup_nil, and_true, not_false_eq_true]
      omega) (fun b hb => by
      simp only [List.mem_cons, List.not_mem_nil, or_false] at hb
      rcases hb with rfl | rfl | rfl | rfl <;> omega) fun x x0 x1 hx => by
    simp only [List.mem_cons, List.not_mem_nil, or_false] at hx
    unfold fM
    rw [v9 x (by omega) (by omega) (by omega) (by omega)]
  have p1 := fM_pair h a0 (by omega) i j
  have p2 := fM_pair h (a := a + 1) (by omega) a1 i j
  have p3 := fM_pair hm a0 (by omega) i j
  have p4 := fM_pair hm (a := a + 1) (by omega) a1 i j
  rw [v1] at p3
  rw [v2] at p4
  have q1 := ct_next (m := M a) (i := i) (j := j) v6 d hi_ hj
  have q2 := ct_next (m := M (a + 1)) (i := i) (j := j) v7 v8 hi_ hj
  simp only [List.map_cons, List.map_nil, List.sum_cons, List.sum_nil] at e
  grind
theorem stp_or (a m k : Int) : (a < m ∧ a ≤ k ∧ k < m ∧ stp a m k = -1) ∨ (a < m ∧ (k < a ∨ m ≤ k) ∧ stp a m k = 1) ∨ (m ≤ a ∧ m ≤ k ∧ k < a ∧ stp a m k = 1) ∨ (m ≤ a ∧ (k < m ∨ a ≤ k) ∧ stp a m k = -1) := by
  unfold stp
  by_cases h : a < m
  · rw [if_pos h]
    by_cases c : a ≤ k ∧ k < m
    · rw [if_pos c]
      exact .inl ⟨h, c.1, c.2, rfl⟩
    · rw [if_neg c]
      exact .inr (.inl ⟨h, by omega, rfl⟩)
  · rw [if_neg h]
    by_cases c : m ≤ k ∧ k < a
    · rw [if_pos c]
      exact .inr (.inr (.inl ⟨by omega, c.1, c.2, rfl⟩))
    · rw [if_neg c]
      exact .inr (.inr (.inr ⟨by omega, by omega, rfl⟩))
/-- do the cords at a and at a + 1 cross? -/
def crs (M : Int → Int) (a : Int) : Prop := ¬ ((lo (a + 1) (M (a + 1)) < a ∧ a < hi (a + 1) (M (a + 1))) ↔ (lo (a + 1) (M (a + 1)) < M a ∧ M a < hi (a + 1) (M (a + 1))))
theorem crs_near {n : Int} {M : Int → Int} (h : Mat n M) {a : Int} (a0 : 0 ≤ a) (a1 : a + 1 < n) (d : M a ≠ a + 1) (c : crs M a) {k : Int} (hk : k ≠ a) : tM n M k a = lo (tM n M k (a + 1)) (tM n M k (a - 1)) + 1 := by
  obtain ⟨_, _, _, _, v5, v6, v7, v8, _⟩ := sw_vals h a0 a1 d
  have e1 := tM_step h a0 (by omega) k
  have e2 := tM_step h (a := a + 1) (by omega) a1 k
  rw [show a + 1 - 1 = a by omega] at e2
  unfold crs at c
  have l1 := lo_hi (tM n M k (a + 1)) (tM n M k (a - 1))
  have l2 := lo_hi (a + 1) (M (a + 1))
  generalize M a = m2 at *
  generalize M (a + 1) = m1 at *
  have z1 := stp_or a m2 k
  have z2 := stp_or (a + 1) m1 k
  generalize stp a m2 k = y1 at *
  generalize stp (a + 1) m1 k = y2 at *
  grind
theorem sw_near {n : Int} {M : Int → Int} (h : Mat n M) {a : Int} (a0 : 0 ≤ a) (a1 : a + 1 < n) (d : M a ≠ a + 1) (c : ¬ crs M a) {k : Int} (hk : k ≠ a) : tM n (swM M a) k a = lo (tM n M k (a + 1)) (tM n M k (a - 1)) + 1 := by
  obtain ⟨v1, v2, _, _, v5, v6, v7, v8, _⟩ := sw_vals h a0 a1 d
  have hm := sw_mat h a0 a1 d
  have e1 := tM_step h a0 (by omega) k
  have e2 := tM_step h (a := a + 1) (by omega) a1 k
  have e3 := tM_step hm a0 (by omega) k
  rw [sw_far h a0 a1 d hk (show a - 1 ≠ a by omega), v1] at e3
  rw [show a + 1 - 1 = a by omega] at e2
  unfold crs at c
  have l1 := lo_hi (tM n M k (a + 1)) (tM n M k (a - 1))
  have l2 := lo_hi (a + 1) (M (a + 1))
  generalize M a = m2 at *
  generalize M (a + 1) = m1 at *
  have z1 := stp_or a m2 k
  have z2 := stp_or (a + 1) m1 k
  have z3 := stp_or a m1 k
  generalize stp a m2 k = y1 at *
  generalize stp (a + 1) m1 k = y2 at *
  generalize stp a m1 k = y3 at *
  grind
theorem own_near {n : Int} {M : Int → Int} (h : Mat n M) {a : Int} (a0 : 0 ≤ a) (a1 : a + 1 < n) (d : M a = a + 1) {k : Int} (hk : k ≠ a) : tM n M k a = lo (tM n M k (a + 1)) (tM n M k (a - 1)) + 1 := by
  have d2 : M (a + 1) = a := by have := h.inv a a0 (by omega); rw [d] at this; exact this
  have e1 := tM_step h a0 (by omega) k
  have e2 := tM_step h (a := a + 1) (by omega) a1 k
  rw [show a + 1 - 1 = a by omega] at e2
  have l1 := lo_hi (tM n M k (a + 1)) (tM n M k (a - 1))
  rw [d] at e1
  rw [d2] at e2
  unfold stp at e1 e2
  rw [if_pos (by omega)] at e1
  rw [if_neg (by omega)] at e2
  split at e1 <;> split at e2 <;> omega
instance {M : Int → Int} {a : Int} : Decidable (crs M a) := by
  unfold crs
  exact inferInstance
/-- the mates behind a crossing -/
def crM (M : Int → Int) (a : Int) : Int → Int := if M a = a + 1 ∨ crs M a then M else swM M a
theorem cr_mat {n : Int} {M : Int → Int} (h : Mat n M) {a : Int} (a0 : 0 ≤ a) (a1 : a + 1 < n) : Mat n (crM M a) := by
  unfold crM
  split
  · exact h
  · rename_i c
    exact sw_mat h a0 a1 fun z => c (.inl z)
theorem cr_far {n : Int} {M : Int → Int} (h : Mat n M) {a : Int} (a0 : 0 ≤ a) (a1 : a + 1 < n) {i j : Int} (hi_ : i ≠ a) (hj : j ≠ a) : tM n (crM M a) i j = tM n M i j := by
  unfold crM
  split
  · rfl
  · rename_i c
    exact sw_far h a0 a1 (fun z => c (.inl z)) hi_ hj
theorem cr_near {n : Int} {M : Int → Int} (h : Mat n M) {a : Int} (a0 : 0 ≤ a) (a1 : a + 1 < n) {k : Int} (hk : k ≠ a) : tM n (crM M a) k a = lo (tM n M k (a + 1)) (tM n M k (a - 1)) + 1 := by
  unfold crM
  split
  · rename_i c
    by_cases d : M a = a + 1
    · exact own_near h a0 a1 d hk
    · exact crs_near h a0 a1 d (c.resolve_left d) hk
  · rename_i c
    exact sw_near h a0 a1 (fun z => c (.inl z)) (fun z => c (.inr z)) hk
end Own

namespace Own
/-! ### two more pins -/
def bgU (f m : Int) : Int := if f ≤ m then m + 2 else m
def bgS (f k : Int) : Int := if k < f then k else k - 2
def bgM (M : Int → Int) (f x : Int) : Int := if x = f then f + 1 else if x = f + 1 then f else bgU f (M (bgS f x))
theorem bg_old {M : Int → Int} {f x : Int} (h1 : x ≠ f) (h2 : x ≠ f + 1) : bgM M f x = bgU f (M (bgS f x)) := by
  unfold bgM
  rw [if_neg h1, if_neg h2]
theorem bg_1 {M : Int → Int} {f : Int} : bgM M f f = f + 1 := if_pos rfl
theorem bg_2 {M : Int → Int} {f : Int} : bgM M f (f + 1) = f := by
  unfold bgM
  rw [if_neg (by omega), if_pos rfl]
theorem bgS_U (f x : Int) : bgS f (bgU f x) = x := by
  unfold bgS bgU
  split <;> split <;> omega
theorem bgU_ne (f x : Int) : bgU f x ≠ f ∧ bgU f x ≠ f + 1 := by
  unfold bgU
  split <;> omega
theorem bg_mat {n : Int} {M : Int → Int} (h : Mat n M) {f : Int} (f0 : 0 ≤ f) (f1 : f ≤ n) : Mat (n + 2) (bgM M f) := by
  have key : ∀ x, 0 ≤ x → x < n + 2 → (0 ≤ bgM M f x ∧ bgM M f x < n + 2) ∧ bgM M f x ≠ x ∧ bgM M f (bgM M f x) = x := fun x x0 x1 => by
    by_cases c1 : x = f
    · rw [c1, bg_1, bg_2]; omega
    by_cases c2 : x = f + 1
    · rw [c2, bg_2, bg_1]; omega
    rw [bg_old c1 c2]
    have hs : 0 ≤ bgS f x ∧ bgS f x < n := by unfold bgS; split <;> omega
    have q1 := h.in_ _ hs.1 hs.2
    have q2 := h.ne _ hs.1 hs.2
    have q3 := h.inv _ hs.1 hs.2
    have ne := bgU_ne f (M (bgS f x))
    rw [bg_old ne.1 ne.2, bgS_U, q3]
    generalize M (bgS f x) = m at *
    unfold bgU bgS at *
    refine ⟨?_, ?_, ?_⟩
    · split <;> omega
    · intro z
      revert q2 z
      split <;> split <;> omega
    · split <;> split <;> omega
  exact ⟨fun x x0 x1 => (key x x0 x1).1, fun x x0 x1 => (key x x0 x1).2.1, fun x x0 x1 => (key x x0 x1).2.2⟩
theorem pre_skip (F : Int → Int) (a : Int) (a0 : 0 ≤ a) : ∀ n : Nat, a ≤ (n : Int) → pre F (n + 2) = pre (fun x => F (if x < a then x else x + 2)) n + (F a + F (a + 1))
  | n, h => by
    by_cases e : a = (n : Int)
    · have e1 : pre (fun x => F (if x < a then x else x + 2)) n = pre F n := pre_congr fun x _ h1 => by
        rw [if_pos (by omega)]
      rw [e1, e, pre, pre]
      have : ((n + 1 : Nat) : Int) = (n : Int) + 1 := by omega
      rw [this]
      omega
    · cases n with
      | zero => omega
      | succ n =>
        have ih := pre_skip F a a0 n (by omega)
        rw [show n + 1 + 2 = (n + 2) + 1 from rfl, pre, ih, pre]
        rw [if_neg (by omega)]
        have : ((n + 2 : Nat) : Int) = (n : Int) + 2 := by omega
        rw [this]
        omega
theorem bg_far {n : Int} {M : Int → Int} (h : Mat n M) (n0 : 0 ≤ n) {f : Int} (f0 : 0 ≤ f) (f1 : f ≤ n) {i j : Int} (hi_ : i ≠ f) (hj : j ≠ f) : tM (n + 2) (bgM M f) i j = tM n M (bgS f i) (bgS f j) := by
  have e1 := pre_skip (fM (bgM M f) i j) f f0 n.toNat (by omega)
  unfold tM
  rw [show (n + 2).toNat = n.toNat + 2 by omega, e1]
  have z1 : fM (bgM M f) i j f = 0 := by
    unfold fM
    rw [bg_1]
    split <;> omega
  have z2 : fM (bgM M f) i j (f + 1) = 0 := by
    unfold fM
    rw [bg_2]
    split <;> omega
  have e2 : pre (fun x => fM (bgM M f) i j (if x < f then x else x + 2)) n.toNat = pre (fM M (bgS f i) (bgS f j)) n.toNat := pre_congr fun x x0 x1 => by
    have hu : (if x < f then x else x + 2) = bgU f x := by
      unfold bgU
      split <;> split <;> omega
    rw [hu]
    have ne := bgU_ne f x
    unfold fM
    rw [bg_old ne.1 ne.2, bgS_U]
    generalize M x = m
    unfold bgU bgS
    repeat' split
    all_goals omega
  rw [e2, z1, z2]
  omega
theorem bg_near {n : Int} {M : Int → Int} (h : Mat n M) (n0 : 0 ≤ n) {f : Int} (f0 : 0 ≤ f) (f1 : f ≤ n) {k : Int} (hk : k ≠ f) : tM (n + 2) (bgM M f) k f = tM n M (bgS f k) (f - 1) + 1 := by
  have e1 := tM_step (bg_mat h f0 f1) f0 (by omega) k
  rw [bg_far h n0 f0 f1 hk (show f - 1 ≠ f by omega), bg_1] at e1
  have e2 : bgS f (f - 1) = f - 1 := if_pos (by omega)
  have e3 : stp f (f + 1) k = 1 := by
    unfold stp
    rw [if_pos (by omega), if_neg (by omega)]
  rw [e1, e2, e3]
/-- a gap's number, one round further -/
theorem tM_mod {n : Int} {M : Int → Int} (h : Mat n M) (n0 : 0 ≤ n) {g : Int} (g0 : -1 ≤ g) (g1 : g < hi n 1) (i : Int) : tM n M i (g.fmod (hi n 1)) = tM n M i g := by
  have hh := lo_hi n 1
  by_cases e : n = 0
  · subst e
    rfl
  by_cases c : g = -1
  · have e1 : g.fmod (hi n 1) = n - 1 := by
      have : hi n 1 = n := by omega
      rw [this, c, Int.fmod_eq_emod_of_nonneg _ n0]
      have : (-1 + n) % n = -1 % n := by rw [Int.add_emod_right]
      rw [← this, Int.emod_eq_of_lt (by omega) (by omega)]
      omega
    rw [e1, tM_last h, c]
  · rw [Int.fmod_eq_emod_of_nonneg _ (by omega), Int.emod_eq_of_lt (by omega) (by omega)]
/-! ### the row without letters -/
def stM (t x : Int) : Int := 2 * t - 1 - x
theorem st_mat (t : Int) : Mat (2 * t) (stM t) := ⟨fun x _ _ => by unfold stM; omega, fun x _ _ => by unfold stM; omega, fun x _ _ => by unfold stM; omega⟩
def spot (t k : Int) : Int := lo (k + 1) (2 * t - 1 - k)
theorem st_tab {t : Int} {a b : Int} (a0 : 0 ≤ a) (a1 : a < 2 * t) (b0 : 0 ≤ b) (b1 : b < 2 * t) : tM (2 * t) (stM t) a b = if spot t a - spot t b < 0 then -(spot t a - spot t b) else spot t a - spot t b := by
  have key : ∀ (d : Nat) (a : Int), 0 ≤ a → a + (d : Int) < 2 * t → tM (2 * t) (stM t) a (a + (d : Int)) = if spot t a - spot t (a + (d : Int)) < 0 then -(spot t a - spot t (a + (d : Int))) else spot t a - spot t (a + (d : Int)) := by
    intro d
    induction d with
    | zero =>
      intro a a0 a1
      rw [show a + ((0 : Nat) : Int) = a by omega, tM_same]
      split <;> omega
    | succ d ih =>
      intro a a0 a1
      have e := tM_step (st_mat t) (a := a + ((d + 1 : Nat) : Int)) (by omega) a1 a
      rw [show a + ((d + 1 : Nat) : Int) - 1 = a + (d : Int) by omega, ih a a0 (by omega)] at e
      rw [e]
      unfold stM stp spot
      have l1 := lo_hi (a + 1) (2 * t - 1 - a)
      have l2 := lo_hi (a + (d : Int) + 1) (2 * t - 1 - (a + (d : Int)))
      have l3 := lo_hi (a + ((d + 1 : Nat) : Int) + 1) (2 * t - 1 - (a + ((d + 1 : Nat) : Int)))
      repeat' split
      all_goals omega
  rcases Int.lt_or_le b a with c | c
  · have e := key (a - b).toNat b b0 (by omega)
    rw [show b + ((a - b).toNat : Int) = a by omega] at e
    rw [tM_comm, e]
    split <;> split <;> omega
  · have e := key (b - a).toNat a a0 (by omega)
    rw [show a + ((b - a).toNat : Int) = b by omega] at e
    exact e
end Own

namespace Own
open PySem PySem.Spec PyProof.Rows L2
theorem fmod_lo {y n : Int} (h0 : 0 ≤ y) (h1 : y < n) : y.fmod n = y := by
  rw [Int.fmod_eq_emod_of_nonneg _ (by omega)]
  exact Int.emod_eq_of_lt h0 h1
theorem fmod_hi {y n : Int} (h0 : n ≤ y) (h1 : y < n + n) : y.fmod n = y - n := by
  rw [Int.fmod_eq_emod_of_nonneg _ (by omega), show y = (y - n) + n * 1 by omega, Int.add_mul_emod_self_left, Int.emod_eq_of_lt (by omega) (by omega)]
  omega
theorem fmod_neg {y n : Int} (h0 : -n ≤ y) (h1 : y < 0) : y.fmod n = y + n := by
  rw [Int.fmod_eq_emod_of_nonneg _ (by omega), show y = (y + n) + n * (-1) by omega, Int.add_mul_emod_self_left, Int.emod_eq_of_lt (by omega) (by omega)]
  omega

/-- an item of a list or of a tuple -/
def rIxB (K : PySem.W.Frag) : R2 := fun x y H Q => ∃ p xs i v, x = .ref p ∧ y = .int i ∧ SqB K H p xs ∧ atI xs i = some v ∧ Q v H
theorem ix_seqB {X : Cx} : IxR X (rIxB X.K) := by
  intro value slice pins s σ H x y v u Q I rx ry h hs
  obtain ⟨p, xs, i, z, rfl, rfl, hB, ha, q⟩ := h
  rcases hB with hB | hB
  · exact ix_list value slice pins s σ H _ _ v u Q I rx ry ⟨p, xs, i, z, rfl, rfl, hB, ha, q⟩ hs
  · exact ix_tup value slice pins s σ H _ _ v u Q I rx ry ⟨p, xs, i, z, rfl, rfl, hB, ha, q⟩ hs
def SqH (H : Hp) (a : Addr) (xs : List V) : Prop := H a = some (.lst xs) ∨ H a = some (.tup xs)
theorem SqH.same {H H' : Hp} {a : Addr} {xs : List V} (s : Same H H') (h : SqH H a xs) : SqH H' a xs := h.elim (fun e => .inl (s _ _ e)) fun e => .inr (s _ _ e)
theorem SqH.b {K : PySem.W.Frag} {H : Hp} {a : Addr} {xs : List V} (h : SqH H a xs) : SqB K H a xs := h.elim (fun e => .inl (.inl (.inl e))) fun e => .inr (.inl (.inl e))
section
variable {P : Program} {w : World} {K : PySem.W.Frag} {mg : Str → Option Value} {base : Heap}
def spSeqB : Sp := fun vs H Q _ => ∃ (a : Addr) (xs : List V), vs = [.ref a] ∧ SqH H a xs ∧ ∀ H', Same H H' → Q (.bl true) H'
theorem ok_seqB {f : Addr} {fd : FuncData} (F : Fun K "is_sequence" "is_sequence" s_is_sequence f fd) (T : Bi mg) : FnOk P w K mg base CX0 1 f fd ["value"] spSeqB := by
  refine F.ok sc_is_sequence (fun vs H Q E h => ?_) (fun cdv A outer s H vs Q E hr h => ?_)
  · obtain ⟨a, xs, rfl, _⟩ := h
    rfl
  · obtain ⟨a, xs, rfl, hs, q⟩ := h
    refine ⟨_, (pss_one (ps_ret (pe_callB call_isiT (by rfl) T.b_isinstance (by decide +kernel) (pa_cons (pv 0) (pa_cons (pe_tup (pa_cons (pe_bltn (v := .ty "list") (by rfl) T.b_list (by decide +kernel) rfl) (pa_cons (pe_bltn (v := .ty "tuple") (by rfl) T.b_tuple (by decide +kernel) rfl) pa_nil))) pa_nil))))), ?_⟩
    refine ⟨_, rfl, by show 2 ≤ sizeLine; decide, fun p np => ?_⟩
    have s1 : Same H (upd H p (.tup [.ty "list", .ty "tuple"])) := same_upd np
    rcases hs with hs | hs
    · exact ⟨_, p, _, _, _, true, rfl, upd_same, .cons (.ty "list") (.cons (.ty "tuple") .nil), .base (.lst (s1 _ _ hs)), kitAny_cons (b := true) (kit_ty (by decide +kernel)) (fun z => by cases z) (fun _ => rfl), q _ s1⟩
    · exact ⟨_, p, _, _, _, true, rfl, upd_same, .cons (.ty "list") (.cons (.ty "tuple") .nil), .base (.tup (s1 _ _ hs)), kitAny_cons (b := false) (kit_ty (by decide +kernel)) (fun _ => kitAny_cons (b := true) (kit_ty (by decide +kernel)) (fun z => by cases z) (fun _ => rfl)) (fun z => by cases z), q _ s1⟩
end
end Own

namespace Own
open PySem PySem.Spec PyProof.Rows L2
/-- the gap before a pin -/
def pv1 (n a : Int) : Int := (a - 1).fmod n
def tw (n : Int) (T : Int → Int → Int) (a b : Int) : Int := T a b + T (pv1 n a) (pv1 n b) - T a (pv1 n b) - T (pv1 n a) b
/-- rows of whole numbers, each a list or a tuple, in a list or a tuple -/
structure GridB (H : Hp) (p : Addr) (sz : Int) (f : Int → Int → Int) : Prop where
  ex : ∃ vs, SqH H p vs ∧ ∀ i : Nat, (i : Int) < sz → ∃ b, vs[i]? = some (.ref b) ∧ SqH H b (gl sz (f (i : Int)))
theorem GridB.same {H H' : Hp} {p : Addr} {sz : Int} {f : Int → Int → Int} (s : Same H H') (g : GridB H p sz f) : GridB H' p sz f := by
  obtain ⟨vs, h, r⟩ := g.ex
  exact ⟨vs, h.same s, fun i hi => by
    obtain ⟨b, e, hb⟩ := r i hi
    exact ⟨b, e, hb.same s⟩⟩
theorem GridB.at_ {H : Hp} {p : Addr} {sz : Int} {f : Int → Int → Int} (g : GridB H p sz f) {x : Int} (h0 : 0 ≤ x) (h1 : x < sz) : ∃ vs b, SqH H p vs ∧ atI vs x = some (.ref b) ∧ SqH H b (gl sz (f x)) := by
  obtain ⟨vs, h, r⟩ := g.ex
  obtain ⟨k, rfl⟩ : ∃ k : Nat, x = (k : Int) := ⟨x.toNat, by omega⟩
  obtain ⟨b, e, hb⟩ := r k h1
  exact ⟨vs, b, h, atI_nat e, hb⟩
theorem gl_atI {n x : Int} (g : Int → Int) (h0 : 0 ≤ x) (h1 : x < n) : atI (gl n g) x = some (.int (g x)) := by
  obtain ⟨k, rfl⟩ : ∃ k : Nat, x = (k : Int) := ⟨x.toNat, by omega⟩
  refine atI_nat ?_
  unfold gl
  rw [List.getElem?_map, List.getElem?_range (by omega)]
  rfl
def rLenB (K : PySem.W.Frag) : List V → Hp → VK → Prop := fun xs H Q => ∃ p ys, xs = [V.ref p] ∧ (SqL K H p ys ∨ SqT K H p ys) ∧ Q (.int (ys.length : Int)) H
theorem cr_lenB {X : Cx} : CallR X (.builtin "len") (rLenB X.K) := call_len_seq
theorem SqH.lt {K : PySem.W.Frag} {H : Hp} {a : Addr} {xs : List V} (h : SqH H a xs) : SqL K H a xs ∨ SqT K H a xs := h.elim (fun e => .inl (.inl (.inl e))) fun e => .inr (.inl (.inl e))
section
variable {P : Program} {w : World} {K : PySem.W.Frag} {mg : Str → Option Value} {base : Heap} {C : Addr}
def spTwice : Sp := fun vs H Q _ => ∃ (n : Int) (p : Addr) (f : Int → Int → Int) (a b : Int), vs = [.int n, .ref p, .int a, .int b] ∧ GridB H p n f ∧ 0 ≤ a ∧ a < n ∧ 0 ≤ b ∧ b < n ∧ Q (.int (tw n f a b)) H
theorem ok_twice {f : Addr} {fd : FuncData} (F : Fun K "twice_between" "twice_between" s_twice_between f fd) : FnOk P w K mg base CX0 1 f fd ["pins", "table", "a", "b"] spTwice := by
  refine F.ok sc_twice_between (fun vs H Q E h => ?_) (fun cdv A outer s H vs Q E hr h => ?_)
  · obtain ⟨n, p, g, a, b, rfl, _⟩ := h
    rfl
  · obtain ⟨n, p, g, a, b, rfl, hG, a0, a1, b0, b1, q⟩ := h
    refine ⟨_, (pss_cons (ps_set (i := 4) sc_twice_between.nd rfl (.inl rfl) (pe_op op_modN (pe_op op_sub (pv 2) pe_int) (pv 0)))
        (pss_cons (ps_set (i := 5) sc_twice_between.nd rfl (.inl rfl) (pe_op op_modN (pe_op op_sub (pv 3) pe_int) (pv 0)))
        (pss_one (ps_ret (pe_op op_sub (pe_op op_sub (pe_op op_add (pe_ix (r := rIxB K) ix_seqB (pe_ix (r := rIxB K) ix_seqB (pv 1) (pv 2) (fun _ _ => rfl)) (pv 3) (fun _ _ => rfl)) (pe_ix (r := rIxB K) ix_seqB (pe_ix (r := rIxB K) ix_seqB (pv 1) (pv 4) (fun _ _ => rfl)) (pv 5) (fun _ _ => rfl))) (pe_ix (r := rIxB K) ix_seqB (pe_ix (r := rIxB K) ix_seqB (pv 1) (pv 2) (fun _ _ => rfl)) (pv 5) (fun _ _ => rfl))) (pe_ix (r := rIxB K) ix_seqB (pe_ix (r := rIxB K) ix_seqB (pv 1) (pv 4) (fun _ _ => rfl)) (pv 3) (fun _ _ => rfl))))))), ?_⟩
    have ha := fmod_in (a - 1) (show 0 < n by omega)
    have hb := fmod_in (b - 1) (show 0 < n by omega)
    obtain ⟨vs, u, h1, e1, r1⟩ := hG.at_ a0 a1
    obtain ⟨vs2, v, h2, e2, r2⟩ := hG.at_ ha.1 ha.2
    refine ⟨_, rfl, _, _, rfl, rfl, _, rfl, _, _, rfl, rfl, by omega, ?_⟩
    refine ⟨_, rfl, _, _, rfl, rfl, _, rfl, _, _, rfl, rfl, by omega, ?_⟩
    refine ⟨_, rfl, _, rfl, p, vs, _, _, rfl, rfl, h1.b, e1, _, rfl, u, _, _, _, rfl, rfl, r1.b, gl_atI _ b0 b1, ?_⟩
    refine ⟨_, rfl, _, rfl, p, vs2, _, _, rfl, rfl, h2.b, e2, _, rfl, v, _, _, _, rfl, rfl, r2.b, gl_atI _ hb.1 hb.2, _, _, rfl, rfl, ?_⟩
    refine ⟨_, rfl, _, rfl, p, vs, _, _, rfl, rfl, h1.b, e1, _, rfl, u, _, _, _, rfl, rfl, r1.b, gl_atI _ hb.1 hb.2, _, _, rfl, rfl, ?_⟩
    refine ⟨_, rfl, _, rfl, p, vs2, _, _, rfl, rfl, h2.b, e2, _, rfl, v, _, _, _, rfl, rfl, r2.b, gl_atI _ b0 b1, _, _, rfl, rfl, ?_⟩
    exact q
end
end Own

namespace Own
open PySem PySem.Spec PyProof.Rows L2
/-- [.. for a in range(..) for b in range(..)], from without -/
theorem lc2_range {lo : Int} {n : Nat} {g : TG} {tt : TT} {wi1 : TI} {g1 : TG} {tt1 : TT} {te : TE} {vs vs1 : List Nat} {σ : L2.St} {H1 : Hp} {D : Addr} {Qd : Hp → Prop} (Pv : Nat → Hp → Prop) (h0 : Pv 0 (upd H1 D (.lst [])))
    (hs : ∀ i H, i < n → Pv i H → g (.int (lo + i)) (wipe σ vs) H fun σ2 H2 => wipe σ2 vs = wipe σ vs ∧ tt σ2 H2 fun b H3 =>
      if b = true then wi1 σ2 H3 fun J1 H4 => ∃ W1 : Nat → Nat → Hp → Prop, (∃ m, W1 0 m H4) ∧ ∀ j k H, W1 j k H →
        (J1.stop j H ∧ Pv (i + 1) H) ∨ (J1.go j H ∧ ∃ Nx1 : Hp → Prop, (∀ H', Nx1 H' → ∃ k', k' < k ∧ W1 (j + 1) k' H') ∧ ∀ x H', J1.yld j H x H' → g1 x (wipe σ2 vs1) H' fun σ3 H5 => wipe σ3 vs1 = wipe σ2 vs1 ∧ tt1 σ3 H5 fun b H6 =>
          if b = true then te σ3 H6 fun y H7 => ∃ acc, H7 D = some (.lst acc) ∧ acc.length < sizeLine ∧ Nx1 (upd H7 D (.lst (acc ++ [y]))) else Nx1 H6)
      else Pv (i + 1) H3) (hd : ∀ H, Pv n H → Qd H) :
    ∃ W : Nat → Nat → Hp → Prop, (∃ m, W 0 m (upd H1 D (.lst []))) ∧ ∀ i m H, W i m H →
      ((Itr lo n).stop i H ∧ Qd H) ∨ ((Itr lo n).go i H ∧ ∃ Nx : Hp → Prop, (∀ H', Nx H' → ∃ m', m' < m ∧ W (i + 1) m' H') ∧ ∀ x H', (Itr lo n).yld i H x H' → g x (wipe σ vs) H' fun σ2 H2 => wipe σ2 vs = wipe σ vs ∧ tt σ2 H2 fun b H3 =>
        if b = true then wi1 σ2 H3 fun J1 H4 => ∃ W1 : Nat → Nat → Hp → Prop, (∃ m, W1 0 m H4) ∧ ∀ j k H, W1 j k H →
          (J1.stop j H ∧ Nx H) ∨ (J1.go j H ∧ ∃ Nx1 : Hp → Prop, (∀ H', Nx1 H' → ∃ k', k' < k ∧ W1 (j + 1) k' H') ∧ ∀ x H', J1.yld j H x H' → g1 x (wipe σ2 vs1) H' fun σ3 H5 => wipe σ3 vs1 = wipe σ2 vs1 ∧ tt1 σ3 H5 fun b H6 =>
            if b = true then te σ3 H6 fun y H7 => ∃ acc, H7 D = some (.lst acc) ∧ acc.length < sizeLine ∧ Nx1 (upd H7 D (.lst (acc ++ [y]))) else Nx1 H6)
        else Nx H3) := by
  refine ⟨fun i m H => m = n - i ∧ i ≤ n ∧ Pv i H, ⟨n, by simp, Nat.zero_le _, h0⟩, ?_⟩
  rintro i m H ⟨rfl, hi, p⟩
  by_cases hlt : i < n
  · refine .inr ⟨hlt, Pv (i + 1), fun H' p' => ⟨n - (i + 1), by omega, rfl, hlt, p'⟩, fun x H' y => ?_⟩
    obtain ⟨e, y⟩ := y
    subst e y
    exact hs i _ hlt p
  · have e : i = n := by omega
    subst e
    exact .inl ⟨Nat.le_refl _, hd H p⟩
/-- the inner one -/
theorem in_range {lo : Int} {n : Nat} {g1 : TG} {tt1 : TT} {te : TE} {vs1 : List Nat} {σ : L2.St} {H4 : Hp} {D : Addr} {N : Hp → Prop} (P2 : Nat → Hp → Prop) (h0 : P2 0 H4)
    (hs : ∀ j H, j < n → P2 j H → g1 (.int (lo + j)) (wipe σ vs1) H fun σ3 H5 => wipe σ3 vs1 = wipe σ vs1 ∧ tt1 σ3 H5 fun b H6 => if b = true then te σ3 H6 fun y H7 => ∃ acc, H7 D = some (.lst acc) ∧ acc.length < sizeLine ∧ P2 (j + 1) (upd H7 D (.lst (acc ++ [y]))) else P2 (j + 1) H6) (hd : ∀ H, P2 n H → N H) :
    ∃ W1 : Nat → Nat → Hp → Prop, (∃ m, W1 0 m H4) ∧ ∀ j k H, W1 j k H →
        ((Itr lo n).stop j H ∧ N H) ∨ ((Itr lo n).go j H ∧ ∃ Nx1 : Hp → Prop, (∀ H', Nx1 H' → ∃ k', k' < k ∧ W1 (j + 1) k' H') ∧ ∀ x H', (Itr lo n).yld j H x H' → g1 x (wipe σ vs1) H' fun σ3 H5 => wipe σ3 vs1 = wipe σ vs1 ∧ tt1 σ3 H5 fun b H6 =>
          if b = true then te σ3 H6 fun y H7 => ∃ acc, H7 D = some (.lst acc) ∧ acc.length < sizeLine ∧ Nx1 (upd H7 D (.lst (acc ++ [y]))) else Nx1 H6) := by
  refine ⟨fun i m H => m = n - i ∧ i ≤ n ∧ P2 i H, ⟨n, by simp, Nat.zero_le _, h0⟩, ?_⟩
  rintro i m H ⟨rfl, hi, p⟩
  by_cases hlt : i < n
  · refine .inr ⟨hlt, P2 (i + 1), fun H' p' => ⟨n - (i + 1), by omega, rfl, hlt, p'⟩, fun x H' y => ?_⟩
    obtain ⟨e, y⟩ := y
    subst e y
    exact hs i _ hlt p
  · have e : i = n := by omega
    subst e
    exact .inl ⟨Nat.le_refl _, hd H p⟩
/-- the pairs of a rim in order; those whose first pin is a -/
def prA (n : Int) (a : Nat) : List (Int × Int) := (List.range (n - ((a : Int) + 1)).toNat).map fun k : Nat => ((a : Int), (a : Int) + 1 + (k : Int))
def prs (n : Int) (i : Nat) : List (Int × Int) := (List.range i).flatMap (prA n)
def ent (n : Int) (f : Int → Int → Int) (p : Int × Int) : Tr := (p.1, p.2, tw n f p.1 p.2 / 2)
theorem prs_succ (n : Int) (i : Nat) : prs n (i + 1) = prs n i ++ prA n i := by
  unfold prs
  rw [List.range_succ, List.flatMap_append]
  simp
theorem prs_len (n : Int) : ∀ i : Nat, (prs n i).length ≤ i * n.toNat
  | 0 => by rw [Nat.zero_mul]; exact Nat.le_refl _
  | i + 1 => by
    have := prs_len n i
    rw [prs_succ, List.length_append, Nat.succ_mul]
    have e : (prA n i).length ≤ n.toNat := by
      unfold prA
      rw [List.length_map, List.length_range]
      omega
    omega
section
variable {P : Program} {w : World} {K : PySem.W.Frag} {mg : Str → Option Value} {base : Heap} {C : Addr}
def spCot : Sp := fun vs H Q _ => ∃ (n : Int) (p : Addr) (f : Int → Int → Int), vs = [.int n, .ref p] ∧ GridB H p n f ∧ 0 ≤ n ∧ n ≤ 100 ∧ ∀ H' c, Same H H' → TripL H' c (((prs n n.toNat).map (ent n f)).filter fun t => decide (0 < t.2.2)) → Q (.ref c) H'
set_option maxHeartbeats 0 in
theorem ok_cot {f : Addr} {fd : FuncData} (F : Fun K "cords_of_table" "cords_of_table" s_cords_of_table f fd) (T : Bi mg) {f_t : Addr} {d_t : FuncData} (D_t : Df K mg "twice_between" s_twice_between ["pins", "table", "a", "b"] f_t d_t) (G_t : FnOk P w K mg base CX0 1 f_t d_t ["pins", "table", "a", "b"] spTwice) : FnOk P w K mg base CX0 2 f fd ["pins", "table"] spCot := by
  refine F.ok sc_cords_of_table (fun vs H Q E h => ?_) (fun cdv A outer s H vs Q E hr h => ?_)
  · obtain ⟨n, p, g, rfl, _⟩ := h
    rfl
  · obtain ⟨n, p, g, rfl, hG, n0, n1, q⟩ := h
    refine ⟨_, (pss_cons (ps_setLc2 (i := 2) (own := [("a", 3), ("b", 4)]) (vs1 := [4]) (g := gName 3) (tt := tYes) (g1 := gName 4) (tt1 := tYes) rfl sc_cords_of_table.nd rfl rfl (sw_true rfl rfl rfl (by decide +kernel)) (pi_range1 (by rfl) T.b_range (pa_cons (pv 0) pa_nil)) (blkOk_by (own := [("a", 3), ("b", 4)]) (N := ["pins", "table", "entries", "a", "b", "entry"]) (sc := defScope s_cords_of_table) (by decide +kernel)) (by decide) (fun _ _ _ _ _ => pg_name (i := 3) sc_cords_of_table.nd rfl (.inl rfl)) (fun _ _ _ _ _ => pts_nil) (fun _ _ _ _ _ => pi_range2 (by rfl) T.b_range (pa_cons (pe_op op_add (pv 3) pe_int) (pa_cons (pv 0) pa_nil))) (fun _ _ _ _ _ => pg_name (i := 4) sc_cords_of_table.nd rfl (.inl rfl)) (fun _ _ _ _ _ => pts_nil) (fun _ _ _ _ _ => (pe_tup (pa_cons (pv 3) (pa_cons (pv 4) (pa_cons (pe_op op_fdiv (pe_call G_t (hr.mono (by decide)) (by rfl) D_t.g D_t.F.kp D_t.b .nil pass0 (pa_cons (pv 0) (pa_cons (pv 1) (pa_cons (pv 3) (pa_cons (pv 4) pa_nil))))) pe_int) pa_nil)))))) (pss_one (ps_ret (pe_lc (own := [("entry", 5)]) (g := gName 5) rfl sc_cords_of_table.nd (pi_list (pv 2)) (blkOk_by (own := [("entry", 5)]) (N := ["pins", "table", "entries", "a", "b", "entry"]) (sc := defScope s_cords_of_table) (by decide +kernel)) (fun _ _ _ _ _ => (pg_name (i := 5) sc_cords_of_table.nd rfl (.inl rfl))) (fun _ _ _ _ _ => pts_one (pt_cmpR op_gt (pe_ix (r := rIxT K) ix_tup (pv 5) pe_int (fun _ _ => rfl)) pe_int (nomark _))) (fun _ _ _ _ _ => (pv 5)))))), ?_⟩
    refine ⟨_, rfl, n, rfl, by omega, by omega, fun R hR => ?_⟩
    refine lc2_range (lo := 0) (n := n.toNat) (fun i H' => Same H H' ∧ ∃ vs, H' R = some (.lst vs) ∧ TrV H' vs ((prs n i).map (ent n g))) ⟨same_upd hR, [], upd_same, TrV.nil⟩ (fun i H2 hi pv => ?_) (fun H2 pv => ?_)
    · obtain ⟨s2, vs0, eR0, tV0⟩ := pv
      refine ⟨rfl, ?_⟩
      refine ⟨_, rfl, _, _, rfl, rfl, _, rfl, 0 + (i : Int) + 1, n, rfl, ⟨by omega, by omega, by omega, by omega⟩, ?_⟩
      refine in_range (lo := 0 + (i : Int) + 1) (n := (n - (0 + (i : Int) + 1)).toNat) (fun j H' => Same H H' ∧ ∃ vs, H' R = some (.lst vs) ∧ TrV H' vs ((prs n i ++ (List.range j).map fun k : Nat => ((i : Int), (i : Int) + 1 + (k : Int))).map (ent n g))) ⟨s2, vs0, eR0, by rw [List.range_zero, List.map_nil, List.append_nil]; exact tV0⟩ (fun j H3 hj pv => ?_) (fun H3 pv => ?_)
      · obtain ⟨s3, vs, eR, tV⟩ := pv
        refine ⟨rfl, ?_⟩
        refine ⟨_, rfl, _, rfl, _, rfl, _, rfl, _, rfl, _, rfl, n, p, g, _, _, rfl, hG.same s3, by omega, by omega, by omega, by omega, _, _, rfl, rfl, ⟨by show (0 : Int) < 2; decide, by show (2 : Int) < 1073741824; decide⟩, by show 3 ≤ sizeLine; decide, fun u nu => ⟨vs, same_upd nu _ _ eR, ?_, same_put (H1 := H) hR (s3.trans (same_upd nu)), vs ++ [.ref u], upd_same, ?_⟩⟩
        · rw [tV.1, List.length_map, List.length_append, List.length_map, List.length_range]
          have h1 := prs_len n i
          have h2 : i * n.toNat ≤ 100 * 100 := Nat.mul_le_mul (by omega) (by omega)
          exact Nat.lt_of_le_of_lt (show _ ≤ 20000 by omega) (by rw [sizeLine_eq]; decide)
        · have el : (prs n i ++ (List.range (j + 1)).map fun k : Nat => ((i : Int), (i : Int) + 1 + (k : Int))).map (ent n g) = (prs n i ++ (List.range j).map fun k : Nat => ((i : Int), (i : Int) + 1 + (k : Int))).map (ent n g) ++ [ent n g ((i : Int), (i : Int) + 1 + (j : Int))] := by
            rw [List.range_succ]
            simp
          rw [el]
          have uR : u ≠ R := fun z => by rw [z, eR] at nu; cases nu
          refine ((tV.same (same_upd nu)).sameT (sameT_put (same_upd nu _ _ eR) (Same.refl _))).snoc (t := ent n g ((i : Int), (i : Int) + 1 + (j : Int))) ?_
          rw [upd_ne uR, upd_same, Int.zero_add]
          rfl
      · obtain ⟨s3, vs, eR, tV⟩ := pv
        refine ⟨s3, vs, eR, ?_⟩
        rw [prs_succ]
        rw [Int.zero_add] at tV
        exact tV
    · obtain ⟨s2, vs, eR, tV⟩ := pv
      have lvs : vs.length ≤ 10000 := by
        rw [tV.1, List.length_map]
        exact Nat.le_trans (prs_len n n.toNat) (Nat.mul_le_mul (show n.toNat ≤ 100 by omega) (show n.toNat ≤ 100 by omega))
      generalize (prs n n.toNat).map (ent n g) = l at tV q
      refine ⟨_, rfl, R, rfl, ⟨_, .inl (.inl eR)⟩, fun O hO => ?_⟩
      refine lc_list (K := K) (a := R) (xs := vs) (fun i H5 => Same H2 H5 ∧ ∃ us, H5 O = some (.lst us) ∧ us.length ≤ i ∧ TrV H5 us ((l.take i).filter fun t => decide (0 < t.2.2))) ⟨same_upd hO, [], upd_same, Nat.le_refl _, TrV.nil⟩ (fun i H5 _ p => .inl (.inl (p.1 _ _ eR))) (fun i x H5 hxi p => ?_) (fun H5 p => ?_)
      · obtain ⟨s5, us, eO, lu, tU⟩ := p
        obtain ⟨u, t, rfl, ht, hu⟩ := (tV.same s5).at_ hxi
        have et : (l.take (i + 1)).filter (fun t => decide (0 < t.2.2)) = (l.take i).filter (fun t => decide (0 < t.2.2)) ++ [t].filter (fun t => decide (0 < t.2.2)) := by
          rw [List.take_add_one, ht, List.filter_append]
          rfl
        refine ⟨rfl, ?_⟩
        refine ⟨_, rfl, u, tv t, 2, _, rfl, rfl, .inl (.inl hu), atI_nat (j := 2) rfl, _, _, rfl, rfl, _, rfl, ite2 (fun e => ?_) (fun e => ?_)⟩
        · have e1 : 0 < t.2.2 := of_decide_eq_true e
          have iv : i < vs.length := (List.getElem?_eq_some_iff.mp hxi).1
          refine ⟨_, rfl, us, eO, ?_, same_put (H1 := H2) hO s5, us ++ [.ref u], upd_same, by rw [List.length_append]; show _ + 1 ≤ _; omega, ?_⟩
          · exact Nat.lt_of_le_of_lt (show us.length ≤ 20000 by omega) (by rw [sizeLine_eq]; decide)
          · rw [et, List.filter_cons, if_pos (decide_eq_true e1), List.filter_nil]
            have uO : u ≠ O := fun z => by rw [z, eO] at hu; cases hu
            exact (tU.sameT (sameT_put eO (Same.refl _))).snoc (by rw [upd_ne uO]; exact hu)
        · have e1 : ¬ 0 < t.2.2 := fun z => e (decide_eq_true z)
          refine ⟨s5, us, eO, by omega, ?_⟩
          rw [et, List.filter_cons, if_neg (by rw [decide_eq_true_iff]; exact e1), List.filter_nil, List.append_nil]
          exact tU
      · obtain ⟨s5, us, eO, lu, tU⟩ := p
        rw [tV.1, List.take_length] at tU
        exact q _ O (s2.trans s5) ⟨us, eO, tU⟩
end
end Own

namespace Own
open PySem PySem.Spec PyProof.Rows L2
def cotE (n : Int) (f : Int → Int → Int) : List Tr := ((prs n n.toNat).map (ent n f)).filter fun t => decide (0 < t.2.2)
theorem prs_mem {n : Int} {i : Nat} (hi : (i : Int) ≤ n) {p : Int × Int} (h : p ∈ prs n i) : 0 ≤ p.1 ∧ p.1 < p.2 ∧ p.2 < n := by
  unfold prs at h
  obtain ⟨a, ha, hp⟩ := List.mem_flatMap.mp h
  unfold prA at hp
  obtain ⟨k, hk, rfl⟩ := List.mem_map.mp hp
  have h1 := List.mem_range.mp ha
  have h2 := List.mem_range.mp hk
  dsimp only
  omega
theorem cotE_vld {n : Int} (n0 : 0 ≤ n) (f : Int → Int → Int) : ∀ t ∈ cotE n f, Vld n t := fun t ht => by
  obtain ⟨h1, h2⟩ := List.mem_filter.mp ht
  obtain ⟨p, hp, rfl⟩ := List.mem_map.mp h1
  have hm := prs_mem (by omega) hp
  have h3 : 0 < (ent n f p).2.2 := of_decide_eq_true h2
  unfold ent at h3 ⊢
  exact ⟨hm.1, by show p.1 < n; omega, by show 0 ≤ p.2; omega, hm.2.2, by show p.1 ≠ p.2; omega, h3⟩
def TwOk (n : Int) (f : Int → Int → Int) (a b : Int) : Prop := 0 ≤ tw n f a b ∧ tw n f a b % 2 = 0
end Own

namespace Own
/-- as many keys as entries at most -/
theorem nodup_le : ∀ {P L : List (Int × Int)}, P.Nodup → (∀ p ∈ P, p ∈ L) → P.length ≤ L.length
  | [], _, _, _ => Nat.zero_le _
  | p :: P, L, hn, h => by
    have hc := List.nodup_cons.mp hn
    have hp : p ∈ L := h p List.mem_cons_self
    have ih := nodup_le (P := P) (L := L.erase p) hc.2 fun q hq => (List.mem_erase_of_ne (fun z => hc.1 (by rw [← z]; exact hq))).mpr (h q (List.mem_cons_of_mem _ hq))
    rw [List.length_erase_of_mem hp] at ih
    have := List.length_pos_of_mem hp
    rw [List.length_cons]
    omega
theorem IsNorm.len {l r : List Tr} (h : IsNorm l r) : r.length ≤ l.length := by
  have := nodup_le (srt_nodup h.srt) fun p m => (h.mem p).mp m
  rw [List.length_map, List.length_map] at this
  exact this
end Own
namespace Own
open PySem PySem.Spec PyProof.Rows L2
theorem norm_nil {r : List Tr} (h : IsNorm [] r) : r = [] := List.eq_nil_of_length_eq_zero (Nat.le_zero.mp h.len)
theorem good_nil (n : Int) : Good n [] := ⟨List.Pairwise.nil, fun e he => by cases he⟩
/-- the cords between the two pins -/
def cnt (cs : List Tr) (p : Int × Int) : Int := bs (fun q => decide (q = p)) cs
theorem cnt_cons (t : Tr) (cs : List Tr) (p : Int × Int) : cnt (t :: cs) p = (if pr t = p then t.2.2 else 0) + cnt cs p := by
  unfold cnt
  rw [bs]
  by_cases h : pr t = p <;> simp [h]
theorem cnt_snoc (t : Tr) (cs : List Tr) (p : Int × Int) : cnt (cs ++ [t]) p = cnt cs p + (if pr t = p then t.2.2 else 0) := by
  unfold cnt
  rw [bs_append]
  show _ + ((if decide (pr t = p) = true then t.2.2 else 0) + 0) = _
  by_cases h : pr t = p <;> simp [h]
theorem cnt_out {cs : List Tr} {p : Int × Int} (h : p ∉ cs.map pr) : cnt cs p = 0 := bs_none fun e he => decide_eq_false fun z => h (by rw [← z]; exact List.mem_map.mpr ⟨e, he, rfl⟩)
theorem cnt_nn {cs : List Tr} (h : ∀ e ∈ cs, 1 ≤ e.2.2) (p : Int × Int) : 0 ≤ cnt cs p := by
  induction cs with
  | nil => exact Int.le_refl 0
  | cons t r ih =>
    rw [cnt_cons]
    have h1 := h t List.mem_cons_self
    have h2 := ih fun u hu => h u (List.mem_cons_of_mem _ hu)
    split <;> omega
theorem Good.pos {n : Int} {cs : List Tr} (g : Good n cs) : ∀ e ∈ cs, 1 ≤ e.2.2 := fun e he => (g.ord e he).2.2.2
theorem Good.cnt {n : Int} {cs : List Tr} (g : Good n cs) {e : Tr} (h : e ∈ cs) : cnt cs (pr e) = e.2.2 := (self_cnt (srt_nodup g.srt) e h).symm
theorem Good.mem {n : Int} {cs : List Tr} (g : Good n cs) (p : Int × Int) : p ∈ cs.map pr ↔ 1 ≤ Own.cnt cs p := by
  constructor
  · intro h
    obtain ⟨e, he, rfl⟩ := List.mem_map.mp h
    rw [g.cnt he]
    exact g.pos e he
  · intro h
    by_cases m : p ∈ cs.map pr
    · exact m
    · rw [cnt_out m] at h
      omega
theorem good_ext {n : Int} {r s : List Tr} (g : Good n r) (h : Good n s) (e : ∀ p, cnt r p = cnt s p) : r = s := by
  have em : r.map pr = s.map pr := sorted_uniq g.srt h.srt fun p => by rw [g.mem, h.mem, e]
  have e1 := of_pairs (r := r) (g := fun p => cnt s p) fun u hu => (g.cnt hu).symm.trans (e _)
  have e2 := of_pairs (r := s) (g := fun p => cnt s p) fun u hu => (h.cnt hu).symm
  exact e1.trans ((congrArg (List.map _) em).trans e2.symm)
theorem cnt_norm {l r : List Tr} (i : IsNorm l r) (o : ∀ e ∈ l, e.1 < e.2.1) (p : Int × Int) : cnt r p = cnt l p := by
  unfold cnt
  rw [bs_norm _ i, bk_bs _ o]
def keep (ps : List (Int × Int)) (v : Int × Int → Int) : List Tr := (ps.filter fun p => decide (0 < v p)).map fun p => (p.1, p.2, v p)
theorem keep_cnt (v : Int × Int → Int) (q : Int × Int) : ∀ {ps : List (Int × Int)}, ps.Nodup → cnt (keep ps v) q = if q ∈ ps ∧ 0 < v q then v q else 0
  | [], _ => by
    rw [if_neg fun z => by cases z.1]
    rfl
  | p :: ps, hn => by
    have hc := List.nodup_cons.mp hn
    have ih := keep_cnt v q hc.2
    unfold keep at ih ⊢
    rw [List.filter_cons]
    by_cases h : 0 < v p
    · rw [if_pos (decide_eq_true h), List.map_cons, cnt_cons, ih]
      show (if (p.1, p.2) = q then v p else 0) + _ = _
      by_cases e : p = q
      · subst e
        rw [if_pos rfl, if_neg fun z => hc.1 z.1, if_pos ⟨List.mem_cons_self, h⟩]
        omega
      · rw [if_neg e]
        have e1 : (q ∈ p :: ps ∧ 0 < v q) ↔ (q ∈ ps ∧ 0 < v q) := ⟨fun m => ⟨(List.mem_cons.mp m.1).resolve_left fun z => e z.symm, m.2⟩, fun m => ⟨List.mem_cons_of_mem _ m.1, m.2⟩⟩
        simp only [e1]
        omega
    · rw [if_neg (by rw [decide_eq_false h]; decide), ih]
      by_cases e : p = q
      · subst e
        rw [if_neg fun z => h z.2, if_neg fun z => h z.2]
      · have e1 : (q ∈ p :: ps ∧ 0 < v q) ↔ (q ∈ ps ∧ 0 < v q) := ⟨fun m => ⟨(List.mem_cons.mp m.1).resolve_left fun z => e z.symm, m.2⟩, fun m => ⟨List.mem_cons_of_mem _ m.1, m.2⟩⟩
        simp only [e1]
end Own

namespace Own
theorem pv1_pos {n a : Int} (h0 : 1 ≤ a) (h1 : a < n) : pv1 n a = a - 1 := fmod_lo (by omega) (by omega)
end Own
namespace Own
open PySem PySem.Spec PyProof.Rows L2
theorem pv1_zero {n : Int} (h : 0 < n) : pv1 n 0 = n - 1 := by
  unfold pv1
  have e : (0 - 1 : Int).fmod n = (n - 1).fmod n := by
    have := Int.add_mul_fmod_self_left (a := -1) (b := n) (c := 1)
    rw [Int.mul_one] at this
    rw [show n - 1 = -1 + n by omega, this]
    rfl
  rw [e]
  exact fmod_lo (by omega) (by omega)
theorem sep_if (i j p q : Int) : (sepB i j p != sepB i j q) = decide (¬ ((lo i j < p ∧ p ≤ hi i j) ↔ (lo i j < q ∧ q ≤ hi i j))) := bne_dec _ _
set_option maxHeartbeats 0 in
/-- one cord, one formula -/
theorem tw_one {n a b p q m : Int} (ha : 0 ≤ a) (hab : a < b) (hb : b < n) (hp : 0 ≤ p) (hpq : p < q) (hq : q < n) :
    (if (sepB a b p != sepB a b q) = true then m else 0) + (if (sepB (pv1 n a) (pv1 n b) p != sepB (pv1 n a) (pv1 n b) q) = true then m else 0) - (if (sepB a (pv1 n b) p != sepB a (pv1 n b) q) = true then m else 0) - (if (sepB (pv1 n a) b p != sepB (pv1 n a) b q) = true then m else 0) = 2 * (if (p, q) = (a, b) then m else 0) := by
  rw [sep_if, sep_if, sep_if, sep_if, pv1_pos (a := b) (by omega) hb]
  simp only [decide_eq_true_eq, Prod.mk.injEq]
  have v1 : lo a b = a ∧ hi a b = b := by have := lo_hi a b; omega
  have v2 : lo a (b - 1) = a ∧ hi a (b - 1) = b - 1 := by have := lo_hi a (b - 1); omega
  rw [v1.1, v1.2, v2.1, v2.2]
  by_cases h0 : a = 0
  · subst h0
    rw [pv1_zero (by omega)]
    have v3 : lo (n - 1) (b - 1) = b - 1 ∧ hi (n - 1) (b - 1) = n - 1 := by have := lo_hi (n - 1) (b - 1); omega
    have v4 : lo (n - 1) b = b ∧ hi (n - 1) b = n - 1 := by have := lo_hi (n - 1) b; omega
    rw [v3.1, v3.2, v4.1, v4.2]
    clear v1 v2 v3 v4
    by_cases p0 : p = 0 <;> by_cases p1 : p < b <;> by_cases p2 : p = b <;> by_cases q1 : q < b <;> by_cases q2 : q = b <;>
      first
        | (exfalso; omega)
        | (grind)
  · rw [pv1_pos (a := a) (by omega) (by omega)]
    have v3 : lo (a - 1) (b - 1) = a - 1 ∧ hi (a - 1) (b - 1) = b - 1 := by have := lo_hi (a - 1) (b - 1); omega
    have v4 : lo (a - 1) b = a - 1 ∧ hi (a - 1) b = b := by have := lo_hi (a - 1) b; omega
    rw [v3.1, v3.2, v4.1, v4.2]
    clear v1 v2 v3 v4
    by_cases p0 : p < a <;> by_cases p1 : p = a <;> by_cases p2 : p < b <;> by_cases p3 : p = b <;> by_cases q0 : q < a <;> by_cases q1 : q = a <;> by_cases q2 : q < b <;> by_cases q3 : q = b <;>
      first
        | (exfalso; omega)
        | (grind)
/-- the formula, of a lot's own table -/
theorem tw_tab {n : Int} {cs : List Tr} (h : ∀ e ∈ cs, 0 ≤ e.1 ∧ e.1 < e.2.1 ∧ e.2.1 < n) {a b : Int} (ha : 0 ≤ a) (hab : a < b) (hb : b < n) : tw n (tabE cs) a b = 2 * cnt cs (a, b) := by
  induction cs with
  | nil =>
    unfold tw tabE cnt
    simp [bs]
  | cons t r ih =>
    have ih := ih fun e he => h e (List.mem_cons_of_mem _ he)
    obtain ⟨h1, h2, h3⟩ := h t List.mem_cons_self
    have one := tw_one (m := t.2.2) ha hab hb h1 h2 h3
    unfold tw tabE at ih ⊢
    rw [cnt_cons, bs, bs, bs, bs]
    unfold pr
    dsimp only at ih one ⊢
    generalize (if (sepB a b t.1 != sepB a b t.2.1) = true then t.2.2 else 0) = u1 at one ⊢
    generalize (if (sepB (pv1 n a) (pv1 n b) t.1 != sepB (pv1 n a) (pv1 n b) t.2.1) = true then t.2.2 else 0) = u2 at one ⊢
    generalize (if (sepB a (pv1 n b) t.1 != sepB a (pv1 n b) t.2.1) = true then t.2.2 else 0) = u3 at one ⊢
    generalize (if (sepB (pv1 n a) b t.1 != sepB (pv1 n a) b t.2.1) = true then t.2.2 else 0) = u4 at one ⊢
    generalize (if (t.1, t.2.1) = (a, b) then t.2.2 else 0) = u5 at one ⊢
    omega
/-- the lot that a table tells, over these pairs -/
def ofT (n : Int) (T : Int → Int → Int) (ps : List (Int × Int)) : List Tr := keep ps fun p => (tw n T p.1 p.2) / 2
/-- the table of the lot that a table tells is the table -/
theorem tab_zero {n : Int} {W : Int → Int → Int} (sy : ∀ i j, 0 ≤ i → i < n → 0 ≤ j → j < n → W i j = W j i) (dg : ∀ i, 0 ≤ i → i < n → W i i = 0) (z : ∀ a b, 0 ≤ a → a < b → b < n → tw n W a b = 0) : ∀ i j, 0 ≤ i → i < n → 0 ≤ j → j < n → W i j = 0 := by
  -- the steps along a row are the same in all rows
  have step : ∀ (a : Nat) (b : Int), (a : Int) < b → b < n → W a b - W a (b - 1) = W 0 b - W 0 (b - 1) := by
    intro a
    induction a with
    | zero => exact fun b _ _ => rfl
    | succ a ih =>
      intro b h1 h2
      have e := z ((a + 1 : Nat) : Int) b (by omega) h1 h2
      unfold tw at e
      rw [pv1_pos (by omega) (by omega), pv1_pos (by omega) h2, show ((a + 1 : Nat) : Int) - 1 = (a : Int) by omega] at e
      have := ih b (by omega) h2
      omega
  -- the first row's steps are 0
  have last : ∀ (k : Nat) (b : Int), b = n - 1 - (k : Int) → 0 ≤ b → ∀ c : Int, c = n - 1 → W b c = W 0 c - W 0 b := by
    intro k
    induction k with
    | zero =>
      intro b e hb c hc
      subst hc
      rw [show b = n - 1 by omega, dg _ (by omega) (by omega)]
      omega
    | succ k ih =>
      intro b e hb c hc
      have i1 := ih (b + 1) (by omega) (by omega) c hc
      -- W b c - W b b telescopes: use rows b and b + 1
      obtain ⟨bn, rfl⟩ : ∃ bn : Nat, b = (bn : Int) := ⟨b.toNat, by omega⟩
      -- along row b from b to c
      have tel : ∀ (m : Nat) (d : Int), d = (bn : Int) + (m : Int) → d < n → W bn d = W 0 d - W 0 bn := by
        intro m
        induction m with
        | zero =>
          intro d ed hd
          rw [show d = (bn : Int) by omega, dg _ (by omega) (by omega)]
          omega
        | succ m im =>
          intro d ed hd
          have s := step bn d (by omega) hd
          have := im (d - 1) (by omega) (by omega)
          omega
      exact tel (k + 1) c (by omega) (by omega)
  have first : ∀ b, 1 ≤ b → b < n → W 0 b = W 0 (b - 1) := by
    intro b h1 h2
    have e := z 0 b (by omega) (by omega) h2
    unfold tw at e
    rw [pv1_zero (by omega), pv1_pos h1 h2] at e
    have w1 := last (n - 1 - b).toNat b (by omega) (by omega) (n - 1) rfl
    have w2 := last (n - 1 - (b - 1)).toNat (b - 1) (by omega) (by omega) (n - 1) rfl
    have y1 := sy (n - 1) b (by omega) (by omega) (by omega) h2
    have y2 := sy (n - 1) (b - 1) (by omega) (by omega) (by omega) (by omega)
    omega
  have row0 : ∀ (m : Nat), (m : Int) < n → W 0 m = 0 := by
    intro m
    induction m with
    | zero => exact fun h => dg 0 (by omega) (by omega)
    | succ m im =>
      intro h
      have := first ((m + 1 : Nat) : Int) (by omega) h
      rw [show ((m + 1 : Nat) : Int) - 1 = (m : Int) by omega] at this
      rw [this]
      exact im (by omega)
  have up : ∀ (i : Nat) (m : Nat), (i : Int) + (m : Int) < n → W i ((i : Int) + (m : Int)) = 0 := by
    intro i m
    induction m with
    | zero =>
      intro h
      rw [show (i : Int) + ((0 : Nat) : Int) = (i : Int) by omega]
      exact dg _ (by omega) (by omega)
    | succ m im =>
      intro h
      have s := step i ((i : Int) + ((m + 1 : Nat) : Int)) (by omega) h
      have e1 := row0 (i + (m + 1)) (by omega)
      have e2 := row0 (i + m) (by omega)
      rw [show ((i : Int) + ((m + 1 : Nat) : Int)) - 1 = (i : Int) + (m : Int) by omega] at s
      rw [show ((i + (m + 1) : Nat) : Int) = (i : Int) + ((m + 1 : Nat) : Int) by omega] at e1
      rw [show ((i + m : Nat) : Int) = (i : Int) + (m : Int) by omega] at e2
      have := im (by omega)
      omega
  intro i j i0 i1 j0 j1
  by_cases h : i ≤ j
  · have := up i.toNat (j - i).toNat (by omega)
    rw [show ((i.toNat : Nat) : Int) = i by omega, show i + (((j - i).toNat : Nat) : Int) = j by omega] at this
    exact this
  · have := up j.toNat (i - j).toNat (by omega)
    rw [show ((j.toNat : Nat) : Int) = j by omega, show j + (((i - j).toNat : Nat) : Int) = i by omega] at this
    rw [sy i j i0 i1 j0 j1]
    exact this
theorem tw_sub (n : Int) (T U : Int → Int → Int) (a b : Int) : tw n (fun i j => T i j - U i j) a b = tw n T a b - tw n U a b := by
  unfold tw
  dsimp only
  omega
/-- the pairs of a rim: all of these, and each once -/
structure Prs (n : Int) (ps : List (Int × Int)) : Prop where
  nd : ps.Nodup
  mem : ∀ p, p ∈ ps ↔ 0 ≤ p.1 ∧ p.1 < p.2 ∧ p.2 < n
theorem ofT_ord {n : Int} {T : Int → Int → Int} {ps : List (Int × Int)} (h : Prs n ps) : ∀ e ∈ ofT n T ps, 0 ≤ e.1 ∧ e.1 < e.2.1 ∧ e.2.1 < n ∧ 1 ≤ e.2.2 := fun e he => by
  obtain ⟨p, hp, rfl⟩ := List.mem_map.mp he
  obtain ⟨h1, h2⟩ := List.mem_filter.mp hp
  have := (h.mem p).mp h1
  have h3 : 0 < tw n T p.1 p.2 / 2 := of_decide_eq_true h2
  exact ⟨this.1, this.2.1, this.2.2, h3⟩
theorem tab_ofT {n : Int} {T : Int → Int → Int} {ps : List (Int × Int)} (h : Prs n ps) (sy : ∀ i j, 0 ≤ i → i < n → 0 ≤ j → j < n → T i j = T j i) (dg : ∀ i, 0 ≤ i → i < n → T i i = 0) (ev : ∀ a b, 0 ≤ a → a < b → b < n → 0 ≤ tw n T a b ∧ tw n T a b % 2 = 0) : ∀ i j, 0 ≤ i → i < n → 0 ≤ j → j < n → tabE (ofT n T ps) i j = T i j := by
  have hw : ∀ a b, 0 ≤ a → a < b → b < n → tw n (fun i j => T i j - tabE (ofT n T ps) i j) a b = 0 := fun a b a0 ab bn => by
    rw [tw_sub, tw_tab (fun e he => by have := ofT_ord h e he; exact ⟨this.1, this.2.1, this.2.2.1⟩) a0 ab bn]
    unfold ofT
    rw [keep_cnt _ _ h.nd]
    have e := ev a b a0 ab bn
    split
    · dsimp only
      omega
    · rename_i z
      have : ¬ 0 < tw n T a b / 2 := fun k => z ⟨(h.mem (a, b)).mpr ⟨a0, ab, bn⟩, k⟩
      omega
  intro i j i0 i1 j0 j1
  have := tab_zero (W := fun i j => T i j - tabE (ofT n T ps) i j) (fun i j a b c d => by
    rw [sy i j a b c d, tabE_comm]) (fun i a b => by
    rw [dg i a b, tabE_same]
    omega) hw i j i0 i1 j0 j1
  omega
/-- the lot of a lot's table -/
theorem ofT_tab {n : Int} {cs : List Tr} {ps : List (Int × Int)} (h : Prs n ps) (g : Good n cs) (p : Int × Int) : cnt (ofT n (tabE cs) ps) p = cnt cs p := by
  unfold ofT
  rw [keep_cnt _ _ h.nd]
  by_cases hp : p ∈ ps
  · obtain ⟨p0, p1, p2⟩ := (h.mem p).mp hp
    have e := tw_tab (fun e he => by have := g.ord e he; exact ⟨this.1, this.2.1, this.2.2.1⟩) p0 p1 p2
    have nn := cnt_nn (fun e he => (g.ord e he).2.2.2) p
    have e2 : tw n (tabE cs) p.1 p.2 / 2 = cnt cs p := by
      rw [e]
      show 2 * cnt cs p / 2 = cnt cs p
      omega
    rw [e2]
    split
    · rfl
    · rename_i z
      have : ¬ 0 < cnt cs p := fun k => z ⟨hp, k⟩
      omega
  · rw [if_neg fun z => hp z.1]
    refine (cnt_out fun z => hp ?_).symm
    obtain ⟨e, he, rfl⟩ := List.mem_map.mp z
    exact (h.mem _).mpr ⟨(g.ord e he).1, (g.ord e he).2.1, (g.ord e he).2.2.1⟩

theorem prs_prs {n : Int} (n0 : 0 ≤ n) : Prs n (prs n n.toNat) := by
  refine ⟨?_, fun p => ⟨fun h => prs_mem (by omega) h, fun h => ?_⟩⟩
  · unfold prs
    refine List.pairwise_flatMap.mpr ⟨fun a ha => ?_, ?_⟩
    · unfold prA
      refine List.Pairwise.map _ (fun x y h => ?_) List.nodup_range
      intro e
      injection e with e1 e2
      omega
    · refine List.Pairwise.imp ?_ (List.nodup_range)
      intro a b hab x hx y hy e
      unfold prA at hx hy
      obtain ⟨k, _, rfl⟩ := List.mem_map.mp hx
      obtain ⟨m, _, rfl⟩ := List.mem_map.mp hy
      injection e with e1 e2
      omega
  · obtain ⟨a, b⟩ := p
    have h0 : 0 ≤ a ∧ a < b ∧ b < n := h
    unfold prs
    refine List.mem_flatMap.mpr ⟨a.toNat, List.mem_range.mpr (by omega), ?_⟩
    unfold prA
    refine List.mem_map.mpr ⟨(b - a - 1).toNat, List.mem_range.mpr (by omega), ?_⟩
    refine Prod.ext ?_ ?_
    · show ((a.toNat : Nat) : Int) = a
      omega
    · dsimp only
      omega
theorem cotE_ofT {n : Int} (f : Int → Int → Int) : cotE n f = ofT n f (prs n n.toNat) := by
  unfold cotE ofT keep
  rw [List.filter_map]
  rfl
/-- the lot that the program makes of a table has the table -/
theorem cot_tab {n : Int} {f : Int → Int → Int} {cs : List Tr} (n0 : 0 ≤ n) (sy : ∀ i j, 0 ≤ i → i < n → 0 ≤ j → j < n → f i j = f j i) (dg : ∀ i, 0 ≤ i → i < n → f i i = 0) (ev : ∀ a b, 0 ≤ a → a < b → b < n → TwOk n f a b) (hN : IsNorm (cotE n f) cs) :
    ∀ i j, 0 ≤ i → i < n → 0 ≤ j → j < n → tabE cs i j = f i j := fun i j i0 i1 j0 j1 => by
  have hP := prs_prs n0
  rw [← tab_ofT hP sy dg ev i j i0 i1 j0 j1, ← cotE_ofT]
  have ho : ∀ e ∈ cotE n f, e.1 < e.2.1 := fun e he => by
    rw [cotE_ofT] at he
    exact (ofT_ord hP e he).2.1
  unfold tabE
  rw [bs_norm _ hN, bk_bs _ ho]
/-- a lot's own table gives the lot again -/
theorem cot_own {n : Int} {f : Int → Int → Int} {cs r : List Tr} (n0 : 0 ≤ n) (g : Good n cs) (e : ∀ i j, 0 ≤ i → i < n → 0 ≤ j → j < n → f i j = tabE cs i j) (hN : IsNorm (cotE n f) r) : r = cs := by
  have hP := prs_prs n0
  have hg : Good n r := hN.good (cotE_vld n0 f)
  have et : ∀ a b, 0 ≤ a → a < b → b < n → tw n f a b = tw n (tabE cs) a b := fun a b a0 ab bn => by
    have ha : 0 ≤ pv1 n a ∧ pv1 n a < n := fmod_in (a - 1) (show 0 < n by omega)
    have hb : 0 ≤ pv1 n b ∧ pv1 n b < n := fmod_in (b - 1) (show 0 < n by omega)
    unfold tw
    rw [e a b a0 (by omega) (by omega) bn, e _ _ ha.1 ha.2 hb.1 hb.2, e a _ a0 (by omega) hb.1 hb.2, e _ b ha.1 ha.2 (by omega) bn]
  have ec : cotE n f = cotE n (tabE cs) := by
    unfold cotE
    congr 1
    refine List.map_congr_left fun p hp => ?_
    have hm := prs_mem (by omega) hp
    unfold ent
    rw [et p.1 p.2 hm.1 hm.2.1 hm.2.2]
  refine good_ext hg g fun p => ?_
  have ho : ∀ e ∈ cotE n f, e.1 < e.2.1 := fun e he => by
    rw [cotE_ofT] at he
    exact (ofT_ord hP e he).2.1
  rw [cnt_norm hN ho, ec, cotE_ofT, ofT_tab hP g]
theorem own_tw {n : Int} {f : Int → Int → Int} {cs : List Tr} (g : Good n cs) (e : ∀ i j, 0 ≤ i → i < n → 0 ≤ j → j < n → f i j = tabE cs i j) : ∀ a b, 0 ≤ a → a < b → b < n → TwOk n f a b := fun a b a0 ab bn => by
  have ha : 0 ≤ pv1 n a ∧ pv1 n a < n := fmod_in (a - 1) (show 0 < n by omega)
  have hb : 0 ≤ pv1 n b ∧ pv1 n b < n := fmod_in (b - 1) (show 0 < n by omega)
  have et : tw n f a b = tw n (tabE cs) a b := by
    unfold tw
    rw [e a b a0 (by omega) (by omega) bn, e _ _ ha.1 ha.2 hb.1 hb.2, e a _ a0 (by omega) hb.1 hb.2, e _ b ha.1 ha.2 (by omega) bn]
  have := tw_tab (fun e he => by have := g.ord e he; exact ⟨this.1, this.2.1, this.2.2.1⟩) a0 ab bn
  have nn := cnt_nn (fun e he => (g.ord e he).2.2.2) (a, b)
  unfold TwOk
  rw [et, this]
  omega
end Own

namespace Own
/-! ### the lot of mates -/
def mtE (M : Int → Int) : Nat → List Tr
  | 0 => []
  | k + 1 => mtE M k ++ (if (k : Int) < M (k : Int) then [((k : Int), M (k : Int), 1)] else [])
theorem mtE_mem {M : Int → Int} {k : Nat} {e : Tr} : e ∈ mtE M k ↔ 0 ≤ e.1 ∧ e.1 < (k : Int) ∧ e.1 < M e.1 ∧ e.2.1 = M e.1 ∧ e.2.2 = 1 := by
  obtain ⟨x, y, z⟩ := e
  induction k with
  | zero =>
    refine ⟨fun h => (by cases h), fun h => ?_⟩
    have := h.1
    have := h.2.1
    dsimp only at *
    omega
  | succ k ih =>
    rw [mtE, List.mem_append, ih]
    dsimp only
    by_cases c : (k : Int) < M (k : Int)
    · rw [if_pos c, List.mem_singleton, Prod.mk.injEq, Prod.mk.injEq]
      refine ⟨fun h => ?_, fun h => ?_⟩
      · rcases h with h | ⟨h1, h2, h3⟩
        · exact ⟨h.1, by omega, h.2.2⟩
        · subst h1 h2 h3
          exact ⟨by omega, by omega, c, rfl, rfl⟩
      · by_cases e : x = (k : Int)
        · subst e
          exact .inr ⟨rfl, h.2.2.2.1, h.2.2.2.2⟩
        · exact .inl ⟨h.1, by omega, h.2.2⟩
    · rw [if_neg c]
      refine ⟨fun h => ?_, fun h => ?_⟩
      · rcases h with h | h
        · exact ⟨h.1, by omega, h.2.2⟩
        · cases h
      · refine .inl ⟨h.1, ?_, h.2.2⟩
        by_cases e : x = (k : Int)
        · subst e
          exact absurd h.2.2.1 c
        · omega
theorem mtE_srt (M : Int → Int) (k : Nat) : ((mtE M k).map pr).Pairwise Lex := by
  induction k with
  | zero => exact .nil
  | succ k ih =>
    rw [mtE, List.map_append, List.pairwise_append]
    refine ⟨ih, ?_, fun a ha b hb => ?_⟩
    · split
      · exact List.pairwise_singleton _ _
      · exact .nil
    · obtain ⟨e, he, rfl⟩ := List.mem_map.mp ha
      have h1 := mtE_mem.mp he
      split at hb
      · rw [List.map_cons, List.map_nil, List.mem_singleton] at hb
        subst hb
        exact .inl h1.2.1
      · cases hb
theorem mtE_good {n : Int} {M : Int → Int} (h : Mat n M) : Good n (mtE M n.toNat) := ⟨mtE_srt M _, fun e he => by
  have h1 := mtE_mem.mp he
  have h2 := h.in_ e.1 h1.1 (by omega)
  refine ⟨h1.1, ?_, ?_, ?_⟩ <;> omega⟩
theorem mtE_len (M : Int → Int) (k : Nat) : (mtE M k).length ≤ k := by
  induction k with
  | zero => exact Nat.le_refl _
  | succ k ih =>
    rw [mtE, List.length_append]
    split
    · exact Nat.succ_le_succ ih
    · show (mtE M k).length + 0 ≤ _
      omega
theorem mtE_tab (M : Int → Int) (i j : Int) (k : Nat) : tabE (mtE M k) i j = pre (fM M i j) k := by
  induction k with
  | zero => rfl
  | succ k ih =>
    rw [mtE, pre, ← ih]
    unfold tabE
    rw [bs_append]
    congr 1
    unfold fM
    have l := lo_hi i j
    split
    · rename_i c
      show (if (sepB i j (k : Int) != sepB i j (M (k : Int))) = true then (1 : Int) else 0) + 0 = _
      unfold sepB
      rw [bne_dec]
      by_cases d : ¬ (lo i j < (k : Int) ∧ (k : Int) ≤ hi i j ↔ lo i j < M (k : Int) ∧ M (k : Int) ≤ hi i j)
      · rw [if_pos (decide_eq_true d), if_pos (by omega)]
        rfl
      · rw [if_neg (by rw [decide_eq_false d]; decide), if_neg (by omega)]
        rfl
    · rename_i c
      rw [if_neg (by omega)]
      rfl
theorem mt_tab {n : Int} {M : Int → Int} (i j : Int) : tabE (mtE M n.toNat) i j = tM n M i j := mtE_tab M i j _
/-! ### one cord more -/
def dc (t : Tr) (i j : Int) : Int := if (t.1 ≤ i ∧ i < t.2.1) ↔ (t.1 ≤ j ∧ j < t.2.1) then 0 else t.2.2
theorem tabE_cons {t : Tr} (o : t.1 < t.2.1) (r : List Tr) (i j : Int) : tabE (t :: r) i j = dc t i j + tabE r i j := by
  have l := lo_hi i j
  show (if (sepB i j (pr t).1 != sepB i j (pr t).2) = true then t.2.2 else 0) + _ = _
  congr 1
  unfold sepB dc pr
  rw [bne_dec]
  dsimp only
  by_cases d : ¬ (lo i j < t.1 ∧ t.1 ≤ hi i j ↔ lo i j < t.2.1 ∧ t.2.1 ≤ hi i j)
  · rw [if_pos (decide_eq_true d), if_neg (by omega)]
  · rw [if_neg (by rw [decide_eq_false d]; decide), if_pos (by omega)]
/-- what a table of a lot is like -/
structure Met (T : Int → Int → Int) : Prop where
  sy : ∀ a b, T a b = T b a
  dg : ∀ a, T a a = 0
  nn : ∀ a b, 0 ≤ T a b
  tri : ∀ a b c, T a c ≤ T a b + T b c
  par : ∀ a b c, (T a b + T b c + T a c) % 2 = 0
  ka : ∀ p q r s, p ≤ q → q ≤ r → r ≤ s → T p s + T q r ≤ T p r + T q s
  kb : ∀ p q r s, p ≤ q → q ≤ r → r ≤ s → T p q + T r s ≤ T p r + T q s
theorem met_tab : ∀ {cs : List Tr}, (∀ e ∈ cs, e.1 < e.2.1 ∧ 1 ≤ e.2.2) → Met (tabE cs)
  | [], _ => ⟨fun _ _ => rfl, fun _ => rfl, fun _ _ => Int.le_refl 0, fun _ _ _ => Int.le_refl 0, fun _ _ _ => rfl, fun _ _ _ _ _ _ _ => Int.le_refl 0, fun _ _ _ _ _ _ _ => Int.le_refl 0⟩
  | t :: r, h => by
    have ih := met_tab fun e he => h e (List.mem_cons_of_mem _ he)
    obtain ⟨o, w⟩ := h t List.mem_cons_self
    have E := fun i j => tabE_cons o r i j
    refine ⟨fun a b => tabE_comm _ a b, fun a => tabE_same _ a, fun a b => ?_, fun a b c => ?_, fun a b c => ?_, fun p q r' s h1 h2 h3 => ?_, fun p q r' s h1 h2 h3 => ?_⟩
    · have := ih.nn a b
      rw [E]
      unfold dc
      split <;> omega
    · have := ih.tri a b c
      rw [E, E, E]
      unfold dc
      split <;> split <;> split <;> omega
    · have := ih.par a b c
      rw [E, E, E]
      unfold dc
      split <;> split <;> split <;> omega
    · have := ih.ka p q r' s h1 h2 h3
      rw [E, E, E, E]
      unfold dc
      split <;> split <;> split <;> split <;> omega
    · have := ih.kb p q r' s h1 h2 h3
      rw [E, E, E, E]
      unfold dc
      split <;> split <;> split <;> split <;> omega
theorem Good.met {n : Int} {cs : List Tr} (g : Good n cs) : Met (tabE cs) := met_tab fun e he => ⟨(g.ord e he).2.1, (g.ord e he).2.2.2⟩
theorem tabE_last {n : Int} : ∀ {cs : List Tr}, (∀ e ∈ cs, 0 ≤ e.1 ∧ e.1 < e.2.1 ∧ e.2.1 < n) → ∀ i, tabE cs i (n - 1) = tabE cs i (-1)
  | [], _, _ => rfl
  | t :: r, h, i => by
    have o := h t List.mem_cons_self
    rw [tabE_cons o.2.1, tabE_cons o.2.1, tabE_last (fun e he => h e (List.mem_cons_of_mem _ he))]
    unfold dc
    split <;> split <;> omega
theorem Good.last {n : Int} {cs : List Tr} (g : Good n cs) (i : Int) : tabE cs i (n - 1) = tabE cs i (-1) := tabE_last (fun e he => let h := g.ord e he; ⟨h.1, h.2.1, h.2.2.1⟩) i
theorem ends_tab {n : Int} {cs : List Tr} (g : Good n cs) (a : Int) : endsOf cs a = tabE cs (a - 1) a := by
  refine bs_congr fun e he => ?_
  have o := g.ord e he
  have l := lo_hi (a - 1) a
  unfold sepB
  rw [bne_dec]
  unfold pr
  exact decide_eq_decide.mpr (by dsimp only; omega)
/-! ### two pins that have become one -/
def nmG (g x : Int) : Int := if x ≤ g then x else x - 1
def upG (g i : Int) : Int := if i < g then i else i + 1
def mgE (g : Int) (cs : List Tr) : List Tr := (cs.filter fun t => decide (nmG g t.1 ≠ nmG g t.2.1)).map fun t => (nmG g t.1, nmG g t.2.1, t.2.2)
theorem nmG_lt {g x y : Int} (h : x < y) (n : nmG g x ≠ nmG g y) : nmG g x < nmG g y := by
  unfold nmG at *
  by_cases c1 : x ≤ g <;> by_cases c2 : y ≤ g <;> simp only [c1, c2, if_true, if_false] at * <;> omega
theorem mgE_vld {n g : Int} {cs : List Tr} (hg : Good n cs) (g0 : 0 ≤ g) (g1 : g + 1 < n) : ∀ t ∈ mgE g cs, Vld (n - 1) t ∧ t.1 < t.2.1 := fun t ht => by
  obtain ⟨u, hu, rfl⟩ := List.mem_map.mp ht
  obtain ⟨h1, h2⟩ := List.mem_filter.mp hu
  have o := hg.ord u h1
  have l := nmG_lt o.2.1 (of_decide_eq_true h2)
  unfold Vld
  dsimp only
  refine ⟨?_, l⟩
  unfold nmG at *
  by_cases c1 : u.1 ≤ g <;> by_cases c2 : u.2.1 ≤ g <;> simp only [c1, c2, if_true, if_false] at l ⊢ <;> omega
theorem mgE_len (g : Int) (cs : List Tr) : (mgE g cs).length ≤ cs.length := by
  unfold mgE
  rw [List.length_map]
  exact List.length_filter_le _ _
theorem mgE_tab {g : Int} (i j : Int) : ∀ {cs : List Tr}, (∀ e ∈ cs, e.1 < e.2.1) → tabE (mgE g cs) i j = tabE cs (upG g i) (upG g j)
  | [], _ => rfl
  | t :: r, h => by
    have o := h t List.mem_cons_self
    have ih := mgE_tab (g := g) i j (cs := r) fun e he => h e (List.mem_cons_of_mem _ he)
    rw [tabE_cons o, ← ih]
    unfold mgE
    rw [List.filter_cons]
    by_cases c : nmG g t.1 ≠ nmG g t.2.1
    · have l := nmG_lt o c
      rw [if_pos (decide_eq_true c), List.map_cons, tabE_cons (by exact l)]
      congr 1
      unfold dc nmG upG at *
      dsimp only
      by_cases c1 : t.1 ≤ g <;> by_cases c2 : t.2.1 ≤ g <;> by_cases c3 : i < g <;> by_cases c4 : j < g <;> simp only [c1, c2, c3, c4, if_true, if_false] <;> (split <;> split <;> omega)
    · rw [if_neg (by rw [decide_eq_false c]; decide)]
      have z : dc t (upG g i) (upG g j) = 0 := by
        unfold dc nmG upG at *
        by_cases c1 : t.1 ≤ g <;> by_cases c2 : t.2.1 ≤ g <;> by_cases c3 : i < g <;> by_cases c4 : j < g <;> simp only [c1, c2, c3, c4, if_true, if_false] at c ⊢ <;> (split <;> omega)
      rw [z]
      omega
theorem norm_tab {l r : List Tr} (h : IsNorm l r) (o : ∀ e ∈ l, e.1 < e.2.1) (i j : Int) : tabE r i j = tabE l i j := by
  unfold tabE
  rw [bs_norm _ h, bk_bs _ o]
end Own

namespace Own
/-! ### a pin is dropped -/
def mn3 (a b c : Int) : Int := lo (lo a b) c
theorem mn3_le (a b c : Int) : mn3 a b c ≤ a ∧ mn3 a b c ≤ b ∧ mn3 a b c ≤ c ∧ (mn3 a b c = a ∨ mn3 a b c = b ∨ mn3 a b c = c) := by
  unfold mn3
  have h1 := lo_hi a b
  have h2 := lo_hi (lo a b) c
  omega
/-- the least number between two gaps, when the gaps x - 1 and x are one -/
def sS (T : Int → Int → Int) (x i j : Int) : Int := mn3 (T i j) (T i (x - 1) + T x j) (T i x + T (x - 1) j)
section
variable {T : Int → Int → Int} (M : Met T) {x : Int}
include M
theorem sS_sy (i j : Int) : sS T x i j = sS T x j i := by
  unfold sS
  have h1 := mn3_le (T i j) (T i (x - 1) + T x j) (T i x + T (x - 1) j)
  have h2 := mn3_le (T j i) (T j (x - 1) + T x i) (T j x + T (x - 1) i)
  have := M.sy i j
  have := M.sy i x
  have := M.sy i (x - 1)
  have := M.sy j x
  have := M.sy j (x - 1)
  omega
theorem sS_dg (i : Int) : sS T x i i = 0 := by
  unfold sS
  have h1 := mn3_le (T i i) (T i (x - 1) + T x i) (T i x + T (x - 1) i)
  have := M.dg i
  have := M.nn i (x - 1)
  have := M.nn x i
  have := M.nn i x
  have := M.nn (x - 1) i
  omega
theorem sS_nn (i j : Int) : 0 ≤ sS T x i j := by
  unfold sS
  have h1 := mn3_le (T i j) (T i (x - 1) + T x j) (T i x + T (x - 1) j)
  have := M.nn i j
  have := M.nn i (x - 1)
  have := M.nn x j
  have := M.nn i x
  have := M.nn (x - 1) j
  omega
theorem sS_lx (j : Int) : sS T x (x - 1) j = sS T x x j := by
  unfold sS
  have h1 := mn3_le (T (x - 1) j) (T (x - 1) (x - 1) + T x j) (T (x - 1) x + T (x - 1) j)
  have h2 := mn3_le (T x j) (T x (x - 1) + T x j) (T x x + T (x - 1) j)
  have := M.dg x
  have := M.dg (x - 1)
  have := M.nn x (x - 1)
  have := M.nn (x - 1) x
  omega
theorem sS_par (ev : T (x - 1) x % 2 = 0) (i j : Int) : sS T x i j % 2 = T i j % 2 := by
  unfold sS
  have h1 := mn3_le (T i j) (T i (x - 1) + T x j) (T i x + T (x - 1) j)
  have p1 := M.par i (x - 1) x
  have p2 := M.par i x j
  have p3 := M.par i (x - 1) j
  have := M.nn i j
  rcases h1.2.2.2 with e | e | e <;> rw [e] <;> omega
theorem sS_ka {i j k m : Int} (h1 : i ≤ j) (h2 : j ≤ k) (h3 : k ≤ m) : sS T x i m + sS T x j k ≤ sS T x i k + sS T x j m := by
  have a := mn3_le (T i k) (T i (x - 1) + T x k) (T i x + T (x - 1) k)
  have b := mn3_le (T j m) (T j (x - 1) + T x m) (T j x + T (x - 1) m)
  have c := mn3_le (T i m) (T i (x - 1) + T x m) (T i x + T (x - 1) m)
  have d := mn3_le (T j k) (T j (x - 1) + T x k) (T j x + T (x - 1) k)
  have sy := M.sy
  unfold sS
  generalize mn3 (T i k) (T i (x - 1) + T x k) (T i x + T (x - 1) k) = A at *
  generalize mn3 (T j m) (T j (x - 1) + T x m) (T j x + T (x - 1) m) = B at *
  generalize mn3 (T i m) (T i (x - 1) + T x m) (T i x + T (x - 1) m) = C at *
  generalize mn3 (T j k) (T j (x - 1) + T x k) (T j x + T (x - 1) k) = D at *
  obtain ⟨a1, a2, a3, a⟩ := a
  obtain ⟨b1, b2, b3, b⟩ := b
  obtain ⟨c1, c2, c3, c⟩ := c
  obtain ⟨d1, d2, d3, d⟩ := d
  -- one direct way, one through the pin
  have dir : ∀ u v : Int, (u = x - 1 ∧ v = x) ∨ (u = x ∧ v = x - 1) → C ≤ T i u + T v m → D ≤ T j u + T v k → C + D ≤ T i u + T v k + T j m := fun u v uv hC hD => by
    by_cases q1 : x ≤ i
    · have := M.kb v j k m (by omega) h2 h3
      have := M.ka v j k m (by omega) h2 h3
      omega
    by_cases q2 : x ≤ j
    · have := M.ka v j k m (by omega) h2 h3
      have := M.kb v j k m (by omega) h2 h3
      omega
    by_cases q3 : x ≤ k
    · have := M.ka i j u m h1 (by omega) (by omega)
      have := M.kb i j u m h1 (by omega) (by omega)
      omega
    by_cases q4 : x ≤ m
    · have := M.ka i j u m h1 (by omega) (by omega)
      have := M.kb i j u m h1 (by omega) (by omega)
      omega
    · have := M.ka j k m v h2 h3 (by omega)
      have := M.kb j k m v h2 h3 (by omega)
      have := sy k v
      have := sy m v
      have := sy j v
      omega
  have dir2 : ∀ u v : Int, (u = x - 1 ∧ v = x) ∨ (u = x ∧ v = x - 1) → C ≤ T i u + T v m → D ≤ T j u + T v k → C + D ≤ T i k + (T j u + T v m) := fun u v uv hC hD => by
    by_cases q1 : x ≤ i
    · have := M.ka u i j k (by omega) h1 h2
      have := M.kb u i j k (by omega) h1 h2
      have := sy u i
      have := sy u j
      have := sy u k
      omega
    by_cases q2 : x ≤ j
    · have := M.ka i v k m (by omega) (by omega) h3
      have := M.kb i v k m (by omega) (by omega) h3
      omega
    by_cases q3 : x ≤ k
    · have := M.ka i v k m (by omega) (by omega) h3
      have := M.kb i v k m (by omega) (by omega) h3
      omega
    by_cases q4 : x ≤ m
    · have := M.ka i j k u h1 h2 (by omega)
      have := M.kb i j k u h1 h2 (by omega)
      omega
    · have := M.ka i j k u h1 h2 (by omega)
      have := M.kb i j k u h1 h2 (by omega)
      omega
  have k0 := M.ka i j k m h1 h2 h3
  have t1 := M.tri i x m
  have t2 := M.tri i (x - 1) m
  have t3 := M.tri j x k
  have t4 := M.tri j (x - 1) k
  have e1 := dir (x - 1) x (.inl ⟨rfl, rfl⟩) c2 d2
  have e2 := dir x (x - 1) (.inr ⟨rfl, rfl⟩) c3 d3
  have e3 := dir2 (x - 1) x (.inl ⟨rfl, rfl⟩) c2 d2
  have e4 := dir2 x (x - 1) (.inr ⟨rfl, rfl⟩) c3 d3
  clear dir dir2
  rcases a with a | a | a <;> rcases b with b | b | b <;> rw [a, b] <;> omega
end
/-- the table that is left -/
def dpT (T : Int → Int → Int) (x i j : Int) : Int := sS T x (upG x i) (upG x j)
/-- the old gap ahead of the new pin a -/
def fore (x a : Int) : Int := if a = 0 then -1 else upG x (a - 1)
section
variable {n x : Int} {cs : List Tr} (g : Good n cs)
include g
theorem sS_last (j : Int) : sS (tabE cs) x (n - 1) j = sS (tabE cs) x (-1) j := by
  unfold sS
  have h := fun i => (tabE_comm cs (n - 1) i).trans ((g.last i).trans (tabE_comm cs i (-1)))
  rw [h, h, h]
theorem dp_fore (n2 : 2 ≤ n) (x0 : 0 ≤ x) (x1 : x < n) {a : Int} (a0 : 0 ≤ a) (a1 : a < n - 1) (j : Int) : sS (tabE cs) x (upG x (pv1 (n - 1) a)) j = sS (tabE cs) x (fore x a) j := by
  unfold fore
  by_cases c : a = 0
  · rw [if_pos c, c, pv1_zero (by omega)]
    unfold upG
    by_cases d : n - 1 - 1 < x
    · rw [if_pos d, show n - 1 - 1 = x - 1 by omega, sS_lx g.met, show x = n - 1 by omega, sS_last g]
    · rw [if_neg d, show n - 1 - 1 + 1 = n - 1 by omega, sS_last g]
  · rw [if_neg c, pv1_pos (by omega) (by omega)]
theorem dp_tw (n2 : 2 ≤ n) (x0 : 0 ≤ x) (x1 : x < n) (ev : endsOf cs x % 2 = 0) {a b : Int} (a0 : 0 ≤ a) (ab : a < b) (b1 : b < n - 1) : TwOk (n - 1) (dpT (tabE cs) x) a b := by
  have m := g.met
  rw [ends_tab g] at ev
  have e : tw (n - 1) (dpT (tabE cs) x) a b = sS (tabE cs) x (upG x a) (upG x b) + sS (tabE cs) x (fore x a) (upG x (b - 1)) - sS (tabE cs) x (upG x a) (upG x (b - 1)) - sS (tabE cs) x (fore x a) (upG x b) := by
    unfold tw dpT
    rw [dp_fore g n2 x0 x1 a0 (by omega), dp_fore g n2 x0 x1 a0 (by omega), pv1_pos (a := b) (by omega) (by omega)]
  have o1 : fore x a ≤ upG x a := by
    unfold fore upG
    split <;> split <;> omega
  have o2 : upG x a ≤ upG x (b - 1) := by
    unfold upG
    split <;> split <;> omega
  have o3 : upG x (b - 1) ≤ upG x b := by
    unfold upG
    split <;> split <;> omega
  have k := sS_ka m (x := x) o1 o2 o3
  unfold TwOk
  rw [e]
  generalize upG x a = j at *
  generalize upG x b = q at *
  generalize upG x (b - 1) = r at *
  generalize fore x a = i at *
  have p1 := sS_par m ev j q
  have p2 := sS_par m ev i r
  have p3 := sS_par m ev j r
  have p4 := sS_par m ev i q
  have t1 := m.par i j q
  have t2 := m.par i j r
  omega
theorem dp_sy (i j : Int) : dpT (tabE cs) x i j = dpT (tabE cs) x j i := sS_sy g.met _ _
theorem dp_dg (i : Int) : dpT (tabE cs) x i i = 0 := sS_dg g.met _
/-- a lot with the table that is left has one end at each pin, if the others had one each -/
theorem dp_one (n2 : 2 ≤ n) (x0 : 0 ≤ x) (x1 : x < n) (ev : endsOf cs x % 2 = 0) (one : ∀ p, 0 ≤ p → p < n → p ≠ x → endsOf cs p = 1) {r : List Tr} (gr : Good (n - 1) r) (hr : ∀ i j, 0 ≤ i → i < n - 1 → 0 ≤ j → j < n - 1 → tabE r i j = dpT (tabE cs) x i j)
    {a : Int} (a0 : 0 ≤ a) (a1 : a < n - 1) : endsOf r a = 1 := by
  have m := g.met
  have e : endsOf r a = sS (tabE cs) x (fore x a) (upG x a) := by
    rw [ends_tab gr, ← dp_fore g n2 x0 x1 a0 a1]
    by_cases c : a = 0
    · subst c
      rw [pv1_zero (by omega), tabE_comm, show (0 : Int) - 1 = -1 by omega, ← gr.last, tabE_comm]
      exact hr _ _ (by omega) (by omega) (by omega) (by omega)
    · rw [pv1_pos (by omega) (by omega)]
      exact hr _ _ (by omega) (by omega) (by omega) (by omega)
  rw [ends_tab g] at ev
  have pr1 := sS_par m ev (fore x a) (upG x a)
  have nn := sS_nn m (x := x) (fore x a) (upG x a)
  have le := mn3_le (tabE cs (fore x a) (upG x a)) (tabE cs (fore x a) (x - 1) + tabE cs x (upG x a)) (tabE cs (fore x a) x + tabE cs (x - 1) (upG x a))
  have le1 : sS (tabE cs) x (fore x a) (upG x a) ≤ _ := le.1
  have le2 : sS (tabE cs) x (fore x a) (upG x a) ≤ _ := le.2.1
  clear le
  rw [e]
  have hf : fore x a = upG x a - 1 ∨ (fore x a = x - 1 ∧ upG x a = x + 1) := by
    unfold fore upG
    split <;> split <;> (try split) <;> omega
  have hu : 0 ≤ upG x a ∧ upG x a < n ∧ upG x a ≠ x := by
    unfold upG
    split <;> omega
  have o := one _ hu.1 hu.2.1 hu.2.2
  rw [ends_tab g] at o
  rcases hf with h | ⟨h, h'⟩
  · rw [h] at pr1 nn le1 le2 ⊢
    omega
  · rw [h, h'] at pr1 nn le1 le2 ⊢
    rw [h', show x + 1 - 1 = x by omega] at o
    have := m.dg (x - 1)
    have := m.par (x - 1) x (x + 1)
    omega
end
end Own

namespace Own
/-! ### mates of a lot -/
def mtF (l : List Tr) : Int → Int := l.foldl (fun g t x => if x = t.2.1 then t.1 else if x = t.1 then t.2.1 else g x) fun _ => 0
theorem mtF_snoc (l : List Tr) (t : Tr) (x : Int) : mtF (l ++ [t]) x = if x = t.2.1 then t.1 else if x = t.1 then t.2.1 else mtF l x := by
  unfold mtF
  rw [List.foldl_append]
  rfl
theorem mtF_nil (x : Int) : mtF [] x = 0 := rfl
theorem ends_nn {l : List Tr} (h : ∀ e ∈ l, 1 ≤ e.2.2) (x : Int) : 0 ≤ endsOf l x := by
  unfold endsOf
  induction l with
  | nil => exact Int.le_refl 0
  | cons t r ih =>
    have h1 := h t List.mem_cons_self
    have h2 := ih fun e he => h e (List.mem_cons_of_mem _ he)
    rw [bs]
    split <;> omega
theorem ends_touch {l : List Tr} (h : ∀ e ∈ l, 1 ≤ e.2.2) {t : Tr} (ht : t ∈ l) {x : Int} (hx : t.1 = x ∨ t.2.1 = x) : t.2.2 ≤ endsOf l x := by
  unfold endsOf
  induction l with
  | nil => cases ht
  | cons u r ih =>
    have h1 := h u List.mem_cons_self
    have hr : ∀ e ∈ r, 1 ≤ e.2.2 := fun e he => h e (List.mem_cons_of_mem _ he)
    have nn : 0 ≤ bs (fun q => decide (q.1 = x ∨ q.2 = x)) r := ends_nn hr x
    rw [bs]
    rcases List.mem_cons.mp ht with e | e
    · subst e
      rw [if_pos (show decide ((pr t).1 = x ∨ (pr t).2 = x) = true from decide_eq_true hx)]
      omega
    · have := ih hr e
      split <;> omega
/-- the other end of a cord at a pin with one end -/
theorem mtF_at : ∀ (k : Nat) (l : List Tr), l.length = k → (∀ e ∈ l, 1 ≤ e.2.2 ∧ e.1 ≠ e.2.1) → ∀ (x : Int), endsOf l x ≤ 1 → ∀ t ∈ l, (t.1 = x → mtF l x = t.2.1) ∧ (t.2.1 = x → mtF l x = t.1)
  | 0, l, hk, _, _, _, t, ht => by
    rw [List.eq_nil_of_length_eq_zero hk] at ht
    cases ht
  | k + 1, l, hk, h, x, hx, t, ht => by
    obtain ⟨m, u, rfl⟩ : ∃ m u, l = m ++ [u] := ⟨l.dropLast, l.getLast (fun z => by rw [z] at hk; cases hk), (List.dropLast_concat_getLast _).symm⟩
    have hm : m.length = k := by
      rw [List.length_append] at hk
      exact Nat.succ.inj hk
    have h1 : ∀ e ∈ m, 1 ≤ e.2.2 ∧ e.1 ≠ e.2.1 := fun e he => h e (List.mem_append_left _ he)
    have h2 := h u (List.mem_append_right _ List.mem_cons_self)
    rw [endsOf_snoc] at hx
    have nn := ends_nn (fun e he => (h1 e he).1) x
    rw [mtF_snoc]
    rcases List.mem_append.mp ht with ht | ht
    · have ih := mtF_at k m hm h1 x (by split at hx <;> omega) t ht
      have tt := fun q => ends_touch (fun e he => (h1 e he).1) ht (x := x) q
      have t1 := (h1 t ht).1
      refine ⟨fun q => ?_, fun q => ?_⟩
      · have := tt (.inl q)
        rw [if_neg fun z => ?_, if_neg fun z => ?_]
        · exact ih.1 q
        · rw [if_pos (.inl z.symm)] at hx
          omega
        · rw [if_pos (.inr z.symm)] at hx
          omega
      · have := tt (.inr q)
        rw [if_neg fun z => ?_, if_neg fun z => ?_]
        · exact ih.2 q
        · rw [if_pos (.inl z.symm)] at hx
          omega
        · rw [if_pos (.inr z.symm)] at hx
          omega
    · rw [List.mem_singleton] at ht
      subst ht
      refine ⟨fun q => ?_, fun q => ?_⟩
      · rw [if_neg fun z => h2.2 (by omega), if_pos q.symm]
      · rw [if_pos q.symm]
theorem ends_ex {l : List Tr} {x : Int} (h : endsOf l x ≠ 0) : ∃ t ∈ l, t.1 = x ∨ t.2.1 = x := by
  unfold endsOf at h
  induction l with
  | nil => exact absurd rfl h
  | cons u r ih =>
    by_cases c : u.1 = x ∨ u.2.1 = x
    · exact ⟨u, List.mem_cons_self, c⟩
    · rw [bs, if_neg (by rw [show decide ((pr u).1 = x ∨ (pr u).2 = x) = false from decide_eq_false c]; decide)] at h
      obtain ⟨t, ht, e⟩ := ih (by omega)
      exact ⟨t, List.mem_cons_of_mem _ ht, e⟩
section
variable {n : Int} {r : List Tr} (g : Good n r) (one : ∀ p, 0 ≤ p → p < n → endsOf r p = 1)
include g one
theorem mtF_mat : Mat n (mtF r) := by
  have hv : ∀ e ∈ r, 1 ≤ e.2.2 ∧ e.1 ≠ e.2.1 := fun e he => by have := g.ord e he; omega
  have key : ∀ x, 0 ≤ x → x < n → (0 ≤ mtF r x ∧ mtF r x < n) ∧ mtF r x ≠ x ∧ mtF r (mtF r x) = x := fun x x0 x1 => by
    obtain ⟨t, ht, e⟩ := ends_ex (by rw [one x x0 x1]; decide : endsOf r x ≠ 0)
    have o := g.ord t ht
    have h1 := mtF_at _ r rfl hv t.1 (by rw [one t.1 (by omega) (by omega)]; exact Int.le_refl 1) t ht
    have h2 := mtF_at _ r rfl hv t.2.1 (by rw [one t.2.1 (by omega) (by omega)]; exact Int.le_refl 1) t ht
    have h1 := h1.1 rfl
    have h2 := h2.2 rfl
    rcases e with e | e
    · rw [← e, h1, h2]
      omega
    · rw [← e, h2, h1]
      omega
  exact ⟨fun x x0 x1 => (key x x0 x1).1, fun x x0 x1 => (key x x0 x1).2.1, fun x x0 x1 => (key x x0 x1).2.2⟩
theorem mtF_lot : mtE (mtF r) n.toNat = r := by
  have hv : ∀ e ∈ r, 1 ≤ e.2.2 ∧ e.1 ≠ e.2.1 := fun e he => by have := g.ord e he; omega
  have m := mtF_mat g one
  have cnt : ∀ e ∈ r, e.2.2 = 1 := fun e he => by
    have o := g.ord e he
    have h1 := ends_touch (fun e he => (hv e he).1) he (x := e.1) (.inl rfl)
    rw [one e.1 (by omega) (by omega)] at h1
    omega
  have vals : ∀ e ∈ r, mtF r e.1 = e.2.1 := fun e he => by
    have o := g.ord e he
    exact (mtF_at _ r rfl hv e.1 (by rw [one e.1 (by omega) (by omega)]; exact Int.le_refl 1) e he).1 rfl
  have hp : (mtE (mtF r) n.toNat).map pr = r.map pr := sorted_uniq (mtE_srt _ _) g.srt fun p => by
    refine ⟨fun h => ?_, fun h => ?_⟩
    · obtain ⟨e, he, rfl⟩ := List.mem_map.mp h
      have q := mtE_mem.mp he
      obtain ⟨t, ht, e1⟩ := ends_ex (by rw [one e.1 q.1 (by omega)]; decide : endsOf r e.1 ≠ 0)
      have o := g.ord t ht
      have v := vals t ht
      rcases e1 with e1 | e1
      · refine List.mem_map.mpr ⟨t, ht, ?_⟩
        unfold pr
        rw [e1, q.2.2.2.1, ← e1, v]
      · have v2 := m.inv t.1 (by omega) (by omega)
        rw [v, e1] at v2
        omega
    · obtain ⟨e, he, rfl⟩ := List.mem_map.mp h
      have o := g.ord e he
      have v := vals e he
      exact List.mem_map.mpr ⟨(e.1, mtF r e.1, 1), mtE_mem.mpr ⟨o.1, by dsimp only; omega, by dsimp only; omega, rfl, rfl⟩, by unfold pr; dsimp only; rw [v]⟩
  have e1 := of_pairs (r := mtE (mtF r) n.toNat) (g := fun _ => 1) fun e he => (mtE_mem.mp he).2.2.2.2
  have e2 := of_pairs (r := r) (g := fun _ => 1) cnt
  rw [e1, hp, ← e2]
end
/-- the ends of the lot of mates -/
theorem mtE_one {n : Int} {M : Int → Int} (h : Mat n M) {x : Int} (x0 : 0 ≤ x) (x1 : x < n) : endsOf (mtE M n.toNat) x = 1 := by
  rw [ends_tab (mtE_good h), mt_tab, tM_comm, ← tM_comm, tM_comm]
  have e := tM_step h x0 x1 x
  have e2 := tM_same n M x
  have n1 := h.ne x x0 x1
  rw [e2] at e
  unfold stp at e
  split at e
  · rw [if_pos ⟨Int.le_refl x, by omega⟩] at e
    omega
  · rw [if_neg (by omega)] at e
    omega
/-! ### two strands are joined -/
/-- the table behind a joining at the pins a and a + 1, told by the old gaps -/
def jnT (T : Int → Int → Int) (a i j : Int) : Int := mn3 (T i j) (T i (a + 1) + T (a - 1) j) (T i (a - 1) + T (a + 1) j)
theorem mn3_sw (a b c : Int) : mn3 a b c = mn3 a c b := by
  have h1 := mn3_le a b c
  have h2 := mn3_le a c b
  omega
/-- the lot behind the merging at a, and its table -/
theorem jn_merged {n : Int} {M : Int → Int} (h : Mat n M) {a : Int} (a0 : 0 ≤ a) (a1 : a + 1 < n) {c1 : List Tr} (hN : IsNorm (mgE a (mtE M n.toNat)) c1) :
    Good (n - 1) c1 ∧ (∀ i j, tabE c1 i j = tM n M (upG a i) (upG a j)) ∧ endsOf c1 a % 2 = 0 ∧ (∀ p, 0 ≤ p → p < n - 1 → p ≠ a → endsOf c1 p = 1) := by
  have g := mtE_good h
  have v := mgE_vld g a0 a1
  have g1 : Good (n - 1) c1 := hN.good fun t ht => (v t ht).1
  have e : ∀ i j, tabE c1 i j = tM n M (upG a i) (upG a j) := fun i j => by
    rw [norm_tab hN (fun t ht => (v t ht).2), mgE_tab i j fun t ht => (g.ord t ht).2.1, mt_tab]
  refine ⟨g1, e, ?_, fun p p0 p1 pa => ?_⟩
  · rw [ends_tab g1, e]
    have s1 := tM_step h a0 (by omega) (a - 1)
    have s2 := tM_step h (a := a + 1) (by omega) a1 (a - 1)
    rw [tM_same] at s1
    rw [show a + 1 - 1 = a by omega] at s2
    unfold upG
    rw [if_pos (by omega), if_neg (by omega), s2, s1]
    unfold stp
    split <;> split <;> split <;> split <;> omega
  · rw [ends_tab g1, e]
    by_cases c : p < a
    · unfold upG
      rw [if_pos (by omega), if_pos c, ← mt_tab, ← ends_tab g]
      exact mtE_one h p0 (by omega)
    · unfold upG
      rw [if_neg (by omega), if_neg c, ← mt_tab, show p - 1 + 1 = p + 1 - 1 by omega, ← ends_tab g]
      exact mtE_one h (by omega) (by omega)
/-- .. and behind the dropping -/
theorem jn_dropped {n : Int} {M : Int → Int} (h : Mat n M) {a : Int} (a0 : 0 ≤ a) (a1 : a + 1 < n) (n2 : 2 < n) {c1 r : List Tr} (hN : IsNorm (mgE a (mtE M n.toNat)) c1) (hr : IsNorm (cotE (n - 2) (dpT (tabE c1) a)) r) :
    Good (n - 2) r ∧ (∀ p, 0 ≤ p → p < n - 2 → endsOf r p = 1) ∧ ∀ i j, 0 ≤ i → i < n - 2 → 0 ≤ j → j < n - 2 → tabE r i j = dpT (tabE c1) a i j := by
  obtain ⟨g1, e, ev, one⟩ := jn_merged h a0 a1 hN
  have gr : Good (n - 2) r := hr.good (cotE_vld (by omega) _)
  have et : ∀ i j, 0 ≤ i → i < n - 2 → 0 ≤ j → j < n - 2 → tabE r i j = dpT (tabE c1) a i j := cot_tab (by omega) (fun i j _ _ _ _ => dp_sy g1 i j) (fun i _ _ => dp_dg g1 i) (fun x y x0 xy y1 => by
    have := dp_tw g1 (x := a) (by omega) a0 (by omega) ev x0 xy (by omega)
    rw [show n - 1 - 1 = n - 2 by omega] at this
    exact this) hr
  refine ⟨gr, fun p p0 p1 => ?_, et⟩
  have := dp_one (n := n - 1) (r := r) g1 (x := a) (by omega) a0 (by omega) ev one (by rw [show n - 1 - 1 = n - 2 by omega]; exact gr) (by rw [show n - 1 - 1 = n - 2 by omega]; exact et) p0 (by omega)
  exact this
/-- the old gap of a new one -/
def jnG (a i : Int) : Int := if i < a then i else i + 2
theorem jn_up (a i : Int) : upG a (upG a i) = jnG a i := by
  unfold upG jnG
  by_cases c : i < a
  · simp only [c, if_true]
  · rw [if_neg c, if_neg (by omega), if_neg c]
    omega
theorem jn_tab {n : Int} {M : Int → Int} {a : Int} {c1 : List Tr} (e : ∀ i j, tabE c1 i j = tM n M (upG a i) (upG a j)) (i j : Int) : dpT (tabE c1) a i j = jnT (tM n M) a (jnG a i) (jnG a j) := by
  unfold dpT sS jnT
  rw [e, e, e, e, e, jn_up, jn_up]
  have e1 : upG a (a - 1) = a - 1 := if_pos (by omega)
  have e2 : upG a a = a + 1 := if_neg (by omega)
  rw [e1, e2, mn3_sw]
end Own

/-! zip of three tuples; the least of three numbers, of a list or a tuple. -/
namespace Own
open PySem PySem.Spec PyProof.Rows L2
theorem tc3 (a b c : Value) : checkTypeCall "zip" ⟨[a, b, c], []⟩ = pure () := by kernel_rfl
theorem nc3 (a b c : Value) : checkBuiltinCall "zip.__new__" ⟨[.type "zip", a, b, c], []⟩ = pure () := by kernel_rfl
theorem oi4 (a b c d : Value) : argsOk "object.__init__" ⟨[a, b, c, d], []⟩ := by
  unfold argsOk
  rw [signature?_of (id := "object.__init__") (n := ['_', '_', 't', 'i', 'n', 'i', '_', '_']) (o := ['t', 'c', 'e', 'j', 'b', 'o']) (by kernel_rfl) PySem.F.owner_object]
  kernel_rfl
/-- a tuple of three values -/
abbrev Tri (h : Heap) (T : Addr) (a b c : Value) : Prop := h.get? T = some { cls := .type "tuple", data := .seq #[a, b, c] }
/-- the zip object, its tuples, its three iterators and what they walk stand apart -/
structure Ap3 (z TI TO : Addr) (i : Nat → Addr) (l : Nat → Addr) : Prop where
  tz : TI ≠ z
  oz : TO ≠ z
  iz : ∀ k, k < 3 → i k ≠ z
  to : TI ≠ TO
  ti : ∀ k, k < 3 → TI ≠ i k
  oi : ∀ k, k < 3 → TO ≠ i k
  ii : ∀ k m, k < 3 → m < 3 → k ≠ m → i k ≠ i m
  lz : ∀ k, k < 3 → l k ≠ z
  lo : ∀ k, k < 3 → l k ≠ TO
  li : ∀ k m, k < 3 → m < 3 → l k ≠ i m
section
variable {prog : Program} {w : World} {A : Around} {E : Value → Shared → Prop} {s : Shared}
theorem upd_tri {T : Addr} {a b c x : Value} {k : Nat} {Q : Unit → Shared → Prop} (hT : Tri s.heap T a b c)
    (h : ∀ h', h'.get? T = some { cls := .type "tuple", data := .seq ((#[a, b, c] : Array Value).setIfInBounds k x) } → Heap.SameBut T s.heap h' → Q () { s with heap := h' }) :
    wpAny (model prog w) A (updateSeq T (·.setIfInBounds k x)) Q E s := by
  refine wpAny_updateSeq hT rfl (h _ ?_ (Heap.SameBut.update ..))
  rw [Heap.get?_update_self _ hT rfl]
  simp [Obj.mapSeq]
/-- one round: the next items of the three -/
theorem z3_item {z TI TO : Addr} {i l : Nat → Addr} {k : Nat} {xs ys zs : Array Value} {x y u a b c : Value} {Q : Option Value → Shared → Prop} (D : Ap3 z TI TO i l)
    (hz : IsZip s.heap z TI TO .none) (hTI : Tri s.heap TI (.ref (i 0)) (.ref (i 1)) (.ref (i 2))) (hTO : Tri s.heap TO a b c)
    (h1 : s.heap.IsTupleIter (i 0) (l 0) k) (h2 : s.heap.IsTupleIter (i 1) (l 1) k) (h3 : s.heap.IsTupleIter (i 2) (l 2) k)
    (g1 : s.heap.IsTuple (l 0) xs) (g2 : s.heap.IsTuple (l 1) ys) (g3 : s.heap.IsTuple (l 2) zs) (hx : xs[k]? = some x) (hy : ys[k]? = some y) (hu : zs[k]? = some u)
    (hQ : ∀ h', IsZip h' z TI TO (rawInt s.heap.objs.size) → Tri h' TO x y u → h'.IsTupleIter (i 0) (l 0) (k + 1) → h'.IsTupleIter (i 1) (l 1) (k + 1) → h'.IsTupleIter (i 2) (l 2) (k + 1) → Tri h' s.heap.objs.size x y u → h'.objs.size = s.heap.objs.size + 1 →
      (∀ e o, e ≠ z → e ≠ TO → e ≠ i 0 → e ≠ i 1 → e ≠ i 2 → s.heap.get? e = some o → h'.get? e = some o) → Q (some (.ref s.heap.objs.size)) { s with heap := h' }) :
    wpAny (model prog w) A (pyNext (.ref z)) Q E s := by
  have d0 : (0 : Nat) < 3 := by decide
  have d1 : (1 : Nat) < 3 := by decide
  have d2 : (2 : Nat) < 3 := by decide
  have n01 := D.ii 0 1 d0 d1 (by decide)
  have n02 := D.ii 0 2 d0 d2 (by decide)
  have n12 := D.ii 1 2 d1 d2 (by decide)
  have hT : s.TypeIs (.ref z) "zip" := ⟨_, hz, rfl⟩
  unfold pyNext
  refine wpAny_bind (wpAny_attempt (wpAny_callSpecial?_slot (name := Str.ofString "__next__") hT F.slot_zip_next (wpAny_call_entry F.slot_zip_next hT F.entry_zip_next ?_ (F.args_zip_next_1 _))))
  show wpAny _ _ (field (.ref z) 2 >>= _) _ _ _
  refine wpAny_bind (wpAny_field hz rfl (x := .bool false) rfl ?_)
  show wpAny _ _ (field (.ref z) 3 >>= _) _ _ _
  refine wpAny_bind (wpAny_field hz rfl (x := .ref TI) rfl ?_)
  refine wpAny_bind (wpAny_seqItems hTI rfl ?_)
  show wpAny _ _ (Builtin.SmallTypes.ownedTupleIsFree _ >>= _) _ _ _
  refine wpAny_bind ?_
  unfold Builtin.SmallTypes.ownedTupleIsFree
  refine wpAny_bind (wpAny_field hz rfl (x := .none) rfl (wpAny_pure ?_))
  simp only [if_true]
  refine wpAny_bind (wpAny_rule ?_)
  refine wpAny_bind (wpAny_field hz rfl (x := .ref TO) rfl ?_)
  refine wpAny_bind (wpAny_setField_rec hz (by simp) fun p1 hz1 s1 => ?_)
  replace hz1 : IsZip p1 z TI TO .ellipsis := hz1
  refine wpAny_bind ?_
  simp only [List.zipIdx_cons, List.zipIdx_nil, List.forIn_cons, List.forIn_nil]
  -- the first
  refine wpAny_bind (wpAny_bind (wpAny_onRaise ?_))
  show wpAny _ _ (Builtin.SmallTypes.nextOf (.ref (i 0)) >>= _) _ _ _
  refine wpAny_bind (RZ.nextOf_tuple_item (h1.extBut s1.extBut (D.iz 0 d0)) (g1.extBut s1.extBut (D.lz 0 d0)) hx fun p2 a2 s2 => wpAny_pure ?_)
  have o2 : Tri p2 TO a b c := s2.extBut _ _ (D.oi 0 d0) (s1.extBut _ _ D.oz hTO)
  refine wpAny_bind (wpAny_seqItems o2 rfl ?_)
  refine wpAny_bind (upd_tri o2 fun p3 o3 s3 => ?_)
  replace o3 : Tri p3 TO x b c := o3
  refine wpAny_bind (wpAny_letGo (wpAny_pure ?_))
  -- the second
  refine wpAny_bind (wpAny_bind (wpAny_onRaise ?_))
  show wpAny _ _ (Builtin.SmallTypes.nextOf (.ref (i 1)) >>= _) _ _ _
  have b3 : p3.IsTupleIter (i 1) (l 1) k := ((h2.extBut s1.extBut (D.iz 1 d1)).extBut s2.extBut n01.symm).extBut s3.extBut (D.oi 1 d1).symm
  have q3 : p3.IsTuple (l 1) ys := ((g2.extBut s1.extBut (D.lz 1 d1)).extBut s2.extBut (D.li 1 0 d1 d0)).extBut s3.extBut (D.lo 1 d1)
  refine wpAny_bind (RZ.nextOf_tuple_item b3 q3 hy fun p4 b4 s4 => wpAny_pure ?_)
  have o4 : Tri p4 TO x b c := s4.extBut _ _ (D.oi 1 d1) o3
  refine wpAny_bind (wpAny_seqItems o4 rfl ?_)
  refine wpAny_bind (upd_tri o4 fun p5 o5 s5 => ?_)
  replace o5 : Tri p5 TO x y c := o5
  refine wpAny_bind (wpAny_letGo (wpAny_pure ?_))
  -- the third
  refine wpAny_bind (wpAny_bind (wpAny_onRaise ?_))
  show wpAny _ _ (Builtin.SmallTypes.nextOf (.ref (i 2)) >>= _) _ _ _
  have c5 : p5.IsTupleIter (i 2) (l 2) k := ((((h3.extBut s1.extBut (D.iz 2 d2)).extBut s2.extBut n02.symm).extBut s3.extBut (D.oi 2 d2).symm).extBut s4.extBut n12.symm).extBut s5.extBut (D.oi 2 d2).symm
  have q5 : p5.IsTuple (l 2) zs := ((((g3.extBut s1.extBut (D.lz 2 d2)).extBut s2.extBut (D.li 2 0 d2 d0)).extBut s3.extBut (D.lo 2 d2)).extBut s4.extBut (D.li 2 1 d2 d1)).extBut s5.extBut (D.lo 2 d2)
  refine wpAny_bind (RZ.nextOf_tuple_item c5 q5 hu fun p6 c6 s6 => wpAny_pure ?_)
  have o6 : Tri p6 TO x y c := s6.extBut _ _ (D.oi 2 d2) o5
  refine wpAny_bind (wpAny_seqItems o6 rfl ?_)
  refine wpAny_bind (upd_tri o6 fun p7 o7 s7 => ?_)
  replace o7 : Tri p7 TO x y u := o7
  refine wpAny_bind (wpAny_letGo (wpAny_pure (wpAny_pure ?_)))
  refine wpAny_bind (wpAny_seqItems o7 rfl ?_)
  refine wpAny_bind (wpAny_newTuple ?_)
  have sz : p7.objs.size = s.heap.objs.size := by rw [s7.1, s6.1, s5.1, s4.1, s3.1, s2.1, s1.1]
  have old : ∀ e o, e ≠ z → e ≠ TO → e ≠ i 0 → e ≠ i 1 → e ≠ i 2 → s.heap.get? e = some o → p7.get? e = some o := fun e o e1 e2 e3 e4 e5 q =>
    s7.extBut _ _ e2 (s6.extBut _ _ e5 (s5.extBut _ _ e2 (s4.extBut _ _ e4 (s3.extBut _ _ e2 (s2.extBut _ _ e3 (s1.extBut _ _ e1 q))))))
  have z7 : IsZip p7 z TI TO .ellipsis := s7.extBut _ _ D.oz.symm (s6.extBut _ _ (D.iz 2 d2).symm (s5.extBut _ _ D.oz.symm (s4.extBut _ _ (D.iz 1 d1).symm (s3.extBut _ _ D.oz.symm (s2.extBut _ _ (D.iz 0 d0).symm hz1)))))
  have a7 : p7.IsTupleIter (i 0) (l 0) (k + 1) := ((((a2.extBut s3.extBut (D.oi 0 d0).symm).extBut s4.extBut n01).extBut s5.extBut (D.oi 0 d0).symm).extBut s6.extBut n02).extBut s7.extBut (D.oi 0 d0).symm
  have b7 : p7.IsTupleIter (i 1) (l 1) (k + 1) := ((b4.extBut s5.extBut (D.oi 1 d1).symm).extBut s6.extBut n12).extBut s7.extBut (D.oi 1 d1).symm
  have c7 : p7.IsTupleIter (i 2) (l 2) (k + 1) := c6.extBut s7.extBut (D.oi 2 d2).symm
  have zlt : z < p7.objs.size := Heap.lt_size z7
  show wpAny _ _ (Builtin.SmallTypes.ownedTupleHandOut _ (.ref p7.objs.size) >>= _) _ _ _
  refine wpAny_bind ?_
  unfold Builtin.SmallTypes.ownedTupleHandOut
  have z8 : IsZip (p7.push { cls := .type "tuple", data := .seq #[x, y, u] }) z TI TO .ellipsis := Heap.get?_push_of_some _ z7
  refine wpAny_bind (wpAny_setField_rec z8 (by simp) fun p9 z9 s9 => ?_)
  replace z9 : IsZip p9 z TI TO (rawInt p7.objs.size) := z9
  refine wpAny_setField_rec z9 (by simp) fun pE zE sE => ?_
  replace zE : IsZip pE z TI TO (rawInt p7.objs.size) := zE
  have up : ∀ e o, e ≠ z → p7.get? e = some o → pE.get? e = some o := fun e o ne q => sE.extBut _ _ ne (s9.extBut _ _ ne (Heap.get?_push_of_some _ q))
  have tE : Tri pE p7.objs.size x y u := sE.extBut _ _ (Nat.ne_of_gt zlt) (s9.extBut _ _ (Nat.ne_of_gt zlt) (Heap.get?_push_size _ rfl))
  have nE : pE.objs.size = p7.objs.size + 1 := by rw [sE.1, s9.1, Heap.size_push]
  rw [sz] at zE tE nE
  refine wpAny_pure ⟨_, rfl, wpAny_pure ?_⟩
  show Q (some (.ref p7.objs.size)) _
  rw [sz]
  exact hQ pE zE (up _ _ D.oz o7) (a7.at fun o e => up _ o (D.iz 0 d0) e) (b7.at fun o e => up _ o (D.iz 1 d1) e) (c7.at fun o e => up _ o (D.iz 2 d2) e) tE nE fun e o e1 e2 e3 e4 e5 q => up e o e1 (old e o e1 e2 e3 e4 e5 q)
/-- the end, where the first is out -/
theorem z3_end {z TI TO : Addr} {i l : Nat → Addr} {k : Nat} {xs : Array Value} {Q : Option Value → Shared → Prop} (hh : A.handled = none) (D : Ap3 z TI TO i l)
    (hz : IsZip s.heap z TI TO .none) (hTI : Tri s.heap TI (.ref (i 0)) (.ref (i 1)) (.ref (i 2))) (h1 : s.heap.IsTupleIter (i 0) (l 0) k) (g1 : s.heap.IsTuple (l 0) xs) (hx : xs[k]? = none)
    (hQ : ∀ h', (∀ e o, e ≠ z → e ≠ i 0 → s.heap.get? e = some o → h'.get? e = some o) → Q none { s with heap := h' }) :
    wpAny (model prog w) A (pyNext (.ref z)) Q E s := by
  have d0 : (0 : Nat) < 3 := by decide
  have hT : s.TypeIs (.ref z) "zip" := ⟨_, hz, rfl⟩
  have main : wpAny (model prog w) A.in1 (Builtin.«zip.__next__» ⟨[.ref z], []⟩) (fun _ _ => False) (fun v s' => ∃ h' e o, v = .ref e ∧ s' = { s with heap := h' } ∧ (∀ e o, e ≠ z → e ≠ i 0 → s.heap.get? e = some o → h'.get? e = some o) ∧ h'.get? e = some o ∧ o.cls = .type "StopIteration") s := by
    show wpAny _ _ (field (.ref z) 2 >>= _) _ _ _
    refine wpAny_bind (wpAny_field hz rfl (x := .bool false) rfl ?_)
    show wpAny _ _ (field (.ref z) 3 >>= _) _ _ _
    refine wpAny_bind (wpAny_field hz rfl (x := .ref TI) rfl ?_)
    refine wpAny_bind (wpAny_seqItems hTI rfl ?_)
    show wpAny _ _ (Builtin.SmallTypes.ownedTupleIsFree _ >>= _) _ _ _
    refine wpAny_bind ?_
    unfold Builtin.SmallTypes.ownedTupleIsFree
    refine wpAny_bind (wpAny_field hz rfl (x := .none) rfl (wpAny_pure ?_))
    simp only [if_true]
    refine wpAny_bind (wpAny_rule ?_)
    refine wpAny_bind (wpAny_field hz rfl (x := .ref TO) rfl ?_)
    refine wpAny_bind (wpAny_setField_rec hz (by simp) fun p1 hz1 s1 => ?_)
    replace hz1 : IsZip p1 z TI TO .ellipsis := hz1
    refine wpAny_bind ?_
    simp only [List.zipIdx_cons, List.zipIdx_nil, List.forIn_cons, List.forIn_nil]
    refine wpAny_bind (wpAny_bind (wpAny_onRaise ?_))
    show wpAny _ _ (Builtin.SmallTypes.nextOf (.ref (i 0)) >>= _) _ _ _
    refine wpAny_bind (RZ.nextOf_tuple_end hh (h1.extBut s1.extBut (D.iz 0 d0)) (g1.extBut s1.extBut (D.lz 0 d0)) hx fun p2 e s2 he => ?_)
    obtain ⟨oe, hoe, hce⟩ := he
    have hz2 : IsZip p2 z TI TO .ellipsis := s2 _ _ (D.iz 0 d0).symm hz1
    have ne : e ≠ z := fun q => by
      subst q
      rw [hz2] at hoe
      cases hoe
      simp at hce
    exact wpAny_setField_rec hz2 (by simp) fun p3 _ s3 => ⟨p3, e, oe, rfl, rfl, fun e' o e1 e2 q => s3.extBut _ _ e1 (s2 _ _ e2 (s1.extBut _ _ e1 q)), s3.extBut _ _ ne hoe, hce⟩
  unfold pyNext
  refine wpAny_bind (wpAny_attempt (wpAny_callSpecial?_slot (name := Str.ofString "__next__") hT F.slot_zip_next (wpAny_call_entry F.slot_zip_next hT F.entry_zip_next (wpAny_mono main (fun _ _ q => False.elim q) fun v s' q => ?_) (F.args_zip_next_1 _))))
  obtain ⟨h', e, o, rfl, rfl, hk, ho, hc⟩ := q
  refine wpAny_bind (wpAny_isInstance (T := "StopIteration") (b := true) ⟨o, ho, hc⟩ isSubtype_stop ?_)
  exact wpAny_pure (hQ _ hk)
end
end Own

namespace Own
open PySem PySem.Spec PyProof.Rows L2
/-- three in a row -/
def at3 (a b c : Addr) (k : Nat) : Addr := if k = 0 then a else if k = 1 then b else c
def It3 (K : PySem.W.Frag) (a b c : Addr) : It :=
  ⟨fun i H => ∃ (xs ys zs : List V) (x y z : V), SqT K H a xs ∧ SqT K H b ys ∧ SqT K H c zs ∧ xs[i]? = some x ∧ ys[i]? = some y ∧ zs[i]? = some z,
    fun i H v H' => ∃ T x y z, v = .ref T ∧ H T = none ∧ H' = upd H T (.tup [x, y, z]) ∧ (∀ xs, SqT K H a xs → xs[i]? = some x) ∧ (∀ ys, SqT K H b ys → ys[i]? = some y) ∧ ∀ zs, SqT K H c zs → zs[i]? = some z,
    fun i H => ∃ xs : List V, SqT K H a xs ∧ xs.length ≤ i⟩
def Z3 (z TI TO : Addr) (i l : Nat → Addr) (k : Nat) (h : Heap) : Prop := IsZip h z TI TO .none ∧ Tri h TI (.ref (i 0)) (.ref (i 1)) (.ref (i 2)) ∧ (∃ x y u, Tri h TO x y u) ∧ h.IsTupleIter (i 0) (l 0) k ∧ h.IsTupleIter (i 1) (l 1) k ∧ h.IsTupleIter (i 2) (l 2) k
theorem turn_zip3 {P : Program} {w : World} {K : PySem.W.Frag} {elts : List Expr} {kk : Nat} {tpos : Pos} {z TI TO : Addr} {i l : Nat → Addr} (D : Ap3 z TI TO i l) :
    Turn P w K (.Tuple elts kk tpos) (It3 K (l 0) (l 1) (l 2)) [z, TI, TO, i 0, i 1, i 2] z (Z3 z TI TO i l) where
  mem := by simp
  obj := fun k h st c hc => by
    obtain ⟨hz, hTI, ⟨x, y, u, hTO⟩, ⟨o1, e1, _, d1⟩, ⟨o2, e2, _, d2⟩, ⟨o3, e3, _, d3⟩⟩ := st
    have e' : c = z ∨ c = TI ∨ c = TO ∨ c = i 0 ∨ c = i 1 ∨ c = i 2 := by simpa using hc
    rcases e' with q | q | q | q | q | q
    · rw [q]; exact ⟨_, hz, fun v q => nomatch q⟩
    · rw [q]; exact ⟨_, hTI, fun v q => nomatch q⟩
    · rw [q]; exact ⟨_, hTO, fun v q => nomatch q⟩
    · rw [q]; exact ⟨o1, e1, fun v q => by rw [d1] at q; cases q⟩
    · rw [q]; exact ⟨o2, e2, fun v q => by rw [d2] at q; cases q⟩
    · rw [q]; exact ⟨o3, e3, fun v q => by rw [d3] at q; cases q⟩
  keep := fun k h h' st kp => by
    obtain ⟨hz, hTI, ⟨x, y, u, hTO⟩, h1, h2, h3⟩ := st
    exact ⟨kp z (by simp) _ hz, kp TI (by simp) _ hTI, ⟨x, y, u, kp TO (by simp) _ hTO⟩, h1.at fun o q => kp (i 0) (by simp) o q, h2.at fun o q => kp (i 1) (by simp) o q, h3.at fun o q => kp (i 2) (by simp) o q⟩
  item := by
    intro X hP hw hK hc k pins s σ H E I hf st hg
    subst hP hw hK
    obtain ⟨hz, hTI, ⟨x0, y0, u0, hTO⟩, h1, h2, h3⟩ := st
    obtain ⟨xs, ys, zs, x, y, u, qx, qy, qu, hx, hy, hu⟩ := hg
    obtain ⟨its, rv, p, _⟩ := I.tuple qx
    obtain ⟨its2, rv2, p2, _⟩ := I.tuple qy
    obtain ⟨its3, rv3, p3, _⟩ := I.tuple qu
    obtain ⟨v1, w1, r1⟩ := rv.get hx
    obtain ⟨v2, w2, r2⟩ := rv2.get hy
    obtain ⟨v3, w3, r3⟩ := rv3.get hu
    have hzl : z < s.heap.objs.size := Heap.lt_size hz
    refine z3_item D hz hTI hTO h1 h2 h3 p p2 p3 (x := v1) (y := v2) (u := v3) (by simpa using w1) (by simpa using w2) (by simpa using w3) fun h' z' o' i1 i2 i3 hT hsz hk => ?_
    refine ⟨_, rfl, wpAny_letOwnedTupleGo_zip (s := { s with heap := h' }) z' fun h'' z'' sb => ?_⟩
    have hT2 : h''.get? s.heap.objs.size = some { cls := .type "tuple", data := .seq #[v1, v2, v3] } := (sb.2 _ (Nat.ne_of_gt hzl)).trans hT
    have new : ObjOk X.prog X.w (upd H s.heap.objs.size (.tup [x, y, u])) h'' s.heap.objs.size (.tup [x, y, u]) :=
      ⟨by show 3 ≤ sizeLine; decide, [v1, v2, v3], .cons r1 (.cons r2 (.cons r3 .nil)), ⟨_, hT2, rfl, _, rfl⟩⟩
    have I1 : Inv X pins σ (upd H s.heap.objs.size (.tup [x, y, u])) { s with heap := h'' } :=
      I.turnedNew (t' := s.toks) (ch := [z, TI, TO, i 0, i 1, i 2]) (fun c o hb q => (sb.2 c (fun q' => hb (by simp [q']))).trans (hk c o (fun q' => hb (by simp [q'])) (fun q' => hb (by simp [q'])) (fun q' => hb (by simp [q'])) (fun q' => hb (by simp [q'])) (fun q' => hb (by simp [q'])) q)) hf (Nat.le_refl _) new
    have nz : ∀ m, m < 3 → ∀ o, h'.get? (i m) = some o → h''.get? (i m) = some o := fun m hm o q => (sb.2 _ (D.iz m hm)).trans q
    refine ⟨.ref s.heap.objs.size, _, I1, rfl, ⟨_, x, y, u, rfl, I.hok.fresh (Nat.le_refl _), rfl, fun l hl => by rw [I.tuple_inj hl qx]; exact hx, fun l hl => by rw [I.tuple_inj hl qy]; exact hy, fun l hl => by rw [I.tuple_inj hl qu]; exact hu⟩, ⟨z'', ?_, ⟨v1, v2, v3, ?_⟩, i1.at (nz 0 (by decide)), i2.at (nz 1 (by decide)), i3.at (nz 2 (by decide))⟩, fun c hcm => ?_⟩
    · exact (sb.2 _ D.tz).trans (hk _ _ D.tz D.to (D.ti 0 (by decide)) (D.ti 1 (by decide)) (D.ti 2 (by decide)) hTI)
    · exact (sb.2 _ D.oz).trans o'
    · have hlt : c < s.heap.objs.size := by
        have e' : c = z ∨ c = TI ∨ c = TO ∨ c = i 0 ∨ c = i 1 ∨ c = i 2 := by simpa using hcm
        rcases e' with q | q | q | q | q | q
        · rw [q]; exact hzl
        · rw [q]; exact Heap.lt_size hTI
        · rw [q]; exact Heap.lt_size hTO
        · rw [q]; obtain ⟨_, e1, _⟩ := h1; exact Heap.lt_size e1
        · rw [q]; obtain ⟨_, e2, _⟩ := h2; exact Heap.lt_size e2
        · rw [q]; obtain ⟨_, e3, _⟩ := h3; exact Heap.lt_size e3
      rw [upd_ne (Nat.ne_of_lt hlt)]
      exact (hf c hcm).1
  done := by
    intro X hP hw hK hc k pins s σ H E I hf st hg
    subst hP hw hK
    obtain ⟨hz, hTI, _, h1, _, _⟩ := st
    obtain ⟨xs, qx, hend⟩ := hg
    obtain ⟨its, rv, p, _⟩ := I.tuple qx
    have l1 := rv.length
    exact z3_end (I.ok.hd hc) D hz hTI h1 p (by simp; omega) fun h' hk => ⟨rfl, I.turnedL (t' := s.toks) (ch := [z, TI, TO, i 0, i 1, i 2]) (fun c o hb q => hk c o (fun q' => hb (by simp [q'])) (fun q' => hb (by simp [q'])) q) hf⟩
  self := fun A k s Q E st h => wpAny_pyIter_zip st.1 h
/-! ### it is made -/
abbrev ti (l : Addr) : Obj := { cls := .type "tuple_iterator", data := .fields #[.ref l, .int 0 0] }
abbrev q1 (h : Heap) (a : Addr) : Heap := h.push (ti a)
abbrev q2 (h : Heap) (a b : Addr) : Heap := (q1 h a).push (ti b)
abbrev q3 (h : Heap) (a b c : Addr) : Heap := (q2 h a b).push (ti c)
abbrev q4 (h : Heap) (a b c : Addr) : Heap := (q3 h a b c).push { cls := .type "tuple", data := .seq #[.ref h.objs.size, .ref (q1 h a).objs.size, .ref (q2 h a b).objs.size] }
abbrev q5 (h : Heap) (a b c : Addr) : Heap := (q4 h a b c).push { cls := .type "tuple", data := .seq #[.none, .none, .none] }
abbrev q6 (h : Heap) (a b c : Addr) : Heap := (q5 h a b c).push { cls := .type "zip", data := .fields #[.none, .bool false, .bool false, .ref (q3 h a b c).objs.size, .ref (q4 h a b c).objs.size] }
theorem meets_zip3 (a b c : Addr) (xs ys zs : Array Value) :
    Meets (Builtin.«zip.__new__» ⟨[.type "zip", .ref a, .ref b, .ref c], []⟩) (fun _ R s => s.heap.IsTuple a xs ∧ s.heap.IsTuple b ys ∧ s.heap.IsTuple c zs ∧
      R (.ok (.ret (.ref (q5 s.heap a b c).objs.size))) { s with heap := q6 s.heap a b c }) :=
  .of_wp fun prog w A R s h => by
    obtain ⟨hp, g, d, tk, os⟩ := s
    obtain ⟨l1, l2, l3, h⟩ := h
    have hsub := sub_zip
    have L1 : Heap.IsTuple (Shared.heap ⟨hp, g, d, tk, os⟩) a xs := l1
    have L2 : Heap.IsTuple (Shared.heap ⟨q1 hp a, g, d, tk, os⟩) b ys := Heap.IsTuple.push l2 _
    have L3 : Heap.IsTuple (Shared.heap ⟨q2 hp a b, g, d, tk, os⟩) c zs := Heap.IsTuple.push (Heap.IsTuple.push l3 _) _
    wp_walk using wpAny_pyIter_tuple L1, wpAny_pyIter_tuple L2, wpAny_pyIter_tuple L3
    exact ⟨_, rfl, h⟩
theorem call_zip3 {prog : Program} {w : World} {A : Around} {E : Value → Shared → Prop} {s : Shared} {a b c : Addr} {xs ys zs : Array Value} {Q : Value → Shared → Prop} (l1 : s.heap.IsTuple a xs) (l2 : s.heap.IsTuple b ys) (l3 : s.heap.IsTuple c zs)
    (h : ∀ h', Z3 (s.heap.objs.size + 5) (s.heap.objs.size + 3) (s.heap.objs.size + 4) (fun k => s.heap.objs.size + k) (at3 a b c) 0 h' → (∀ c o, s.heap.get? c = some o → h'.get? c = some o) → Q (.ref (s.heap.objs.size + 5)) { s with heap := h' }) :
    wpAny (model prog w) A (call (.type "zip") [.ref a, .ref b, .ref c]) Q E s := by
  refine callType_new F.called_zip (by decide) (tc3 _ _ _) (nc3 _ _ _) (fun obj => oi4 obj _ _ _) F.entry_zip_new (meets_zip3 a b c xs ys zs) ⟨l1, l2, l3, ?_⟩
  have z1 : (q1 s.heap a).objs.size = s.heap.objs.size + 1 := Heap.size_push ..
  have z2 : (q2 s.heap a b).objs.size = s.heap.objs.size + 2 := by rw [Heap.size_push, z1]
  have z3 : (q3 s.heap a b c).objs.size = s.heap.objs.size + 3 := by rw [Heap.size_push, z2]
  have z4 : (q4 s.heap a b c).objs.size = s.heap.objs.size + 4 := by rw [Heap.size_push, z3]
  have z5 : (q5 s.heap a b c).objs.size = s.heap.objs.size + 5 := by rw [Heap.size_push, z4]
  have g6 : (q6 s.heap a b c).get? (q5 s.heap a b c).objs.size = some _ := Heap.get?_push_size _ rfl
  have g5 : (q6 s.heap a b c).get? (q4 s.heap a b c).objs.size = some _ := Heap.get?_push_of_some _ (Heap.get?_push_size _ rfl)
  have g4 : (q6 s.heap a b c).get? (q3 s.heap a b c).objs.size = some _ := Heap.get?_push_of_some _ (Heap.get?_push_of_some _ (Heap.get?_push_size _ rfl))
  have g3 : (q6 s.heap a b c).get? (q2 s.heap a b).objs.size = some _ := Heap.get?_push_of_some _ (Heap.get?_push_of_some _ (Heap.get?_push_of_some _ (Heap.get?_push_size _ rfl)))
  have g2 : (q6 s.heap a b c).get? (q1 s.heap a).objs.size = some _ := Heap.get?_push_of_some _ (Heap.get?_push_of_some _ (Heap.get?_push_of_some _ (Heap.get?_push_of_some _ (Heap.get?_push_size _ rfl))))
  have g1 : (q6 s.heap a b c).get? s.heap.objs.size = some _ := Heap.get?_push_of_some _ (Heap.get?_push_of_some _ (Heap.get?_push_of_some _ (Heap.get?_push_of_some _ (Heap.get?_push_of_some _ (Heap.get?_push_size _ rfl)))))
  show _ ∧ _
  rw [z3, z4, z5] at g6
  rw [z1, z2, z3] at g4
  rw [z4] at g5
  rw [z2] at g3
  rw [z1] at g2
  rw [z5]
  exact ⟨⟨_, g6, rfl⟩, h _ ⟨g6, g4, ⟨_, _, _, g5⟩, ⟨_, g1, rfl, rfl⟩, ⟨_, g2, rfl, rfl⟩, ⟨_, g3, rfl, rfl⟩⟩ fun c o x =>
    Heap.get?_push_of_some _ (Heap.get?_push_of_some _ (Heap.get?_push_of_some _ (Heap.get?_push_of_some _ (Heap.get?_push_of_some _ (Heap.get?_push_of_some _ x)))))⟩
theorem ap3_new (I : Nat) {a b c : Addr} (h1 : a < I) (h2 : b < I) (h3 : c < I) : Ap3 (I + 5) (I + 3) (I + 4) (fun k => I + k) (at3 a b c) := by
  have hl : ∀ k, at3 a b c k < I := fun k => by
    unfold at3
    split
    · exact h1
    · split
      · exact h2
      · exact h3
  have ne : ∀ k m : Nat, at3 a b c k ≠ I + m := fun k m => Nat.ne_of_lt (Nat.lt_of_lt_of_le (hl k) (Nat.le_add_right I m))
  have nn : ∀ k m : Nat, k ≠ m → (I + k : Nat) ≠ I + m := fun k m h => by omega
  exact ⟨nn 3 5 (by decide), nn 4 5 (by decide), fun k hk => nn k 5 (by omega), nn 3 4 (by decide), fun k hk => nn 3 k (by omega), fun k hk => nn 4 k (by omega), fun k m _ _ h => nn k m h, fun k _ => ne k 5, fun k _ => ne k 4, fun k m _ _ => ne k m⟩
def iZip3 (K : PySem.W.Frag) (ta : TA) : TI := fun σ H R => ta σ H fun vs H1 => ∃ a b c xs ys zs, vs = [.ref a, .ref b, .ref c] ∧ SqT K H1 a xs ∧ SqT K H1 b ys ∧ SqT K H1 c zs ∧ R (It3 K a b c) H1
theorem pi_zip3 {X : Cx} {K : PySem.W.Frag} (hK : X.K = K) {e e2 e3 : Expr} {ta : TA} {p pos tpos : Pos} {elts : List Expr} {kk : Nat} (hg : Gl X "zip") (hm : X.mg "zip" = none) (ha : PA X [e, e2, e3] ta)
    (hs : starEach [e, e2, e3] X.env = (false, eval e X.env) :: starEach [e2, e3] X.env := by rfl) (hpl : (backTo pos (starEach [e2, e3] X.env)).any (·.1) = false := by rfl) :
    PI X (.Tuple elts kk tpos) (.Call (.Name "zip" p) [e, e2, e3] [] pos) (iZip3 K ta) := by
  subst hK
  refine ⟨fun pins s σ H R I h => ?_⟩
  refine Call_ (ld_blt I hg hm PyProof.Rows.boot_zip (PyProof.Rows.callWith_type1 (thn (ha.run pos pins s σ H _ I h) fun us s1 ⟨vs, H1, I1, r1, q1⟩ => ?_) hs hpl))
  obtain ⟨a, b, c, xs, ys, zs, ex, qx, qy, qz, q⟩ := q1
  subst ex
  cases r1 with
  | cons r rr =>
    cases rr with
    | cons r' rr =>
      cases rr with
      | cons r'' rr =>
        cases rr
        cases r
        cases r'
        cases r''
        obtain ⟨its, rv, p1, _⟩ := I1.tuple qx
        obtain ⟨its2, rv2, p2, _⟩ := I1.tuple qy
        obtain ⟨its3, rv3, p3, _⟩ := I1.tuple qz
        obtain ⟨o1, ho1, _⟩ := id p1
        obtain ⟨o2, ho2, _⟩ := id p2
        obtain ⟨o3, ho3, _⟩ := id p3
        have fresh : ∀ m : Nat, FpOk X pins H1 (s1.heap.objs.size + m) := fun m => I1.fpOk (Nat.le_add_right _ _) (I1.hok.fresh (Nat.le_add_right _ _))
        refine call_zip3 (show s1.heap.IsTuple a its.toArray from p1) (show s1.heap.IsTuple b its2.toArray from p2) (show s1.heap.IsTuple c its3.toArray from p3) fun h' hz hk => wpAny_pyIter_zip hz.1 ?_
        have I2 : Inv X pins σ H1 { s1 with heap := h' } := I1.kept (t' := s1.toks) hk
        refine ⟨s1.heap.objs.size + 5, _, _, _, H1, rfl, I2, turn_zip3 (ap3_new s1.heap.objs.size (Heap.lt_size ho1) (Heap.lt_size ho2) (Heap.lt_size ho3)), hz, fun d hd => ?_, q⟩
        simp only [List.mem_cons, List.not_mem_nil, or_false] at hd
        rcases hd with e | e | e | e | e | e <;> rw [e] <;> exact fresh _
theorem walk_zip3 {K : PySem.W.Frag} {a b c : Addr} {xs ys zs : List V} (l1 : ys.length = xs.length) (l2 : zs.length = xs.length) : Walk (It3 K a b c) xs.length (fun H => SqT K H a xs ∧ SqT K H b ys ∧ SqT K H c zs)
    (fun i H v H' => ∃ T x y z, v = .ref T ∧ H T = none ∧ H' = upd H T (.tup [x, y, z]) ∧ xs[i]? = some x ∧ ys[i]? = some y ∧ zs[i]? = some z) where
  goes := fun i H hi q => ⟨xs, ys, zs, xs[i], ys[i], zs[i], q.1, q.2.1, q.2.2, List.getElem?_eq_getElem hi, List.getElem?_eq_getElem (by omega), List.getElem?_eq_getElem (by omega)⟩
  stops := fun H q => ⟨xs, q.1, Nat.le_refl _⟩
  yields := fun i H v H' hi q y => by
    obtain ⟨T, x, y, z, e, nT, eH, h1, h2, h3⟩ := y
    exact ⟨T, x, y, z, e, nT, eH, h1 xs q.1, h2 ys q.2.1, h3 zs q.2.2⟩
end Own

namespace Own
open PySem PySem.Spec PyProof.Rows L2
/-- the least number of a tuple -/
def rMinT (K : PySem.W.Frag) : List V → Hp → VK → Prop := fun vs H Q => ∃ (a : Addr) (ns : List Int), vs = [V.ref a] ∧ SqT K H a (ns.map V.int) ∧ 0 < ns.length ∧ ∀ m, m ∈ ns → (∀ y, y ∈ ns → m ≤ y) → Q (.int m) H
theorem cr_minT {X : Cx} {K : PySem.W.Frag} (hK : X.K = K) (hc : X.calm = true) : CallR X (.builtin "min") (rMinT K) := by
  subst hK
  intro pins s σ H vs us Q I r h
  obtain ⟨a, ns, rfl, hs, hne, q⟩ := h
  obtain ⟨its, rv, tt, _⟩ := I.tuple hs
  rw [Vals.ref1 r]
  have ia := rv.ints
  obtain ⟨ps, e⟩ := ia.allInts.items
  have en : numsOf (intItems ps).toList = ns := by
    rw [← e]
    exact ia.numsOf
  rw [nums_intItems] at en
  subst en
  rw [e] at tt
  have ttl : s.heap.IsTuple a (intItems ps) := tt
  have p0 : 0 < ps.size := by simpa using hne
  have la : a < s.heap.objs.size := by
    obtain ⟨_, g, _⟩ := tt
    exact Heap.lt_size g
  refine call_min_walk (wpAny_pyIter_tuple ttl ?_)
  refine ⟨_, [_, a], [_], _, _, _, _, rfl, Walks.tuple (A := X.A.in1) (I.ok.hd hc) _ a (Nat.ne_of_lt la) (intItems ps), ⟨⟨_, Heap.get?_push_size _ rfl, rfl, rfl⟩, ttl.push _⟩, fun b hb => ?_, by simpa [intItems] using p0, CmpOf.ints_lt (PySem.numAt ps) (fun _ _ => intItems_at), fun v h' tk hP hk => ?_⟩
  · show b < (s.heap.push _).objs.size
    rw [Heap.size_push]
    simp only [List.mem_cons, List.not_mem_nil, or_false] at hb
    rcases hb with hb | hb
    · rw [hb]
      exact Nat.lt_succ_self _
    · rw [hb]
      exact Nat.lt_succ_of_lt la
  · obtain ⟨t, ev⟩ := intItems_at (by simpa [intItems] using hP)
    subst ev
    obtain ⟨g1, g2⟩ := argBest_lt (PySem.numAt ps) (ps.size - 1)
    have kept : ∀ b o, s.heap.get? b = some o → h'.get? b = some o := fun b o g => by
      refine hk b o (fun hm => ?_) (Heap.get?_push_of_some _ g)
      rw [List.mem_singleton.mp hm] at g
      exact absurd (Heap.lt_size g) (Nat.lt_irrefl _)
    refine ⟨.int _, H, I.kept kept, ⟨t, rfl⟩, q _ ?_ fun y hy => ?_⟩
    · rw [numAt_eq]
      exact PySem.getD_mem (by rw [List.length_map, Array.length_toList]; exact Nat.lt_of_le_of_lt g1 (by omega))
    · obtain ⟨j, hj, rfl⟩ := mem_getD hy
      rw [List.length_map, Array.length_toList] at hj
      rw [← numAt_eq]
      exact g2 j (by omega)
abbrev tob (i j k : Int) (t u v : Tok) : Obj := { cls := .type "tuple", data := .seq #[.int i t, .int j u, .int k v] }
theorem ar3 (a b c : Value) : argsOk "min" ⟨[a, b, c], []⟩ := by
  unfold argsOk
  kernel_rfl
/-- min of three numbers -/
theorem cr_min3 {X : Cx} (hc : X.calm = true) : CallR X (.builtin "min") (fun xs H Q => ∃ i j k, xs = [.int i, .int j, .int k] ∧ ∀ m, m ≤ i → m ≤ j → m ≤ k → (m = i ∨ m = j ∨ m = k) → Q (.int m) H) := by
  intro pins s σ H xs us Q I r h
  obtain ⟨i, j, k, rfl, q⟩ := h
  obtain ⟨u1, u2, u3, rfl, ⟨t1, rfl⟩, ⟨t2, rfl⟩, ⟨t3, rfl⟩⟩ : ∃ u1 u2 u3, us = [u1, u2, u3] ∧ RelV (.int i) u1 ∧ RelV (.int j) u2 ∧ RelV (.int k) u3 := by
    cases r with
    | cons a r => cases r with
      | cons b r => cases r with
        | cons c r =>
          cases r
          exact ⟨_, _, _, rfl, a, b, c⟩
  let ps : Array (Int × Tok) := #[(i, t1), (j, t2), (k, t3)]
  have hT : (s.heap.push (tob i j k t1 t2 t3)).IsTuple s.heap.objs.size (intItems ps) := ⟨_, Heap.get?_push_size _ rfl, rfl, 0, by simp [ps, intItems]⟩
  have hsz : (s.heap.push (tob i j k t1 t2 t3)).objs.size = s.heap.objs.size + 1 := Heap.size_push ..
  have hname : (toString "min" ++ toString ".loop" : String) = "min.loop" := by decide
  refine call_function_tree F.kind_min F.plain_min F.entry_min (ar3 _ _ _) ?_
  show wpAny _ X.A.in1 (Builtin.Builtins.bindParams "min" _ 0 ⟨[], []⟩ >>= _) _ _ s
  refine wpAny_bind (wpAny_of_eq (show Builtin.Builtins.bindParams "min" ["key", "default"] 0 ⟨[], []⟩ = pure [none, none] from rfl) ?_)
  show wpAny _ X.A.in1 (newTuple [_, _, _] >>= _) _ _ s
  refine wpAny_bind (wpAny_newObj_type ?_)
  refine wpAny_bind (wpAny_pyIter_tuple hT ?_)
  have W := Walks.tuple (prog := X.prog) (w := X.w) (A := X.A.in1) (I.ok.hd hc) (s.heap.push (tob i j k t1 t2 t3)).objs.size s.heap.objs.size (by rw [hsz]; exact Nat.ne_of_lt (Nat.lt_succ_self _)) (intItems ps)
  refine wpAny_bind (wpAny_newObj_type ?_)
  rw [hname]
  refine wpAny_pure ⟨plainId_quiet F.plain_min_loop _, codeAny_min_loop_first W _ (CmpOf.ints_lt (PySem.numAt ps) (fun _ _ => intItems_at)) _ (fun hm => ?_) (by simp [ps, intItems]) (W.frame 0 _ _ ⟨⟨_, Heap.get?_push_size _ rfl, rfl, rfl⟩, hT.push _⟩ fun b _ o e => Heap.get?_push_of_some _ e) (Heap.get?_push_size _ rfl) fun v h' tk hP hk => ?_⟩
  · have hm' : ((s.heap.push (tob i j k t1 t2 t3)).push { cls := .type "tuple_iterator", data := .fields #[.ref s.heap.objs.size, .int 0 0] }).objs.size ∈ [(s.heap.push (tob i j k t1 t2 t3)).objs.size, s.heap.objs.size] := hm
    have z2 : ((s.heap.push (tob i j k t1 t2 t3)).push { cls := .type "tuple_iterator", data := .fields #[.ref s.heap.objs.size, .int 0 0] }).objs.size = (s.heap.push (tob i j k t1 t2 t3)).objs.size + 1 := Heap.size_push ..
    rw [z2, hsz] at hm'
    rcases List.mem_cons.mp hm' with e | e
    · exact absurd e (Nat.ne_of_gt (Nat.lt_succ_self _))
    · exact absurd (List.mem_singleton.mp e) (Nat.ne_of_gt (Nat.lt_succ_of_lt (Nat.lt_succ_self _)))
  · obtain ⟨t, ev⟩ := intItems_at hP
    subst ev
    have n3 : (intItems ps).size - 1 = 2 := by simp [ps, intItems]
    rw [n3]
    obtain ⟨g1, g2⟩ := argBest_lt (PySem.numAt ps) 2
    have v0 : PySem.numAt ps 0 = i := by simp [ps, PySem.numAt]
    have v1 : PySem.numAt ps 1 = j := by simp [ps, PySem.numAt]
    have v2 : PySem.numAt ps 2 = k := by simp [ps, PySem.numAt]
    have l0 := g2 0 (by omega)
    have l1 := g2 1 (by omega)
    have l2 := g2 2 (by omega)
    rw [v0] at l0
    rw [v1] at l1
    rw [v2] at l2
    generalize argBest (fun i j => decide (PySem.numAt ps i < PySem.numAt ps j)) 2 = m at *
    have kept : ∀ b o, s.heap.get? b = some o → h'.get? b = some o := fun b o g => by
      have lt := Heap.lt_size g
      have e1 : (s.heap.push (tob i j k t1 t2 t3)).get? b = some o := Heap.get?_push_of_some _ g
      refine hk b o (fun hm => ?_) ?_ (Heap.get?_push_of_some _ (Heap.get?_push_of_some _ e1))
      · have := List.mem_singleton.mp hm
        rw [hsz] at this
        rw [this] at lt
        exact absurd lt (Nat.not_lt_of_lt (Nat.lt_succ_self _))
      · show b ≠ ((s.heap.push (tob i j k t1 t2 t3)).push _).objs.size
        rw [Heap.size_push, hsz]
        exact Nat.ne_of_lt (Nat.lt_succ_of_lt (Nat.lt_succ_of_lt lt))
    refine ⟨.int _, H, I.kept kept, ⟨t, rfl⟩, q _ l0 l1 l2 ?_⟩
    have hm : m = 0 ∨ m = 1 ∨ m = 2 := by omega
    rcases hm with e | e | e <;> subst e
    · exact .inl v0
    · exact .inr (.inl v1)
    · exact .inr (.inr v2)
end Own

/-! zip of two lists whose pairs go to one name. -/
namespace Own
open PySem PySem.Spec PyProof.Rows L2
/-- the zip object, its pair may still be about -/
def ZN (h : Heap) (z TI TO : Addr) : Prop := ∃ (f0 : Value) (fl : Bool), (f0 = .none ∨ ∃ T : Addr, f0 = rawInt T) ∧ h.get? z = some { cls := .type "zip", dict := none, data := .fields #[f0, .bool fl, .bool false, .ref TI, .ref TO], slots := #[] }
section
variable {prog : Program} {w : World} {A : Around} {E : Value → Shared → Prop} {s : Shared}
theorem wp_alive {a : Addr} {Q : Option Obj → Shared → Prop} (h : ∀ o, Q o s) : wpAny (model prog w) A (loadIfAlive a) Q E s := fun Γ p hΓ => by
  show Sem.wp _ _ (.loadIfAlive a .pure) _ _ _ _
  rw [Sem.wp_loadIfAlive]
  exact h _
/-- may the kept pair be used again? Either is possible -/
theorem own_free {z TI TO : Addr} {Q : Bool → Shared → Prop} (hz : ZN s.heap z TI TO) (h1 : ∀ f0 fl, s.heap.get? z = some { cls := .type "zip", dict := none, data := .fields #[f0, .bool fl, .bool false, .ref TI, .ref TO], slots := #[] } → Q true s)
    (h2 : ∀ h', ZN h' z TI TO → Heap.SameBut z s.heap h' → Q false { s with heap := h' }) : wpAny (model prog w) A (Builtin.SmallTypes.ownedTupleIsFree (.ref z)) Q E s := by
  obtain ⟨f0, fl, hf, e⟩ := id hz
  unfold Builtin.SmallTypes.ownedTupleIsFree
  rcases hf with rfl | ⟨T, rfl⟩
  · exact wpAny_bind (wpAny_field e rfl (x := .none) rfl (wpAny_pure (h1 _ _ e)))
  · refine wpAny_bind (wpAny_field e rfl (x := rawInt T) rfl ?_)
    show wpAny _ _ (loadIfAlive _ >>= _) _ _ _
    refine wpAny_bind (wp_alive fun o => ?_)
    cases o with
    | none => exact wpAny_pure (h1 _ _ e)
    | some o =>
      show wpAny _ _ (field (.ref z) 1 >>= _) _ _ _
      refine wpAny_bind (wpAny_field e rfl (x := .bool fl) rfl ?_)
      cases fl with
      | true => exact wpAny_pure (h2 _ hz ⟨rfl, fun _ _ => rfl⟩)
      | false =>
        refine wpAny_bind (wpAny_setField_rec e (by simp) fun p hp sp => wpAny_pure (h2 _ ⟨rawInt T, true, .inr ⟨T, rfl⟩, hp⟩ sp))
/-- one round -/
theorem zn_item {z TI TO i1 i2 l1 l2 : Addr} {k : Nat} {xs ys : Array Value} {x y a b : Value} {Q : Option Value → Shared → Prop} (D : ZipApart z TI TO i1 i2 l1 l2)
    (hz : ZN s.heap z TI TO) (hTI : IsPair s.heap TI (.ref i1) (.ref i2)) (hTO : IsPair s.heap TO a b)
    (h1 : s.heap.IsListIter i1 l1 k) (h2 : s.heap.IsListIter i2 l2 k) (g1 : s.heap.IsList l1 xs) (g2 : s.heap.IsList l2 ys) (hx : xs[k]? = some x) (hy : ys[k]? = some y)
    (hQ : ∀ h', ZN h' z TI TO → (∃ a b, IsPair h' TO a b) → h'.IsListIter i1 l1 (k + 1) → h'.IsListIter i2 l2 (k + 1) → IsPair h' s.heap.objs.size x y →
      (∀ c o, c ≠ z → c ≠ TO → c ≠ i1 → c ≠ i2 → s.heap.get? c = some o → h'.get? c = some o) → Q (some (.ref s.heap.objs.size)) { s with heap := h' }) :
    wpAny (model prog w) A (pyNext (.ref z)) Q E s := by
  obtain ⟨f0, fl, hf, ez⟩ := id hz
  have hT : s.TypeIs (.ref z) "zip" := ⟨_, ez, rfl⟩
  unfold pyNext
  refine wpAny_bind (wpAny_attempt (wpAny_callSpecial?_slot (name := Str.ofString "__next__") hT F.slot_zip_next (wpAny_call_entry F.slot_zip_next hT F.entry_zip_next ?_ (F.args_zip_next_1 _))))
  show wpAny _ _ (field (.ref z) 2 >>= _) _ _ _
  refine wpAny_bind (wpAny_field ez rfl (x := .bool false) rfl ?_)
  show wpAny _ _ (field (.ref z) 3 >>= _) _ _ _
  refine wpAny_bind (wpAny_field ez rfl (x := .ref TI) rfl ?_)
  refine wpAny_bind (wpAny_seqItems hTI rfl ?_)
  show wpAny _ _ (Builtin.SmallTypes.ownedTupleIsFree _ >>= _) _ _ _
  refine wpAny_bind (own_free hz (fun f0 fl ez => ?_) fun p1 hz1 s1 => ?_)
  · simp only [if_true]
    refine wpAny_bind (wpAny_rule ?_)
    refine wpAny_bind (wpAny_field ez rfl (x := .ref TO) rfl ?_)
    refine wpAny_bind (wpAny_setField_rec ez (by simp) fun p1 hz1 s1 => ?_)
    replace hz1 : p1.get? z = some { cls := .type "zip", dict := none, data := .fields #[.ellipsis, .bool fl, .bool false, .ref TI, .ref TO], slots := #[] } := hz1
    refine wpAny_bind ?_
    simp only [List.zipIdx_cons, List.zipIdx_nil, List.forIn_cons, List.forIn_nil]
    refine wpAny_bind (wpAny_bind (wpAny_onRaise ?_))
    show wpAny _ _ (Builtin.SmallTypes.nextOf (.ref i1) >>= _) _ _ _
    refine wpAny_bind (wpAny_nextOf_list_item (h1.extBut s1.extBut D.i1z) (g1.extBut s1.extBut D.l1z) hx fun p2 a2 s2 => wpAny_pure ?_)
    have o2 : IsPair p2 TO a b := s2.extBut _ _ D.TOi1 (s1.extBut _ _ D.TOz hTO)
    refine wpAny_bind (wpAny_seqItems o2 rfl ?_)
    refine wpAny_bind (wpAny_updateSeq_pair o2 fun p3 o3 s3 => ?_)
    replace o3 : IsPair p3 TO x b := o3
    refine wpAny_bind (wpAny_letGo (wpAny_pure ?_))
    refine wpAny_bind (wpAny_bind (wpAny_onRaise ?_))
    show wpAny _ _ (Builtin.SmallTypes.nextOf (.ref i2) >>= _) _ _ _
    have b3 : p3.IsListIter i2 l2 k := ((h2.extBut s1.extBut D.i2z).extBut s2.extBut D.i12.symm).extBut s3.extBut D.TOi2.symm
    have q3 : p3.IsList l2 ys := ((g2.extBut s1.extBut D.l2z).extBut s2.extBut D.l2i1).extBut s3.extBut D.l2TO
    refine wpAny_bind (wpAny_nextOf_list_item b3 q3 hy fun p4 b4 s4 => wpAny_pure ?_)
    have o4 : IsPair p4 TO x b := s4.extBut _ _ D.TOi2 o3
    refine wpAny_bind (wpAny_seqItems o4 rfl ?_)
    refine wpAny_bind (wpAny_updateSeq_pair o4 fun p5 o5 s5 => ?_)
    replace o5 : IsPair p5 TO x y := o5
    refine wpAny_bind (wpAny_letGo (wpAny_pure (wpAny_pure ?_)))
    refine wpAny_bind (wpAny_seqItems o5 rfl ?_)
    refine wpAny_bind (wpAny_newTuple ?_)
    have sz : p5.objs.size = s.heap.objs.size := by rw [s5.1, s4.1, s3.1, s2.1, s1.1]
    have old : ∀ e o, e ≠ z → e ≠ TO → e ≠ i1 → e ≠ i2 → s.heap.get? e = some o → p5.get? e = some o := fun e o e1 e2 e3 e4 q =>
      s5.extBut _ _ e2 (s4.extBut _ _ e4 (s3.extBut _ _ e2 (s2.extBut _ _ e3 (s1.extBut _ _ e1 q))))
    have z5 : p5.get? z = some { cls := .type "zip", dict := none, data := .fields #[.ellipsis, .bool fl, .bool false, .ref TI, .ref TO], slots := #[] } :=
      s5.extBut _ _ D.TOz.symm (s4.extBut _ _ D.i2z.symm (s3.extBut _ _ D.TOz.symm (s2.extBut _ _ D.i1z.symm hz1)))
    have a5 : p5.IsListIter i1 l1 (k + 1) := ((a2.extBut s3.extBut D.TOi1.symm).extBut s4.extBut D.i12).extBut s5.extBut D.TOi1.symm
    have b5 : p5.IsListIter i2 l2 (k + 1) := b4.extBut s5.extBut D.TOi2.symm
    have zlt : z < p5.objs.size := Heap.lt_size z5
    show wpAny _ _ (Builtin.SmallTypes.ownedTupleHandOut _ (.ref p5.objs.size) >>= _) _ _ _
    refine wpAny_bind ?_
    unfold Builtin.SmallTypes.ownedTupleHandOut
    have z6 : (p5.push { cls := .type "tuple", data := .seq #[x, y] }).get? z = some { cls := .type "zip", dict := none, data := .fields #[.ellipsis, .bool fl, .bool false, .ref TI, .ref TO], slots := #[] } := Heap.get?_push_of_some _ z5
    refine wpAny_bind (wpAny_setField_rec z6 (by simp) fun p7 z7 s7 => ?_)
    replace z7 : p7.get? z = some { cls := .type "zip", dict := none, data := .fields #[rawInt p5.objs.size, .bool fl, .bool false, .ref TI, .ref TO], slots := #[] } := z7
    refine wpAny_setField_rec z7 (by simp) fun p8 z8 s8 => ?_
    replace z8 : p8.get? z = some { cls := .type "zip", dict := none, data := .fields #[rawInt p5.objs.size, .bool false, .bool false, .ref TI, .ref TO], slots := #[] } := z8
    have up : ∀ e o, e ≠ z → p5.get? e = some o → p8.get? e = some o := fun e o ne q => s8.extBut _ _ ne (s7.extBut _ _ ne (Heap.get?_push_of_some _ q))
    have t8 : IsPair p8 p5.objs.size x y := s8.extBut _ _ (Nat.ne_of_gt zlt) (s7.extBut _ _ (Nat.ne_of_gt zlt) (Heap.get?_push_size _ rfl))
    rw [sz] at z8 t8
    refine wpAny_pure ⟨_, rfl, wpAny_pure ?_⟩
    show Q (some (.ref p5.objs.size)) _
    rw [sz]
    exact hQ p8 ⟨_, _, .inr ⟨_, rfl⟩, z8⟩ ⟨_, _, up _ _ D.TOz o5⟩ (a5.at fun o e => up _ o D.i1z e) (b5.at fun o e => up _ o D.i2z e) t8 fun e o e1 e2 e3 e4 q => up e o e1 (old e o e1 e2 e3 e4 q)
  · simp only [Bool.false_eq_true, if_false]
    refine wpAny_bind ?_
    rw [← Array.forIn_toList]
    simp only [List.forIn_cons, List.forIn_nil]
    refine wpAny_bind (wpAny_bind (wpAny_holding ?_))
    show wpAny _ _ (Builtin.SmallTypes.nextOf (.ref i1) >>= _) _ _ _
    refine wpAny_bind (wpAny_nextOf_list_item (h1.extBut s1.extBut D.i1z) (g1.extBut s1.extBut D.l1z) hx fun p2 a2 s2 => wpAny_pure (wpAny_pure ?_))
    refine wpAny_bind (wpAny_bind (wpAny_holding ?_))
    show wpAny _ _ (Builtin.SmallTypes.nextOf (.ref i2) >>= _) _ _ _
    have b2 : p2.IsListIter i2 l2 k := (h2.extBut s1.extBut D.i2z).extBut s2.extBut D.i12.symm
    have q2 : p2.IsList l2 ys := (g2.extBut s1.extBut D.l2z).extBut s2.extBut D.l2i1
    refine wpAny_bind (wpAny_nextOf_list_item b2 q2 hy fun p3 b3 s3 => wpAny_pure (wpAny_pure (wpAny_pure ?_)))
    show wpAny _ _ (newTuple [x, y] >>= _) _ _ _
    refine wpAny_bind (wpAny_newTuple ?_)
    have sz : p3.objs.size = s.heap.objs.size := by rw [s3.1, s2.1, s1.1]
    have up : ∀ e o, e ≠ i1 → e ≠ i2 → p1.get? e = some o → (p3.push { cls := .type "tuple", data := .seq #[x, y] }).get? e = some o := fun e o e3 e4 q => Heap.get?_push_of_some _ (s3.extBut _ _ e4 (s2.extBut _ _ e3 q))
    have old : ∀ e o, e ≠ z → e ≠ TO → e ≠ i1 → e ≠ i2 → s.heap.get? e = some o → (p3.push { cls := .type "tuple", data := .seq #[x, y] }).get? e = some o := fun e o e1 e2 e3 e4 q => up e o e3 e4 (s1.extBut _ _ e1 q)
    have t3 : IsPair (p3.push { cls := .type "tuple", data := .seq #[x, y] }) p3.objs.size x y := Heap.get?_push_size _ rfl
    obtain ⟨f1, fl1, hf1, ez1⟩ := hz1
    refine wpAny_pure ⟨_, rfl, wpAny_pure ?_⟩
    show Q (some (.ref p3.objs.size)) _
    rw [sz] at t3 ⊢
    exact hQ _ ⟨f1, fl1, hf1, up _ _ D.i1z.symm D.i2z.symm ez1⟩ ⟨a, b, up _ _ D.TOi1 D.TOi2 (s1.extBut _ _ D.TOz hTO)⟩ ((a2.extBut s3.extBut D.i12).at fun o e => Heap.get?_push_of_some _ e) (b3.at fun o e => Heap.get?_push_of_some _ e) t3 old
/-- the end, where the first is out -/
theorem zn_end {z TI TO i1 i2 l1 l2 : Addr} {k : Nat} {xs : Array Value} {Q : Option Value → Shared → Prop} (hh : A.handled = none) (D : ZipApart z TI TO i1 i2 l1 l2)
    (hz : ZN s.heap z TI TO) (hTI : IsPair s.heap TI (.ref i1) (.ref i2)) (h1 : s.heap.IsListIter i1 l1 k) (g1 : s.heap.IsList l1 xs) (hx : xs[k]? = none)
    (hQ : ∀ h', (∀ e o, e ≠ z → e ≠ i1 → s.heap.get? e = some o → h'.get? e = some o) → Q none { s with heap := h' }) :
    wpAny (model prog w) A (pyNext (.ref z)) Q E s := by
  obtain ⟨f0, fl, hf, ez⟩ := id hz
  have hT : s.TypeIs (.ref z) "zip" := ⟨_, ez, rfl⟩
  have main : wpAny (model prog w) A.in1 (Builtin.«zip.__next__» ⟨[.ref z], []⟩) (fun _ _ => False) (fun v s' => ∃ h' e o, v = .ref e ∧ s' = { s with heap := h' } ∧ (∀ e o, e ≠ z → e ≠ i1 → s.heap.get? e = some o → h'.get? e = some o) ∧ h'.get? e = some o ∧ o.cls = .type "StopIteration") s := by
    show wpAny _ _ (field (.ref z) 2 >>= _) _ _ _
    refine wpAny_bind (wpAny_field ez rfl (x := .bool false) rfl ?_)
    show wpAny _ _ (field (.ref z) 3 >>= _) _ _ _
    refine wpAny_bind (wpAny_field ez rfl (x := .ref TI) rfl ?_)
    refine wpAny_bind (wpAny_seqItems hTI rfl ?_)
    show wpAny _ _ (Builtin.SmallTypes.ownedTupleIsFree _ >>= _) _ _ _
    refine wpAny_bind (own_free hz (fun f0 fl ez => ?_) fun p1 hz1 s1 => ?_)
    · simp only [if_true]
      refine wpAny_bind (wpAny_rule ?_)
      refine wpAny_bind (wpAny_field ez rfl (x := .ref TO) rfl ?_)
      refine wpAny_bind (wpAny_setField_rec ez (by simp) fun p1 hz1 s1 => ?_)
      replace hz1 : p1.get? z = some { cls := .type "zip", dict := none, data := .fields #[.ellipsis, .bool fl, .bool false, .ref TI, .ref TO], slots := #[] } := hz1
      refine wpAny_bind ?_
      simp only [List.zipIdx_cons, List.zipIdx_nil, List.forIn_cons, List.forIn_nil]
      refine wpAny_bind (wpAny_bind (wpAny_onRaise ?_))
      show wpAny _ _ (Builtin.SmallTypes.nextOf (.ref i1) >>= _) _ _ _
      refine wpAny_bind (wpAny_nextOf_list_end hh (h1.extBut s1.extBut D.i1z) (g1.extBut s1.extBut D.l1z) hx fun p2 e s2 he => ?_)
      obtain ⟨oe, hoe, hce⟩ := he
      have hz2 : p2.get? z = some { cls := .type "zip", dict := none, data := .fields #[.ellipsis, .bool fl, .bool false, .ref TI, .ref TO], slots := #[] } := s2 _ _ D.i1z.symm hz1
      have ne : e ≠ z := fun q => by
        subst q
        rw [hz2] at hoe
        cases hoe
        simp at hce
      exact wpAny_setField_rec hz2 (by simp) fun p3 _ s3 => ⟨p3, e, oe, rfl, rfl, fun e' o e1 e2 q => s3.extBut _ _ e1 (s2 _ _ e2 (s1.extBut _ _ e1 q)), s3.extBut _ _ ne hoe, hce⟩
    · simp only [Bool.false_eq_true, if_false]
      refine wpAny_bind ?_
      rw [← Array.forIn_toList]
      simp only [List.forIn_cons, List.forIn_nil]
      refine wpAny_bind (wpAny_bind (wpAny_holding ?_))
      show wpAny _ _ (Builtin.SmallTypes.nextOf (.ref i1) >>= _) _ _ _
      refine wpAny_bind (wpAny_nextOf_list_end hh (h1.extBut s1.extBut D.i1z) (g1.extBut s1.extBut D.l1z) hx fun p2 e s2 he => ?_)
      obtain ⟨oe, hoe, hce⟩ := he
      exact ⟨p2, e, oe, rfl, rfl, fun e' o e1 e2 q => s2 _ _ e2 (s1.extBut _ _ e1 q), hoe, hce⟩
  unfold pyNext
  refine wpAny_bind (wpAny_attempt (wpAny_callSpecial?_slot (name := Str.ofString "__next__") hT F.slot_zip_next (wpAny_call_entry F.slot_zip_next hT F.entry_zip_next (wpAny_mono main (fun _ _ q => False.elim q) fun v s' q => ?_) (F.args_zip_next_1 _))))
  obtain ⟨h', e, o, rfl, rfl, hk, ho, hc⟩ := q
  refine wpAny_bind (wpAny_isInstance (T := "StopIteration") (b := true) ⟨o, ho, hc⟩ isSubtype_stop ?_)
  exact wpAny_pure (hQ _ hk)
theorem zn_iter {z TI TO : Addr} {Q : Value → Shared → Prop} (hz : ZN s.heap z TI TO) (h : Q (.ref z) s) : wpAny (model prog w) A (pyIter (.ref z)) Q E s := by
  obtain ⟨f0, fl, hf, ez⟩ := hz
  have hT : s.TypeIs (.ref z) "zip" := ⟨_, ez, rfl⟩
  refine wpAny_pyIter_slot hT F.slot_zip_iter (wpAny_call_entry F.slot_zip_iter hT F.entry_zip_iter ?_ (F.args_zip_iter_1 _))
  show wpAny _ _ (ret (.ref z)) _ _ s
  exact wpAny_pure ⟨_, rfl, "zip", _, hT, F.slot_zip_next.lookup, h⟩
end
/-- zip's turns for one name -/
def StN (z TI TO i1 i2 a b : Addr) (i : Nat) (h : Heap) : Prop := ZN h z TI TO ∧ IsPair h TI (.ref i1) (.ref i2) ∧ (∃ x y, IsPair h TO x y) ∧ h.IsListIter i1 a i ∧ h.IsListIter i2 b i
/-- the turns, the first list is the shorter one -/
def ItN (K : PySem.W.Frag) (a b : Addr) : It := ⟨(Itz K a b).go, (Itz K a b).yld, fun i H => ∃ xs : List V, SqL K H a xs ∧ xs.length ≤ i⟩
theorem turn_zipN {P : Program} {w : World} {K : PySem.W.Frag} {x : Str} {xp : Pos} {a b z TI TO i1 i2 : Addr} (D : ZipApart z TI TO i1 i2 a b) :
    Turn P w K (.Name x xp) (ItN K a b) [z, TI, TO, i1, i2] z (StN z TI TO i1 i2 a b) where
  mem := by simp
  obj := fun i h st c hc => by
    obtain ⟨⟨f0, fl, _, hz⟩, hTI, ⟨x, y, hTO⟩, ⟨o1, e1, _, d1⟩, ⟨o2, e2, _, d2⟩⟩ := st
    have e' : c = z ∨ c = TI ∨ c = TO ∨ c = i1 ∨ c = i2 := by simpa using hc
    rcases e' with q | q | q | q | q
    · rw [q]; exact ⟨_, hz, fun v q => nomatch q⟩
    · rw [q]; exact ⟨_, hTI, fun v q => nomatch q⟩
    · rw [q]; exact ⟨_, hTO, fun v q => nomatch q⟩
    · rw [q]; exact ⟨o1, e1, fun v q => by rw [d1] at q; cases q⟩
    · rw [q]; exact ⟨o2, e2, fun v q => by rw [d2] at q; cases q⟩
  keep := fun i h h' st k => by
    obtain ⟨⟨f0, fl, hf, hz⟩, hTI, ⟨x, y, hTO⟩, h1, h2⟩ := st
    exact ⟨⟨f0, fl, hf, k z (by simp) _ hz⟩, k TI (by simp) _ hTI, ⟨x, y, k TO (by simp) _ hTO⟩, h1.at fun o q => k i1 (by simp) o q, h2.at fun o q => k i2 (by simp) o q⟩
  item := by
    intro X hP hw hK hc i pins s σ H E I hf st hg
    subst hP hw hK
    obtain ⟨hz, hTI, ⟨x0, y0, hTO⟩, h1, h2⟩ := st
    obtain ⟨xs, ys, x, y, qx, qy, hx, hy⟩ := hg
    obtain ⟨its, rv, p, _⟩ := I.list qx
    obtain ⟨its2, rv2, p2, _⟩ := I.list qy
    obtain ⟨v1, w1, r1⟩ := rv.get hx
    obtain ⟨v2, w2, r2⟩ := rv2.get hy
    refine zn_item D hz hTI hTO h1 h2 p.isList p2.isList (x := v1) (y := v2) (by simpa using w1) (by simpa using w2) fun h' z' o' i1' i2' hT hk => ?_
    have new : ObjOk X.prog X.w (upd H s.heap.objs.size (.tup [x, y])) h' s.heap.objs.size (.tup [x, y]) :=
      ⟨by show 2 ≤ sizeLine; decide, [v1, v2], .cons r1 (.cons r2 .nil), ⟨_, hT, rfl, _, rfl⟩⟩
    have I1 : Inv X pins σ (upd H s.heap.objs.size (.tup [x, y])) { s with heap := h' } :=
      I.turnedNew (t' := s.toks) (ch := [z, TI, TO, i1, i2]) (fun c o hb q => hk c o (fun q' => hb (by simp [q'])) (fun q' => hb (by simp [q'])) (fun q' => hb (by simp [q'])) (fun q' => hb (by simp [q'])) q) hf (Nat.le_refl _) new
    refine ⟨_, rfl, wpAny_pure ⟨.ref s.heap.objs.size, _, I1, rfl, ⟨_, x, y, rfl, I.hok.fresh (Nat.le_refl _), rfl, fun l hl => by rw [I.list_inj hl qx]; exact hx, fun l hl => by rw [I.list_inj hl qy]; exact hy⟩, ⟨z', ?_, o', i1', i2'⟩, fun c hcm => ?_⟩⟩
    · exact hk _ _ D.TIz D.TITO D.TIi1 D.TIi2 hTI
    · have hlt : c < s.heap.objs.size := by
        have e' : c = z ∨ c = TI ∨ c = TO ∨ c = i1 ∨ c = i2 := by simpa using hcm
        obtain ⟨f0, fl, _, ez⟩ := hz
        rcases e' with q | q | q | q | q
        · rw [q]; exact Heap.lt_size ez
        · rw [q]; exact Heap.lt_size hTI
        · rw [q]; exact Heap.lt_size hTO
        · rw [q]; obtain ⟨_, e1, _⟩ := h1; exact Heap.lt_size e1
        · rw [q]; obtain ⟨_, e2, _⟩ := h2; exact Heap.lt_size e2
      rw [upd_ne (Nat.ne_of_lt hlt)]
      exact (hf c hcm).1
  done := by
    intro X hP hw hK hc i pins s σ H E I hf st hg
    subst hP hw hK
    obtain ⟨hz, hTI, _, h1, _⟩ := st
    obtain ⟨xs, qx, hend⟩ := hg
    obtain ⟨its, rv, p, _⟩ := I.list qx
    have l1 := rv.length
    exact zn_end (I.ok.hd hc) D hz hTI h1 p.isList (by simp; omega) fun h' hk => ⟨rfl, I.turnedL (t' := s.toks) (ch := [z, TI, TO, i1, i2]) (fun c o hb q => hk c o (fun q' => hb (by simp [q'])) (fun q' => hb (by simp [q'])) q) hf⟩
  self := fun A i s Q E st h => zn_iter st.1 h
def iZipN (K : PySem.W.Frag) (ta : TA) : TI := fun σ H R => ta σ H fun vs H1 => ∃ a b xs ys, vs = [.ref a, .ref b] ∧ SqL K H1 a xs ∧ SqL K H1 b ys ∧ R (ItN K a b) H1
theorem pi_zipN {X : Cx} {K : PySem.W.Frag} (hK : X.K = K) {e e2 : Expr} {ta : TA} {p pos xp : Pos} {x : Str} (hg : Gl X "zip") (hm : X.mg "zip" = none) (ha : PA X [e, e2] ta)
    (hs : starEach [e, e2] X.env = (false, eval e X.env) :: starEach [e2] X.env := by rfl) (hpl : (backTo pos (starEach [e2] X.env)).any (·.1) = false := by rfl) :
    PI X (.Name x xp) (.Call (.Name "zip" p) [e, e2] [] pos) (iZipN K ta) := by
  subst hK
  refine ⟨fun pins s σ H R I h => ?_⟩
  refine Call_ (ld_blt I hg hm PyProof.Rows.boot_zip (PyProof.Rows.callWith_type1 (thn (ha.run pos pins s σ H _ I h) fun us s1 ⟨vs, H1, I1, r1, q1⟩ => ?_) hs hpl))
  obtain ⟨a, b, xs, ys, ex, qx, qy, q⟩ := q1
  subst ex
  obtain ⟨u1, u2, rfl, rv1, rv2⟩ := vals2 r1
  cases rv1
  cases rv2
  obtain ⟨its, rv, p1, _⟩ := I1.list qx
  obtain ⟨its2, rv', p2, _⟩ := I1.list qy
  have fresh : ∀ m : Nat, FpOk X pins H1 (s1.heap.objs.size + m) := fun m => I1.fpOk (Nat.le_add_right _ _) (I1.hok.fresh (Nat.le_add_right _ _))
  refine call_zip_2 p1.isList p2.isList fun h' hz hTI hTO h1 h2 hsz hk => wpAny_pyIter_zip hz ?_
  have I2 : Inv X pins σ H1 { s1 with heap := h' } := I1.kept (t' := s1.toks) hk
  refine ⟨s1.heap.objs.size + 4, _, _, _, H1, rfl, I2, turn_zipN (PySem.W.ktu_apart s1.heap.objs.size a b p1.lt p2.lt), ⟨⟨_, _, .inl rfl, hz⟩, hTI, ⟨_, _, hTO⟩, h1, h2⟩, fun d hd => ?_, q⟩
  simp only [List.mem_cons, List.not_mem_nil, or_false] at hd
  rcases hd with e | e | e | e | e <;> rw [e]
  · exact fresh 4
  · exact fresh 2
  · exact fresh 3
  · exact fresh 0
  · exact fresh 1
theorem walk_zipN {K : PySem.W.Frag} {a b : Addr} {xs ys : List V} (hl : ys.length = xs.length) : Walk (ItN K a b) xs.length (fun H => SqL K H a xs ∧ SqL K H b ys)
    (fun i H v H' => ∃ T x y, v = .ref T ∧ H T = none ∧ H' = upd H T (.tup [x, y]) ∧ xs[i]? = some x ∧ ys[i]? = some y) where
  goes := fun i H hi q => ⟨xs, ys, xs[i], ys[i], q.1, q.2, List.getElem?_eq_getElem hi, List.getElem?_eq_getElem (by omega)⟩
  stops := fun H q => ⟨xs, q.1, Nat.le_refl _⟩
  yields := fun i H v H' hi q y => by
    obtain ⟨T, x, y, e, nT, eH, h1, h2⟩ := y
    exact ⟨T, x, y, e, nT, eH, h1 xs q.1, h2 ys q.2⟩
end Own

namespace Own
open PySem PySem.Spec PyProof.Rows L2
/-! ### == by an own __eq__ -/
theorem pass0A {X : Cx} {σ : L2.St} : PassesAt CX0 X σ E0 := fun pins H s e s' I h => pass0 pins σ H s e s' I h
def rOwnEq (K : PySem.W.Frag) (C : Addr) (sp : Sp) : R2 := fun x y H Q => ∃ (a dx : Addr) (fs : List (Str × V)) (tb : Value), x = .ref a ∧ H a = some (.ins C dx fs) ∧ (TyX K H y tb ∨ ∃ (b dy : Addr) (gs : List (Str × V)), y = .ref b ∧ H b = some (.ins C dy gs) ∧ tb = .ref C) ∧ PySem.W.notFirst K C tb = true ∧
  sp [.ref a, y] H (fun v H' => ∃ c : Bool, v = .bl c ∧ Q (.bl c) H') E0
theorem op_ownEq {X : Cx} {C g : Addr} {k : Nat} {fd : FuncData} {ps : List Str} {sp : Sp} (hs : PySem.W.findIn X.K (.ref C) "__eq__" = some (some (.ref g))) (hf : PySem.W.isFn X.K (.ref g) = true) (F : FnOk X.prog X.w X.K X.mg X.base CX0 k g fd ps sp) (room : Room k X.A) (hb : Binds X.K fd ps []) :
    OpR X (compareOp .Eq) (rOwnEq X.K C sp) := by
  intro pins s σ H x y v u Q inv rx ry ask
  obtain ⟨a, dx, fs, tb, rfl, ha, ty, nf, q⟩ := ask
  cases (show v = Value.ref a from rx)
  obtain ⟨_, O, _, _, _, _⟩ := ins_get inv.hok ha
  obtain ⟨od, J, _⟩ := O.look
  obtain ⟨m, hF⟩ := inv.fr
  have look : PySem.W.Looks (model X.prog X.w) s.heap (typeOf u) tb := by
    rcases ty with ty | ⟨b, dy, gs, rfl, hb, rfl⟩
    · obtain ⟨Pp, kx, hp, _⟩ := kit_of inv ry ty
      exact kx.ty _ _ inv.kIn hp
    · cases (show u = Value.ref b from ry)
      obtain ⟨_, O2, _, _, _, _⟩ := ins_get inv.hok hb
      obtain ⟨od2, J2, _⟩ := O2.look
      exact J2.type
  show wpAny (model X.prog X.w) X.A (richCompare .Eq (.ref a) u) (EP X pins σ Q) X.xe s
  refine PySem.W.cmp_K (op := .Eq) (tb := tb) room.units0 hF inv.ok.mod.kin J look nf hs hf ?_
  refine wpAny_mono (run_fnS (E := fun _ => E0) (us := [.ref a, u]) (vs := [.ref a, y]) F room hb pass0A inv (.cons rfl (.cons ry .nil)) q) (fun w s' z => ?_) fun _ _ x => x
  obtain ⟨z', H', I', rz, c, rfl, qz⟩ := z
  cases (show w = Value.bool c from rz)
  exact ⟨.bl c, H', I', rfl, qz⟩

section
variable {X : Cx}
theorem op_eqDK {K : PySem.W.Frag} (hK : X.K = K) (hu : X.A.units + 64 < cLine) : OpR X (compareOp .Eq) (rEqD K) := by
  subst hK
  exact op_eqD hu
end
def td (t : Tr) : PyData := .tuple [.int t.1, .int t.2.1, .int t.2.2]
theorem td_dp {K : PySem.W.Frag} {H : Hp} {u : Addr} {t : Tr} (h : H u = some (.tup (tv t))) : Dp K H (.ref u) (td t) := .tup (.inl (.inl h)) (.cons (.int _) (.cons (.int _) (.cons (.int _) .nil)))
theorem td_eqv (p q : Tr) : PyData.eqv (td p) (td q) = decide (p = q) := by
  unfold td
  simp only [PyData.eqv, PyData.eqvAll, Bool.and_true]
  obtain ⟨a, b, c⟩ := p
  obtain ⟨d, e, f⟩ := q
  rw [Bool.eq_iff_iff]
  simp
theorem tds_eqv : ∀ (l r : List Tr), PyData.eqvAll (l.map td) (r.map td) = decide (l = r)
  | [], [] => by simp [PyData.eqvAll]
  | [], _ :: _ => by simp [PyData.eqvAll]
  | _ :: _, [] => by simp [PyData.eqvAll]
  | x :: l, y :: r => by
    rw [List.map_cons, List.map_cons, PyData.eqvAll, td_eqv, tds_eqv l r]
    rw [Bool.eq_iff_iff]
    simp
theorem lay_tds : ∀ ps : List Tr, PyData.canLayAll0 (ps.map td) = true ∧ PyData.depthAll (ps.map td) ≤ 1
  | [] => ⟨rfl, Nat.zero_le _⟩
  | p :: r => by
    obtain ⟨h1, h2⟩ := lay_tds r
    refine ⟨?_, ?_⟩
    · show (PyData.canLay0 (td p) && PyData.canLayAll0 (r.map td)) = true
      rw [h1]
      rfl
    · show max (PyData.depth (td p)) (PyData.depthAll (r.map td)) ≤ 1
      have : PyData.depth (td p) = 1 := rfl
      omega
theorem shaped_tds (ps : List Tr) : SeqAt.shaped (.tuple (ps.map td)) = true := by
  obtain ⟨h1, h2⟩ := lay_tds ps
  unfold SeqAt.shaped
  have e1 : PyData.canLay0 (.tuple (ps.map td)) = true := h1
  have e2 : PyData.depth (.tuple (ps.map td)) ≤ 64 := by
    show PyData.depthAll (ps.map td) + 1 ≤ 64
    omega
  rw [e1, decide_eq_true e2]
  rfl
theorem TrV.dp {K : PySem.W.Frag} {H : Hp} : ∀ (l : List Tr) (vs : List V), TrV H vs l → DpAll K H vs (l.map td)
  | [], vs, h => by
    have : vs = [] := List.length_eq_zero_iff.mp h.1
    subst this
    exact .nil
  | t :: r, [], h => absurd h.1 (by simp)
  | t :: r, v :: vs, h => by
    obtain ⟨b, e1, e2⟩ := h.2 0 t rfl
    cases Option.some.inj e1
    exact .cons (td_dp e2) (TrV.dp r vs ⟨Nat.succ.inj h.1, fun i u e => h.2 (i + 1) u e⟩)
theorem Trip.dp {K : PySem.W.Frag} {H : Hp} {a : Addr} {l : List Tr} (h : Trip H a l) : Dp K H (.ref a) (.tuple (l.map td)) := by
  obtain ⟨vs, e, t⟩ := h
  exact .tup (.inl (.inl e)) (t.dp l vs)
section
variable {P : Program} {w : World} {K : PySem.W.Frag} {mg : Str → Option Value} {base : Heap} {C : Addr}
def spEqL (K : PySem.W.Frag) (C : Addr) : Sp := fun vs H Q _ => ∃ (p : Addr) (y : V) (n : Int) (cs : List Tr), vs = [.ref p, y] ∧ LotAt C H p n cs ∧
  ((∃ (o : Addr) (m : Int) (ds : List Tr), y = .ref o ∧ LotAt C H o m ds ∧ Q (.bl (decide (n = m ∧ cs = ds))) H) ∨ (∃ t : Value, TyX K H y t ∧ PySem.W.kitOne K t (.ref C) = some false ∧ Q (.bl false) H))
theorem ok_eqL {f : Addr} {fd : FuncData} (F : Fun K "__eq__" "Lot.__eq__" s_Lot_eq f fd) (T : Bi mg) (L : LotC K mg C) (I : C8.InsC K C) : FnOk P w K mg base CX0 1 f fd ["self", "other"] (spEqL K C) := by
  refine F.ok sc_Lot_eq (fun vs H Q E h => ?_) (fun cdv A outer s H vs Q E hr h => ?_)
  · obtain ⟨p, y, n, cs, rfl, _⟩ := h
    rfl
  · obtain ⟨p, y, n, cs, rfl, hp, h⟩ := h
    have hu64 : (A.deeper (envOfC "Lot.__eq__" (defScope s_Lot_eq) s.heap.objs.size f cdv)).units + 64 < cLine := hr.units
    refine ⟨_, (pss_one (ps_ret (pe_and (pe_callB call_isi (by rfl) T.b_isinstance (by decide +kernel) (pa_cons (pv 1) (pa_cons (pe_glob (v := .ref C) (by rfl) L.g rfl) pa_nil))) (pe_and (pe_cmpR op_eq (pe_fld (pv 0) rfl) (pe_fld (pv 1) rfl) (nomark _)) (pe_one (pe_cmpR (op_eqDK (K := K) rfl hu64) (pe_fld (pv 0) rfl) (pe_fld (pv 1) rfl) (nomark _))))))), ?_⟩
    obtain ⟨dx, c, e, t⟩ := hp
    rcases h with ⟨o, m, ds, rfl, ho, q⟩ | ⟨t2, ty, kt, q⟩
    · obtain ⟨dy, c2, e2, t2⟩ := ho
      refine ⟨_, rfl, _, _, _, _, true, rfl, .own C, .base (.ins e2 I.cl I.ha I.hn I.htk I.hm), I.me, true, rfl, ?_⟩
      refine ⟨_, rfl, p, C, dx, _, _, rfl, e, L.cl, L.nP, flds_pins _ _, _, rfl, o, C, dy, _, _, rfl, e2, L.cl, L.nP, flds_pins _ _, rfl, ?_⟩
      refine ⟨_, rfl, ?_⟩
      by_cases en : n = m
      · subst en
        rw [show decide (V.int n = V.int n) = true from decide_eq_true rfl]
        refine ⟨_, rfl, p, C, dx, _, _, rfl, e, L.cl, L.nC, flds_cords _ _, _, rfl, o, C, dy, _, _, rfl, e2, L.cl, L.nC, flds_cords _ _, _, _, t.dp, t2.dp, shaped_tds _, shaped_tds _, ?_⟩
        rw [PyData.eqv, tds_eqv]
        by_cases ec : cs = ds
        · rw [decide_eq_true ec]
          rw [decide_eq_true (show n = n ∧ cs = ds from ⟨rfl, ec⟩)] at q
          exact q
        · rw [decide_eq_false ec]
          rw [decide_eq_false (show ¬ (n = n ∧ cs = ds) from fun z => ec z.2)] at q
          exact q
      · rw [decide_eq_false (show ¬ (n = m ∧ cs = ds) from fun z => en z.1)] at q
        rw [show decide (V.int n = V.int m) = false from decide_eq_false fun z => en (V.int.inj z)]
        exact q
    · exact ⟨_, rfl, _, _, _, _, false, rfl, .own C, ty, kt, false, rfl, q⟩
end
section
variable {P : Program} {w : World} {K : PySem.W.Frag} {mg : Str → Option Value} {base : Heap} {C : Addr}
theorem nfC : PySem.W.notFirst K C (.ref C) = true := by
  unfold PySem.W.notFirst
  rw [beq_self_eq_true]
  rfl
theorem eqLot {H : Hp} {Q : VK} {p o : Addr} {n m : Int} {cs ds : List Tr} (hp : LotAt C H p n cs) (ho : LotAt C H o m ds) (q : Q (.bl (decide (n = m ∧ cs = ds))) H) : rOwnEq K C (spEqL K C) (.ref p) (.ref o) H Q := by
  obtain ⟨dx, c, e, t⟩ := id hp
  obtain ⟨dy, c2, e2, t2⟩ := id ho
  exact ⟨p, dx, _, .ref C, rfl, e, .inr ⟨o, dy, _, rfl, e2, rfl⟩, nfC, p, _, n, cs, rfl, hp, .inl ⟨o, m, ds, rfl, ho, _, rfl, q⟩⟩
end
section
variable {X : Cx} {K : PySem.W.Frag} {C g : Addr} {k : Nat} {fd : FuncData} {ps : List Str} {sp : Sp}
theorem op_ownEqK (hK : X.K = K) (hs : PySem.W.findIn K (.ref C) "__eq__" = some (some (.ref g))) (hf : PySem.W.isFn K (.ref g) = true) (F : FnOk X.prog X.w K X.mg X.base CX0 k g fd ps sp) (room : Room k X.A) (hb : Binds K fd ps []) : OpR X (compareOp .Eq) (rOwnEq K C sp) := by
  subst hK
  exact op_ownEq hs hf F room hb
end
end Own

namespace Own
open PySem PySem.Spec PyProof.Rows L2
structure BiX (mg : Str → Option Value) : Prop where
  b_zip : mg "zip" = none
  b_enumerate : mg "enumerate" = none
  b_abs : mg "abs" = none
section
variable {P : Program} {w : World} {K : PySem.W.Frag} {mg : Str → Option Value} {base : Heap} {C : Addr}

/-- do the cords a b and c d cross? -/
def crB (a b c d : Int) : Bool := if c = a ∨ c = b ∨ d = a ∨ d = b then false else decide (¬ ((lo a b < c ∧ c < hi a b) ↔ (lo a b < d ∧ d < hi a b)))
def spCrosses : Sp := fun vs H Q _ => ∃ a b c d : Int, vs = [.int a, .int b, .int c, .int d] ∧ Q (.bl (crB a b c d)) H
theorem ok_crosses {f : Addr} {fd : FuncData} (F : Fun K "crosses" "crosses" s_crosses f fd) (T : Bi mg) : FnOk P w K mg base CX0 1 f fd ["a", "b", "c", "d"] spCrosses := by
  refine F.ok sc_crosses (fun vs H Q E h => ?_) (fun cdv A outer s H vs Q E hr h => ?_)
  · obtain ⟨a, b, c, d, rfl, _⟩ := h
    rfl
  · obtain ⟨a, b, c, d, rfl, q⟩ := h
    refine ⟨_, (pss_cons (ps_set (i := 4) sc_crosses.nd rfl (.inl rfl) (pe_callB (call_min2 rfl) (by rfl) T.b_min (by decide +kernel) (pa_cons (pv 0) (pa_cons (pv 1) pa_nil))))
        (pss_cons (ps_set (i := 5) sc_crosses.nd rfl (.inl rfl) (pe_callB (call_max2 rfl) (by rfl) T.b_max (by decide +kernel) (pa_cons (pv 0) (pa_cons (pv 1) pa_nil))))
        (pss_cons (ps_if (PW.pt (pw_or (pt_cmpR op_eq (pv 2) (pv 0) (nomark _)) (pw_or (pt_cmpR op_eq (pv 2) (pv 1) (nomark _)) (pw_or (pt_cmpR op_eq (pv 3) (pv 0) (nomark _)) (pw_or1 (pt_cmpR op_eq (pv 3) (pv 1) (nomark _))))))) (pss_one (ps_ret pe_bl)) pss_nil)
        (pss_one (ps_ret (pe_cmpR op_ne (pe_chain op_lt op_lt (pv 4) (pv 2) (pv 5)) (pe_chain op_lt op_lt (pv 4) (pv 3) (pv 5)) (nomark _))))))), ?_⟩
    have vi : ∀ {x y : Int}, decide (V.int x = V.int y) = true → x = y := fun e => V.int.inj (of_decide_eq_true e)
    have vn : ∀ {x y : Int}, ¬ decide (V.int x = V.int y) = true → x ≠ y := fun e z => e (decide_eq_true (congrArg V.int z))
    have q0 : (c = a ∨ c = b ∨ d = a ∨ d = b) → Q (.bl false) H := fun z => by
      unfold crB at q
      rw [if_pos z] at q
      exact q
    refine ⟨_, rfl, _, rfl, _, _, rfl, _, rfl, _, rfl, _, _, rfl, ?_⟩
    refine ⟨_, rfl, _, rfl, rfl, _, rfl, ite2 (fun e => q0 (.inl (vi e))) (fun e1 => ?_)⟩
    refine ⟨_, rfl, _, rfl, rfl, _, rfl, ite2 (fun e => q0 (.inr (.inl (vi e)))) (fun e2 => ?_)⟩
    refine ⟨_, rfl, _, rfl, rfl, _, rfl, ite2 (fun e => q0 (.inr (.inr (.inl (vi e))))) (fun e3 => ?_)⟩
    refine ⟨_, rfl, _, rfl, rfl, _, rfl, ite2 (fun e => q0 (.inr (.inr (.inr (vi e))))) (fun e4 => ?_)⟩
    have e1 := vn e1
    have e2 := vn e2
    have e3 := vn e3
    have e4 := vn e4
    unfold crB at q
    rw [if_neg (by omega)] at q
    have fin : ∀ (x y : Bool), x = decide (lo a b < c ∧ c < hi a b) → y = decide (lo a b < d ∧ d < hi a b) → Q (.bl (!decide (V.bl x = V.bl y))) H := fun x y hx hy => by
      have e : decide (¬ ((lo a b < c ∧ c < hi a b) ↔ (lo a b < d ∧ d < hi a b))) = !decide (V.bl x = V.bl y) := by
        rw [hx, hy]
        by_cases c1 : lo a b < c ∧ c < hi a b <;> by_cases c2 : lo a b < d ∧ d < hi a b <;> simp [c1, c2]
      rw [← e]
      exact q
    have second : ∀ x : Bool, x = decide (lo a b < c ∧ c < hi a b) → (tChain (rI0 fun i j => V.bl (decide (i < j))) (rI0 fun i j => V.bl (decide (i < j))) (tVar 4) (tVar 3) (tVar 5)) [some (.int a), some (.int b), some (.int c), some (.int d), some (.int (lo a b)), some (.int (hi a b))] H fun y H2 => rNe (V.bl x) y H2 Q := fun x hx => by
      refine ⟨_, rfl, _, rfl, _, _, rfl, rfl, _, rfl, ite2 (fun e => ?_) (fun e => ?_)⟩
      · have e := of_decide_eq_true e
        refine ⟨_, rfl, _, _, rfl, rfl, rfl, fin x _ hx ?_⟩
        exact decide_eq_decide.mpr ⟨fun z => ⟨e, z⟩, fun z => z.2⟩
      · have e : ¬ lo a b < d := fun z => e (decide_eq_true z)
        exact ⟨rfl, fin x _ hx (decide_eq_false fun z => e z.1).symm⟩
    refine ⟨_, rfl, _, rfl, _, _, rfl, rfl, _, rfl, ite2 (fun e => ?_) (fun e => ?_)⟩
    · have e : lo a b < c := of_decide_eq_true e
      refine ⟨_, rfl, _, _, rfl, rfl, ?_⟩
      exact second _ (decide_eq_decide.mpr ⟨fun z => ⟨e, z⟩, fun z => z.2⟩)
    · have e : ¬ lo a b < c := fun z => e (decide_eq_true z)
      exact second false (decide_eq_false fun z => e z.1).symm

def spCkGap : Sp := fun vs H Q _ => ∃ n g : Int, vs = [.int n, .int g] ∧ 0 ≤ g ∧ g < hi n 1 ∧ Q .non H
theorem ok_ckgap {f : Addr} {fd : FuncData} (F : Fun K "check_gap" "check_gap" s_check_gap f fd) {f_g : Addr} {d_g : FuncData} (D_g : Df K mg "gaps" s_gaps ["pins"] f_g d_g) (G_g : FnOk P w K mg base CX0 1 f_g d_g ["pins"] spGaps) {f_b : Addr} {d_b : FuncData} (D_b : Df K mg "is_below" s_is_below ["value", "bound"] f_b d_b) (G_b : FnOk P w K mg base CX0 2 f_b d_b ["value", "bound"] spBelow) : FnOk P w K mg base CX0 3 f fd ["pins", "gap"] spCkGap := by
  refine F.ok sc_check_gap (fun vs H Q E h => ?_) (fun cdv A outer s H vs Q E hr h => ?_)
  · obtain ⟨n, g, rfl, _⟩ := h
    rfl
  · obtain ⟨n, g, rfl, g0, g1, q⟩ := h
    refine ⟨_, (pss_one (ps_if (pt_not (pt_val (pe_call G_b (hr.mono (by decide)) (by rfl) D_b.g D_b.F.kp D_b.b .nil pass0 (pa_cons (pv 1) (pa_cons (pe_call G_g (hr.mono (by decide)) (by rfl) D_g.g D_g.F.kp D_g.b .nil pass0 (pa_cons (pv 0) pa_nil)) pa_nil))))) (pss_one ps_never) pss_nil)), ?_⟩
    exact ⟨_, rfl, _, rfl, n, rfl, g, hi n 1, rfl, g0, g1, true, rfl, q⟩

def spNext : Sp := fun vs H Q _ => ∃ n g : Int, vs = [.int n, .int g] ∧ 2 ≤ n ∧ 0 ≤ g ∧ g < n ∧ Q (.int ((g + 1).fmod n)) H
theorem ok_next {f : Addr} {fd : FuncData} (F : Fun K "next_pin" "next_pin" s_next_pin f fd) {f_k : Addr} {d_k : FuncData} (D_k : Df K mg "check_gap" s_check_gap ["pins", "gap"] f_k d_k) (G_k : FnOk P w K mg base CX0 3 f_k d_k ["pins", "gap"] spCkGap) : FnOk P w K mg base CX0 4 f fd ["pins", "gap"] spNext := by
  refine F.ok sc_next_pin (fun vs H Q E h => ?_) (fun cdv A outer s H vs Q E hr h => ?_)
  · obtain ⟨n, g, rfl, _⟩ := h
    rfl
  · obtain ⟨n, g, rfl, n2, g0, g1, q⟩ := h
    refine ⟨_, (pss_cons (ps_expr (pe_call G_k (hr.mono (by decide)) (by rfl) D_k.g D_k.F.kp D_k.b .nil pass0 (pa_cons (pv 0) (pa_cons (pv 1) pa_nil))))
        (pss_cons (ps_if (pt_cmpR op_lt (pv 0) pe_int (nomark _)) (pss_one ps_never) pss_nil)
        (pss_one (ps_ret (pe_op op_modN (pe_op op_add (pv 1) pe_int) (pv 0)))))), ?_⟩
    have hh := lo_hi n 1
    refine ⟨_, rfl, _, rfl, n, g, rfl, g0, by omega, ?_⟩
    refine ⟨_, rfl, _, _, rfl, rfl, _, rfl, ite2 (fun e => absurd (of_decide_eq_true e) (show ¬ n < 2 by omega)) fun _ => ?_⟩
    exact ⟨_, rfl, _, _, rfl, rfl, _, rfl, _, _, rfl, rfl, by omega, q⟩
end
end Own

namespace Own
open PySem PySem.Spec PyProof.Rows L2
/-! ### heaps with a hole, comprehensions -/
/-- the heap without M -/
def hole (H : Hp) (M : Addr) : Hp := fun c => if c = M then none else H c
theorem hole_at {H : Hp} {M : Addr} : hole H M M = none := if_pos rfl
theorem hole_ne {H : Hp} {M c : Addr} (h : c ≠ M) : hole H M c = H c := if_neg h
theorem upd_hole {H : Hp} {M : Addr} {o : HO} : upd (hole H M) M o = upd H M o := by
  funext c
  by_cases h : c = M
  · rw [h, upd_same, upd_same]
  · rw [upd_ne h, upd_ne h, hole_ne h]
theorem same_hole {H H' : Hp} {M : Addr} (n : H M = none) (s : Same H H') : Same H (hole H' M) := fun b o e => by
  rw [hole_ne fun z => by rw [z, n] at e; cases e]
  exact s b o e
theorem unhole {H H' : Hp} {L : Addr} (s : Same H (hole H' L)) : Same H H' := fun b o e => by
  have h := s b o e
  by_cases n : b = L
  · rw [n, hole_at] at h; cases h
  · rw [hole_ne n] at h; exact h
theorem hole_mono {H H' : Hp} {L : Addr} (s : Same H H') : Same (hole H L) (hole H' L) := fun b o e => by
  by_cases n : b = L
  · rw [n, hole_at] at e; cases e
  · rw [hole_ne n] at e ⊢; exact s b o e
theorem hole_upd {H : Hp} {L : Addr} {o : HO} : hole (upd H L o) L = hole H L := by
  funext c
  by_cases h : c = L
  · rw [h, hole_at, hole_at]
  · rw [hole_ne h, hole_ne h, upd_ne h]
theorem upd_self {H : Hp} {M : Addr} {o : HO} (h : H M = some o) : upd H M o = H := by
  funext c
  by_cases e : c = M
  · rw [e, upd_same, h]
  · rw [upd_ne e]
/-- within a comprehension: the list l is made at D so far -/
def LcI (H0 : Hp) (D : Addr) (l : List V) (H' : Hp) : Prop := ∃ Hc, Same H0 Hc ∧ Hc D = none ∧ H' = upd Hc D (.lst l)
theorem LcI.start {H0 : Hp} {D : Addr} (n : H0 D = none) : LcI H0 D [] (upd H0 D (.lst [])) := ⟨H0, Same.refl _, n, rfl⟩
theorem LcI.same {H0 : Hp} {D : Addr} {l : List V} {H' : Hp} (h : LcI H0 D l H') : Same H0 H' := by
  obtain ⟨Hc, s, n, rfl⟩ := h
  exact s.trans (same_upd n)
theorem LcI.at_ {H0 : Hp} {D : Addr} {l : List V} {H' : Hp} (h : LcI H0 D l H') : H' D = some (.lst l) := by
  obtain ⟨Hc, s, n, rfl⟩ := h
  exact upd_same
theorem LcI.keep {H0 : Hp} {D : Addr} {l : List V} {H' H4 : Hp} (n0 : H0 D = none) (h : LcI H0 D l H') (s : Same H' H4) : LcI H0 D l H4 := by
  have e := s _ _ h.at_
  exact ⟨hole H4 D, same_hole n0 (h.same.trans s), hole_at, by rw [upd_hole, upd_self e]⟩
theorem LcI.put {H0 : Hp} {D : Addr} {l m : List V} {H' H4 : Hp} (n0 : H0 D = none) (h : LcI H0 D l H') (s : Same H' H4) : LcI H0 D m (upd H4 D (.lst m)) :=
  ⟨hole H4 D, same_hole n0 (h.same.trans s), hole_at, by rw [upd_hole]⟩
theorem LcI.nn {H0 : Hp} {D : Addr} {l : List V} {H' : Hp} {b : Addr} (h : LcI H0 D l H') (n : H' b = none) : b ≠ D := fun z => by
  rw [z, h.at_] at n
  cases n
/-- entries under new names, without those whose pins have become one -/
def rnE (g : Int → Int) (cs : List Tr) : List Tr := (cs.filter fun t => decide (g t.1 ≠ g t.2.1)).map fun t => (g t.1, g t.2.1, t.2.2)
theorem rnE_mg (g : Int) (cs : List Tr) : rnE (nmG g) cs = mgE g cs := rfl
theorem rnE_snoc (g : Int → Int) (l : List Tr) (t : Tr) : rnE g (l ++ [t]) = if g t.1 = g t.2.1 then rnE g l else rnE g l ++ [(g t.1, g t.2.1, t.2.2)] := by
  unfold rnE
  rw [List.filter_append, List.map_append, List.filter_cons]
  by_cases c : g t.1 = g t.2.1
  · rw [if_neg (by rw [decide_eq_false (fun z => z c)]; decide), if_pos c]
    simp
  · rw [if_pos (decide_eq_true c), if_neg c]
    simp
theorem rnE_len (g : Int → Int) (l : List Tr) : (rnE g l).length ≤ l.length := by
  unfold rnE
  rw [List.length_map]
  exact List.length_filter_le _ _
/-- a row when the gaps l and x are one -/
def rwF (r tl tx : Int → Int) (l x o : Int) : Int := if o = l then lo (r l) (r x) else mn3 (r o) (r l + tx o) (r x + tl o)
/-- a table when the gaps l and x are one -/
def twF (T : Int → Int → Int) (l x i j : Int) : Int := if i = l then lo (rwF (T l) (T l) (T x) l x j) (rwF (T x) (T l) (T x) l x j) else rwF (T i) (T l) (T x) l x j
theorem gl_nat {n : Int} {g : Int → Int} {i : Nat} {x : V} (h : (gl n g)[i]? = some x) : x = .int (g (i : Int)) ∧ (i : Int) < n := by
  unfold gl at h
  rw [List.getElem?_map] at h
  by_cases c : i < n.toNat
  · rw [List.getElem?_range c] at h
    exact ⟨(Option.some.inj h).symm, by omega⟩
  · rw [List.getElem?_eq_none (by rw [List.length_range]; omega)] at h
    cases h
/-- values by their places -/
def gv (n : Int) (v : Int → V) : List V := (List.range n.toNat).map fun j : Nat => v (j : Int)
theorem gv_gl (n : Int) (g : Int → Int) : gv n (fun j => .int (g j)) = gl n g := rfl
theorem gv_len (n : Int) (v : Int → V) : (gv n v).length = n.toNat := by
  unfold gv
  rw [List.length_map, List.length_range]
theorem gv_at {n : Int} {v : Int → V} {i : Nat} (h : (i : Int) < n) : (gv n v)[i]? = some (v (i : Int)) := by
  unfold gv
  rw [List.getElem?_map, List.getElem?_range (by omega)]
  rfl
theorem gv_snoc {n : Int} (n0 : 0 ≤ n) (v : Int → V) : gv (n + 1) v = gv n v ++ [v n] := by
  unfold gv
  rw [show (n + 1).toNat = n.toNat + 1 by omega, List.range_succ, List.map_append]
  have : ((n.toNat : Nat) : Int) = n := by omega
  rw [List.map_cons, List.map_nil, this]
theorem gv_congr {n : Int} {v u : Int → V} (h : ∀ x, 0 ≤ x → x < n → v x = u x) : gv n v = gv n u := by
  unfold gv
  refine List.map_congr_left fun j hj => ?_
  have := List.mem_range.mp hj
  exact h _ (by omega) (by omega)
/-- the first k values but the one at x -/
def skL (x : Int) (v : Int → V) (k : Nat) : List V := gv (if (k : Int) ≤ x then (k : Int) else (k : Int) - 1) fun j => v (upG x j)
theorem skL_zero {x : Int} (x0 : 0 ≤ x) (v : Int → V) : skL x v 0 = [] := by
  unfold skL
  rw [if_pos (by exact x0)]
  rfl
theorem skL_at {x : Int} {v : Int → V} {k : Nat} (e : (k : Int) = x) : skL x v (k + 1) = skL x v k := by
  unfold skL
  rw [if_neg (by omega), if_pos (by omega)]
  congr 1
  omega
theorem skL_ne {x : Int} (x0 : 0 ≤ x) {v : Int → V} {k : Nat} (e : (k : Int) ≠ x) : skL x v (k + 1) = skL x v k ++ [v (k : Int)] := by
  unfold skL
  by_cases c : (k : Int) < x
  · rw [if_pos (by omega), if_pos (by omega), show ((k + 1 : Nat) : Int) = (k : Int) + 1 by omega, gv_snoc (by omega), show upG x (k : Int) = (k : Int) from if_pos c]
  · rw [if_neg (by omega), if_neg (by omega), show ((k + 1 : Nat) : Int) - 1 = ((k : Int) - 1) + 1 by omega, gv_snoc (by omega)]
    have : upG x ((k : Int) - 1) = (k : Int) := by
      unfold upG
      rw [if_neg (by omega)]
      omega
    rw [this]
theorem skL_end {n x : Int} (x0 : 0 ≤ x) (x1 : x < n) (v : Int → V) : skL x v n.toNat = gv (n - 1) fun j => v (upG x j) := by
  unfold skL
  rw [if_neg (by omega)]
  congr 1
  omega
theorem skL_len {x : Int} {v : Int → V} {k : Nat} (x0 : 0 ≤ x) : (skL x v k).length ≤ k := by
  unfold skL
  rw [gv_len]
  split <;> omega
theorem TabAt.row {H : Hp} {p : Addr} {n : Int} {F : Int → Int → Int} (h : TabAt H p n F) : ∃ vs, H p = some (.tup vs) ∧ vs.length = n.toNat ∧ ∀ x, 0 ≤ x → x < n → ∃ r, atI vs x = some (.ref r) ∧ vs[x.toNat]? = some (.ref r) ∧ H r = some (.tup (gl n (F x))) := by
  obtain ⟨vs, e, hl, hr⟩ := h
  refine ⟨vs, e, hl, fun x x0 x1 => ?_⟩
  obtain ⟨r, e1, e2⟩ := hr x.toNat (by omega)
  have ex : ((x.toNat : Nat) : Int) = x := by omega
  rw [ex] at e2
  exact ⟨r, at_of (j := x.toNat) ex.symm e1, e1, e2⟩
/-- rows that stand in lists -/
def RowsA (H : Hp) (D : Addr) (rs : List Addr) (m : Int) (f : Nat → Int → Int) : Prop := ∀ (i : Nat) (r : Addr), rs[i]? = some r → r ≠ D ∧ H r = some (.lst (gl m (f i)))
section
variable {P : Program} {w : World} {K : PySem.W.Frag} {mg : Str → Option Value} {base : Heap} {C : Addr}
def spRenF (K : PySem.W.Frag) : Sp := fun vs H Q _ => ∃ (c b : Addr) (cs : List Tr) (m : Int) (g : Int → Int), vs = [.ref c, .ref b] ∧ Trip H c cs ∧ H b = some (.lst (gl m g)) ∧ (∀ t ∈ cs, 0 ≤ t.1 ∧ t.1 < m ∧ 0 ≤ t.2.1 ∧ t.2.1 < m) ∧ cs.length ≤ 1000 ∧
  ∀ H' p, Same H H' → TripL H' p (rnE g cs) → Q (.ref p) H'
theorem ok_renF {f : Addr} {fd : FuncData} (F : Fun K "renamed" "renamed" s_renamed f fd)  : FnOk P w K mg base CX0 1 f fd ["cords", "names"] (spRenF K) := by
  refine F.ok sc_renamed (fun vs H Q E h => ?_) (fun cdv A outer s H vs Q E hr h => ?_)
  · obtain ⟨c, b, cs, m, g, rfl, _⟩ := h
    rfl
  · obtain ⟨c, b, cs, m, g, rfl, hc, hb, hv, hl, q⟩ := h
    refine ⟨_, (pss_one (ps_ret (pe_lc (own := [("a", 2), ("b", 3), ("many", 4)]) (g := gTup K 3 (gCons (gName 2) (gCons (gName 3) (gCons (gName 4) gNil)))) rfl sc_renamed.nd (pi_tup (pv 0)) (blkOk_by (own := [("a", 2), ("b", 3), ("many", 4)]) (N := ["cords", "names", "a", "b", "many"]) (sc := defScope s_renamed) (by decide +kernel)) (fun _ _ _ _ _ => (pg_tup (by rfl) (pgs_cons (pg_name (i := 2) sc_renamed.nd rfl (.inl rfl)) (pgs_cons (pg_name (i := 3) sc_renamed.nd rfl (.inl rfl)) (pgs_cons (pg_name (i := 4) sc_renamed.nd rfl (.inl rfl)) pgs_nil))))) (fun _ _ _ _ _ => pts_one (pt_cmpR op_ne (pe_ix (r := rIxL K) ix_list (pv 1) (pv 2) (fun _ _ => rfl)) (pe_ix (r := rIxL K) ix_list (pv 1) (pv 3) (fun _ _ => rfl)) (nomark _))) (fun _ _ _ _ _ => (pe_tup (pa_cons (pe_ix (r := rIxL K) ix_list (pv 1) (pv 2) (fun _ _ => rfl)) (pa_cons (pe_ix (r := rIxL K) ix_list (pv 1) (pv 3) (fun _ _ => rfl)) (pa_cons (pv 4) pa_nil)))))))), ?_⟩
    obtain ⟨vs, ec, tc⟩ := id hc
    refine ⟨_, rfl, c, rfl, ⟨vs, .inl (.inl ec)⟩, fun D hD => ?_⟩
    refine lc_tup (K := K) (a := c) (xs := vs) (fun i H2 => ∃ ws, LcI H D ws H2 ∧ TrV H2 ws (rnE g (cs.take i))) ⟨[], LcI.start hD, TrV.nil⟩ (fun i H2 _ p => by obtain ⟨ws, L, _⟩ := p; exact .inl (.inl (L.same _ _ ec))) (fun i x H2 hxi p => ?_) (fun H2 p => ?_)
    · obtain ⟨ws, L, tV⟩ := p
      obtain ⟨u, t, rfl, hti, hu⟩ := (tc.same L.same).at_ hxi
      obtain ⟨v0, v1, v2, v3⟩ := hv t (List.mem_of_getElem? hti)
      have hb2 : SqL K H2 b (gl m g) := .inl (.inl (L.same _ _ hb))
      have tk : cs.take (i + 1) = cs.take i ++ [t] := by rw [List.take_add_one, hti]; rfl
      refine ⟨u, _, rfl, .inl (.inl hu), rfl, _, _, rfl, _, _, rfl, _, _, rfl, rfl, rfl, ?_⟩
      refine ⟨_, rfl, _, rfl, b, _, _, _, rfl, rfl, hb2, gl_at g v0 v1, _, rfl, _, rfl, b, _, _, _, rfl, rfl, hb2, gl_at g v2 v3, rfl, _, rfl, ite2 (fun e => ?_) (fun e => ?_)⟩
      · have ne : g t.1 ≠ g t.2.1 := fun z => by
          rw [z] at e
          simp at e
        refine ⟨_, rfl, _, rfl, b, _, _, _, rfl, rfl, hb2, gl_at g v0 v1, _, rfl, _, rfl, b, _, _, _, rfl, rfl, hb2, gl_at g v2 v3, _, rfl, by show 3 ≤ sizeLine; decide, fun p2 np2 => ?_⟩
        have s3 := same_upd (o := .tup [.int (g t.1), .int (g t.2.1), .int t.2.2]) np2
        have nD := L.nn np2
        refine ⟨ws, s3 _ _ L.at_, ?_, ws ++ [.ref p2], L.put hD s3, ?_⟩
        · rw [tV.1]
          have h1 := rnE_len g (cs.take i)
          have h2 : (cs.take i).length ≤ cs.length := List.length_take_le' ..
          exact small1000 (by omega)
        · rw [tk, rnE_snoc, if_neg ne]
          refine (tV.sameT (sameT_put L.at_ s3)).snoc ?_
          rw [upd_ne nD, upd_same]
      · have eq : g t.1 = g t.2.1 := by
          refine Decidable.byContradiction fun z => e ?_
          rw [decide_eq_false (show ¬ (V.int (g t.1) = V.int (g t.2.1)) from fun y => z (V.int.inj y))]
          rfl
        rw [tk, rnE_snoc, if_pos eq]
        exact ⟨ws, L, tV⟩
    · obtain ⟨ws, L, tV⟩ := p
      rw [tc.1, List.take_length] at tV
      exact q H2 D L.same ⟨ws, L.at_, tV⟩

def spRow (K : PySem.W.Frag) : Sp := fun vs H Q _ => ∃ (a p : Addr) (n l x : Int) (r : Int → Int) (T : Int → Int → Int), vs = [.ref a, .ref p, .int l, .int x] ∧ H a = some (.tup (gl n r)) ∧ TabAt H p n T ∧ 0 ≤ l ∧ l < n ∧ 0 ≤ x ∧ x < n ∧ l ≠ x ∧ n ≤ 1000 ∧
  ∀ H' d, Same H H' → H d = none → H' d = some (.lst (gl (n - 1) fun j => rwF r (T l) (T x) l x (upG x j))) → Q (.ref d) H'
set_option maxHeartbeats 1000000 in
theorem ok_row {f : Addr} {fd : FuncData} (F : Fun K "row_without" "row_without" s_row_without f fd) (T : Bi mg) (TE : BiX mg) : FnOk P w K mg base CX0 1 f fd ["row", "table", "left", "right"] (spRow K) := by
  refine F.ok sc_row_without (fun vs H Q E h => ?_) (fun cdv A outer s H vs Q E hr h => ?_)
  · obtain ⟨a, p, n, l, x, r, F, rfl, _⟩ := h
    rfl
  · obtain ⟨a, p, n, l, x, r, F, rfl, ha, hp, l0, l1, x0, x1, lx, n1, q⟩ := h
    refine ⟨_, (pss_cons (ps_set (i := 4) sc_row_without.nd rfl (.inr rfl) (pe_ix (r := rIxT K) ix_tup (pv 0) (pv 2) (fun _ _ => rfl)))
        (pss_cons (ps_set (i := 5) sc_row_without.nd rfl (.inr rfl) (pe_ix (r := rIxT K) ix_tup (pv 0) (pv 3) (fun _ _ => rfl)))
        (pss_cons (ps_setLc (i := 6) (own := [("number", 8), ("before", 9), ("behind", 10)]) (g := gTup K 3 (gCons (gName 8) (gCons (gName 9) (gCons (gName 10) gNil)))) (tt := tYes) rfl sc_row_without.nd rfl rfl (sw_true rfl rfl rfl (by decide +kernel)) (pi_zip3 (K := K) rfl (by rfl) TE.b_zip (pa_cons (pv 0) (pa_cons (pe_ix (r := rIxT K) ix_tup (pv 1) (pv 2) (fun _ _ => rfl)) (pa_cons (pe_ix (r := rIxT K) ix_tup (pv 1) (pv 3) (fun _ _ => rfl)) pa_nil)))) (blkOk_by (own := [("number", 8), ("before", 9), ("behind", 10)]) (N := ["row", "table", "left", "right", "to_left", "to_right", "least", "joined", "number", "before", "behind", "gap"]) (sc := defScope s_row_without) (by decide +kernel)) (fun _ _ _ _ _ => (pg_tup (by rfl) (pgs_cons (pg_name (i := 8) sc_row_without.nd rfl (.inl rfl)) (pgs_cons (pg_name (i := 9) sc_row_without.nd rfl (.inl rfl)) (pgs_cons (pg_name (i := 10) sc_row_without.nd rfl (.inl rfl)) pgs_nil))))) (fun _ _ _ _ _ => pts_nil) (fun _ _ _ _ _ => (pe_callB (cr_min3 rfl) (by rfl) T.b_min (by decide +kernel) (pa_cons (pv 8) (pa_cons (pe_op op_add (pv 4) (pv 10)) (pa_cons (pe_op op_add (pv 5) (pv 9)) pa_nil))))))
        (pss_cons (ps_set (i := 7) sc_row_without.nd rfl (.inr rfl) (pe_callB (call_min2 rfl) (by rfl) T.b_min (by decide +kernel) (pa_cons (pv 4) (pa_cons (pv 5) pa_nil))))
        (pss_one (ps_ret (pe_lc (own := [("gap", 11), ("number", 8)]) (g := gTup K 2 (gCons (gName 11) (gCons (gName 8) gNil))) rfl sc_row_without.nd (pi_enum (by rfl) TE.b_enumerate (pa_cons (pv 6) pa_nil)) (blkOk_by (own := [("gap", 11), ("number", 8)]) (N := ["row", "table", "left", "right", "to_left", "to_right", "least", "joined", "number", "before", "behind", "gap"]) (sc := defScope s_row_without) (by decide +kernel)) (fun _ _ _ _ _ => (pg_tup (by rfl) (pgs_cons (pg_name (i := 11) sc_row_without.nd rfl (.inl rfl)) (pgs_cons (pg_name (i := 8) sc_row_without.nd rfl (.inl rfl)) pgs_nil)))) (fun _ _ _ _ _ => pts_one (pt_cmpR op_ne (pv 11) (pv 3) (nomark _))) (fun _ _ _ _ _ => (pe_ifExp (pt_cmpR op_eq (pv 11) (pv 2) (nomark _)) (pv 7) (pv 8)))))))))), ?_⟩
    obtain ⟨vs, ep, lv, hrow⟩ := hp.row
    obtain ⟨rl, al, _, el⟩ := hrow l l0 l1
    obtain ⟨rx, ax, _, ex⟩ := hrow x x0 x1
    have sz : ∀ {k : Nat}, k ≤ n.toNat → k < sizeLine := fun h => small1000 (by omega)
    refine ⟨_, rfl, _, rfl, a, _, _, _, rfl, rfl, .inl (.inl ha), gl_atI r l0 l1, ?_⟩
    refine ⟨_, rfl, _, rfl, a, _, _, _, rfl, rfl, .inl (.inl ha), gl_atI r x0 x1, ?_⟩
    refine ⟨_, rfl, _, rfl, _, rfl, p, _, _, _, rfl, rfl, .inl (.inl ep), al, _, rfl, _, rfl, p, _, _, _, rfl, rfl, .inl (.inl ep), ax, a, rl, rx, gl n r, gl n (F l), gl n (F x), rfl, .inl (.inl ha), .inl (.inl el), .inl (.inl ex), fun D hD => ?_⟩
    refine lc_it (walk_zip3 (by rw [gl_len, gl_len]) (by rw [gl_len, gl_len])) (fun i H' => LcI H D (gv (i : Int) fun o => .int (mn3 (r o) (r l + F x o) (r x + F l o))) H') (LcI.start hD) (fun i H' _ L => ⟨.inl (.inl (L.same _ _ ha)), .inl (.inl (L.same _ _ el)), .inl (.inl (L.same _ _ ex))⟩) (fun i v H1 H2 hi L y => ?_) (fun H1 L => ?_)
    · obtain ⟨T', x1', y1, z1, rfl, nT, rfl, g1, g2, g3⟩ := y
      obtain ⟨rfl, i1⟩ := gl_nat g1
      obtain ⟨rfl, _⟩ := gl_nat g2
      obtain ⟨rfl, _⟩ := gl_nat g3
      have s2 := same_upd (o := .tup [.int (r (i : Int)), .int (F l (i : Int)), .int (F x (i : Int))]) nT
      refine ⟨T', _, rfl, .inl (.inl upd_same), rfl, _, _, rfl, _, _, rfl, _, _, rfl, rfl, rfl, ?_⟩
      refine ⟨_, rfl, _, rfl, _, rfl, _, _, rfl, rfl, _, rfl, _, rfl, _, _, rfl, rfl, _, _, _, rfl, fun m h1 h2 h3 h4 => ⟨_, s2 _ _ L.at_, ?_, ?_⟩⟩
      · rw [gv_len]
        exact sz (by rw [gl_len] at hi; omega)
      · have em : m = mn3 (r (i : Int)) (r l + F x (i : Int)) (r x + F l (i : Int)) := by
          have := mn3_le (r (i : Int)) (r l + F x (i : Int)) (r x + F l (i : Int))
          omega
        show LcI H D (gv ((i + 1 : Nat) : Int) _) _
        rw [show ((i + 1 : Nat) : Int) = (i : Int) + 1 by omega, gv_snoc (by omega), em]
        exact L.put hD s2
    · rw [gl_len] at L
      have e1 : ((n.toNat : Nat) : Int) = n := by omega
      rw [e1] at L
      have sH := L.same
      have eD := L.at_
      generalize hls : (fun o : Int => mn3 (r o) (r l + F x o) (r x + F l o)) = ls at *
      have eD : H1 D = some (.lst (gl n ls)) := by
        rw [eD, ← hls]
        rfl
      clear L
      refine ⟨_, rfl, _, rfl, _, _, rfl, ?_⟩
      refine ⟨_, rfl, D, _, rfl, .inl (.inl eD), fun O hO => ?_⟩
      refine lc_it (walk_enum (K := K) (a := D) (xs := gl n ls)) (fun i H' => LcI H1 O (skL x (fun o => .int (if o = l then lo (r l) (r x) else ls o)) i) H') (by rw [skL_zero x0]; exact LcI.start hO) (fun i H' _ L => .inl (.inl (L.same _ _ eD))) (fun i v H2 H3 hi L y => ?_) (fun H2 L => ?_)
      · obtain ⟨T', x1', y1, rfl, nT, rfl, g1, g2⟩ := y
        obtain rfl : V.int (i : Nat) = x1' := Option.some.inj g1
        obtain ⟨rfl, i1⟩ := gl_nat g2
        have s2 := same_upd (o := .tup [.int (i : Int), .int (ls (i : Int))]) nT
        refine ⟨T', _, rfl, .inl (.inl upd_same), rfl, _, _, rfl, _, _, rfl, rfl, rfl, ?_⟩
        refine ⟨_, rfl, _, rfl, rfl, _, rfl, ite2 (fun e => ?_) (fun e => ?_)⟩
        · have ne : (i : Int) ≠ x := fun z => by
            rw [show V.int (i : Nat) = V.int x from congrArg V.int z] at e
            simp at e
          have fin : ∀ m : Int, m = (if (i : Int) = l then lo (r l) (r x) else ls (i : Int)) → ∃ acc, (upd H2 T' (.tup [.int (i : Int), .int (ls (i : Int))])) O = some (.lst acc) ∧ acc.length < sizeLine ∧ LcI H1 O (skL x (fun o => .int (if o = l then lo (r l) (r x) else ls o)) (i + 1)) (upd (upd H2 T' (.tup [.int (i : Int), .int (ls (i : Int))])) O (.lst (acc ++ [.int m]))) := fun m hm => by
            refine ⟨_, s2 _ _ L.at_, Nat.lt_of_le_of_lt (skL_len x0) (sz (by rw [gl_len] at hi; omega)), ?_⟩
            rw [skL_ne x0 ne, hm]
            exact L.put hO s2
          refine ⟨_, rfl, _, rfl, rfl, _, rfl, ite2 (fun e2 => ?_) (fun e2 => ?_)⟩
          · have q2 : (i : Int) = l := V.int.inj (of_decide_eq_true e2)
            exact ⟨_, rfl, fin _ (by rw [if_pos q2]; rfl)⟩
          · have q2 : (i : Int) ≠ l := fun z => e2 (decide_eq_true (congrArg V.int z))
            exact ⟨_, rfl, fin _ (by rw [if_neg q2])⟩
        · have eq : (i : Int) = x := by
            refine Decidable.byContradiction fun z => e ?_
            rw [decide_eq_false (show ¬ (V.int (i : Nat) = V.int x) from fun y => z (V.int.inj y))]
            rfl
          rw [skL_at eq]
          exact L.keep hO s2
      · rw [gl_len, skL_end x0 x1] at L
        refine q H2 O (sH.trans L.same) ?_ ?_
        · cases e : H O with
          | none => rfl
          | some o => rw [sH _ _ e] at hO; cases hO
        · rw [L.at_, ← hls]
          rfl

end
end Own

namespace Own
open PySem PySem.Spec PyProof.Rows L2
section
variable {P : Program} {w : World} {K : PySem.W.Frag} {mg : Str → Option Value} {base : Heap} {C : Addr}
def spTwo : Sp := fun vs H Q _ => ∃ (p : Addr) (n x : Int) (T : Int → Int → Int), vs = [.int n, .ref p, .int x] ∧ TabAt H p n T ∧ 2 ≤ n ∧ n ≤ 1000 ∧ 0 ≤ x ∧ x < n ∧
  ∀ H' d, Same H H' → GridB H' d (n - 1) (fun i j => twF T ((x - 1).fmod n) x (upG x i) (upG x j)) → Q (.ref d) H'
set_option maxHeartbeats 1000000 in
theorem ok_two {f : Addr} {fd : FuncData} (F : Fun K "table_without" "table_without" s_table_without f fd) (T : Bi mg) (TE : BiX mg) {f_r : Addr} {d_r : FuncData} (D_r : Df K mg "row_without" s_row_without ["row", "table", "left", "right"] f_r d_r) (G_r : FnOk P w K mg base CX0 1 f_r d_r ["row", "table", "left", "right"] (spRow K)) : FnOk P w K mg base CX0 2 f fd ["pins", "table", "pin"] spTwo := by
  refine F.ok sc_table_without (fun vs H Q E h => ?_) (fun cdv A outer s H vs Q E hr h => ?_)
  · obtain ⟨p, n, x, F, rfl, _⟩ := h
    rfl
  · obtain ⟨p, n, x, F, rfl, hp, n2, n1, x0, x1, q⟩ := h
    refine ⟨_, (pss_cons (ps_set (i := 3) sc_table_without.nd rfl (.inr rfl) (pe_op op_modN (pe_op op_sub (pv 2) pe_int) (pv 0)))
        (pss_cons (ps_setLc (i := 4) (own := [("row", 6)]) (g := gName 6) (tt := tYes) rfl sc_table_without.nd rfl rfl (sw_true rfl rfl rfl (by decide +kernel)) (pi_tup (pv 1)) (blkOk_by (own := [("row", 6)]) (N := ["pins", "table", "pin", "left", "rows", "joined", "row", "pair", "gap"]) (sc := defScope s_table_without) (by decide +kernel)) (fun _ _ _ _ _ => (pg_name (i := 6) sc_table_without.nd rfl (.inl rfl))) (fun _ _ _ _ _ => pts_nil) (fun _ _ _ _ _ => (pe_call G_r (hr.mono (by decide)) (by rfl) D_r.g D_r.F.kp D_r.b .nil pass0 (pa_cons (pv 6) (pa_cons (pv 1) (pa_cons (pv 3) (pa_cons (pv 2) pa_nil)))))))
        (pss_cons (ps_set (i := 5) sc_table_without.nd rfl (.inr rfl) (pe_lc (own := [("pair", 7)]) (g := gName 7) (tt := tYes) rfl sc_table_without.nd (pi_zipN (K := K) rfl (by rfl) TE.b_zip (pa_cons (pe_ix (r := rIxL K) ix_list (pv 4) (pv 3) (fun _ _ => rfl)) (pa_cons (pe_ix (r := rIxL K) ix_list (pv 4) (pv 2) (fun _ _ => rfl)) pa_nil))) (blkOk_by (own := [("pair", 7)]) (N := ["pins", "table", "pin", "left", "rows", "joined", "row", "pair", "gap"]) (sc := defScope s_table_without) (by decide +kernel)) (fun _ _ _ _ _ => (pg_name (i := 7) sc_table_without.nd rfl (.inl rfl))) (fun _ _ _ _ _ => pts_nil) (fun _ _ _ _ _ => (pe_callB (cr_minT (K := K) rfl rfl) (by rfl) T.b_min (by decide +kernel) (pa_cons (pv 7) pa_nil)))))
        (pss_one (ps_ret (pe_lc (own := [("gap", 8), ("row", 6)]) (g := gTup K 2 (gCons (gName 8) (gCons (gName 6) gNil))) rfl sc_table_without.nd (pi_enum (by rfl) TE.b_enumerate (pa_cons (pv 4) pa_nil)) (blkOk_by (own := [("gap", 8), ("row", 6)]) (N := ["pins", "table", "pin", "left", "rows", "joined", "row", "pair", "gap"]) (sc := defScope s_table_without) (by decide +kernel)) (fun _ _ _ _ _ => (pg_tup (by rfl) (pgs_cons (pg_name (i := 8) sc_table_without.nd rfl (.inl rfl)) (pgs_cons (pg_name (i := 6) sc_table_without.nd rfl (.inl rfl)) pgs_nil)))) (fun _ _ _ _ _ => pts_one (pt_cmpR op_ne (pv 8) (pv 2) (nomark _))) (fun _ _ _ _ _ => (pe_ifExp (pt_cmpR op_eq (pv 8) (pv 3) (nomark _)) (pv 5) (pv 6))))))))), ?_⟩
    have h0 := fmod_in (x - 1) (show 0 < n by omega)
    have lx : (x - 1).fmod n ≠ x := fun z => by
      have h1 : x - 1 < n := by omega
      by_cases c : x = 0
      · rw [c] at z
        rw [show (0 : Int) - 1 = -1 by omega, fmod_neg (by omega) (by omega)] at z
        omega
      · rw [fmod_lo (by omega) h1] at z
        omega
    obtain ⟨vs, ep, lv, hrow⟩ := hp.row
    have sz : ∀ {k : Nat}, k ≤ n.toNat → k < sizeLine := fun h => small1000 (by omega)
    refine ⟨_, rfl, _, _, rfl, rfl, _, rfl, _, _, rfl, rfl, by omega, ?_⟩
    dsimp only [gName]
    generalize hl : (x - 1).fmod n = l at *
    refine ⟨_, rfl, p, rfl, ⟨vs, .inl (.inl ep)⟩, fun D hD => ?_⟩
    refine lc_tup (K := K) (a := p) (xs := vs) (fun i H' => ∃ rs : List Addr, LcI H D (rs.map V.ref) H' ∧ rs.length = i ∧ RowsA H' D rs (n - 1) fun j o => rwF (F (j : Int)) (F l) (F x) l x (upG x o)) ⟨[], LcI.start hD, rfl, fun i r e => by simp at e⟩ (fun i H' _ pv => by obtain ⟨rs, L, _⟩ := pv; exact .inl (.inl (L.same _ _ ep))) (fun i v H1 hi pv => ?_) (fun H1 pv => ?_)
    · obtain ⟨rs, L, ln, hR⟩ := pv
      have iN : i < n.toNat := by rw [← lv]; exact (List.getElem?_eq_some_iff.mp hi).1
      obtain ⟨ri, _, ai, ei⟩ := hrow (i : Int) (by omega) (by omega)
      rw [show ((i : Int)).toNat = i by omega, hi] at ai
      obtain rfl := Option.some.inj ai
      refine ⟨rfl, ?_⟩
      refine ⟨_, rfl, _, rfl, _, rfl, _, rfl, ri, p, n, l, x, F (i : Int), F, rfl, L.same _ _ ei, hp.same L.same, h0.1, h0.2, x0, x1, lx, n1, fun H3 d s3 nd ed => ⟨_, s3 _ _ L.at_, ?_, rs ++ [d], ?_, ?_, ?_⟩⟩
      · rw [List.length_map, ln]
        exact sz (by omega)
      · rw [List.map_append]
        exact L.put hD s3
      · rw [List.length_append, ln]
        rfl
      · have ndD := L.nn nd
        intro j r e
        have hj : j < i ∨ j = i := by
          have := (List.getElem?_eq_some_iff.mp e).1
          rw [List.length_append, ln] at this
          have : j < i + 1 := this
          omega
        rcases hj with hj | hj
        · rw [List.getElem?_append_left (by rw [ln]; exact hj)] at e
          obtain ⟨n3, e3⟩ := hR j r e
          exact ⟨n3, by rw [upd_ne n3]; exact s3 _ _ e3⟩
        · subst hj
          rw [List.getElem?_append_right (by omega), ln, Nat.sub_self] at e
          obtain rfl : d = r := Option.some.inj e
          exact ⟨ndD, by rw [upd_ne ndD]; exact ed⟩
    · obtain ⟨rs, L, ln, hR⟩ := pv
      rw [lv] at ln
      have sH := L.same
      have eD := L.at_
      have hR : ∀ j : Int, 0 ≤ j → j < n → ∃ r, rs[j.toNat]? = some r ∧ atI (rs.map V.ref) j = some (.ref r) ∧ H1 r = some (.lst (gl (n - 1) fun o => rwF (F j) (F l) (F x) l x (upG x o))) := fun j j0 j1 => by
        have hj : j.toNat < rs.length := by omega
        have e := List.getElem?_eq_getElem hj
        have ej : ((j.toNat : Nat) : Int) = j := by omega
        have h1 := (hR j.toNat _ e).2
        dsimp only at h1
        rw [ej] at h1
        exact ⟨rs[j.toNat], e, at_of (j := j.toNat) ej.symm (by rw [List.getElem?_map, e]; rfl), h1⟩
      clear L
      obtain ⟨rl, gl1, al, el⟩ := hR l h0.1 h0.2
      obtain ⟨rx, gx1, ax, ex⟩ := hR x x0 x1
      refine ⟨_, rfl, _, rfl, D, _, _, _, rfl, rfl, .inl (.inl eD), al, _, rfl, _, rfl, D, _, _, _, rfl, rfl, .inl (.inl eD), ax, rl, rx, _, _, rfl, .inl (.inl el), .inl (.inl ex), fun J hJ => ?_⟩
      refine lc_it (walk_zipN (by rw [gl_len, gl_len])) (fun i H' => LcI H1 J (gv (i : Int) fun o => .int (lo (rwF (F l) (F l) (F x) l x (upG x o)) (rwF (F x) (F l) (F x) l x (upG x o)))) H') (LcI.start hJ) (fun i H' _ L => ⟨.inl (.inl (L.same _ _ el)), .inl (.inl (L.same _ _ ex))⟩) (fun i v H2 H3 hi L y => ?_) (fun H2 L => ?_)
      · obtain ⟨T', x1', y1, rfl, nT, rfl, g1, g2⟩ := y
        obtain ⟨rfl, i1⟩ := gl_nat g1
        obtain ⟨rfl, _⟩ := gl_nat g2
        have s2 : Same H2 _ := same_upd (o := .tup [.int (rwF (F l) (F l) (F x) l x (upG x (i : Int))), .int (rwF (F x) (F l) (F x) l x (upG x (i : Int)))]) nT
        refine ⟨rfl, ?_⟩
        refine ⟨_, rfl, T', [rwF (F l) (F l) (F x) l x (upG x (i : Int)), rwF (F x) (F l) (F x) l x (upG x (i : Int))], rfl, .inl (.inl upd_same), by show 0 < 2; decide, fun m hm hle => ⟨_, s2 _ _ L.at_, ?_, ?_⟩⟩
        · rw [gv_len]
          exact sz (by rw [gl_len] at hi; omega)
        · have em : m = lo (rwF (F l) (F l) (F x) l x (upG x (i : Int))) (rwF (F x) (F l) (F x) l x (upG x (i : Int))) := by
            have a1 := hle _ List.mem_cons_self
            have a2 := hle _ (List.mem_cons_of_mem _ List.mem_cons_self)
            have a3 := lo_hi (rwF (F l) (F l) (F x) l x (upG x (i : Int))) (rwF (F x) (F l) (F x) l x (upG x (i : Int)))
            simp only [List.mem_cons, List.not_mem_nil, or_false] at hm
            omega
          show LcI H1 J (gv ((i + 1 : Nat) : Int) _) _
          rw [show ((i + 1 : Nat) : Int) = (i : Int) + 1 by omega, gv_snoc (by omega), em]
          exact L.put hJ s2
      · rw [gl_len] at L
        have e1 : (((n - 1).toNat : Nat) : Int) = n - 1 := by omega
        rw [e1] at L
        have sJ := L.same
        have eJ := L.at_
        have eD2 := sJ _ _ eD
        clear L
        refine ⟨_, rfl, D, _, rfl, .inl (.inl eD2), fun O hO => ?_⟩
        let v : Int → V := fun j => if j = l then .ref J else (rs.map V.ref).getD j.toNat .non
        refine lc_it (walk_enum (K := K) (a := D) (xs := rs.map V.ref)) (fun i H' => LcI H2 O (skL x v i) H') (by rw [skL_zero x0]; exact LcI.start hO) (fun i H' _ L => .inl (.inl (L.same _ _ eD2))) (fun i u H3 H4 hi L y => ?_) (fun H3 L => ?_)
        · obtain ⟨T', x1', y1, rfl, nT, rfl, g1, g2⟩ := y
          obtain rfl : V.int (i : Nat) = x1' := Option.some.inj g1
          have s2 := same_upd (o := .tup [.int (i : Int), y1]) nT
          refine ⟨T', _, rfl, .inl (.inl upd_same), rfl, _, _, rfl, _, _, rfl, rfl, rfl, ?_⟩
          refine ⟨_, rfl, _, rfl, rfl, _, rfl, ite2 (fun e => ?_) (fun e => ?_)⟩
          · have ne : (i : Int) ≠ x := fun z => by
              rw [show V.int (i : Nat) = V.int x from congrArg V.int z] at e
              simp at e
            have fin : ∀ m : V, m = v (i : Int) → ∃ acc, (upd H3 T' (.tup [.int (i : Int), y1])) O = some (.lst acc) ∧ acc.length < sizeLine ∧ LcI H2 O (skL x v (i + 1)) (upd (upd H3 T' (.tup [.int (i : Int), y1])) O (.lst (acc ++ [m]))) := fun m hm => by
              refine ⟨_, s2 _ _ L.at_, Nat.lt_of_le_of_lt (skL_len x0) (sz (by rw [List.length_map] at hi; omega)), ?_⟩
              rw [skL_ne x0 ne, hm]
              exact L.put hO s2
            refine ⟨_, rfl, _, rfl, rfl, _, rfl, ite2 (fun e2 => ?_) (fun e2 => ?_)⟩
            · have q2 : (i : Int) = l := V.int.inj (of_decide_eq_true e2)
              exact ⟨_, rfl, fin _ (if_pos q2).symm⟩
            · have q2 : (i : Int) ≠ l := fun z => e2 (decide_eq_true (congrArg V.int z))
              refine ⟨_, rfl, fin _ ?_⟩
              show y1 = if (i : Int) = l then _ else _
              rw [if_neg q2, List.getD_eq_getElem?_getD, show ((i : Int)).toNat = i by omega]
              have g2 : (rs.map V.ref)[i]? = some y1 := g2
              rw [g2]
              rfl
          · have eq : (i : Int) = x := by
              refine Decidable.byContradiction fun z => e ?_
              rw [decide_eq_false (show ¬ (V.int (i : Nat) = V.int x) from fun y => z (V.int.inj y))]
              rfl
            rw [skL_at eq]
            exact L.keep hO s2
        · rw [List.length_map, ln, skL_end x0 x1] at L
          refine q H3 O ((sH.trans sJ).trans L.same) ⟨_, .inl L.at_, fun i hi => ?_⟩
          have hu : 0 ≤ upG x (i : Int) ∧ upG x (i : Int) < n ∧ upG x (i : Int) ≠ x := by
            unfold upG
            split <;> omega
          rw [gv_at hi]
          by_cases c : upG x (i : Int) = l
          · refine ⟨J, congrArg some (if_pos c), .inl ?_⟩
            rw [L.same _ _ eJ]
            rw [gv_gl (n - 1) fun o => lo (rwF (F l) (F l) (F x) l x (upG x o)) (rwF (F x) (F l) (F x) l x (upG x o))]
            congr 2
            refine gl_congr fun o _ _ => ?_
            unfold twF
            rw [if_pos c]
          · obtain ⟨r, e1, _, e2⟩ := hR _ hu.1 hu.2.1
            refine ⟨r, ?_, .inl ?_⟩
            · congr 1
              show (if upG x (i : Int) = l then _ else _) = _
              rw [if_neg c, List.getD_eq_getElem?_getD, List.getElem?_map, e1]
              rfl
            · rw [L.same _ _ (sJ _ _ e2)]
              congr 2
              refine gl_congr fun o _ _ => ?_
              unfold twF
              rw [if_neg c]
end
end Own

namespace Own
open PySem PySem.Spec PyProof.Rows L2
section
variable {P : Program} {w : World} {K : PySem.W.Frag} {mg : Str → Option Value} {base : Heap} {C : Addr}
theorem GridB.congr {H : Hp} {p : Addr} {sz : Int} {f h : Int → Int → Int} (g : GridB H p sz f) (e : ∀ x y, 0 ≤ x → x < sz → 0 ≤ y → y < sz → f x y = h x y) : GridB H p sz h := by
  obtain ⟨vs, hv, hr⟩ := g.ex
  refine ⟨vs, hv, fun i hi => ?_⟩
  obtain ⟨b, e1, e2⟩ := hr i hi
  refine ⟨b, e1, ?_⟩
  rw [← gl_congr fun y y0 y1 => e _ y (by omega) hi y0 y1]
  exact e2
theorem TabAt.congr {H : Hp} {p : Addr} {sz : Int} {f h : Int → Int → Int} (g : TabAt H p sz f) (e : ∀ x y, 0 ≤ x → x < sz → 0 ≤ y → y < sz → f x y = h x y) : TabAt H p sz h := by
  obtain ⟨vs, hv, hl, hr⟩ := g
  refine ⟨vs, hv, hl, fun j hj => ?_⟩
  obtain ⟨r, e1, e2⟩ := hr j hj
  refine ⟨r, e1, ?_⟩
  rw [← gl_congr fun y y0 y1 => e _ y (by omega) (by omega) y0 y1]
  exact e2
theorem cotE_congr {n : Int} {f h : Int → Int → Int} (e : ∀ x y, 0 ≤ x → x < n → 0 ≤ y → y < n → f x y = h x y) : cotE n f = cotE n h := by
  unfold cotE
  congr 1
  refine List.map_congr_left fun p hp => ?_
  by_cases n0 : n ≤ 0
  · rw [show n.toNat = 0 by omega] at hp
    cases hp
  have hm := prs_mem (by omega) hp
  have ha : 0 ≤ pv1 n p.1 ∧ pv1 n p.1 < n := fmod_in (p.1 - 1) (show 0 < n by omega)
  have hb : 0 ≤ pv1 n p.2 ∧ pv1 n p.2 < n := fmod_in (p.2 - 1) (show 0 < n by omega)
  unfold ent tw
  rw [e p.1 p.2 hm.1 (by omega) (by omega) hm.2.2, e _ _ ha.1 ha.2 hb.1 hb.2, e p.1 _ hm.1 (by omega) hb.1 hb.2, e _ p.2 ha.1 ha.2 (by omega) hm.2.2]
theorem prs_len2 (n : Int) : ∀ i : Nat, (i : Int) ≤ n → 2 * (prs n i).length + i * i + i = 2 * (i * n.toNat)
  | 0, _ => by
    unfold prs
    simp
  | i + 1, h => by
    have ih := prs_len2 n i (by omega)
    have e : (prA n i).length = (n - ((i : Int) + 1)).toNat := by
      unfold prA
      rw [List.length_map, List.length_range]
    have e2 : (i + 1) * (i + 1) = i * i + i + i + 1 := by
      rw [Nat.add_mul, Nat.mul_add]
      omega
    have e3 : (i + 1) * n.toNat = i * n.toNat + n.toNat := Nat.succ_mul _ _
    have e4 : 2 * ((prs n i).length + (prA n i).length) + (i + 1) * (i + 1) + (i + 1) = 2 * ((i + 1) * n.toNat) := by
      rw [e, e2, e3]
      generalize i * i = a at *
      generalize i * n.toNat = b at *
      omega
    rw [prs_succ, List.length_append]
    exact e4
theorem cotE_len {n : Int} (h : n ≤ 45) (f : Int → Int → Int) : (cotE n f).length ≤ 1000 := by
  unfold cotE
  refine Nat.le_trans (List.length_filter_le _ _) ?_
  rw [List.length_map]
  by_cases c : n ≤ 0
  · rw [show n.toNat = 0 by omega]
    exact Nat.zero_le _
  · have e := prs_len2 n n.toNat (by omega)
    have h2 : n.toNat * n.toNat ≤ n.toNat * 45 := Nat.mul_le_mul_left _ (by omega)
    generalize n.toNat * n.toNat = a at *
    omega
theorem nm_list {n g : Int} (g0 : 0 ≤ g) (g1 : g + 1 < n) : rgV 0 (g + 1) ++ [V.int g] ++ rgV (g + 1) (n - 1) = gl n (nmG g) := by
  have e : n.toNat = (g + 1).toNat + (1 + (n - 1 - (g + 1)).toNat) := by omega
  unfold rgV gl
  rw [e, List.append_assoc]
  apply List.ext_getElem
  · simp
    omega
  · intro j h1 h2
    simp only [List.length_map, List.length_range] at h2
    rw [List.getElem_map, List.getElem_range]
    by_cases c : j < (g + 1).toNat
    · rw [List.getElem_append_left (by simpa using c), List.getElem_map, List.getElem_range]
      unfold nmG
      rw [if_pos (by omega)]
      congr 1
      omega
    · rw [List.getElem_append_right (by simpa using c)]
      simp only [List.length_map, List.length_range]
      by_cases d : j = (g + 1).toNat
      · subst d
        unfold nmG
        rw [if_neg (by omega)]
        simp
        omega
      · obtain ⟨k, hk⟩ : ∃ k : Nat, j - (g + 1 - 0).toNat = k + 1 := ⟨j - (g + 1).toNat - 1, by omega⟩
        simp only [hk, List.cons_append, List.nil_append, List.getElem_cons_succ, List.getElem_map, List.getElem_range]
        unfold nmG
        rw [if_neg (by omega)]
        congr 1
        omega
/-- the program's table is the one of the mathematics -/
theorem tw_dp {n x : Int} {cs : List Tr} (g : Good n cs) (n2 : 2 ≤ n) (x0 : 0 ≤ x) (x1 : x < n) {i j : Int} : twF (tabE cs) ((x - 1).fmod n) x i j = sS (tabE cs) x i j := by
  have M := g.met
  have hl : ∀ i, tabE cs ((x - 1).fmod n) i = tabE cs (x - 1) i ∧ tabE cs i ((x - 1).fmod n) = tabE cs i (x - 1) := fun i => by
    by_cases c : x = 0
    · subst c
      rw [show (0 : Int) - 1 = -1 by omega, fmod_neg (by omega) (by omega), show -1 + n = n - 1 by omega, g.last]
      exact ⟨(tabE_comm cs _ i).trans ((g.last i).trans (tabE_comm cs i _)), rfl⟩
    · rw [fmod_lo (by omega) (by omega)]
      exact ⟨rfl, rfl⟩
  have two : ∀ i j, rwF (tabE cs i) (tabE cs ((x - 1).fmod n)) (tabE cs x) ((x - 1).fmod n) x j = sS (tabE cs) x i j := fun i j => by
    unfold rwF sS
    split
    · rename_i e
      have h1 := lo_hi (tabE cs i ((x - 1).fmod n)) (tabE cs i x)
      rw [e, (hl i).2] at *
      have h2 := mn3_le (tabE cs i (x - 1)) (tabE cs i (x - 1) + tabE cs x (x - 1)) (tabE cs i x + tabE cs (x - 1) (x - 1))
      rw [(hl x).2, (hl (x - 1)).2]
      have := M.nn x (x - 1)
      have := M.dg (x - 1)
      omega
    · rw [(hl i).2, (hl j).1]
  unfold twF
  split
  · rename_i e
    rw [two, two]
    have h0 : sS (tabE cs) x ((x - 1).fmod n) j = sS (tabE cs) x (x - 1) j := by
      unfold sS
      rw [(hl j).1, (hl (x - 1)).1, (hl x).1]
    rw [e, h0, sS_lx M]
    have := lo_hi (sS (tabE cs) x x j) (sS (tabE cs) x x j)
    omega
  · exact two i j
def spMerged (C : Addr) : Sp := fun vs H Q _ => ∃ (p : Addr) (g n : Int) (cs : List Tr), vs = [.ref p, .int g] ∧ LotAt C H p n cs ∧ Good n cs ∧ 0 ≤ g ∧ g + 1 < n ∧ n ≤ 1000 ∧ cs.length ≤ 1000 ∧
  ∀ H' x r, Same H H' → LotAt C H' x (n - 1) r → IsNorm (mgE g cs) r → Q (.ref x) H'
theorem ok_merged {f : Addr} {fd : FuncData} (F : Fun K "merged" "Lot.merged" s_Lot_merged f fd) (T : Bi mg) (L : LotC K mg C) {f_i : Addr} {d_i : FuncData} (M : Mk K C f_i) (b_i : Binds K d_i ["self", "pins", "cords"] []) (G_i : GI P w K mg base C f_i d_i) {f_x : Addr} {d_x : FuncData} (D_x : Df K mg "next_pin" s_next_pin ["pins", "gap"] f_x d_x) (G_x : FnOk P w K mg base CX0 4 f_x d_x ["pins", "gap"] spNext) {f_r : Addr} {d_r : FuncData} (D_r : Df K mg "renamed" s_renamed ["cords", "names"] f_r d_r) (G_r : FnOk P w K mg base CX0 1 f_r d_r ["cords", "names"] (spRenF K)) : FnOk P w K mg base CX0 7 f fd ["self", "gap"] (spMerged C) := by
  refine F.ok sc_Lot_merged (fun vs H Q E h => ?_) (fun cdv A outer s H vs Q E hr h => ?_)
  · obtain ⟨p, g, n, cs, rfl, _⟩ := h
    rfl
  · obtain ⟨p, g, n, cs, rfl, hL, hg, g0, g1, n1, hl, q⟩ := h
    refine ⟨_, (pss_cons (ps_set (i := 2) sc_Lot_merged.nd rfl (.inl rfl) (pe_call G_x (hr.mono (by decide)) (by rfl) D_x.g D_x.F.kp D_x.b .nil pass0 (pa_cons (pe_fld (pv 0) rfl) (pa_cons (pv 1) pa_nil))))
        (pss_cons (ps_set (i := 3) sc_Lot_merged.nd rfl (.inl rfl) (pe_callB (call_min2 rfl) (by rfl) T.b_min (by decide +kernel) (pa_cons (pv 1) (pa_cons (pv 2) pa_nil))))
        (pss_cons (ps_set (i := 4) sc_Lot_merged.nd rfl (.inl rfl) (pe_callB (call_max2 rfl) (by rfl) T.b_max (by decide +kernel) (pa_cons (pv 1) (pa_cons (pv 2) pa_nil))))
        (pss_cons (ps_set (i := 5) sc_Lot_merged.nd rfl (.inl rfl) (pe_op op_cat (pe_op op_cat (pe_listRg rfl (by rfl) T.b_list (prg_1 (by rfl) T.b_range (pv 4))) (pe_lst (pa_cons (pv 3) pa_nil))) (pe_listRg rfl (by rfl) T.b_list (prg_2 (by rfl) T.b_range (pv 4) (pe_op op_sub (pe_fld (pv 0) rfl) pe_int)))))
        (pss_one (ps_ret (pe_make M G_i (hr.mono (by decide)) (by rfl) L.g b_i .nil pass0 (pa_cons (pe_op op_sub (pe_fld (pv 0) rfl) pe_int) (pa_cons (pe_call G_r (hr.mono (by decide)) (by rfl) D_r.g D_r.F.kp D_r.b .nil pass0 (pa_cons (pe_fld (pv 0) rfl) (pa_cons (pv 5) pa_nil))) pa_nil))))))))), ?_⟩
    obtain ⟨dx, c, e, t⟩ := hL
    have hf : (g + 1).fmod n = g + 1 := fmod_lo (by omega) (by omega)
    refine ⟨_, rfl, p, C, dx, _, _, rfl, e, L.cl, L.nP, flds_pins _ _, _, rfl, n, g, rfl, by omega, g0, by omega, ?_⟩
    rw [hf]
    refine ⟨_, rfl, _, rfl, _, _, rfl, ?_⟩
    rw [if_neg (show ¬ g + 1 < g by omega)]
    refine ⟨_, rfl, _, rfl, _, _, rfl, ?_⟩
    rw [if_pos (show g + 1 > g by omega)]
    refine ⟨_, rfl, _, rfl, RgOk.of_le (by omega) (by omega) (by omega) (by omega), fun u1 m1 => ⟨_, rfl, by show 1 ≤ sizeLine; decide, fun u2 m2 => ⟨_, _, _, _, rfl, rfl, (same_upd m2) _ _ upd_same, upd_same, ?_, fun u3 m3 => ?_⟩⟩⟩
    · rw [rgV_length]
      exact Nat.le_of_lt (small1000 (show _ ≤ 1000 by simp; omega))
    have s1 := (same_upd (o := .lst (rgV 0 (g + 1))) m1).trans (same_upd (o := .lst [.int g]) m2)
    have s3 := s1.trans (same_upd (o := .lst (rgV 0 (g + 1) ++ [V.int g])) m3)
    have e3 := s3 _ _ e
    have eu : upd (upd (upd H u1 (.lst (rgV 0 (g + 1)))) u2 (.lst [.int g])) u3 (.lst (rgV 0 (g + 1) ++ [V.int g])) u3 = some (.lst (rgV 0 (g + 1) ++ [V.int g])) := upd_same
    generalize upd (upd (upd H u1 (.lst (rgV 0 (g + 1)))) u2 (.lst [.int g])) u3 (.lst (rgV 0 (g + 1) ++ [V.int g])) = H3 at *
    refine ⟨_, rfl, _, rfl, p, C, dx, _, _, rfl, e3, L.cl, L.nP, flds_pins _ _, _, _, rfl, rfl, _, _, rfl, rfl, RgOk.of_le (by omega) (by omega) (by omega) (by omega), fun u4 m4 => ⟨_, _, _, _, rfl, rfl, (same_upd m4) _ _ eu, upd_same, ?_, fun u5 m5 => ?_⟩⟩
    · rw [List.length_append, rgV_length, rgV_length]
      exact Nat.le_of_lt (small1000 (show _ ≤ 1000 by simp; omega))
    rw [nm_list g0 g1]
    have s5 := s3.trans ((same_upd (o := .lst (rgV (g + 1) (n - 1))) m4).trans (same_upd (o := .lst (gl n (nmG g))) m5))
    refine ⟨_, rfl, p, C, dx, _, _, rfl, s5 _ _ e, L.cl, L.nP, flds_pins _ _, _, _, rfl, rfl, _, rfl, p, C, dx, _, _, rfl, s5 _ _ e, L.cl, L.nC, flds_cords _ _, _, rfl, ?_⟩
    refine ⟨c, u5, cs, n, nmG g, rfl, t.same s5, upd_same, fun t ht => ?_, hl, fun H6 a s6 tL => ?_⟩
    · have o := hg.ord t ht
      omega
    · obtain ⟨vs, hB, hx⟩ := tL.sq (K := K)
      exact rd_make (by omega) hB hx (fun t ht => (mgE_vld hg g0 g1 t ht).1) (Nat.le_trans (mgE_len g cs) hl) fun H7 x r s7 hLt hN => q H7 x r ((s5.trans s6).trans s7) hLt hN

def spDropped (C : Addr) : Sp := fun vs H Q _ => ∃ (p : Addr) (x n : Int) (cs : List Tr), vs = [.ref p, .int x] ∧ LotAt C H p n cs ∧ Good n cs ∧ 0 ≤ x ∧ x < n ∧ n ≤ 46 ∧ endsOf cs x % 2 = 0 ∧
  ∀ H' y r, Same H H' → LotAt C H' y (n - 1) r → IsNorm (cotE (n - 1) (dpT (tabE cs) x)) r → Q (.ref y) H'
set_option maxHeartbeats 1000000 in
theorem ok_dropped {f : Addr} {fd : FuncData} (F : Fun K "dropped" "Lot.dropped" s_Lot_dropped f fd) (T : Bi mg) (L : LotC K mg C) {z : Addr} {f_i : Addr} {d_i : FuncData} (M : Mk K C f_i) (b_i : Binds K d_i ["self", "pins", "cords"] []) (G_i : GI P w K mg base C f_i d_i) (b_1 : Binds K d_i ["self", "pins", "cords"] [.ref z]) (hz : ∀ H, SqT K H z []) {f_k : Addr} {d_k : FuncData} (D_k : Df K mg "check_pin" s_check_pin ["pins", "pin"] f_k d_k) (G_k : FnOk P w K mg base CX0 3 f_k d_k ["pins", "pin"] spCkPin) {f_e : Addr} {d_e : FuncData} (ME : Mt K C "ends" "Lot.ends" s_Lot_ends ["self", "pin"] f_e d_e) (G_e : FnOk P w K mg base CX0 4 f_e d_e ["self", "pin"] (spEnds C)) {f_t : Addr} {d_t : FuncData} (D_t : Df K mg "table_rows" s_table_rows ["pins", "cords"] f_t d_t) (G_t : FnOk P w K mg base CX0 2 f_t d_t ["pins", "cords"] spTable) {f_w : Addr} {d_w : FuncData} (D_w : Df K mg "table_without" s_table_without ["pins", "table", "pin"] f_w d_w) (G_w : FnOk P w K mg base CX0 2 f_w d_w ["pins", "table", "pin"] spTwo) {f_c : Addr} {d_c : FuncData} (D_c : Df K mg "cords_of_table" s_cords_of_table ["pins", "table"] f_c d_c) (G_c : FnOk P w K mg base CX0 2 f_c d_c ["pins", "table"] spCot) : FnOk P w K mg base CX0 7 f fd ["self", "pin"] (spDropped C) := by
  refine F.ok sc_Lot_dropped (fun vs H Q E h => ?_) (fun cdv A outer s H vs Q E hr h => ?_)
  · obtain ⟨p, x, n, cs, rfl, _⟩ := h
    rfl
  · obtain ⟨p, x, n, cs, rfl, hL, hg, x0, x1, n1, ev, q⟩ := h
    refine ⟨_, (pss_cons (ps_expr (pe_call G_k (hr.mono (by decide)) (by rfl) D_k.g D_k.F.kp D_k.b .nil pass0 (pa_cons (pe_fld (pv 0) rfl) (pa_cons (pv 1) pa_nil))))
        (pss_cons (ps_if (pt_cmpR op_eq (pe_op op_mod (pe_meth (pv 0) L.cl ME.m G_e (hr.mono (by decide)) ME.b .nil pass0 (pa_cons (pv 1) pa_nil)) pe_int) pe_int (nomark _)) (pss_one ps_never) pss_nil)
        (pss_cons (ps_set (i := 2) sc_Lot_dropped.nd rfl (.inl rfl) (pe_op op_sub (pe_fld (pv 0) rfl) pe_int))
        (pss_cons (ps_if (pt_cmpR op_eq (pv 2) pe_int (nomark _)) (pss_one (ps_ret (pe_make M G_i (hr.mono (by decide)) (by rfl) L.g b_1 (show Vals [V.ref z] [Value.ref z] from .cons rfl .nil) pass0 (pa_cons pe_int pa_nil)))) pss_nil)
        (pss_one (ps_ret (pe_make M G_i (hr.mono (by decide)) (by rfl) L.g b_i .nil pass0 (pa_cons (pv 2) (pa_cons (pe_call G_c (hr.mono (by decide)) (by rfl) D_c.g D_c.F.kp D_c.b .nil pass0 (pa_cons (pv 2) (pa_cons (pe_call G_w (hr.mono (by decide)) (by rfl) D_w.g D_w.F.kp D_w.b .nil pass0 (pa_cons (pe_fld (pv 0) rfl) (pa_cons (pe_call G_t (hr.mono (by decide)) (by rfl) D_t.g D_t.F.kp D_t.b .nil pass0 (pa_cons (pe_fld (pv 0) rfl) (pa_cons (pe_fld (pv 0) rfl) pa_nil))) (pa_cons (pv 1) pa_nil)))) pa_nil))) pa_nil))))))))), ?_⟩
    obtain ⟨dx, c, e, t⟩ := id hL
    refine ⟨_, rfl, p, C, dx, _, _, rfl, e, L.cl, L.nP, flds_pins _ _, _, rfl, n, x, rfl, x0, x1, ?_⟩
    refine ⟨_, rfl, p, dx, _, rfl, e, flds_no n c (by decide +kernel) (by decide +kernel), _, rfl, p, x, n, cs, rfl, hL, x0, x1, by omega, hg.vld, fun H1 s1 => ?_⟩
    refine ⟨_, _, rfl, rfl, by show (0 : Int) < 2; decide, rfl, _, rfl, ite2 (fun z => absurd (V.int.inj (of_decide_eq_true z)) (by rw [ev]; decide)) fun _ => ?_⟩
    have e1 := s1 _ _ e
    refine ⟨_, rfl, p, C, dx, _, _, rfl, e1, L.cl, L.nP, flds_pins _ _, _, _, rfl, rfl, ?_⟩
    refine ⟨_, rfl, rfl, _, rfl, ite2 (fun z => ?_) (fun z => ?_)⟩
    · have hn : n - 1 = 0 := V.int.inj (of_decide_eq_true z)
      refine rd_make (l := []) (Int.le_refl 0) (.inr (hz H1)) TrV.nil (by simp) (Nat.zero_le _) fun H2 x' r s2 hLt hN => q H2 x' r (s1.trans s2) (by rw [hn]; exact hLt) ?_
      rw [hn]
      exact hN
    · have n2 : 2 ≤ n := by
        refine Decidable.byContradiction fun y => z (decide_eq_true (congrArg V.int ?_))
        omega
      have hh : hi n 1 = n := by have := lo_hi n 1; omega
      refine ⟨_, rfl, _, rfl, _, rfl, p, C, dx, _, _, rfl, e1, L.cl, L.nP, flds_pins _ _, _, rfl, p, C, dx, _, _, rfl, e1, L.cl, L.nP, flds_pins _ _, _, rfl, p, C, dx, _, _, rfl, e1, L.cl, L.nC, flds_cords _ _, ?_⟩
      refine ⟨n, c, cs, rfl, by omega, by omega, t.same s1, hg, fun H2 u s2 tab => ?_⟩
      rw [hh] at tab
      refine ⟨_, rfl, u, n, x, _, rfl, tab, n2, by omega, x0, x1, fun H3 d s3 hG => ?_⟩
      refine ⟨n - 1, d, _, rfl, hG.congr (h := dpT (tabE cs) x) (fun i j _ _ _ _ => ?_), by omega, by omega, fun H4 c4 s4 tL => ?_⟩
      · unfold dpT
        exact tw_dp hg n2 x0 x1
      · obtain ⟨vs, hB, hx⟩ := tL.sq (K := K)
        exact rd_make (by omega) hB hx (cotE_vld (by omega) _) (cotE_len (by omega) _) fun H5 y r s5 hLt hN => q H5 y r ((((s1.trans s2).trans s3).trans s4).trans s5) hLt hN
end
end Own

namespace Own
open PySem PySem.Spec PyProof.Rows L2
theorem gl_split {n f : Int} (f0 : 0 ≤ f) (f1 : f ≤ n) (M : Int → Int) : gl n (fun x => if f ≤ M x then M x + 2 else M x) = gl f (fun x => bgU f (M x)) ++ ((gl n (fun x => if f ≤ M x then M x + 2 else M x)).drop f.toNat) := by
  have e : gl f (fun x => bgU f (M x)) = (gl n (fun x => if f ≤ M x then M x + 2 else M x)).take f.toNat := by
    unfold gl
    rw [← List.map_take, List.take_range, show min f.toNat n.toNat = f.toNat by omega]
    rfl
  rw [e, List.take_append_drop]
theorem bg_list {n f : Int} (f0 : 0 ≤ f) (f1 : f ≤ n) (M : Int → Int) : (gl n (fun x => bgU f (M x))).take f.toNat ++ [V.int (f + 1), V.int f] ++ (gl n (fun x => bgU f (M x))).drop f.toNat = gl (n + 2) (bgM M f) := by
  unfold gl
  apply List.ext_getElem
  · simp
    omega
  · intro j h1 h2
    simp only [List.length_map, List.length_range] at h2
    rw [List.getElem_map, List.getElem_range]
    by_cases c : j < f.toNat
    · rw [List.getElem_append_left (by simp; omega), List.getElem_append_left (by simp; omega), List.getElem_take, List.getElem_map, List.getElem_range]
      rw [bg_old (by omega) (by omega)]
      unfold bgS
      rw [if_pos (by omega)]
    · by_cases d : j < f.toNat + 2
      · rw [List.getElem_append_left (by simp; omega), List.getElem_append_right (by simp; omega)]
        by_cases e : j = f.toNat
        · have : (j : Int) = f := by omega
          rw [this, bg_1]
          simp [show j - min f.toNat n.toNat = 0 by omega]
        · have : (j : Int) = f + 1 := by omega
          rw [this, bg_2]
          simp [show j - min f.toNat n.toNat = 1 by omega]
      · rw [List.getElem_append_right (by simp; omega), List.getElem_drop, List.getElem_map, List.getElem_range]
        rw [bg_old (by omega) (by omega)]
        unfold bgS
        rw [if_neg (by omega)]
        congr 3
        simp
        omega
theorem cut_to (xs : List V) {f : Int} (f0 : 0 ≤ f) (f1 : f ≤ (xs.length : Int)) : cutV xs none (some f) = xs.take f.toNat := by
  unfold cutV
  rw [HT.sIx_none, show f = ((f.toNat : Nat) : Int) by omega, HT.sIx_nat, List.drop_zero]
  congr 1
  simp
  omega
theorem cut_from (xs : List V) {f : Int} (f0 : 0 ≤ f) (f1 : f ≤ (xs.length : Int)) : cutV xs (some f) none = xs.drop f.toNat := by
  unfold cutV
  rw [HT.sIx_none, show f = ((f.toNat : Nat) : Int) by omega, HT.sIx_nat, List.take_of_length_le (by rw [List.length_drop]; exact Nat.le_refl _)]
  congr 1
  simp
  omega
theorem crs_crB {n : Int} {M : Int → Int} (h : Mat n M) {a : Int} (a0 : 0 ≤ a) (a1 : a + 1 < n) (d : M a ≠ a + 1) : crB (a + 1) (M (a + 1)) a (M a) = decide (crs M a) := by
  obtain ⟨_, _, _, _, v5, v6, v7, v8, _⟩ := sw_vals h a0 a1 d
  unfold crB
  rw [if_neg (by omega)]
  rfl
section
variable {P : Program} {w : World} {K : PySem.W.Frag} {mg : Str → Option Value} {base : Heap} {C : Addr}
def spLom (C : Addr) : Sp := fun vs H Q _ => ∃ (a : Addr) (n : Int) (M : Int → Int), vs = [.ref a] ∧ H a = some (.lst (gl n M)) ∧ Mat n M ∧ 0 ≤ n ∧ n ≤ 1000 ∧
  ∀ H' x, Same H H' → LotAt C H' x n (mtE M n.toNat) → Q (.ref x) H'
theorem ok_lom {f : Addr} {fd : FuncData} (F : Fun K "lot_of_mates" "lot_of_mates" s_lot_of_mates f fd) (T : Bi mg) (TE : BiX mg) (L : LotC K mg C) {f_i : Addr} {d_i : FuncData} (M : Mk K C f_i) (b_i : Binds K d_i ["self", "pins", "cords"] []) (G_i : GI P w K mg base C f_i d_i) : FnOk P w K mg base CX0 7 f fd ["mates"] (spLom C) := by
  refine F.ok sc_lot_of_mates (fun vs H Q E h => ?_) (fun cdv A outer s H vs Q E hr h => ?_)
  · obtain ⟨a, n, N, rfl, _⟩ := h
    rfl
  · obtain ⟨a, n, N, rfl, ha, hM, n0, n1, q⟩ := h
    refine ⟨_, (pss_one (ps_ret (pe_make M G_i (hr.mono (by decide)) (by rfl) L.g b_i .nil pass0 (pa_cons (pe_callB call_len_seq (by rfl) T.b_len PySem.boot_len (pa_cons (pv 0) pa_nil)) (pa_cons (pe_lc (own := [("pin", 1), ("mate", 2)]) (g := gTup K 2 (gCons (gName 1) (gCons (gName 2) gNil))) rfl sc_lot_of_mates.nd (pi_enum (by rfl) TE.b_enumerate (pa_cons (pv 0) pa_nil)) (blkOk_by (own := [("pin", 1), ("mate", 2)]) (N := ["mates", "pin", "mate"]) (sc := defScope s_lot_of_mates) (by decide +kernel)) (fun _ _ _ _ _ => (pg_tup (by rfl) (pgs_cons (pg_name (i := 1) sc_lot_of_mates.nd rfl (.inl rfl)) (pgs_cons (pg_name (i := 2) sc_lot_of_mates.nd rfl (.inl rfl)) pgs_nil)))) (fun _ _ _ _ _ => pts_one (pt_cmpR op_lt (pv 1) (pv 2) (nomark _))) (fun _ _ _ _ _ => (pe_tup (pa_cons (pv 1) (pa_cons (pv 2) (pa_cons pe_int pa_nil)))))) pa_nil))))), ?_⟩
    have eL : ((gl n N).length : Int) = n := by
      rw [gl_len]
      omega
    refine ⟨_, rfl, a, _, rfl, .inl (.inl (.inl ha)), ?_⟩
    rw [eL]
    refine ⟨_, rfl, a, _, rfl, .inl (.inl ha), fun D hD => ?_⟩
    refine lc_it (walk_enum (K := K) (a := a) (xs := gl n N)) (fun i H' => ∃ ws, LcI H D ws H' ∧ TrV H' ws (mtE N i)) ⟨[], LcI.start hD, TrV.nil⟩ (fun i H' _ pv => by obtain ⟨ws, L1, _⟩ := pv; exact .inl (.inl (L1.same _ _ ha))) (fun i v H1 H2 hi pv y => ?_) (fun H1 pv => ?_)
    · obtain ⟨ws, L1, tV⟩ := pv
      obtain ⟨T', x1', y1, rfl, nT, rfl, g1, g2⟩ := y
      obtain rfl : V.int (i : Nat) = x1' := Option.some.inj g1
      obtain ⟨rfl, i1⟩ := gl_nat g2
      have s2 := same_upd (o := .tup [.int (i : Int), .int (N (i : Int))]) nT
      refine ⟨T', _, rfl, .inl (.inl upd_same), rfl, _, _, rfl, _, _, rfl, rfl, rfl, ?_⟩
      refine ⟨_, rfl, _, rfl, _, _, rfl, rfl, _, rfl, ite2 (fun e => ?_) (fun e => ?_)⟩
      · have lt : (i : Int) < N (i : Int) := of_decide_eq_true e
        refine ⟨_, rfl, _, rfl, by show 3 ≤ sizeLine; decide, fun p2 np2 => ?_⟩
        have s3 := s2.trans (same_upd (o := .tup [.int (i : Int), .int (N (i : Int)), .int 1]) np2)
        have nD : p2 ≠ D := fun z => by
          rw [z, s2 _ _ L1.at_] at np2
          cases np2
        refine ⟨ws, s3 _ _ L1.at_, ?_, ws ++ [.ref p2], L1.put hD s3, ?_⟩
        · rw [tV.1]
          rw [gl_len] at hi
          exact Nat.lt_of_le_of_lt (mtE_len N i) (small1000 (by omega))
        · rw [mtE, if_pos lt]
          refine (tV.sameT (sameT_put L1.at_ s3)).snoc (t := ((i : Int), N (i : Int), 1)) ?_
          rw [upd_ne nD, upd_same]
      · have lt : ¬ (i : Int) < N (i : Int) := fun z => e (decide_eq_true z)
        refine ⟨ws, L1.keep hD s2, ?_⟩
        rw [mtE, if_neg lt, List.append_nil]
        exact tV.same s2
    · obtain ⟨ws, L1, tV⟩ := pv
      rw [gl_len] at tV
      have g := mtE_good hM
      refine rd_make n0 (.inl (.inl (.inl L1.at_))) tV g.vld (Nat.le_trans (mtE_len N _) (by omega)) fun H2 x r s2 hLt hN => q H2 x (L1.same.trans s2) ?_
      rw [← norm_uniq hN g.self]
      exact hLt

def spMol (C : Addr) : Sp := fun vs H Q _ => ∃ (p : Addr) (n : Int) (cs : List Tr), vs = [.ref p] ∧ LotAt C H p n cs ∧ Good n cs ∧ 0 ≤ n ∧ n ≤ 1000 ∧
  ∀ H' d, Same H H' → H' d = some (.lst (gl n (mtF cs))) → Q (.ref d) H'
theorem ok_mol {f : Addr} {fd : FuncData} (F : Fun K "mates_of_lot" "mates_of_lot" s_mates_of_lot f fd) (T : Bi mg) (L : LotC K mg C) : FnOk P w K mg base CX0 1 f fd ["lot"] (spMol C) := by
  refine F.ok sc_mates_of_lot (fun vs H Q E h => ?_) (fun cdv A outer s H vs Q E hr h => ?_)
  · obtain ⟨p, n, cs, rfl, _⟩ := h
    rfl
  · obtain ⟨p, n, cs, rfl, hL, hg, n0, n1, q⟩ := h
    refine ⟨_, (pss_cons (ps_set (i := 1) sc_mates_of_lot.nd rfl (.inl rfl) (pe_op op_rep (pe_lst (pa_cons pe_int pa_nil)) (pe_fld (pv 0) rfl)))
        (pss_cons (ps_for PassesOwn.never rfl (pi_tup (pe_fld (pv 0) rfl)) (pg_tup (by rfl) (pgs_cons (pg_name (i := 2) sc_mates_of_lot.nd rfl (.inl rfl)) (pgs_cons (pg_name (i := 3) sc_mates_of_lot.nd rfl (.inl rfl)) (pgs_cons (pg_name (i := 4) sc_mates_of_lot.nd rfl (.inl rfl)) pgs_nil))))
        (pss_cons (ps_asg (pv 3) (pg_sub (pv 1) (pv 2) set_list))
        (pss_one (ps_asg (pv 2) (pg_sub (pv 1) (pv 3) set_list)))))
        (pss_one (ps_ret (pv 1))))), ?_⟩
    obtain ⟨dx, c, e, t⟩ := hL
    obtain ⟨vs, ec, tc⟩ := id t
    refine ⟨by show 1 ≤ sizeLine; decide, fun l hl => ?_⟩
    have sl := same_upd (o := .lst [.int 0]) hl
    refine ⟨_, rfl, p, C, dx, _, _, rfl, sl _ _ e, L.cl, L.nP, flds_pins _ _, l, n, _, rfl, rfl, upd_same, by omega, by omega, ?_, fun d nd => ?_⟩
    · show 1 * n.toNat ≤ sizeLine
      rw [Nat.one_mul]
      exact Nat.le_of_lt (small1000 (by omega))
    have s1 := sl.trans (same_upd (o := .lst (List.replicate n.toNat [V.int 0]).flatten) nd)
    refine ⟨_, rfl, p, C, dx, _, _, rfl, s1 _ _ e, L.cl, L.nC, flds_cords _ _, c, rfl, ⟨vs, .inl (.inl (s1 _ _ ec))⟩, for_tup (xs := vs) (fun i σ H' => (∃ y3 y4 y5, σ = [some (.ref p), some (.ref d), y3, y4, y5]) ∧ LcI (upd H l (.lst [.int 0])) d (gl n (mtF (cs.take i))) H') ⟨⟨_, _, _, rfl⟩, ⟨_, Same.refl _, nd, ?_⟩⟩ (fun i σ H' _ pv => .inl (.inl ((sl.trans pv.2.same) _ _ ec))) (fun i x σ H' hxi pv => ?_) (fun σ H' pv => ?_)⟩
    · rw [rep_gl, gl_const]
      rfl
    · obtain ⟨⟨y3, y4, y5, rfl⟩, L1⟩ := pv
      obtain ⟨u, tt, rfl, hti, hu⟩ := (tc.same (sl.trans L1.same)).at_ hxi
      obtain ⟨v0, v1, v2, v3⟩ := hg.ord tt (List.mem_of_getElem? hti)
      refine ⟨u, _, rfl, .inl (.inl hu), rfl, _, _, rfl, _, _, rfl, _, _, rfl, rfl, ?_⟩
      refine ⟨_, rfl, _, rfl, _, rfl, d, _, _, _, rfl, rfl, L1.at_, gl_ix _ v0 (show tt.1 < n by omega), ?_⟩
      rw [gl_set _ _ v0 (show tt.1 < n by omega)]
      refine ⟨_, rfl, _, rfl, _, rfl, d, _, _, _, rfl, rfl, upd_same, gl_ix _ (show 0 ≤ tt.2.1 by omega) v2, ?_⟩
      rw [gl_set _ _ (show 0 ≤ tt.2.1 by omega) v2, upd_upd]
      refine ⟨⟨_, _, _, rfl⟩, ?_⟩
      have eg : (gl n fun y => if y = tt.2.1 then tt.1 else if y = tt.1 then tt.2.1 else mtF (cs.take i) y) = gl n (mtF (cs.take (i + 1))) := gl_congr fun x _ _ => by
        rw [List.take_add_one, hti]
        exact (mtF_snoc _ _ _).symm
      rw [eg]
      exact L1.put nd (Same.refl _)
    · obtain ⟨⟨y3, y4, y5, rfl⟩, L1⟩ := pv
      rw [tc.1, List.take_length] at L1
      exact ⟨_, rfl, q H' d (sl.trans L1.same) L1.at_⟩

def spCrs (K : PySem.W.Frag) : Sp := fun vs H Q _ => ∃ (a : Addr) (b n : Int) (M : Int → Int), vs = [.ref a, .int b] ∧ H a = some (.lst (gl n M)) ∧ Mat n M ∧ 1 ≤ b ∧ b < n ∧ n ≤ 1000 ∧
  ∀ H' d, Same H H' → H' d = some (.lst (gl n (crM M (b - 1)))) → Q (.ref d) H'
theorem ok_crs {f : Addr} {fd : FuncData} (F : Fun K "mates_crossed" "mates_crossed" s_mates_crossed f fd) (T : Bi mg) {f_c : Addr} {d_c : FuncData} (D_c : Df K mg "crosses" s_crosses ["a", "b", "c", "d"] f_c d_c) (G_c : FnOk P w K mg base CX0 1 f_c d_c ["a", "b", "c", "d"] spCrosses) : FnOk P w K mg base CX0 2 f fd ["mates", "left"] (spCrs K) := by
  refine F.ok sc_mates_crossed (fun vs H Q E h => ?_) (fun cdv A outer s H vs Q E hr h => ?_)
  · obtain ⟨a, b, n, N, rfl, _⟩ := h
    rfl
  · obtain ⟨a, b, n, N, rfl, ha, hM, b1, bn, n1, q⟩ := h
    refine ⟨_, (pss_cons (ps_set (i := 2) sc_mates_crossed.nd rfl (.inl rfl) (pe_op op_sub (pv 1) pe_int))
        (pss_cons (ps_set (i := 3) sc_mates_crossed.nd rfl (.inl rfl) (pe_ix (r := rIxL K) ix_list (pv 0) (pv 1) (fun _ _ => rfl)))
        (pss_cons (ps_set (i := 4) sc_mates_crossed.nd rfl (.inl rfl) (pe_ix (r := rIxL K) ix_list (pv 0) (pv 2) (fun _ _ => rfl)))
        (pss_cons (ps_if (PW.pt (pw_or (pt_cmpR op_eq (pv 3) (pv 2) (nomark _)) (pw_or1 (pt_val (pe_call G_c (hr.mono (by decide)) (by rfl) D_c.g D_c.F.kp D_c.b .nil pass0 (pa_cons (pv 1) (pa_cons (pv 3) (pa_cons (pv 2) (pa_cons (pv 4) pa_nil))))))))) (pss_one (ps_ret (pv 0))) pss_nil)
        (pss_cons (ps_set (i := 5) sc_mates_crossed.nd rfl (.inl rfl) (pe_callTy call_list_of (by rfl) T.b_list (by decide +kernel) (pa_cons (pv 0) pa_nil)))
        (pss_cons (ps_asg (pv 4) (pg_sub (pv 5) (pv 1) set_list))
        (pss_cons (ps_asg (pv 3) (pg_sub (pv 5) (pv 2) set_list))
        (pss_cons (ps_asg (pv 2) (pg_sub (pv 5) (pv 3) set_list))
        (pss_cons (ps_asg (pv 1) (pg_sub (pv 5) (pv 4) set_list))
        (pss_one (ps_ret (pv 5)))))))))))), ?_⟩
    have d0 : 0 ≤ b - 1 := by omega
    have d1 : b - 1 + 1 = b := by omega
    have dn : b - 1 + 1 < n := by omega
    refine ⟨_, rfl, _, _, rfl, rfl, ?_⟩
    refine ⟨_, rfl, _, rfl, a, _, _, _, rfl, rfl, .inl (.inl ha), gl_atI N (show 0 ≤ b by omega) bn, ?_⟩
    refine ⟨_, rfl, _, rfl, a, _, _, _, rfl, rfl, .inl (.inl ha), gl_atI N d0 (by omega), ?_⟩
    refine ⟨_, rfl, _, rfl, rfl, _, rfl, ite2 (fun e => ?_) (fun e => ?_)⟩
    · have e : N b = b - 1 := V.int.inj (of_decide_eq_true e)
      have ea : N (b - 1) = b - 1 + 1 := by
        have := hM.inv b (by omega) bn
        rw [e] at this
        rw [this, d1]
      refine ⟨_, rfl, q H a (Same.refl _) ?_⟩
      unfold crM
      rw [if_pos (.inl ea)]
      exact ha
    · have ne : N (b - 1) ≠ b - 1 + 1 := fun z => e (decide_eq_true (congrArg V.int (by
        have := hM.inv (b - 1) d0 (by omega)
        rw [z, d1] at this
        exact this)))
      refine ⟨_, rfl, _, rfl, _, rfl, _, rfl, _, _, _, _, rfl, ?_⟩
      have ec := crs_crB hM d0 dn ne
      rw [d1] at ec
      rw [ec]
      refine ⟨_, rfl, ite2 (fun e => ?_) (fun e => ?_)⟩
      · refine ⟨_, rfl, q H a (Same.refl _) ?_⟩
        unfold crM
        rw [if_pos (.inr (of_decide_eq_true e))]
        exact ha
      · have nc : ¬ crs N (b - 1) := fun z => e (decide_eq_true z)
        have ra := hM.in_ (b - 1) d0 (by omega)
        have rb := hM.in_ b (by omega) bn
        refine ⟨_, rfl, a, _, rfl, .inl (.inl (.inl ha)), fun d nd => ?_⟩
        refine ⟨_, rfl, _, rfl, _, rfl, d, _, _, _, rfl, rfl, upd_same, gl_ix _ (show 0 ≤ b by omega) bn, ?_⟩
        rw [gl_set _ _ (show 0 ≤ b by omega) bn, upd_upd]
        refine ⟨_, rfl, _, rfl, _, rfl, d, _, _, _, rfl, rfl, upd_same, gl_ix _ d0 (show b - 1 < n by omega), ?_⟩
        rw [gl_set _ _ d0 (show b - 1 < n by omega), upd_upd]
        refine ⟨_, rfl, _, rfl, _, rfl, d, _, _, _, rfl, rfl, upd_same, gl_ix _ rb.1 rb.2, ?_⟩
        rw [gl_set _ _ rb.1 rb.2, upd_upd]
        refine ⟨_, rfl, _, rfl, _, rfl, d, _, _, _, rfl, rfl, upd_same, gl_ix _ ra.1 ra.2, ?_⟩
        rw [gl_set _ _ ra.1 ra.2, upd_upd]
        refine ⟨_, rfl, q _ d (same_upd nd) ?_⟩
        rw [upd_same]
        congr 2
        refine gl_congr fun x x0 x1 => ?_
        have ecr : crM N (b - 1) = swM N (b - 1) := if_neg fun z => z.elim ne nc
        rw [ecr]
        obtain ⟨v1, v2, v3, v4, v5, v6, v7, v8, v9⟩ := sw_vals hM d0 dn ne
        unfold swM
        rw [d1] at *
        by_cases c1 : x = N (b - 1)
        · rw [if_pos c1, if_neg (by omega), if_neg (by omega), if_neg (by omega), if_pos c1]
        · by_cases c2 : x = N b
          · rw [if_neg c1, if_pos c2, if_neg (by omega), if_neg (by omega), if_pos c2]
          · by_cases c3 : x = b - 1
            · rw [if_neg c1, if_neg c2, if_pos c3, if_pos c3]
            · by_cases c4 : x = b
              · rw [if_neg c1, if_neg c2, if_neg c3, if_pos c4, if_neg c3, if_pos c4]
              · rw [if_neg c1, if_neg c2, if_neg c3, if_neg c4, if_neg c3, if_neg c4, if_neg c2, if_neg c1]

def spBeg (K : PySem.W.Frag) : Sp := fun vs H Q _ => ∃ (a : Addr) (f n : Int) (M : Int → Int), vs = [.ref a, .int f] ∧ H a = some (.lst (gl n M)) ∧ 0 ≤ f ∧ f ≤ n ∧ n ≤ 900 ∧
  ∀ H' d, Same H H' → H' d = some (.lst (gl (n + 2) (bgM M f))) → Q (.ref d) H'
theorem ok_beg {f : Addr} {fd : FuncData} (F : Fun K "mates_begun" "mates_begun" s_mates_begun f fd) (T : Bi mg) : FnOk P w K mg base CX0 1 f fd ["mates", "first"] (spBeg K) := by
  refine F.ok sc_mates_begun (fun vs H Q E h => ?_) (fun cdv A outer s H vs Q E hr h => ?_)
  · obtain ⟨a, b, n, N, rfl, _⟩ := h
    rfl
  · obtain ⟨a, b, n, N, rfl, ha, b0, bn, n1, q⟩ := h
    refine ⟨_, (pss_cons (ps_setLc (i := 2) (own := [("mate", 3)]) (g := gName 3) (tt := tYes) rfl sc_mates_begun.nd rfl rfl (sw_true rfl rfl rfl (by decide +kernel)) (pi_list (pv 0)) (blkOk_by (own := [("mate", 3)]) (N := ["mates", "first", "moved", "mate"]) (sc := defScope s_mates_begun) (by decide +kernel)) (fun _ _ _ _ _ => (pg_name (i := 3) sc_mates_begun.nd rfl (.inl rfl))) (fun _ _ _ _ _ => pts_nil) (fun _ _ _ _ _ => (pe_ifExp (pt_cmpR op_ge (pv 3) (pv 1) (nomark _)) (pe_op op_add (pv 3) pe_int) (pv 3))))
        (pss_one (ps_ret (pe_op op_cat (pe_op op_cat (pe_slice sl_list (pv 2) po_none (po_some (pv 1))) (pe_lst (pa_cons (pe_op op_add (pv 1) pe_int) (pa_cons (pv 1) pa_nil)))) (pe_slice sl_list (pv 2) (po_some (pv 1)) po_none))))), ?_⟩
    have n0 : 0 ≤ n := by omega
    refine ⟨_, rfl, a, rfl, ⟨_, .inl (.inl ha)⟩, fun D hD => ?_⟩
    refine lc_list (K := K) (a := a) (xs := gl n N) (fun i H' => LcI H D (gv (i : Int) fun x => .int (bgU b (N x))) H') (LcI.start hD) (fun i H' _ L1 => .inl (.inl (L1.same _ _ ha))) (fun i x H1 hi L1 => ?_) (fun H1 L1 => ?_)
    · obtain ⟨rfl, i1⟩ := gl_nat hi
      have fin : ∀ m : Int, m = bgU b (N (i : Int)) → ∃ acc, H1 D = some (.lst acc) ∧ acc.length < sizeLine ∧ LcI H D (gv ((i + 1 : Nat) : Int) fun x => .int (bgU b (N x))) (upd H1 D (.lst (acc ++ [.int m]))) := fun m hm => by
        refine ⟨_, L1.at_, ?_, ?_⟩
        · rw [gv_len]
          exact small1000 (by omega)
        · rw [show ((i + 1 : Nat) : Int) = (i : Int) + 1 by omega, gv_snoc (by omega), hm]
          exact L1.put hD (Same.refl _)
      refine ⟨rfl, ?_⟩
      refine ⟨_, rfl, _, rfl, _, _, rfl, rfl, _, rfl, ite2 (fun e => ?_) (fun e => ?_)⟩
      · have e : b ≤ N (i : Int) := of_decide_eq_true e
        exact ⟨_, rfl, _, _, rfl, rfl, fin _ (if_pos e).symm⟩
      · have e : ¬ b ≤ N (i : Int) := fun z => e (decide_eq_true z)
        exact ⟨_, rfl, fin _ (if_neg e).symm⟩
    · rw [gl_len, show ((n.toNat : Nat) : Int) = n by omega, gv_gl n fun x => bgU b (N x)] at L1
      have sD := L1.same
      have eD := L1.at_
      generalize hm : gl n (fun x => bgU b (N x)) = ms at *
      have lm : (ms.length : Int) = n := by rw [← hm, gl_len]; omega
      have lm' : ms.length ≤ 900 := by omega
      refine ⟨_, rfl, _, rfl, b, rfl, D, ms, rfl, .inl (.inl eD), fun u1 m1 => ?_⟩
      rw [cut_to ms b0 (by omega)]
      have s1 := same_upd (o := .lst (ms.take b.toNat)) m1
      refine ⟨_, rfl, _, _, rfl, rfl, _, rfl, by show 2 ≤ sizeLine; decide, fun u2 m2 => ?_⟩
      have s2 := same_upd (o := .lst [V.int (b + 1), .int b]) m2
      refine ⟨_, _, _, _, rfl, rfl, s2 _ _ upd_same, upd_same, ?_, fun u3 m3 => ?_⟩
      · rw [List.length_take]
        exact Nat.le_of_lt (small1000 (show min _ _ + 2 ≤ 1000 by omega))
      have s3 := same_upd (o := .lst (ms.take b.toNat ++ [V.int (b + 1), .int b])) m3
      have s123 := (s1.trans s2).trans s3
      have e3 : upd (upd (upd H1 u1 (.lst (ms.take b.toNat))) u2 (.lst [V.int (b + 1), .int b])) u3 (.lst (ms.take b.toNat ++ [V.int (b + 1), .int b])) u3 = some (.lst (ms.take b.toNat ++ [V.int (b + 1), .int b])) := upd_same
      have eD3 := s123 _ _ eD
      generalize upd (upd (upd H1 u1 (.lst (ms.take b.toNat))) u2 (.lst [V.int (b + 1), .int b])) u3 (.lst (ms.take b.toNat ++ [V.int (b + 1), .int b])) = H3 at *
      refine ⟨_, rfl, _, rfl, b, rfl, D, ms, rfl, .inl (.inl eD3), fun u4 m4 => ?_⟩
      rw [cut_from ms b0 (by omega)]
      have s4 := same_upd (o := .lst (ms.drop b.toNat)) m4
      refine ⟨_, _, _, _, rfl, rfl, s4 _ _ e3, upd_same, ?_, fun u5 m5 => ?_⟩
      · rw [List.length_append, List.length_take, List.length_drop]
        exact Nat.le_of_lt (small1000 (show min _ _ + 2 + _ ≤ 1000 by omega))
      refine q _ u5 (sD.trans (s123.trans (s4.trans (same_upd m5)))) ?_
      rw [upd_same, ← bg_list b0 bn N, hm]

def spJoi (C : Addr) : Sp := fun vs H Q _ => ∃ (a : Addr) (g n : Int) (M : Int → Int), vs = [.ref a, .int g] ∧ H a = some (.lst (gl n M)) ∧ Mat n M ∧ 0 ≤ g ∧ g + 1 < n ∧ n ≤ 46 ∧
  ∀ H' d N, Same H H' → H' d = some (.lst (gl (n - 2) N)) → Mat (n - 2) N → (2 < n → ∀ i j, 0 ≤ i → i < n - 2 → 0 ≤ j → j < n - 2 → tM (n - 2) N i j = jnT (tM n M) g (jnG g i) (jnG g j)) → Q (.ref d) H'
theorem ok_joi {f : Addr} {fd : FuncData} (F : Fun K "mates_joined" "mates_joined" s_mates_joined f fd) (L : LotC K mg C) {f_l : Addr} {d_l : FuncData} (D_l : Df K mg "lot_of_mates" s_lot_of_mates ["mates"] f_l d_l) (G_l : FnOk P w K mg base CX0 7 f_l d_l ["mates"] (spLom C)) {f_m : Addr} {d_m : FuncData} (MM : Mt K C "merged" "Lot.merged" s_Lot_merged ["self", "gap"] f_m d_m) (G_m : FnOk P w K mg base CX0 7 f_m d_m ["self", "gap"] (spMerged C)) {f_d : Addr} {d_d : FuncData} (MD : Mt K C "dropped" "Lot.dropped" s_Lot_dropped ["self", "pin"] f_d d_d) (G_d : FnOk P w K mg base CX0 7 f_d d_d ["self", "pin"] (spDropped C)) {f_o : Addr} {d_o : FuncData} (D_o : Df K mg "mates_of_lot" s_mates_of_lot ["lot"] f_o d_o) (G_o : FnOk P w K mg base CX0 1 f_o d_o ["lot"] (spMol C)) : FnOk P w K mg base CX0 8 f fd ["mates", "right"] (spJoi C) := by
  refine F.ok sc_mates_joined (fun vs H Q E h => ?_) (fun cdv A outer s H vs Q E hr h => ?_)
  · obtain ⟨a, g, n, N, rfl, _⟩ := h
    rfl
  · obtain ⟨a, g, n, N, rfl, ha, hM, g0, g1, n1, q⟩ := h
    refine ⟨_, (pss_one (ps_ret (pe_call G_o (hr.mono (by decide)) (by rfl) D_o.g D_o.F.kp D_o.b .nil pass0 (pa_cons (pe_meth (pe_meth (pe_call G_l (hr.mono (by decide)) (by rfl) D_l.g D_l.F.kp D_l.b .nil pass0 (pa_cons (pv 0) pa_nil)) L.cl MM.m G_m (hr.mono (by decide)) MM.b .nil pass0 (pa_cons (pv 1) pa_nil)) L.cl MD.m G_d (hr.mono (by decide)) MD.b .nil pass0 (pa_cons (pv 1) pa_nil)) pa_nil)))), ?_⟩
    refine ⟨_, rfl, a, n, N, rfl, ha, hM, by omega, by omega, fun H1 x1 s1 hL1 => ?_⟩
    have g1' := mtE_good hM
    obtain ⟨dx1, c1, e1, t1⟩ := id hL1
    refine ⟨x1, dx1, _, rfl, e1, flds_no n c1 (by decide +kernel) (by decide +kernel), _, rfl, x1, g, n, _, rfl, hL1, g1', g0, g1, by omega, Nat.le_trans (mtE_len N _) (by omega), fun H2 x2 r2 s2 hL2 hN2 => ?_⟩
    obtain ⟨gr2, et2, ev2, one2⟩ := jn_merged hM g0 g1 hN2
    obtain ⟨dx2, c2, e2, t2⟩ := id hL2
    refine ⟨x2, dx2, _, rfl, e2, flds_no _ c2 (by decide +kernel) (by decide +kernel), _, rfl, x2, g, n - 1, r2, rfl, hL2, gr2, g0, by omega, by omega, ev2, fun H3 x3 r3 s3 hL3 hN3 => ?_⟩
    rw [show n - 1 - 1 = n - 2 by omega] at hL3 hN3
    have s03 := (s1.trans s2).trans s3
    have gr3 : Good (n - 2) r3 := hN3.good (cotE_vld (by omega) _)
    have one3 : ∀ p, 0 ≤ p → p < n - 2 → endsOf r3 p = 1 := fun p p0 p1 => (jn_dropped hM g0 g1 (by omega) hN2 hN3).2.1 p p0 p1
    refine ⟨x3, n - 2, r3, rfl, hL3, gr3, by omega, by omega, fun H4 d s4 e4 => q H4 d (mtF r3) (s03.trans s4) e4 (mtF_mat gr3 one3) fun n2 i j i0 i1 j0 j1 => ?_⟩
    rw [← mt_tab, mtF_lot gr3 one3, (jn_dropped hM g0 g1 n2 hN2 hN3).2.2 i j i0 i1 j0 j1, jn_tab et2]
end
end Own

namespace Own
open PySem PySem.Spec PyProof.Rows L2
/-! ### a dict of the module's own top: texts to whole numbers -/
def KLit (P : Params) : List DictEntry → List (Str × Int) → Prop
  | [], [] => True
  | e :: r, p :: q => (∃ t u, e.key = .str p.1 t ∧ e.hash = PyData.keyHash P p.1 ∧ e.val = .int p.2 u) ∧ KLit P r q
  | _, _ => False
/-- the dict's entries -/
def kvsOf (ps : List (Str × Int)) : List (Key × V) := ps.map fun p => (Sum.inr p.1, V.int p.2)
/-- a is such a dict -/
structure KTab (K : PySem.W.Frag) (w : World) (a : Addr) (ps : List (Str × Int)) : Prop where
  look : ∃ es n, K.lookup a = some ⟨.type "dict", none, .dict es n, #[]⟩ ∧ KLit w.params es.toList ps
  low : (a == sysModules) = false
  nd : (ps.map (·.1)).Nodup
  few : ps.length ≤ 1000
theorem klit_keys {prog : Program} {w : World} : ∀ {l : List DictEntry} {ps : List (Str × Int)}, KLit w.params l ps → (∀ e ∈ l, ∃ k, (mixKind prog w).is k e.key = true ∧ e.hash = (mixKind prog w).hash k) ∧
    ∃ vs, Pairs (mixKind prog w) l vs ∧ KV (kvsOf ps) vs ∧ vs.map (·.1) = ps.map fun p => Sum.inr p.1
  | [], [], _ => ⟨(fun e h => nomatch h), [], .nil, .nil, rfl⟩
  | e :: r, p :: q, h => by
    obtain ⟨⟨t, u, h1, h2, h3⟩, h4⟩ := h
    obtain ⟨a, vs, b, c, d⟩ := klit_keys (prog := prog) h4
    refine ⟨fun e' he => ?_, (Sum.inr p.1, .int p.2 u) :: vs, .cons ?_ h3 b, .cons ⟨rfl, ⟨u, rfl⟩⟩ c, ?_⟩
    · rcases List.mem_cons.mp he with rfl | he
      · exact ⟨Sum.inr p.1, by rw [h1]; exact keyIs_str p.1 t, h2⟩
      · exact a e' he
    · rw [h1]
      exact keyIs_str p.1 t
    · show Sum.inr p.1 :: vs.map (·.1) = Sum.inr p.1 :: q.map _
      rw [d]
  | [], _ :: _, h => h.elim
  | _ :: _, [], h => h.elim
theorem KTab.dict {prog : Program} {K : PySem.W.Frag} {w : World} {a : Addr} {ps : List (Str × Int)} {h : Heap} (T : KTab K w a ps) (X : K.In h) : ∃ vs, KV (kvsOf ps) vs ∧ h.DictOf (mixKind prog w) a vs := by
  obtain ⟨es, n, hl, hk⟩ := T.look
  obtain ⟨k, vs, p, r, m⟩ := klit_keys (prog := prog) hk
  refine ⟨vs, r, _, es, n, X _ _ hl, ⟨rfl, rfl, rfl⟩, rfl, fun e he => k e (Array.mem_toList_iff.mpr he), p, ?_⟩
  rw [m]
  exact List.pairwise_map.mpr ((List.pairwise_map.mp T.nd).imp fun h e => h (Sum.inr.inj e))
def valN (ps : List (Str × Int)) (x : Str) : Option Int := (ps.find? fun p => decide (p.1 = x)).map (·.2)
theorem valN_eq (ps : List (Str × Int)) (x : Str) : valV (kvsOf ps) (Sum.inr x) = (valN ps x).map V.int := by
  unfold valV valN kvsOf
  induction ps with
  | nil => rfl
  | cons p r ih =>
    rw [List.map_cons, List.find?_cons, List.find?_cons]
    show Option.map _ (match decide ((Sum.inr p.1 : Key) = Sum.inr x) with | true => _ | false => _) = _
    rw [key_rr]
    cases decide (p.1 = x) with
    | true => rfl
    | false => exact ih
section
variable {X : Cx}
/-- x not in D, D a dict of the top -/
def tNotInK (K : PySem.W.Frag) (w : World) (ty td : TE) : TE := fun σ H Q => ty σ H fun y H1 => td σ H1 fun x H2 => ∃ (a : Addr) (ps : List (Str × Int)) (z : Str), x = .ref a ∧ y = .str z ∧ KTab K w a ps ∧ Q (.bl (!(valN ps z).isSome)) H2
theorem pc_knotin {i o : Expr} {ty td : TE} (hi : PE X i ty) (ho : PE X o td) : PC X .NotIn i o (tNotInK X.K X.w ty td) := by
  constructor
  intro pins s σ H Q I h
  refine thn (hi.run pins s σ H _ I h) fun iv s1 ⟨y, H1, I1, ry, q1⟩ => thn (ho.run pins s1 σ H1 _ I1 q1) fun u s2 ⟨x, H2, I2, rx, a, ps, z, ex, ey, T, q2⟩ => ?_
  subst ex
  subst ey
  obtain rfl : u = Value.ref a := rx
  obtain ⟨vs, rel, dd⟩ := T.dict (prog := X.prog) I2.kIn
  refine wpAny_notIn_of (kV_is (k := Sum.inr z) ry) T.low dd.mapOf ?_
  rw [← (rel.val (Sum.inr z)).isSome_eq, valN_eq, Option.isSome_map]
  exact ⟨.bl (!(valN ps z).isSome), H2, I2.tok _, rfl, q2⟩
/-- D[x] -/
theorem ktab_dct {K : PySem.W.Frag} {w : World} {a : Addr} {ps : List (Str × Int)} (T : KTab K w a ps) {z : Str} {i : Int} (h : valN ps z = some i) : KDct K w a z (.int i) := by
  obtain ⟨es, n, hl, hk⟩ := T.look
  have keys : ∀ {l : List DictEntry} {ps : List (Str × Int)}, KLit w.params l ps → PySem.W.KeysLit w.params l ∧ (valN ps z = some i → ∃ t, (l.find? fun d => d.key.isStr z).map (·.val) = some (.int i t)) := by
    intro l
    induction l with
    | nil =>
      intro ps h
      cases ps with
      | nil => exact ⟨trivial, fun z => by cases z⟩
      | cons _ _ => exact h.elim
    | cons e r ih =>
      intro ps h
      cases ps with
      | nil => exact h.elim
      | cons p q =>
        obtain ⟨⟨t, u, h1, h2, h3⟩, h4⟩ := h
        obtain ⟨k1, k2⟩ := ih h4
        refine ⟨⟨⟨p.1, t, h1, h2⟩, k1⟩, fun hv => ?_⟩
        unfold valN at hv k2
        rw [List.find?_cons] at hv ⊢
        have e1 : e.key.isStr z = decide (p.1 = z) := by
          rw [h1]
          show (p.1 == z) = _
          by_cases hz : p.1 = z
          · rw [decide_eq_true hz, hz]
            exact beq_self_eq_true z
          · rw [decide_eq_false hz]
            exact beq_eq_false_iff_ne.mpr hz
        rw [e1]
        by_cases hz : p.1 = z
        · rw [decide_eq_true hz] at hv ⊢
          have : p.2 = i := Option.some.inj hv
          exact ⟨u, by rw [← this, ← h3]; rfl⟩
        · rw [decide_eq_false hz] at hv ⊢
          exact k2 hv
  obtain ⟨k1, k2⟩ := keys hk
  obtain ⟨t, k2⟩ := k2 h
  refine ⟨es, n, .int i t, hl, k1, ?_, ⟨t, rfl⟩⟩
  unfold PySem.W.nsIn
  rw [hl]
  dsimp only
  cases e : es.toList.find? fun d => d.key.isStr z with
  | none => rw [e] at k2; cases k2
  | some d =>
    rw [e] at k2
    simp only [Option.map_some, Option.some.injEq] at k2 ⊢
    first | rw [k2] | (simp [k2])
/-- dict(D) -/
theorem call_dictK : CallR X (.type "dict") (fun xs H Q => ∃ (a : Addr) (ps : List (Str × Int)), xs = [.ref a] ∧ KTab X.K X.w a ps ∧ ∀ p, H p = none → Q (.ref p) (upd H p (.dK (kvsOf ps)))) := by
  intro pins s σ H xs us Q I r h
  obtain ⟨a, ps, rfl, T, q⟩ := h
  obtain ⟨u, rfl, rx⟩ := vals1 r
  cases rx
  obtain ⟨vs, rel, dd⟩ := T.dict (prog := X.prog) I.kIn
  have few : vs.length ≤ sizeLine := by
    rw [← rel.length]
    unfold kvsOf
    rw [List.length_map]
    exact Nat.le_trans T.few (by decide)
  refine kt_call_dict T.low dd few fun h' d' hs => ?_
  have hm : (s.heap.objs.size == sysModules) = false := beq_eq_false_iff_ne.mpr (Nat.ne_of_gt I.big)
  have few2 : (kvsOf ps).length ≤ sizeLine := by rw [rel.length]; exact few
  exact ⟨.ref s.heap.objs.size, upd H s.heap.objs.size (.dK (kvsOf ps)), I.laid (t' := s.toks) (fun b u e => (hs.2 b (Nat.ne_of_lt (Heap.lt_size e))).trans (Heap.get?_push_of_some _ e)) (Nat.le_refl _)
    (show ObjOk X.prog X.w _ _ _ (.dK (kvsOf ps)) from ⟨few2, hm, vs, rel, d'⟩), rfl, q _ (I.hok.fresh (Nat.le_refl _))⟩
end
end Own

namespace PySem
/-! ### enumerate of a tuple -/
theorem meets_enum_tup (l : Addr) (items : Array Value) (n : Nat) (dct : Option Addr) (sl : Array (Option Value)) :
    Meets (Builtin.«enumerate.__new__» ⟨[.type "enumerate", .ref l], []⟩) (fun _ R t => t.heap.get? l = some { cls := .type "tuple", dict := dct, data := .seq items n, slots := sl } ∧
      R (.ok (.ret (.ref (t.heap.push { cls := .type "tuple_iterator", data := .fields #[.ref l, .int 0 0] }).objs.size)))
        { t with heap := (t.heap.push { cls := .type "tuple_iterator", data := .fields #[.ref l, .int 0 0] }).push { cls := .type "enumerate", data := .fields #[.none, .bool false, .ref t.heap.objs.size, rawInt 0, .none, .none] } }) :=
  .of_wp fun prog w A R s hyp => by
    obtain ⟨hp, g, d, tk, os⟩ := s
    obtain ⟨at_, go⟩ := hyp
    have sub := sub_enumerate
    have tup : Heap.IsTuple (Shared.heap ⟨hp, g, d, tk, os⟩) l items := ⟨_, at_, rfl, n, rfl⟩
    wp_walk using AutoSeq1.wpAny_loadPart' at_
    refine wpAny_stack_any fun st => wpAny_pure ?_
    split
    · rename_i c _ _ _ _ _
      cases (c == Value.type "enumerate") <;> (wp_walk using AutoSeq1.wpAny_loadPart' at_, wpAny_pyIter_tuple tup; exact ⟨_, rfl, go⟩)
    · wp_walk using AutoSeq1.wpAny_loadPart' at_, wpAny_pyIter_tuple tup
      exact ⟨_, rfl, go⟩
theorem call_enum_tup {prog : Program} {w : World} {A : Around} {E : Value → Shared → Prop} {s : Shared} {l : Addr} {items : Array Value} {Q : Value → Shared → Prop} (hL : s.heap.IsTuple l items)
    (h : ∀ g, IsEnum g (s.heap.objs.size + 1) s.heap.objs.size 0 .none → g.IsTupleIter s.heap.objs.size l 0 → g.objs.size = s.heap.objs.size + 2 →
      (∀ b o, s.heap.get? b = some o → g.get? b = some o) → Q (.ref (s.heap.objs.size + 1)) { s with heap := g }) :
    wpAny (model prog w) A (call (.type "enumerate") [.ref l]) Q E s := by
  obtain ⟨⟨c, dct, dt, sl⟩, hl, hc, n, hd⟩ := hL
  replace hc : c = .type "tuple" := hc
  replace hd : dt = .seq items n := hd
  subst hc hd
  refine callType_new F.called_enumerate (by decide) (F.typeCall_enumerate_1 _) (F.newCall_enumerate_1 _) (fun obj => F.args_object_init_2 obj _) F.entry_enumerate_new (meets_enum_tup l items n dct sl) ⟨hl, ?_⟩
  generalize hP : s.heap.push { cls := .type "tuple_iterator", data := .fields #[.ref l, .int 0 0] } = P
  have hz : P.objs.size = s.heap.objs.size + 1 := by rw [← hP]; exact Heap.size_push ..
  have hi : P.get? s.heap.objs.size = some { cls := .type "tuple_iterator", data := .fields #[.ref l, .int 0 0] } := by rw [← hP]; exact Heap.get?_push_size _ rfl
  have hk : ∀ b o, s.heap.get? b = some o → P.get? b = some o := fun b o e => by rw [← hP]; exact Heap.get?_push_of_some _ e
  show _ ∧ _
  rw [hz]
  have he : IsEnum (P.push { cls := .type "enumerate", data := .fields #[.none, .bool false, .ref s.heap.objs.size, rawInt 0, .none, .none] }) (s.heap.objs.size + 1) s.heap.objs.size 0 .none := by
    have q := Heap.get?_push_size P (o := { cls := .type "enumerate", data := .fields #[.none, .bool false, .ref s.heap.objs.size, rawInt 0, .none, .none] }) rfl
    rw [hz] at q
    exact q
  exact ⟨⟨_, he, rfl⟩, h _ he ⟨_, Heap.get?_push_of_some _ hi, rfl, rfl⟩ (by rw [Heap.size_push, hz]) fun b o x => Heap.get?_push_of_some _ (hk b o x)⟩
end PySem
namespace Own
open PySem PySem.Spec PyProof.Rows L2
/-- the items of the tuple at a, each in a new pair behind its place -/
def Itet (K : PySem.W.Frag) (a : Addr) : It :=
  ⟨fun i H => ∃ (xs : List V) (x : V), SqT K H a xs ∧ xs[i]? = some x, fun i H v H' => ∃ T x, v = .ref T ∧ H T = none ∧ H' = upd H T (.tup [.int (i : Nat), x]) ∧ ∀ xs, SqT K H a xs → xs[i]? = some x, fun i H => ∃ xs : List V, SqT K H a xs ∧ xs.length ≤ i⟩
theorem turn_enumT {P : Program} {w : World} {K : PySem.W.Frag} {elts : List Expr} {kk : Nat} {tpos : Pos} (a e it : Addr) :
    Turn P w K (.Tuple elts kk tpos) (Itet K a) [e, it] e (fun i g => (∃ old, IsEnum g e it ((i : Nat) : Int) old) ∧ g.IsTupleIter it a i ∧ e ≠ it) where
  mem := by simp
  obj := fun i g st b hb => by
    obtain ⟨⟨old, he⟩, ⟨o, ho, hc, hd⟩, _⟩ := st
    rcases (show b = e ∨ b = it by simpa using hb) with z | z
    · rw [z]; exact ⟨_, he, fun v q => nomatch q⟩
    · rw [z]; exact ⟨o, ho, fun v q => by rw [hd] at q; cases q⟩
  keep := fun i g g' st k => let ⟨⟨old, he⟩, hi, hne⟩ := st; ⟨⟨old, k e (by simp) _ he⟩, hi.at fun o q => k it (by simp) o q, hne⟩
  item := by
    intro X hP hw hK hc i pins s σ H E I hf st hg
    subst hP hw hK
    obtain ⟨⟨old, he⟩, hit, hne⟩ := st
    obtain ⟨xs, x, hq, hx⟩ := hg
    obtain ⟨its, rv, p, hz⟩ := I.tuple hq
    obtain ⟨u, hu, ru⟩ := rv.get hx
    have ht : s.heap.IsTuple a its.toArray := p
    have hel : e < s.heap.objs.size := Heap.lt_size he
    have hil : it < s.heap.objs.size := by obtain ⟨_, q, _⟩ := hit; exact Heap.lt_size q
    have nea : a ≠ it := fun z => by
      obtain ⟨o, e1, c1, _⟩ := hit
      obtain ⟨o2, e2, c2, _⟩ := ht
      rw [z, e1] at e2; cases e2
      rw [c1] at c2
      exact absurd (Value.type.inj c2) (by decide)
    have nee : e ∉ [it, a] := fun z => by
      rcases (show e = it ∨ e = a by simpa using z) with z | z
      · exact hne z
      · obtain ⟨o2, e2, c2, _⟩ := ht
        rw [← z, he] at e2; cases e2
        exact absurd (Value.type.inj c2) (by decide)
    have D := Draws.tuple (prog := X.prog) (w := X.w) (A := X.A.in1) (I.ok.hd hc) it a nea its.toArray
    have hlt : i < its.toArray.size := by
      have := (List.getElem?_eq_some_iff.mp hu).1
      simpa using this
    refine wpAny_pyNext_enum_itemD D he ⟨hit, ht⟩ hlt hne nee fun y h' tk hy ho hst hT hsz hk => ?_
    have ey : y = u := by
      have z : its.toArray[i]? = some u := by simpa using hu
      rw [z] at hy
      exact (Option.some.inj hy).symm
    subst ey
    refine ⟨_, rfl, wpAny_letOwnedTupleGo_enum (s := { s with heap := h', toks := tk + 1 }) ho fun h'' he' sb => ?_⟩
    have hT2 : h''.get? s.heap.objs.size = some { cls := .type "tuple", data := .seq #[.int i tk, y] } := (sb.2 _ (Nat.ne_of_gt hel)).trans hT
    have new : ObjOk X.prog X.w (upd H s.heap.objs.size (.tup [.int (i : Nat), x])) h'' s.heap.objs.size (.tup [.int (i : Nat), x]) :=
      ⟨by show 2 ≤ sizeLine; decide, [.int i tk, y], .cons ⟨_, rfl⟩ (.cons ru .nil), ⟨_, hT2, rfl, _, rfl⟩⟩
    have I1 : Inv X pins σ (upd H s.heap.objs.size (.tup [.int (i : Nat), x])) { s with heap := h'', toks := tk + 1 } :=
      I.turnedNew (ch := [e, it]) (fun b ob hb q => (sb.2 b (fun z => hb (by simp [z]))).trans (hk b ob (fun z => hb (by simp [z])) (fun z => hb (by simp [z])) q)) hf (Nat.le_refl _) new
    refine ⟨.ref s.heap.objs.size, _, I1, rfl, ⟨_, x, rfl, I.hok.fresh (Nat.le_refl _), rfl, fun ys hy2 => by rw [I.tuple_inj hy2 hq]; exact hx⟩, ⟨⟨y, ?_⟩, hst.1.at fun o q => (sb.2 it (Ne.symm hne)).trans q, hne⟩, fun b hb => ?_⟩
    · rw [show ((i + 1 : Nat) : Int) = (i : Int) + 1 by omega]
      exact he'
    · have hb' : b < s.heap.objs.size := by
        rcases (show b = e ∨ b = it by simpa using hb) with z | z
        · rw [z]; exact hel
        · rw [z]; exact hil
      rw [upd_ne (Nat.ne_of_lt hb')]
      exact (hf b hb).1
  done := by
    intro X hP hw hK hc i pins s σ H E I hf st hg
    subst hP hw hK
    obtain ⟨⟨old, he⟩, hit, hne⟩ := st
    obtain ⟨xs, hq, hx⟩ := hg
    obtain ⟨its, rv, p, hz⟩ := I.tuple hq
    obtain ⟨f0, f1, f2, f3, f4, f5⟩ := hf it (by simp)
    have hl := rv.length
    have ht : s.heap.IsTuple a its.toArray := p
    have hT : s.TypeIs (.ref e) "enumerate" := ⟨_, he, rfl⟩
    unfold pyNext
    refine wpAny_bind (wpAny_attempt (wpAny_callSpecial?_slot (name := Str.ofString "__next__") hT F.slot_enumerate_next
      (wpAny_call_entry F.slot_enumerate_next hT F.entry_enumerate_next ?_ (F.args_enumerate_next_1 _))))
    show wpAny _ _ (field (.ref e) 2 >>= _) _ _ _
    refine wpAny_bind (wpAny_field he rfl (x := .ref it) rfl ?_)
    refine wpAny_bind (wpAny_nextOf_tuple_end (I.ok.hd hc) hit ht (by simp; omega) fun h' x he' hx' => ?_)
    obtain ⟨o, ho, hcl⟩ := hx'
    refine wpAny_bind (wpAny_isInstance (T := "StopIteration") (b := true) ⟨o, ho, hcl⟩ isSubtype_stop ?_)
    exact wpAny_pure ⟨rfl, I.turned (t' := s.toks) (fun b o hb q => he' b o hb q) f0 f1 f3 f4 f5⟩
  self := fun A i s Q E st h => let ⟨⟨_, he⟩, _⟩ := st; wpAny_pyIter_enum he h
/-- enumerate of a list or a tuple -/
def iEnumB (K : PySem.W.Frag) (ta : TA) : TI := fun σ H R => ta σ H fun vs H1 => ∃ a xs, vs = [.ref a] ∧ ((SqL K H1 a xs ∧ R (Ite K a) H1) ∨ (SqT K H1 a xs ∧ R (Itet K a) H1))
theorem pi_enumB {X : Cx} {e : Expr} {ta : TA} {p pos tpos : Pos} {elts : List Expr} {kk : Nat} (hg : Gl X "enumerate") (hm : X.mg "enumerate" = none) (ha : PA X [e] ta) (hs : starEach [e] X.env = [(false, eval e X.env)] := by rfl) :
    PI X (.Tuple elts kk tpos) (.Call (.Name "enumerate" p) [e] [] pos) (iEnumB X.K ta) := by
  constructor
  intro pins s σ H R I h
  refine Call_ (ld_blt I hg hm boot_enumerate (PyProof.Rows.callWith_type1 (thn (ha.run pos pins s σ H _ I h) fun us s1 ⟨vs, H1, I1, r1, q1⟩ => ?_) hs rfl))
  obtain ⟨a, xs, ex, q⟩ := q1
  subst ex
  obtain ⟨v, rfl, rv⟩ := vals1 r1
  cases rv
  have fresh : ∀ b ∈ [s1.heap.objs.size + 1, s1.heap.objs.size], FpOk X pins H1 b := fun b hb => by
    have hle : s1.heap.objs.size ≤ b := by
      rcases (show b = s1.heap.objs.size + 1 ∨ b = s1.heap.objs.size by simpa using hb) with z | z
      · rw [z]; exact Nat.le_add_right _ _
      · rw [z]; exact Nat.le_refl _
    exact I1.fpOk hle (I1.hok.fresh hle)
  rcases q with ⟨hq, q⟩ | ⟨hq, q⟩
  · obtain ⟨its, rv, p', hz⟩ := I1.list hq
    refine call_enumerate_list p'.isList fun h' he hit hsz hk => wpAny_pyIter_enum he ?_
    exact ⟨s1.heap.objs.size + 1, [s1.heap.objs.size + 1, s1.heap.objs.size], _, _, H1, rfl, I1.kept (t' := s1.toks) hk, turn_enum a (s1.heap.objs.size + 1) s1.heap.objs.size, ⟨⟨.none, he⟩, hit, Nat.succ_ne_self _⟩, fresh, q⟩
  · obtain ⟨its, rv, p', hz⟩ := I1.tuple hq
    refine call_enum_tup (show s1.heap.IsTuple a its.toArray from p') fun h' he hit hsz hk => wpAny_pyIter_enum he ?_
    exact ⟨s1.heap.objs.size + 1, [s1.heap.objs.size + 1, s1.heap.objs.size], _, _, H1, rfl, I1.kept (t' := s1.toks) hk, turn_enumT a (s1.heap.objs.size + 1) s1.heap.objs.size, ⟨⟨.none, he⟩, hit, Nat.succ_ne_self _⟩, fresh, q⟩
end Own

namespace Own
open PySem PySem.Spec PyProof.Rows L2
/-- a letter of a row -/
abbrev Lt := Str × Int
abbrev lv (d : Lt) : List V := [.str d.1, .int d.2]
theorem call_tupK {X : Cx} {K : PySem.W.Frag} (h : X.K = K) : CallR X (.type "tuple") (rTupOf K) := by
  subst h
  exact call_tuple_of
/-- deeds that stand in lists or tuples -/
def LtH (H : Hp) (vs : List V) (ds : List Lt) : Prop := vs.length = ds.length ∧ ∀ (i : Nat) (d : Lt), ds[i]? = some d → ∃ b, vs[i]? = some (.ref b) ∧ SqH H b (lv d)
/-- deeds that stand in tuples -/
def LtT (H : Hp) (vs : List V) (ds : List Lt) : Prop := vs.length = ds.length ∧ ∀ (i : Nat) (d : Lt), ds[i]? = some d → ∃ b, vs[i]? = some (.ref b) ∧ H b = some (.tup (lv d))
theorem LtT.h {H : Hp} {vs : List V} {ds : List Lt} (h : LtT H vs ds) : LtH H vs ds := ⟨h.1, fun i d e => let ⟨b, x, y⟩ := h.2 i d e; ⟨b, x, .inr y⟩⟩
theorem LtH.same {H H' : Hp} {vs : List V} {ds : List Lt} (s : Same H H') (h : LtH H vs ds) : LtH H' vs ds := ⟨h.1, fun i d e => let ⟨b, x, y⟩ := h.2 i d e; ⟨b, x, y.same s⟩⟩
theorem LtT.same {H H' : Hp} {vs : List V} {ds : List Lt} (s : Same H H') (h : LtT H vs ds) : LtT H' vs ds := ⟨h.1, fun i d e => let ⟨b, x, y⟩ := h.2 i d e; ⟨b, x, s _ _ y⟩⟩
theorem LtT.nil {H : Hp} : LtT H [] [] := ⟨rfl, fun i d e => by simp at e⟩
theorem LtT.snoc {H : Hp} {vs : List V} {ds : List Lt} {b : Addr} {d : Lt} (h : LtT H vs ds) (e : H b = some (.tup (lv d))) : LtT H (vs ++ [.ref b]) (ds ++ [d]) := by
  refine ⟨by rw [List.length_append, List.length_append, h.1]; rfl, fun i u hu => ?_⟩
  by_cases hi : i < ds.length
  · rw [List.getElem?_append_left hi] at hu
    obtain ⟨c, e1, e2⟩ := h.2 i u hu
    exact ⟨c, by rw [List.getElem?_append_left (by rw [h.1]; exact hi)]; exact e1, e2⟩
  · rw [List.getElem?_append_right (by omega)] at hu
    have hi2 : i - ds.length = 0 := by
      cases hk : i - ds.length with
      | zero => rfl
      | succ k => rw [hk] at hu; simp at hu
    rw [hi2] at hu
    obtain rfl : d = u := Option.some.inj hu
    exact ⟨b, by rw [List.getElem?_append_right (by rw [h.1]; omega), h.1, hi2]; rfl, e⟩
theorem LtH.at_ {H : Hp} {vs : List V} {ds : List Lt} (h : LtH H vs ds) {i : Nat} {x : V} (e : vs[i]? = some x) : ∃ b d, x = .ref b ∧ ds[i]? = some d ∧ SqH H b (lv d) := by
  have hi : i < ds.length := by
    rw [← h.1]
    exact (List.getElem?_eq_some_iff.mp e).1
  obtain ⟨b, e1, e2⟩ := h.2 i ds[i] (List.getElem?_eq_getElem hi)
  rw [e] at e1
  exact ⟨b, ds[i], Option.some.inj e1, List.getElem?_eq_getElem hi, e2⟩
theorem walk_enumT {K : PySem.W.Frag} {a : Addr} {xs : List V} : Walk (Itet K a) xs.length (fun H => SqT K H a xs) (YPair (fun i => some (.int (i : Nat))) (fun i => xs[i]?)) where
  goes := fun i H hi h => ⟨xs, xs[i], h, List.getElem?_eq_getElem hi⟩
  stops := fun H h => ⟨xs, h, Nat.le_refl _⟩
  yields := fun i H v H' hi h y => by
    obtain ⟨T, x, e, nT, eH, hx⟩ := y
    exact ⟨T, _, x, e, nT, eH, rfl, hx xs h⟩
/-! ### walks over a list or a tuple, both at once -/
abbrev ForR (g : TG) (tb : TS) (D : Ends) (σ : L2.St) (J : It) (H1 : Hp) : Prop := ∃ W : Nat → Nat → L2.St → Hp → Prop, (∃ m, W 0 m σ H1) ∧ ∀ i m σ H, W i m σ H →
  (J.stop i H ∧ D.nx σ H) ∨ (J.go i H ∧ ∃ N : L2.St → Hp → Prop, (∀ σ' H', N σ' H' → ∃ m', m' < m ∧ W (i + 1) m' σ' H') ∧ ∀ x H', J.yld i H x H' → g x σ H' fun σ2 H2 => tb { D with nx := N, ct := N, bk := D.nx } σ2 H2)
theorem for_enumB {K : PySem.W.Frag} {a : Addr} {xs : List V} {g : TG} {tb : TS} {D : Ends} {σ : L2.St} {H : Hp} (hs : SqH H a xs) (Pv : Nat → L2.St → Hp → Prop) (h0 : Pv 0 σ H) (hk : ∀ i σ' H', Pv i σ' H' → ∀ o, H a = some o → H' a = some o)
    (turn : ∀ i x σ H1 H2, i < xs.length → Pv i σ H1 → YPair (fun i => some (.int (i : Nat))) (fun i => xs[i]?) i H1 x H2 → g x σ H2 fun σ2 H3 => tb { D with nx := Pv (i + 1), ct := Pv (i + 1), bk := D.nx } σ2 H3) (hd : ∀ σ H, Pv xs.length σ H → D.nx σ H) :
    ∃ (a' : Addr) (xs' : List V), [V.ref a] = [V.ref a'] ∧ ((SqL K H a' xs' ∧ ForR g tb D σ (Ite K a') H) ∨ (SqT K H a' xs' ∧ ForR g tb D σ (Itet K a') H)) := by
  refine ⟨a, xs, rfl, ?_⟩
  rcases hs with e | e
  · exact .inl ⟨.inl (.inl e), for_it walk_enum Pv h0 (fun i σ H' _ pv => .inl (.inl (hk i σ H' pv _ e))) turn hd⟩
  · exact .inr ⟨.inl (.inl e), for_it walk_enumT Pv h0 (fun i σ H' _ pv => .inl (.inl (hk i σ H' pv _ e))) turn hd⟩
abbrev LcR (g : TG) (tt : TT) (te : TE) (vs : List Nat) (σ : L2.St) (Qd : Addr → Hp → Prop) (J : It) (H1 : Hp) : Prop := ∀ D, H1 D = none → ∃ W : Nat → Nat → Hp → Prop, (∃ m, W 0 m (upd H1 D (.lst []))) ∧ ∀ i m H, W i m H →
  (J.stop i H ∧ Qd D H) ∨ (J.go i H ∧ ∃ N : Hp → Prop, (∀ H', N H' → ∃ m', m' < m ∧ W (i + 1) m' H') ∧ ∀ x H', J.yld i H x H' → g x (wipe σ vs) H' fun σ2 H2 => wipe σ2 vs = wipe σ vs ∧ tt σ2 H2 fun b H3 =>
    if b = true then te σ2 H3 fun y H4 => ∃ acc, H4 D = some (.lst acc) ∧ acc.length < sizeLine ∧ N (upd H4 D (.lst (acc ++ [y]))) else N H3)
theorem lc_seqB {K : PySem.W.Frag} {a : Addr} {xs : List V} {g : TG} {tt : TT} {te : TE} {vs : List Nat} {σ : L2.St} {H : Hp} {Qd : Addr → Hp → Prop} (hs : SqH H a xs) (Pv : Addr → Nat → Hp → Prop) (h0 : ∀ D, H D = none → Pv D 0 (upd H D (.lst []))) (hk : ∀ D i H', H D = none → Pv D i H' → ∀ o, H a = some o → H' a = some o)
    (turn : ∀ D i x H', H D = none → xs[i]? = some x → Pv D i H' → g x (wipe σ vs) H' fun σ2 H2 => wipe σ2 vs = wipe σ vs ∧ tt σ2 H2 fun b H3 =>
      if b = true then te σ2 H3 fun y H4 => ∃ acc, H4 D = some (.lst acc) ∧ acc.length < sizeLine ∧ Pv D (i + 1) (upd H4 D (.lst (acc ++ [y]))) else Pv D (i + 1) H3) (hd : ∀ D H', H D = none → Pv D xs.length H' → Qd D H') :
    ∃ a', V.ref a = V.ref a' ∧ (((∃ xs, SqL K H a' xs) ∧ LcR g tt te vs σ Qd (Itl K a') H) ∨ ((∃ xs, SqT K H a' xs) ∧ LcR g tt te vs σ Qd (Itt K a') H)) := by
  refine ⟨a, rfl, ?_⟩
  rcases hs with e | e
  · exact .inl ⟨⟨_, .inl (.inl e)⟩, fun D nD => lc_list (K := K) (a := a) (xs := xs) (Pv D) (h0 D nD) (fun i H' _ pv => .inl (.inl (hk D i H' nD pv _ e))) (fun i x H' hx pv => turn D i x H' nD hx pv) (fun H' pv => hd D H' nD pv)⟩
  · exact .inr ⟨⟨_, .inl (.inl e)⟩, fun D nD => lc_tup (K := K) (a := a) (xs := xs) (Pv D) (h0 D nD) (fun i H' _ pv => .inl (.inl (hk D i H' nD pv _ e))) (fun i x H' hx pv => turn D i x H' nD hx pv) (fun H' pv => hd D H' nD pv)⟩
/-! ### letters of rows -/
def CHG : List (Str × Int) := [("cross", 0), ("cup", 2), ("cap", -2)]
/-- a letter: a word of the three -/
def GoodR (d : Lt) : Prop := (valN CHG d.1).isSome = true
def chgR (w : Str) : Int := (valN CHG w).getD 0
/-- may the letter stand where L lanes are? -/
def okR (L : Int) (d : Lt) : Bool := decide (0 ≤ d.2 ∧ d.2 < (if d.1 = "cup" then L + 1 else L - 1))
def endR (t : Int) (ds : List Lt) : Int := ds.foldl (fun L d => L + chgR d.1) t
theorem endR_snoc (t : Int) (ds : List Lt) (d : Lt) : endR t (ds ++ [d]) = endR t ds + chgR d.1 := by
  unfold endR
  rw [List.foldl_append]
  rfl
/-- the lanes along the row -/
def lanesR (t : Int) (ds : List Lt) : List Int := (List.range (ds.length + 1)).map fun i => endR t (ds.take i)
theorem lanesR_nil (t : Int) : lanesR t [] = [t] := rfl
theorem lanesR_snoc (t : Int) (ds : List Lt) (d : Lt) : lanesR t (ds ++ [d]) = lanesR t ds ++ [endR t ds + chgR d.1] := by
  unfold lanesR
  rw [List.length_append, show ds.length + [d].length + 1 = (ds.length + 1) + 1 from rfl, List.range_succ, List.map_append]
  congr 1
  · refine List.map_congr_left fun i hi => ?_
    have := List.mem_range.mp hi
    rw [List.take_append_of_le_length (by omega)]
  · show [endR t ((ds ++ [d]).take (ds.length + 1))] = _
    rw [List.take_of_length_le (by rw [List.length_append]; exact Nat.le_refl _), endR_snoc]
theorem lanesR_len (t : Int) (ds : List Lt) : (lanesR t ds).length = ds.length + 1 := by
  unfold lanesR
  rw [List.length_map, List.length_range]
theorem lanesR_last (t : Int) (ds : List Lt) : (lanesR t ds)[ds.length]? = some (endR t ds) := by
  unfold lanesR
  rw [List.getElem?_map, List.getElem?_range (Nat.lt_succ_self _)]
  show some (endR t (ds.take ds.length)) = _
  rw [List.take_length]
theorem lanes_at (t : Int) (ds : List Lt) : atI ((lanesR t ds).map V.int) (-1) = some (.int (endR t ds)) := by
  have li : ((lanesR t ds).map V.int).length = ds.length + 1 := by rw [List.length_map, lanesR_len]
  have ix : ixN ((lanesR t ds).map V.int).length (-1) = some ds.length := by
    rw [li]
    unfold ixN
    rw [if_neg (by decide), if_pos (by omega)]
    congr 1
    omega
  unfold atI
  rw [ix]
  show ((lanesR t ds).map V.int)[ds.length]? = _
  rw [List.getElem?_map, lanesR_last]
  rfl
/-- all letters may stand -/
def AllR (t : Int) (ds : List Lt) : Prop := ∀ i d, ds[i]? = some d → okR (endR t (ds.take i)) d = true
def rowF (t : Int) (a b : Addr) : List (Str × V) := putF "letters" (.ref b) (putF "_lanes" (.ref a) (putF "top" (.int t) []))
theorem look_top (t : Int) (a b : Addr) : (rowF t a b).lookup ("top" : Str) = some (.int t) := by
  unfold rowF
  rw [lookup_putF, if_neg (by decide +kernel), lookup_putF, if_neg (by decide +kernel), lookup_putF, if_pos rfl]
theorem look_lanes (t : Int) (a b : Addr) : (rowF t a b).lookup ("_lanes" : Str) = some (.ref a) := by
  unfold rowF
  rw [lookup_putF, if_neg (by decide +kernel), lookup_putF, if_pos rfl]
theorem look_letters (t : Int) (a b : Addr) : (rowF t a b).lookup ("letters" : Str) = some (.ref b) := by
  unfold rowF
  rw [lookup_putF, if_pos rfl]
def RowAt (C : Addr) (H : Hp) (x : Addr) (t : Int) (ds : List Lt) : Prop := ∃ dx a b vs, H x = some (.ins C dx (rowF t a b)) ∧ H a = some (.tup ((lanesR t ds).map V.int)) ∧ H b = some (.tup vs) ∧ LtT H vs ds
theorem RowAt.same {C : Addr} {H H' : Hp} {x : Addr} {t : Int} {ds : List Lt} (s : Same H H') (h : RowAt C H x t ds) : RowAt C H' x t ds := let ⟨dx, a, b, vs, e, f, g, k⟩ := h; ⟨dx, a, b, vs, s _ _ e, s _ _ f, s _ _ g, k.same s⟩
/-- what must be known of Row -/
structure RowC (K : PySem.W.Frag) (mg : Str → Option Value) (C : Addr) : Prop where
  cl : Cls K C
  nT : NoAttr K C "top"
  nA : NoAttr K C "_lanes"
  nL : NoAttr K C "letters"
  g : mg "Row" = some (.ref C)
abbrev FIR (K : PySem.W.Frag) (z : Addr) (f : Addr) (fd : FuncData) : Prop := FunD K "__init__" "Row.__init__" (defArgs s_Row_init) (defBody s_Row_init) (defScope s_Row_init) [.ref z] [] f fd
section
variable {P : Program} {w : World} {K : PySem.W.Frag} {mg : Str → Option Value} {base : Heap} {C dN : Addr}
def spLetter : Sp := fun vs H Q _ => ∃ (b : Addr) (d : Lt) (L : Int), vs = [.ref b, .int L] ∧ SqH H b (lv d) ∧ GoodR d ∧ okR L d = true ∧ ∀ H', Same H H' → Q (.bl true) H'
theorem ok_letter {f : Addr} {fd : FuncData} (F : Fun K "is_letter" "is_letter" s_is_letter f fd) (T : Bi mg) (gN : mg "CHANGES" = some (.ref dN)) (TN : KTab K w dN CHG) {f_q : Addr} {d_q : FuncData} (D_q : Df K mg "is_sequence" s_is_sequence ["value"] f_q d_q) (G_q : FnOk P w K mg base CX0 1 f_q d_q ["value"] spSeqB) {f_b : Addr} {d_b : FuncData} (D_b : Df K mg "is_below" s_is_below ["value", "bound"] f_b d_b) (G_b : FnOk P w K mg base CX0 2 f_b d_b ["value", "bound"] spBelow) : FnOk P w K mg base CX0 3 f fd ["letter", "lanes"] spLetter := by
  refine F.ok sc_is_letter (fun vs H Q E h => ?_) (fun cdv A outer s H vs Q E hr h => ?_)
  · obtain ⟨b, d, L, rfl, _⟩ := h
    rfl
  · obtain ⟨b, d, L, rfl, hb, hg, ho, q⟩ := h
    refine ⟨_, (pss_cons (ps_if (PW.pt (pw_or (pt_not (pt_val (pe_call G_q (hr.mono (by decide)) (by rfl) D_q.g D_q.F.kp D_q.b .nil pass0 (pa_cons (pv 0) pa_nil)))) (pw_or (pt_cmpR op_ne (pe_callB call_len_seq (by rfl) T.b_len PySem.boot_len (pa_cons (pv 0) pa_nil)) pe_int (nomark _)) (pw_or (pt_not (pt_val (pe_callB call_isi (by rfl) T.b_isinstance (by decide +kernel) (pa_cons (pe_ix (r := rIxB K) ix_seqB (pv 0) pe_int (fun _ _ => rfl)) (pa_cons (pe_bltn (v := .ty "str") (by rfl) T.b_str (by decide +kernel) rfl) pa_nil))))) (pw_or1 (pt_cmp (pc_knotin (pe_ix (r := rIxB K) ix_seqB (pv 0) pe_int (fun _ _ => rfl)) (pe_glob (v := .ref dN) (by rfl) gN rfl)))))))) (pss_one (ps_ret pe_bl)) pss_nil)
        (pss_one (ps_ret (pe_call G_b (hr.mono (by decide)) (by rfl) D_b.g D_b.F.kp D_b.b .nil pass0 (pa_cons (pe_ix (r := rIxB K) ix_seqB (pv 0) pe_int (fun _ _ => rfl)) (pa_cons (pe_ifExp (pt_cmpR op_eq (pe_ix (r := rIxB K) ix_seqB (pv 0) pe_int (fun _ _ => rfl)) pe_str (nomark _)) (pe_op op_add (pv 1) pe_int) (pe_op op_sub (pv 1) pe_int)) pa_nil)))))), ?_⟩
    refine ⟨_, rfl, b, _, rfl, hb, fun H1 s1 => ⟨true, rfl, ?_⟩⟩
    have hb1 : SqB K H1 b [.str d.1, .int d.2] := (hb.same s1).b
    have ob := of_decide_eq_true ho
    refine ⟨_, rfl, b, _, rfl, hb1, rfl, _, rfl, ?_⟩
    refine ⟨_, rfl, b, _, _, _, rfl, rfl, hb1, at_of (j := 0) rfl rfl, _, _, _, _, true, rfl, .ty "str", .base (.str _), kit_ty (by decide +kernel), true, rfl, ?_⟩
    refine ⟨_, rfl, b, _, _, _, rfl, rfl, hb1, at_of (j := 0) rfl rfl, dN, CHG, d.1, rfl, rfl, TN, _, rfl, ?_⟩
    rw [hg]
    refine ⟨_, rfl, b, _, _, _, rfl, rfl, hb1, at_of (j := 1) rfl rfl, _, rfl, b, _, _, _, rfl, rfl, hb1, at_of (j := 0) rfl rfl, rfl, _, rfl, ?_⟩
    by_cases hc : d.1 = "cup"
    · rw [if_pos hc] at ob
      rw [show decide (V.str d.1 = V.str (Str.ofString "cup")) = true from decide_eq_true (congrArg V.str hc)]
      exact ⟨_, rfl, _, _, rfl, rfl, d.2, L + 1, rfl, ob.1, ob.2, q H1 s1⟩
    · rw [if_neg hc] at ob
      rw [show decide (V.str d.1 = V.str (Str.ofString "cup")) = false from decide_eq_false fun z => hc (V.str.inj z)]
      exact ⟨_, rfl, _, _, rfl, rfl, d.2, L - 1, rfl, ob.1, ob.2, q H1 s1⟩

def spLanes : Sp := fun vs H Q _ => ∃ (t : Int) (a : Addr) (xs : List V) (ds : List Lt), vs = [.int t, .ref a] ∧ SqH H a xs ∧ LtH H xs ds ∧ (∀ d ∈ ds, GoodR d) ∧ AllR t ds ∧ ds.length ≤ 900 ∧
  ∀ H' p, Same H H' → H' p = some (.tup ((lanesR t ds).map V.int)) → Q (.ref p) H'
set_option maxHeartbeats 1000000 in
theorem ok_lanes {f : Addr} {fd : FuncData} (F : Fun K "lanes_along" "lanes_along" s_lanes_along f fd) (T : Bi mg) (TE : BiX mg) (gN : mg "CHANGES" = some (.ref dN)) (TN : KTab K w dN CHG) {f_l : Addr} {d_l : FuncData} (D_l : Df K mg "is_letter" s_is_letter ["letter", "lanes"] f_l d_l) (G_l : FnOk P w K mg base CX0 3 f_l d_l ["letter", "lanes"] spLetter) : FnOk P w K mg base CX0 4 f fd ["top", "letters"] spLanes := by
  refine F.ok sc_lanes_along (fun vs H Q E h => ?_) (fun cdv A outer s H vs Q E hr h => ?_)
  · obtain ⟨t, a, xs, ds, rfl, _⟩ := h
    rfl
  · obtain ⟨t, a, xs, ds, rfl, hs, hd, hg, al, hl, q⟩ := h
    refine ⟨_, (pss_cons (ps_set (i := 2) sc_lanes_along.nd rfl (.inl rfl) (pe_lst (pa_cons (pv 0) pa_nil)))
        (pss_cons (ps_for PassesOwn.never rfl (pi_enumB (by rfl) TE.b_enumerate (pa_cons (pv 1) pa_nil)) (pg_tup (by rfl) (pgs_cons (pg_name (i := 3) sc_lanes_along.nd rfl (.inl rfl)) (pgs_cons (pg_name (i := 4) sc_lanes_along.nd rfl (.inl rfl)) pgs_nil)))
        (pss_cons (ps_if (pt_not (pt_val (pe_call G_l (hr.mono (by decide)) (by rfl) D_l.g D_l.F.kp D_l.b .nil pass0 (pa_cons (pv 4) (pa_cons (pe_ix (r := rIxL K) ix_list (pv 2) (pe_un un_neg pe_int) (fun _ _ => rfl)) pa_nil))))) (pss_one ps_never) pss_nil)
        (pss_one (ps_expr (pe_bm PySem.F.plainAttrs_list PySem.F.slot_list_append PySem.F.type_list_append mt_append (pv 2) (pa_cons (pe_op op_add (pe_ix (r := rIxL K) ix_list (pv 2) (pe_un un_neg pe_int) (fun _ _ => rfl)) (pe_ix (r := rIxD K w) ix_kdict (pe_glob (v := .ref dN) (by rfl) gN rfl) (pe_ix (r := rIxB K) ix_seqB (pv 4) pe_int (fun _ _ => rfl)) (fun _ _ => rfl))) pa_nil))))))
        (pss_one (ps_ret (pe_callTy call_tuple_of (by rfl) T.b_tuple (by decide +kernel) (pa_cons (pv 2) pa_nil)))))), ?_⟩
    refine ⟨_, rfl, by show 1 ≤ sizeLine; decide, fun p np => ?_⟩
    have s1 := same_upd (o := .lst [.int t]) np
    have hs1 := hs.same s1
    have lx : xs.length ≤ 900 := by rw [hd.1]; exact hl
    have hap : a ≠ p := fun z => by rcases hs with e | e <;> (rw [z, np] at e; cases e)
    refine ⟨_, rfl, for_enumB hs1 (fun i σ H' => (∃ y3 y4, σ = [some (.int t), some (.ref a), some (.ref p), y3, y4]) ∧ LcI H p ((lanesR t (ds.take i)).map V.int) H') ⟨⟨none, none, rfl⟩, ⟨H, Same.refl _, np, rfl⟩⟩ (fun i σ H' pv => ?_) (fun i x σ H1 H2 hi pv y => ?_) (fun σ H' pv => ?_)⟩
    · intro o ho
      rw [upd_ne hap] at ho
      exact pv.2.same _ _ ho
    · obtain ⟨⟨y3, y4, rfl⟩, L1⟩ := pv
      obtain ⟨T', x, y, rfl, nT, rfl, ex, ey⟩ := y
      obtain rfl : V.int (i : Nat) = x := Option.some.inj ex
      have s2 : Same H1 (upd H1 T' (.tup [.int (i : Nat), y])) := same_upd nT
      have s02 := L1.same.trans s2
      obtain ⟨b, d, rfl, hdi, hb⟩ := (hd.same s02).at_ ey
      have gd := hg d (List.mem_of_getElem? hdi)
      have L2' := L1.keep np s2
      have ep2 := L2'.at_
      refine ⟨T', _, rfl, .inl (.inl upd_same), rfl, _, _, rfl, _, _, rfl, rfl, ?_⟩
      refine ⟨_, rfl, _, rfl, _, rfl, p, _, _, _, rfl, rfl, .inl (.inl ep2), lanes_at t (ds.take i), b, d, _, rfl, hb, gd, al i d hdi, fun H3 s3 => ⟨_, rfl, ?_⟩⟩
      have L3 := L2'.keep np s3
      have ep3 := L3.at_
      have hb3 := hb.same s3
      have hv : valN CHG d.1 = some (chgR d.1) := by
        unfold chgR
        cases e : valN CHG d.1 with
        | none => unfold GoodR at gd; rw [e] at gd; cases gd
        | some v => rfl
      refine ⟨_, rfl, .inl ⟨rfl, _, .inl (.inl ep3)⟩, _, rfl, _, rfl, p, _, _, _, rfl, rfl, .inl (.inl ep3), lanes_at t (ds.take i), _, rfl, b, _, _, _, rfl, rfl, hb3.b, at_of (j := 0) rfl rfl, dN, d.1, .int (chgR d.1), rfl, rfl, ktab_dct TN hv, _, _, rfl, rfl, p, _, _, rfl, rfl, ep3, ?_, ?_⟩
      · rw [List.length_map, lanesR_len, List.length_take]
        exact small1000 (by omega)
      · refine ⟨⟨_, _, rfl⟩, ?_⟩
        rw [List.take_add_one, hdi]
        show LcI H p ((lanesR t (ds.take i ++ [d])).map V.int) _
        rw [lanesR_snoc, List.map_append]
        exact L3.put np (Same.refl _)
    · obtain ⟨⟨y3, y4, rfl⟩, L1⟩ := pv
      rw [hd.1, List.take_length] at L1
      refine ⟨_, rfl, p, _, rfl, .inl ⟨.inl (.inl L1.at_), fun u nu => ?_⟩⟩
      exact q _ u (L1.same.trans (same_upd nu)) upd_same

def spRInit (C : Addr) : Sp := fun vs H Q _ => ∃ (p dx : Addr) (t : Int) (a : Addr) (xs : List V) (ds : List Lt) (H0 : Hp), vs = [.ref p, .int t, .ref a] ∧ H p = some (.ins C dx []) ∧ H0 p = none ∧ Same H0 H ∧ 0 ≤ t ∧ SqH H0 a xs ∧ LtH H0 xs ds ∧ (∀ d ∈ ds, GoodR d) ∧ AllR t ds ∧ ds.length ≤ 900 ∧
  ∀ H', Same H0 H' → RowAt C H' p t ds → Q .non H'
abbrev GRI (P : Program) (w : World) (K : PySem.W.Frag) (mg : Str → Option Value) (base : Heap) (C f : Addr) (d : FuncData) : Prop := FnOk P w K mg base CX0 5 f d ["self", "top", "letters"] (spRInit C)
set_option maxHeartbeats 1000000 in
theorem ok_rinit {f : Addr} {fd : FuncData} {z : Addr} (F : FIR K z f fd) (T : Bi mg) (L : RowC K mg C) {f_w : Addr} {d_w : FuncData} (D_w : Df K mg "is_whole" s_is_whole ["value"] f_w d_w) (G_w : FnOk P w K mg base CX0 1 f_w d_w ["value"] spWhole) {f_la : Addr} {d_la : FuncData} (D_la : Df K mg "lanes_along" s_lanes_along ["top", "letters"] f_la d_la) (G_la : FnOk P w K mg base CX0 4 f_la d_la ["top", "letters"] spLanes) : FnOk P w K mg base CX0 5 f fd ["self", "top", "letters"] (spRInit C) := by
  refine F.ok sc_Row_init (fun vs H Q E h => ?_) (fun cdv A outer s H vs Q E hr h => ?_)
  · obtain ⟨p, dx, t, a, xs, ds, H0, rfl, _⟩ := h
    rfl
  · obtain ⟨p, dx, t, a, xs, ds, H0, rfl, ep, np, s0, t0, hs0, hd0, hg, al, hl, q⟩ := h
    refine ⟨_, (pss_cons (ps_if (PW.pt (pw_or (pt_not (pt_val (pe_call G_w (hr.mono (by decide)) (by rfl) D_w.g D_w.F.kp D_w.b .nil pass0 (pa_cons (pv 1) pa_nil)))) (pw_or1 (pt_cmpR op_lt (pv 1) pe_int (nomark _))))) (pss_one ps_never) pss_nil)
        (pss_cons (ps_fld (pv 0) (pv 1) rfl)
        (pss_cons (ps_fld (pv 0) (pe_call G_la (hr.mono (by decide)) (by rfl) D_la.g D_la.F.kp D_la.b .nil pass0 (pa_cons (pv 1) (pa_cons (pv 2) pa_nil))) rfl)
        (pss_one (ps_fld (pv 0) (pe_callTy call_tuple_of (by rfl) T.b_tuple (by decide +kernel) (pa_cons (pe_lc (own := [("letter", 3)]) (g := gName 3) (tt := tYes) rfl sc_Row_init.nd (pi_seq (pv 2)) (blkOk_by (own := [("letter", 3)]) (N := ["self", "top", "letters", "letter"]) (sc := defScope s_Row_init) (by decide +kernel)) (fun _ _ _ _ _ => (pg_name (i := 3) sc_Row_init.nd rfl (.inl rfl))) (fun _ _ _ _ _ => pts_nil) (fun _ _ _ _ _ => (pe_callTy (call_tupK (K := K) rfl) (by rfl) T.b_tuple (by decide +kernel) (pa_cons (pv 3) pa_nil)))) pa_nil)) rfl))))), ?_⟩
    refine ⟨_, rfl, t, rfl, true, rfl, ?_⟩
    refine ⟨_, rfl, _, _, rfl, rfl, _, rfl, ite2 (fun c => absurd (of_decide_eq_true c) (by omega)) (fun c => ?_)⟩
    refine ⟨_, rfl, _, rfl, p, C, dx, [], rfl, ep, L.cl, L.nT, by show 0 < 1000; decide, ?_⟩
    have k1 : Same H0 (upd H p (.ins C dx (putF "top" (.int t) []))) := same_put (H1 := H) np s0
    have e1 : (upd H p (.ins C dx (putF "top" (.int t) []))) p = some (.ins C dx (putF "top" (.int t) [])) := upd_same
    generalize upd H p (.ins C dx (putF "top" (.int t) [])) = H1 at *
    refine ⟨_, rfl, _, rfl, t, a, xs, ds, rfl, hs0.same k1, hd0.same k1, hg, al, hl, fun H2 l s2 el => ?_⟩
    have k2 := k1.trans s2
    have e2 := s2 _ _ e1
    refine ⟨_, rfl, p, C, dx, _, rfl, e2, L.cl, L.nA, by show 1 < 1000; decide, ?_⟩
    have nlp : l ≠ p := fun z => by rw [z, e2] at el; cases el
    have k3 : Same H0 (upd H2 p (.ins C dx (putF "_lanes" (.ref l) (putF "top" (.int t) [])))) := same_put (H1 := H) np k2
    have e3 : (upd H2 p (.ins C dx (putF "_lanes" (.ref l) (putF "top" (.int t) [])))) p = some (.ins C dx (putF "_lanes" (.ref l) (putF "top" (.int t) []))) := upd_same
    have el3 : (upd H2 p (.ins C dx (putF "_lanes" (.ref l) (putF "top" (.int t) [])))) l = some (.tup ((lanesR t ds).map V.int)) := by
      rw [upd_ne nlp]
      exact el
    generalize upd H2 p (.ins C dx (putF "_lanes" (.ref l) (putF "top" (.int t) []))) = H3 at *
    have hs3 := hs0.same k3
    have hd3 := hd0.same k3
    have lx : xs.length ≤ 900 := by rw [hd0.1]; exact hl
    refine ⟨_, rfl, lc_seqB hs3 (fun M i H' => ∃ vs, LcI H3 M vs H' ∧ LtT H' vs (ds.take i) ∧ ∀ v ∈ vs, v ≠ .ref M) (fun M nM => ⟨[], LcI.start nM, .nil, fun v hv => nomatch hv⟩) (fun M i H' nM pv o ho => by obtain ⟨vs, L1, _⟩ := pv; exact L1.same _ _ ho) (fun M i x H' nM hx pv => ?_) (fun M H' nM pv => ?_)⟩
    · obtain ⟨vs, L1, tc, nr⟩ := pv
      obtain ⟨b, d, rfl, hdi, hb⟩ := (hd3.same L1.same).at_ hx
      have lvv : vs.length < sizeLine := by
        rw [tc.1, List.length_take]
        exact Nat.lt_of_le_of_lt (Nat.min_le_right _ _) (small1000 (by omega))
      have tk : ds.take (i + 1) = ds.take i ++ [d] := by rw [List.take_add_one, hdi]; rfl
      have fin : ∀ (H4 : Hp) (c : Addr), Same H' H4 → H4 c = some (.tup (lv d)) → ∃ acc, H4 M = some (.lst acc) ∧ acc.length < sizeLine ∧ ∃ vs', LcI H3 M vs' (upd H4 M (.lst (acc ++ [.ref c]))) ∧ LtT (upd H4 M (.lst (acc ++ [.ref c]))) vs' (ds.take (i + 1)) ∧ ∀ v ∈ vs', v ≠ .ref M := fun H4 c s4 ec => by
        have eM := s4 _ _ L1.at_
        have ncM : c ≠ M := fun z => by rw [z, eM] at ec; cases ec
        refine ⟨vs, eM, lvv, vs ++ [.ref c], L1.put nM s4, ?_, fun v hv => ?_⟩
        · rw [tk]
          have keep : LtT (upd H4 M (.lst (vs ++ [.ref c]))) vs (ds.take i) := ⟨tc.1, fun j u e => by
            obtain ⟨b', h1, h2⟩ := tc.2 j u e
            have nb : b' ≠ M := fun z => nr _ (List.mem_of_getElem? h1) (congrArg V.ref z)
            exact ⟨b', h1, by rw [upd_ne nb]; exact s4 _ _ h2⟩⟩
          exact keep.snoc (by rw [upd_ne ncM]; exact ec)
        · rcases List.mem_append.mp hv with hv | hv
          · exact nr v hv
          · rw [List.mem_singleton.mp hv]
            exact fun z => ncM (V.ref.inj z)
      refine ⟨rfl, ?_⟩
      rcases hb with e | e
      · exact ⟨_, rfl, b, _, rfl, .inl ⟨.inl (.inl e), fun l nl => fin _ l (same_upd nl) upd_same⟩⟩
      · exact ⟨_, rfl, b, _, rfl, .inr ⟨.inl (.inl e), fin _ b (Same.refl _) e⟩⟩
    · obtain ⟨vs, L1, tc, nr⟩ := pv
      rw [hd0.1, List.take_length] at tc
      refine ⟨M, vs, rfl, .inl ⟨.inl (.inl L1.at_), fun u nu => ?_⟩⟩
      have s4 := L1.same.trans (same_upd (o := .tup vs) nu)
      have e4 := s4 _ _ e3
      have el4 := s4 _ _ el3
      have tc4 := tc.same (same_upd (o := .tup vs) nu)
      have eu : upd H' u (.tup vs) u = some (.tup vs) := upd_same
      generalize upd H' u (.tup vs) = H4 at *
      refine ⟨_, rfl, p, C, dx, _, rfl, e4, L.cl, L.nL, by show 2 < 1000; decide, ?_⟩
      have k : ∀ b o, H4 b = some o → b ≠ p → (upd H4 p (.ins C dx (putF "letters" (.ref u) (putF "_lanes" (.ref l) (putF "top" (.int t) []))))) b = some o := fun b o e nb => by
        rw [upd_ne nb]
        exact e
      have nup : u ≠ p := fun z => by rw [z, e4] at eu; cases eu
      refine q _ (same_put (H1 := H) np (k3.trans s4)) ⟨dx, l, u, vs, upd_same, k _ _ el4 nlp, k _ _ eu nup, ⟨tc4.1, fun i d e => ?_⟩⟩
      obtain ⟨b, x, y⟩ := tc4.2 i d e
      refine ⟨b, x, k _ _ y fun z => ?_⟩
      rw [z, e4] at y
      cases y
def spBottom (C : Addr) : Sp := fun vs H Q _ => ∃ (p : Addr) (t : Int) (ds : List Lt), vs = [.ref p] ∧ RowAt C H p t ds ∧ Q (.int (endR t ds)) H
theorem ok_bottom {f : Addr} {fd : FuncData} (F : Fun K "bottom" "Row.bottom" s_Row_bottom f fd) (L : RowC K mg C) : FnOk P w K mg base CX0 1 f fd ["self"] (spBottom C) := by
  refine F.ok sc_Row_bottom (fun vs H Q E h => ?_) (fun cdv A outer s H vs Q E hr h => ?_)
  · obtain ⟨p, t, ds, rfl, _⟩ := h
    rfl
  · obtain ⟨p, t, ds, rfl, ⟨dx, a, b, vs, e, ea, eb, k⟩, q⟩ := h
    refine ⟨_, (pss_one (ps_ret (pe_ix (r := rIxT K) ix_tup (pe_fld (pv 0) rfl) (pe_un un_neg pe_int) (fun _ _ => rfl)))), ?_⟩
    exact ⟨_, rfl, p, C, dx, _, _, rfl, e, L.cl, L.nA, look_lanes _ _ _, _, rfl, a, _, _, _, rfl, rfl, .inl (.inl ea), lanes_at t ds, q⟩
end
/-- Row(t, a) -/
theorem rd_mkR {C : Addr} {t : Int} {a : Addr} {xs : List V} {ds : List Lt} {H : Hp} {R : VK} (t0 : 0 ≤ t) (hs : SqH H a xs) (hd : LtH H xs ds) (hg : ∀ d ∈ ds, GoodR d) (al : AllR t ds) (hl : ds.length ≤ 900) (q : ∀ H' x, Same H H' → RowAt C H' x t ds → R (.ref x) H') :
    ∀ x dx, H x = none → H dx = none → dx ≠ x → spRInit C (.ref x :: ([.int t, .ref a] ++ [])) (upd (upd H dx (.own x)) x (.ins C dx [])) (fun v H2 => v = .non ∧ R (.ref x) H2) E0 := fun x dx nx nd ne => by
  have s1 : Same H (upd H dx (.own x)) := same_upd nd
  have nx1 : (upd H dx (.own x)) x = none := by
    rw [upd_ne ne.symm]
    exact nx
  exact ⟨x, dx, t, a, xs, ds, H, rfl, upd_same, nx, s1.trans (same_upd nx1), t0, hs, hd, hg, al, hl, fun H' s r => ⟨rfl, q H' x s r⟩⟩
end Own

namespace Own
/-! ### the table along a row -/
def absI (x : Int) : Int := if x < 0 then -x else x
def strT (t i j : Int) : Int := if t = 0 then 0 else absI (spot t i - spot t j)
def srcG (n l k : Int) : Int := (k - 2 * (if n - l ≤ k then 1 else 0)).fmod (hi n 1)
def lefG (n l : Int) : Int := (n - 1 - l).fmod (hi n 1)
def rigG (n l : Int) : Int := (n - 2 - l - 1).fmod (hi n 1)
def cupT (n : Int) (T : Int → Int → Int) (l i j : Int) : Int :=
  if i = n - l ∧ j = n - l then 0 else if j = n - l then T (srcG n l i) (lefG n l) + 1 else if i = n - l then T (srcG n l j) (lefG n l) + 1 else T (srcG n l i) (srcG n l j)
def croT (n : Int) (T : Int → Int → Int) (l i j : Int) : Int :=
  if i = n - 2 - l ∧ j = n - 2 - l then 0 else if j = n - 2 - l then lo (T i (lefG n l)) (T i (rigG n l)) + 1 else if i = n - 2 - l then lo (T j (lefG n l)) (T j (rigG n l)) + 1 else T i j
def cpM (n : Int) (T : Int → Int → Int) (l i j : Int) : Int := mn3 (T i j) (T i (lefG n l) + T (rigG n l) j) (T i (rigG n l) + T (lefG n l) j)
def capT (n : Int) (T : Int → Int → Int) (l i j : Int) : Int := if n = 2 then 0 else cpM n T l (jnG (n - 2 - l) i) (jnG (n - 2 - l) j)
def stepT (n : Int) (T : Int → Int → Int) (d : Lt) : Int → Int → Int := if d.1 = "cup" then cupT n T d.2 else if d.1 = "cross" then croT n T d.2 else capT n T d.2
/-- the table of a row, letter by letter, with its pins -/
def rtP (t : Int) (ds : List Lt) : Int × (Int → Int → Int) := ds.foldl (fun p d => (p.1 + chgR d.1, stepT p.1 p.2 d)) (2 * t, strT t)
def RT (t : Int) (ds : List Lt) : Int → Int → Int := (rtP t ds).2
theorem rtP_pins (t : Int) (ds : List Lt) : (rtP t ds).1 = t + endR t ds := by
  unfold rtP endR
  have : ∀ (p : Int × (Int → Int → Int)) (L : Int), p.1 = t + L → (ds.foldl (fun p d => (p.1 + chgR d.1, stepT p.1 p.2 d)) p).1 = t + ds.foldl (fun L d => L + chgR d.1) L := by
    induction ds with
    | nil => intro p L h; exact h
    | cons d r ih => intro p L h; exact ih _ _ (by dsimp only; omega)
  exact this _ _ (by dsimp only; omega)
theorem RT_nil (t : Int) : RT t [] = strT t := rfl
theorem RT_snoc (t : Int) (ds : List Lt) (d : Lt) : RT t (ds ++ [d]) = stepT (t + endR t ds) (RT t ds) d := by
  rw [← rtP_pins]
  unfold RT rtP
  rw [List.foldl_append]
  rfl
/-- T is the table of M -/
def EqT (n : Int) (T U : Int → Int → Int) : Prop := ∀ i j, 0 ≤ i → i < hi n 1 → 0 ≤ j → j < hi n 1 → T i j = U i j
theorem str_eq {t : Int} (t0 : 0 ≤ t) : EqT (2 * t) (strT t) (tM (2 * t) (stM t)) := fun i j i0 i1 j0 j1 => by
  unfold strT
  by_cases c : t = 0
  · rw [if_pos c, c]
    rfl
  · have hh : hi (2 * t) 1 = 2 * t := by have := lo_hi (2 * t) 1; omega
    rw [hh] at i1 j1
    rw [if_neg c, st_tab i0 i1 j0 j1]
    rfl
theorem lef_eq {n l : Int} (l0 : 0 ≤ l) (l1 : l < n) : lefG n l = n - 1 - l := by
  unfold lefG
  have hh : hi n 1 = n := by have := lo_hi n 1; omega
  rw [hh]
  exact fmod_lo (by omega) (by omega)
section
variable {n : Int} {M : Int → Int} {T : Int → Int → Int} (h : Mat n M) (e : EqT n T (tM n M))
include h e
theorem tab_mod (n0 : 0 ≤ n) {i g : Int} (i0 : 0 ≤ i) (i1 : i < hi n 1) (g0 : -1 ≤ g) (g1 : g < hi n 1) : T i (g.fmod (hi n 1)) = tM n M i g := by
  have hp : 0 < hi n 1 := by have := lo_hi n 1; omega
  have f := fmod_in g hp
  rw [e i _ i0 i1 f.1 f.2, tM_mod h n0 g0 g1]
theorem cro_eq {l : Int} (l0 : 0 ≤ l) (l1 : l + 1 < n) : EqT n (croT n T l) (tM n (crM M (n - 2 - l))) := fun i j i0 i1 j0 j1 => by
  have hh : hi n 1 = n := by have := lo_hi n 1; omega
  have a0 : 0 ≤ n - 2 - l := by omega
  have a1 : n - 2 - l + 1 < n := by omega
  have near : ∀ k, 0 ≤ k → k < hi n 1 → k ≠ n - 2 - l → lo (T k (lefG n l)) (T k (rigG n l)) + 1 = tM n (crM M (n - 2 - l)) k (n - 2 - l) := fun k k0 k1 hk => by
    rw [cr_near h a0 a1 hk]
    unfold rigG
    rw [tab_mod h e (by omega) k0 k1 (by omega) (by omega), lef_eq l0 (by omega), e k _ k0 k1 (by omega) (by omega), show n - 1 - l = n - 2 - l + 1 by omega]
  unfold croT
  by_cases c1 : i = n - 2 - l
  · by_cases c2 : j = n - 2 - l
    · rw [if_pos ⟨c1, c2⟩, c1, c2, tM_same]
    · rw [if_neg fun z => c2 z.2, if_neg c2, if_pos c1, near j j0 j1 c2, c1, tM_comm]
  · by_cases c2 : j = n - 2 - l
    · rw [if_neg fun z => c1 z.1, if_pos c2, near i i0 i1 c1, c2]
    · rw [if_neg fun z => c1 z.1, if_neg c2, if_neg c1, cr_far h a0 a1 c1 c2, e i j i0 i1 j0 j1]
theorem cup_eq {l : Int} (l0 : 0 ≤ l) (l1 : l ≤ n) : EqT (n + 2) (cupT n T l) (tM (n + 2) (bgM M (n - l))) := fun i j i0 i1 j0 j1 => by
  have n0 : 0 ≤ n := by omega
  have hh2 : hi (n + 2) 1 = n + 2 := by have := lo_hi (n + 2) 1; omega
  have hh := lo_hi n 1
  rw [hh2] at i1 j1
  have f0 : 0 ≤ n - l := by omega
  have f1 : n - l ≤ n := by omega
  have sr : ∀ k, 0 ≤ k → k < n + 2 → k ≠ n - l → srcG n l k = (bgS (n - l) k).fmod (hi n 1) ∧ -1 ≤ bgS (n - l) k ∧ bgS (n - l) k < hi n 1 := fun k k0 k1 hk => by
    unfold srcG bgS
    by_cases c : k < n - l
    · rw [if_neg (by omega), if_pos c]
      exact ⟨by rw [show k - 2 * 0 = k by omega], by omega, by omega⟩
    · rw [if_pos (by omega), if_neg c]
      exact ⟨by rw [show k - 2 * 1 = k - 2 by omega], by omega, by omega⟩
  have hp : 0 < hi n 1 := by omega
  have gen : ∀ x y, -1 ≤ x → x < hi n 1 → -1 ≤ y → y < hi n 1 → T (x.fmod (hi n 1)) (y.fmod (hi n 1)) = tM n M x y := fun x y x0 x1 y0 y1 => by
    have fx := fmod_in x hp
    rw [tab_mod h e n0 fx.1 fx.2 y0 y1, tM_comm, tM_mod h n0 x0 x1, tM_comm]
  have near : ∀ k, 0 ≤ k → k < n + 2 → k ≠ n - l → T (srcG n l k) (lefG n l) + 1 = tM (n + 2) (bgM M (n - l)) k (n - l) := fun k k0 k1 hk => by
    obtain ⟨s1, s2, s3⟩ := sr k k0 k1 hk
    rw [bg_near h n0 f0 f1 hk, s1]
    unfold lefG
    rw [gen _ _ s2 s3 (by omega) (by omega), show n - 1 - l = n - l - 1 by omega]
  unfold cupT
  by_cases c1 : i = n - l
  · by_cases c2 : j = n - l
    · rw [if_pos ⟨c1, c2⟩, c1, c2, tM_same]
    · rw [if_neg fun z => c2 z.2, if_neg c2, if_pos c1, near j j0 j1 c2, c1, tM_comm]
  · by_cases c2 : j = n - l
    · rw [if_neg fun z => c1 z.1, if_pos c2, near i i0 i1 c1, c2]
    · obtain ⟨s1, s2, s3⟩ := sr i i0 i1 c1
      obtain ⟨u1, u2, u3⟩ := sr j j0 j1 c2
      rw [if_neg fun z => c1 z.1, if_neg c2, if_neg c1, bg_far h n0 f0 f1 c1 c2, s1, u1, gen _ _ s2 s3 u2 u3]
theorem cap_eq {l : Int} (l0 : 0 ≤ l) (l1 : l + 1 < n) {N : Int → Int} (hN : Mat (n - 2) N) (eN : 2 < n → ∀ i j, 0 ≤ i → i < n - 2 → 0 ≤ j → j < n - 2 → tM (n - 2) N i j = jnT (tM n M) (n - 2 - l) (jnG (n - 2 - l) i) (jnG (n - 2 - l) j)) : EqT (n - 2) (capT n T l) (tM (n - 2) N) := fun i j i0 i1 j0 j1 => by
  have hh : hi n 1 = n := by have := lo_hi n 1; omega
  unfold capT
  by_cases c : n = 2
  · rw [if_pos c, c]
    rfl
  · have hh2 : hi (n - 2) 1 = n - 2 := by have := lo_hi (n - 2) 1; omega
    rw [hh2] at i1 j1
    rw [if_neg c, eN (by omega) i j i0 i1 j0 j1]
    have hg : ∀ k, 0 ≤ k → k < n - 2 → 0 ≤ jnG (n - 2 - l) k ∧ jnG (n - 2 - l) k < hi n 1 := fun k k0 k1 => by
      unfold jnG
      split <;> omega
    obtain ⟨g1, g2⟩ := hg i i0 i1
    obtain ⟨g3, g4⟩ := hg j j0 j1
    generalize jnG (n - 2 - l) i = x at *
    generalize jnG (n - 2 - l) j = y at *
    have hl : 0 ≤ n - 1 - l ∧ n - 1 - l < hi n 1 := by omega
    have fr := fmod_in (n - 2 - l - 1) (show 0 < hi n 1 by omega)
    have sy : ∀ p q, 0 ≤ p → p < hi n 1 → 0 ≤ q → q < hi n 1 → T p q = T q p := fun p q p0 p1 q0 q1 => by
      rw [e p q p0 p1 q0 q1, e q p q0 q1 p0 p1, tM_comm]
    unfold cpM jnT
    rw [lef_eq l0 (by omega)]
    unfold rigG
    rw [sy ((n - 2 - l - 1).fmod (hi n 1)) y fr.1 fr.2 g3 g4, tab_mod h e (by omega) g3 g4 (by omega) (by omega), tab_mod h e (by omega) g1 g2 (by omega) (by omega),
      e x y g1 g2 g3 g4, e x _ g1 g2 hl.1 hl.2, e _ y hl.1 hl.2 g3 g4, show n - 1 - l = n - 2 - l + 1 by omega, tM_comm n M y]
end
end Own

namespace Own
open PySem PySem.Spec PyProof.Rows L2
section
variable {P : Program} {w : World} {K : PySem.W.Frag} {mg : Str → Option Value} {base : Heap} {C : Addr}
theorem st_gl {t : Int} (t0 : 0 ≤ t) : (rgV 0 (2 * t)).reverse = gl (2 * t) (stM t) := by
  unfold rgV gl stM
  apply List.ext_getElem
  · rw [List.length_reverse, List.length_map, List.length_map, List.length_range, List.length_range]
    congr 1
    omega
  · intro j h1 h2
    rw [List.length_map, List.length_range] at h2
    rw [List.getElem_reverse, List.getElem_map, List.getElem_map, List.getElem_range, List.getElem_range, List.length_map, List.length_range]
    congr 1
    omega
theorem walk_zipTT {K : PySem.W.Frag} {a b : Addr} {xs ys : List V} {n : Nat} (hn : n = min xs.length ys.length) : Walk (RZ.ItzT K a b) n (fun H => SqT K H a xs ∧ SqT K H b ys) (YPair (fun i => xs[i]?) (fun i => ys[i]?)) where
  goes := fun i H hi q => ⟨xs, ys, xs[i]'(by omega), ys[i]'(by omega), q.1, q.2, List.getElem?_eq_getElem _, List.getElem?_eq_getElem _⟩
  stops := fun H q => ⟨xs, ys, q.1, q.2, by omega⟩
  yields := fun i H v H' hi q y => by
    obtain ⟨T, x, y, e, nT, eH, h1, h2⟩ := y
    exact ⟨T, x, y, e, nT, eH, h1 xs q.1, h2 ys q.2⟩
/-- the mates of a row -/
structure RowMt (t : Int) (ds : List Lt) (M : Int → Int) : Prop where
  mat : Mat (t + endR t ds) M
  tab : EqT (t + endR t ds) (RT t ds) (tM (t + endR t ds) M)
theorem rmt_nil {t : Int} (t0 : 0 ≤ t) : RowMt t [] (stM t) := by
  have e : t + endR t [] = 2 * t := by show t + t = 2 * t; omega
  exact ⟨by rw [e]; exact st_mat t, by rw [e]; exact str_eq t0⟩
theorem good_words {d : Lt} (h : GoodR d) : (d.1 = "cup" ∧ chgR d.1 = 2) ∨ (d.1 ≠ "cup" ∧ ((d.1 = "cross" ∧ chgR d.1 = 0) ∨ (d.1 ≠ "cross" ∧ chgR d.1 = -2))) := by
  unfold GoodR at h
  unfold chgR
  generalize d.1 = w at *
  cases e : valN CHG w with
  | none => rw [e] at h; cases h
  | some i =>
    unfold valN CHG at e
    rw [List.find?_cons, List.find?_cons, List.find?_cons, List.find?_nil] at e
    by_cases h1 : ("cross" : Str) = w
    · subst h1
      right
      refine ⟨by decide +kernel, .inl ⟨rfl, ?_⟩⟩
      simp at e
      show i = 0
      omega
    · by_cases h2 : ("cup" : Str) = w
      · subst h2
        left
        rw [decide_eq_false h1] at e
        refine ⟨rfl, ?_⟩
        simp at e
        show i = 2
        omega
      · by_cases h3 : ("cap" : Str) = w
        · subst h3
          rw [decide_eq_false h1, decide_eq_false h2] at e
          right
          refine ⟨fun z => h2 z.symm, .inr ⟨fun z => h1 z.symm, ?_⟩⟩
          simp at e
          show i = -2
          omega
        · rw [decide_eq_false h1, decide_eq_false h2, decide_eq_false h3] at e
          cases e
theorem endR_nn {t : Int} {ds : List Lt} (t0 : 0 ≤ t) (hg : ∀ d ∈ ds, GoodR d) (al : AllR t ds) : ∀ i, i ≤ ds.length → 0 ≤ endR t (ds.take i)
  | 0, _ => t0
  | i + 1, h => by
    have ih := endR_nn t0 hg al i (by omega)
    have hdi : ds[i]? = some ds[i] := List.getElem?_eq_getElem h
    have tk : ds.take (i + 1) = ds.take i ++ [ds[i]] := by rw [List.take_add_one, hdi]; rfl
    have ok := of_decide_eq_true (al i _ hdi)
    have gw := good_words (hg _ (List.mem_of_getElem? hdi))
    rw [tk, endR_snoc]
    rcases gw with ⟨_, z⟩ | ⟨nc, ⟨_, z⟩ | ⟨_, z⟩⟩
    · omega
    · omega
    · rw [if_neg nc] at ok
      omega
def spPair (C : Addr) : Sp := fun vs H Q _ => ∃ (t : Int) (l b : Addr) (us : List V) (ds : List Lt), vs = [.int t, .ref l, .ref b] ∧ H l = some (.tup ((lanesR t ds).map V.int)) ∧ H b = some (.tup us) ∧ LtT H us ds ∧ (∀ d ∈ ds, GoodR d) ∧ AllR t ds ∧ 0 ≤ t ∧ (∀ i, i ≤ ds.length → t + endR t (ds.take i) ≤ 46) ∧ ds.length ≤ 900 ∧
  ∀ H' x M, Same H H' → RowMt t ds M → LotAt C H' x (t + endR t ds) (mtE M (t + endR t ds).toNat) → Q (.ref x) H'
set_option maxHeartbeats 1000000 in
theorem ok_pair {f : Addr} {fd : FuncData} (F : Fun K "pairing_of" "pairing_of" s_pairing_of f fd) (T : Bi mg) (TE : BiX mg) {f_x : Addr} {d_x : FuncData} (D_x : Df K mg "mates_crossed" s_mates_crossed ["mates", "left"] f_x d_x) (G_x : FnOk P w K mg base CX0 2 f_x d_x ["mates", "left"] (spCrs K)) {f_y : Addr} {d_y : FuncData} (D_y : Df K mg "mates_begun" s_mates_begun ["mates", "first"] f_y d_y) (G_y : FnOk P w K mg base CX0 1 f_y d_y ["mates", "first"] (spBeg K)) {f_z : Addr} {d_z : FuncData} (D_z : Df K mg "mates_joined" s_mates_joined ["mates", "right"] f_z d_z) (G_z : FnOk P w K mg base CX0 8 f_z d_z ["mates", "right"] (spJoi C)) {f_l : Addr} {d_l : FuncData} (D_l : Df K mg "lot_of_mates" s_lot_of_mates ["mates"] f_l d_l) (G_l : FnOk P w K mg base CX0 7 f_l d_l ["mates"] (spLom C)) : FnOk P w K mg base CX0 9 f fd ["top", "lanes", "letters"] (spPair C) := by
  refine F.ok sc_pairing_of (fun vs H Q E h => ?_) (fun cdv A outer s H vs Q E hr h => ?_)
  · obtain ⟨t, l, b, us, ds, rfl, _⟩ := h
    rfl
  · obtain ⟨t, l, b, us, ds, rfl, hl, hb, hd, hg, al, t0, bd, ln, q⟩ := h
    refine ⟨_, (pss_cons (ps_set (i := 3) sc_pairing_of.nd rfl (.inl rfl) (pe_revL (pe_listRg rfl (by rfl) T.b_list (prg_1 (by rfl) T.b_range (pe_op op_mul pe_int (pv 0))))))
        (pss_cons (ps_for PassesOwn.never rfl (RZ.pi_zipA (by rfl) TE.b_zip (pa_cons (pv 1) (pa_cons (pv 2) pa_nil))) (pg_tup (by rfl) (pgs_cons (pg_name (i := 4) sc_pairing_of.nd rfl (.inl rfl)) (pgs_cons (pg_tup (by rfl) (pgs_cons (pg_name (i := 6) sc_pairing_of.nd rfl (.inl rfl)) (pgs_cons (pg_name (i := 7) sc_pairing_of.nd rfl (.inl rfl)) pgs_nil))) pgs_nil)))
        (pss_cons (ps_set (i := 5) sc_pairing_of.nd rfl (.inl rfl) (pe_op op_sub (pe_op op_sub (pe_op op_add (pv 0) (pv 4)) pe_int) (pv 7)))
        (pss_one (ps_if (pt_cmpR op_eq (pv 6) pe_str (nomark _)) (pss_one (ps_set (i := 3) sc_pairing_of.nd rfl (.inl rfl) (pe_call G_x (hr.mono (by decide)) (by rfl) D_x.g D_x.F.kp D_x.b .nil pass0 (pa_cons (pv 3) (pa_cons (pv 5) pa_nil))))) (pss_one (ps_if (pt_cmpR op_eq (pv 6) pe_str (nomark _)) (pss_one (ps_set (i := 3) sc_pairing_of.nd rfl (.inl rfl) (pe_call G_y (hr.mono (by decide)) (by rfl) D_y.g D_y.F.kp D_y.b .nil pass0 (pa_cons (pv 3) (pa_cons (pe_op op_add (pv 5) pe_int) pa_nil))))) (pss_one (ps_set (i := 3) sc_pairing_of.nd rfl (.inl rfl) (pe_call G_z (hr.mono (by decide)) (by rfl) D_z.g D_z.F.kp D_z.b .nil pass0 (pa_cons (pv 3) (pa_cons (pe_op op_sub (pv 5) pe_int) pa_nil)))))))))))
        (pss_one (ps_ret (pe_call G_l (hr.mono (by decide)) (by rfl) D_l.g D_l.F.kp D_l.b .nil pass0 (pa_cons (pv 3) pa_nil)))))), ?_⟩
    have bd0 := bd 0 (Nat.zero_le _)
    have e20 : t + endR t (ds.take 0) = 2 * t := by show t + t = 2 * t; omega
    rw [e20] at bd0
    refine ⟨_, rfl, _, _, rfl, rfl, .inl ⟨by decide, by decide⟩, _, rfl, RgOk.of_le (by omega) (by omega) (by omega) (by omega), fun u hu => ⟨u, _, rfl, .inl (.inl upd_same), fun D hD => ?_⟩⟩
    rw [st_gl t0]
    have s1 : Same H _ := (same_upd (o := .lst (rgV 0 (2 * t))) hu).trans (same_upd (o := .lst (gl (2 * t) (stM t))) hD)
    have e1 : upd (upd H u (.lst (rgV 0 (2 * t)))) D (.lst (gl (2 * t) (stM t))) D = some (.lst (gl (2 * t) (stM t))) := upd_same
    generalize upd (upd H u (.lst (rgV 0 (2 * t)))) D (.lst (gl (2 * t) (stM t))) = H1 at *
    have lu : us.length = ds.length := hd.1
    refine ⟨_, rfl, _, rfl, l, b, _, us, rfl, .inr ⟨.inl (.inl (s1 _ _ hl)), .inl (.inl (s1 _ _ hb)), for_it (walk_zipTT (xs := (lanesR t ds).map V.int) (ys := us) (n := ds.length) (by rw [List.length_map, lanesR_len]; omega)) (fun i σ H' => (∃ y4 y5 y6 y7 m M, σ = [some (.int t), some (.ref l), some (.ref b), some (.ref m), y4, y5, y6, y7] ∧ H' m = some (.lst (gl (t + endR t (ds.take i)) M)) ∧ RowMt t (ds.take i) M) ∧ Same H H') ⟨⟨none, none, none, none, D, stM t, rfl, ?_, rmt_nil t0⟩, s1⟩ (fun i σ H' _ pv => ⟨.inl (.inl (pv.2 _ _ hl)), .inl (.inl (pv.2 _ _ hb))⟩) (fun i v σ H2 H3 hi pv y => ?_) (fun σ H' pv => ?_)⟩⟩
    · rw [e20]
      exact e1
    · obtain ⟨⟨y4, y5, y6, y7, m, M, rfl, em, R⟩, sm⟩ := pv
      obtain ⟨T', x', y', rfl, nT, rfl, g1, g2⟩ := y
      obtain rfl : V.int (endR t (ds.take i)) = x' := by
        have : ((lanesR t ds).map V.int)[i]? = some x' := g1
        unfold lanesR at this
        rw [List.map_map, List.getElem?_map, List.getElem?_range (by omega)] at this
        exact Option.some.inj this
      have s2 : Same H2 (upd H2 T' (.tup [.int (endR t (ds.take i)), y'])) := same_upd nT
      obtain ⟨c, d, rfl, hdi, hc⟩ : ∃ c d, y' = .ref c ∧ ds[i]? = some d ∧ H2 c = some (.tup (lv d)) := by
        have g2 : us[i]? = some y' := g2
        obtain ⟨c, e1, e2⟩ := hd.2 i ds[i] (List.getElem?_eq_getElem hi)
        rw [g2] at e1
        exact ⟨c, ds[i], Option.some.inj e1, List.getElem?_eq_getElem hi, sm _ _ e2⟩
      have tk : ds.take (i + 1) = ds.take i ++ [d] := by rw [List.take_add_one, hdi]; rfl
      have gd := hg d (List.mem_of_getElem? hdi)
      have ok := of_decide_eq_true (al i d hdi)
      have bi := bd i (Nat.le_of_lt hi)
      have bi2 := bd (i + 1) hi
      rw [tk, endR_snoc] at bi2
      have sm2 := sm.trans s2
      refine ⟨T', _, rfl, .inl (.inl upd_same), rfl, _, _, rfl, _, _, rfl, c, lv d, rfl, .inl (.inl (s2 _ _ hc)), rfl, _, _, rfl, _, _, rfl, rfl, rfl, ?_⟩
      refine ⟨_, rfl, _, rfl, _, _, rfl, rfl, _, _, rfl, rfl, _, rfl, _, _, rfl, rfl, ?_⟩
      have em2 := s2 _ _ em
      generalize upd H2 T' (.tup [.int (endR t (ds.take i)), .ref c]) = H4 at *
      have e0 : t + endR t (ds.take (i + 1)) = t + endR t (ds.take i) + chgR d.1 := by
        rw [tk, endR_snoc]
        omega
      have fin : ∀ (H5 : Hp) (m2 : Addr) (M2 : Int → Int), Same H4 H5 → H5 m2 = some (.lst (gl (t + endR t (ds.take i) + chgR d.1) M2)) → Mat (t + endR t (ds.take i) + chgR d.1) M2 → EqT (t + endR t (ds.take i) + chgR d.1) (stepT (t + endR t (ds.take i)) (RT t (ds.take i)) d) (tM (t + endR t (ds.take i) + chgR d.1) M2) →
          (∃ y4 y5 y6 y7 m M, [some (V.int t), some (.ref l), some (.ref b), some (.ref m2), some (V.int (endR t (ds.take i))), some (V.int (t + endR t (ds.take i) - 1 - d.2)), some (V.str d.1), some (V.int d.2)] = [some (V.int t), some (.ref l), some (.ref b), some (.ref m), y4, y5, y6, y7] ∧ H5 m = some (.lst (gl (t + endR t (ds.take (i + 1))) M)) ∧ RowMt t (ds.take (i + 1)) M) ∧ Same H H5 := fun H5 m2 M2 s5 h1 h2 h3 => by
        refine ⟨⟨_, _, _, _, m2, M2, rfl, by rw [e0]; exact h1, ⟨by rw [e0]; exact h2, ?_⟩⟩, sm2.trans s5⟩
        rw [e0, tk, RT_snoc]
        exact h3
      have gw := good_words gd
      generalize hn : t + endR t (ds.take i) = n at *
      have nt : endR t (ds.take i) = n - t := by omega
      rw [nt] at ok
      have Rm := R.mat
      have Rt := R.tab
      rw [hn] at Rm Rt
      refine ⟨_, rfl, rfl, _, rfl, ite2 (fun e => ?_) (fun e => ?_)⟩
      · have ew : d.1 = "cross" := V.str.inj (of_decide_eq_true e)
        have nc : d.1 ≠ "cup" := fun z => by rw [ew] at z; exact absurd z (by decide +kernel)
        have ch : chgR d.1 = 0 := by
          rcases gw with ⟨z, _⟩ | ⟨_, ⟨_, z⟩ | ⟨z, _⟩⟩
          · exact absurd z nc
          · exact z
          · exact absurd ew z
        rw [if_neg nc] at ok
        rw [ch] at fin
        refine ⟨_, rfl, _, rfl, m, n - 1 - d.2, n, M, rfl, em2, Rm, by omega, by omega, by omega, fun H5 m2 s5 e5 => ?_⟩
        rw [show n - 1 - d.2 - 1 = n - 2 - d.2 by omega] at e5
        refine fin H5 m2 (crM M (n - 2 - d.2)) s5 (by rw [Int.add_zero]; exact e5) (by rw [Int.add_zero]; exact cr_mat Rm (by omega) (by omega)) ?_
        rw [Int.add_zero]
        unfold stepT
        rw [if_neg nc, if_pos ew]
        exact cro_eq Rm Rt ok.1 (by omega)
      · have nx : d.1 ≠ "cross" := fun z => e (decide_eq_true (congrArg V.str z))
        refine ⟨_, rfl, rfl, _, rfl, ite2 (fun e2 => ?_) (fun e2 => ?_)⟩
        · have ew : d.1 = "cup" := V.str.inj (of_decide_eq_true e2)
          have ch : chgR d.1 = 2 := by
            rcases gw with ⟨_, z⟩ | ⟨z, _⟩
            · exact z
            · exact absurd ew z
          rw [if_pos ew] at ok
          rw [ch] at fin
          refine ⟨_, rfl, _, rfl, _, _, rfl, rfl, m, _, n, M, rfl, em2, by omega, by omega, by omega, fun H5 m2 s5 e5 => ?_⟩
          rw [show n - 1 - d.2 + 1 = n - d.2 by omega] at e5
          refine fin H5 m2 (bgM M (n - d.2)) s5 e5 (bg_mat Rm (by omega) (by omega)) ?_
          unfold stepT
          rw [if_pos ew]
          exact cup_eq Rm Rt ok.1 (by omega)
        · have nc : d.1 ≠ "cup" := fun z => e2 (decide_eq_true (congrArg V.str z))
          have ch : chgR d.1 = -2 := by
            rcases gw with ⟨z, _⟩ | ⟨_, ⟨z, _⟩ | ⟨_, z⟩⟩
            · exact absurd z nc
            · exact absurd z nx
            · exact z
          rw [if_neg nc] at ok
          rw [ch] at fin
          refine ⟨_, rfl, _, rfl, _, _, rfl, rfl, m, _, n, M, rfl, em2, Rm, by omega, by omega, by omega, fun H5 m2 N s5 e5 hN eN => ?_⟩
          rw [show n - 1 - d.2 - 1 = n - 2 - d.2 by omega] at eN
          refine fin H5 m2 N s5 e5 hN ?_
          unfold stepT
          rw [if_neg nc, if_neg nx]
          exact cap_eq Rm Rt ok.1 (by omega) hN eN
    · obtain ⟨⟨y4, y5, y6, y7, m, M, rfl, em, R⟩, sm⟩ := pv
      have tl : ds.take ds.length = ds := List.take_length
      have bl := bd ds.length (Nat.le_refl _)
      rw [tl] at em R bl
      have n0 := endR_nn t0 hg al ds.length (Nat.le_refl _)
      rw [tl] at n0
      exact ⟨_, rfl, m, _, M, rfl, em, R.mat, by omega, by omega, fun H5 x s5 hL => q H5 x M (sm.trans s5) R hL⟩

end
end Own

namespace Own
open PySem PySem.Spec PyProof.Rows L2
theorem lot_ext {n : Int} {cs ds : List Tr} (n0 : 0 ≤ n) (g : Good n cs) (h : Good n ds) (e : ∀ i j, 0 ≤ i → i < n → 0 ≤ j → j < n → tabE cs i j = tabE ds i j) : cs = ds := by
  have hP := prs_prs n0
  refine good_ext g h fun p => ?_
  rw [← ofT_tab hP g p, ← ofT_tab hP h p, ← cotE_ofT, ← cotE_ofT, cotE_congr e]
theorem mt_ext {n : Int} {M N : Int → Int} (n0 : 0 ≤ n) (h : Mat n M) (k : Mat n N) : mtE M n.toNat = mtE N n.toNat ↔ EqT n (tM n M) (tM n N) := by
  refine ⟨fun z i j _ _ _ _ => ?_, fun z => ?_⟩
  · rw [← mt_tab, ← mt_tab, z]
  · refine lot_ext n0 (mtE_good h) (mtE_good k) fun i j i0 i1 j0 j1 => ?_
    have := lo_hi n 1
    rw [mt_tab, mt_tab]
    exact z i j i0 (by omega) j0 (by omega)
theorem EqT.symm {n : Int} {T U : Int → Int → Int} (h : EqT n T U) : EqT n U T := fun i j a b c d => (h i j a b c d).symm
theorem EqT.trans {n : Int} {T U W : Int → Int → Int} (h : EqT n T U) (k : EqT n U W) : EqT n T W := fun i j a b c d => (h i j a b c d).trans (k i j a b c d)
/-- what a row must be like for its pairing to be asked -/
structure RowOk (t : Int) (ds : List Lt) : Prop where
  t0 : 0 ≤ t
  hg : ∀ d ∈ ds, GoodR d
  al : AllR t ds
  bd : ∀ i, i ≤ ds.length → t + endR t (ds.take i) ≤ 46
  ln : ds.length ≤ 900
theorem RowOk.nn {t : Int} {ds : List Lt} (h : RowOk t ds) : 0 ≤ endR t ds := by
  have := endR_nn h.t0 h.hg h.al ds.length (Nat.le_refl _)
  rw [List.take_length] at this
  exact this
section
variable {P : Program} {w : World} {K : PySem.W.Frag} {mg : Str → Option Value} {base : Heap} {C CL : Addr}
def spRPair (C CL : Addr) : Sp := fun vs H Q _ => ∃ (p : Addr) (t : Int) (ds : List Lt), vs = [.ref p] ∧ RowAt C H p t ds ∧ RowOk t ds ∧
  ∀ H' x M, Same H H' → RowMt t ds M → LotAt CL H' x (t + endR t ds) (mtE M (t + endR t ds).toNat) → Q (.ref x) H'
theorem ok_rpair {f : Addr} {fd : FuncData} (F : Fun K "pairing" "Row.pairing" s_Row_pairing f fd) (L : RowC K mg C) {f_p : Addr} {d_p : FuncData} (D_p : Df K mg "pairing_of" s_pairing_of ["top", "lanes", "letters"] f_p d_p) (G_p : FnOk P w K mg base CX0 9 f_p d_p ["top", "lanes", "letters"] (spPair CL)) : FnOk P w K mg base CX0 10 f fd ["self"] (spRPair C CL) := by
  refine F.ok sc_Row_pairing (fun vs H Q E h => ?_) (fun cdv A outer s H vs Q E hr h => ?_)
  · obtain ⟨p, t, ds, rfl, _⟩ := h
    rfl
  · obtain ⟨p, t, ds, rfl, hR, ok, q⟩ := h
    refine ⟨_, (pss_one (ps_ret (pe_call G_p (hr.mono (by decide)) (by rfl) D_p.g D_p.F.kp D_p.b .nil pass0 (pa_cons (pe_fld (pv 0) rfl) (pa_cons (pe_fld (pv 0) rfl) (pa_cons (pe_fld (pv 0) rfl) pa_nil)))))), ?_⟩
    obtain ⟨dx, a, b, us, e, ea, eb, k⟩ := hR
    exact ⟨_, rfl, p, C, dx, _, _, rfl, e, L.cl, L.nT, look_top _ _ _, _, rfl, p, C, dx, _, _, rfl, e, L.cl, L.nA, look_lanes _ _ _, _, rfl, p, C, dx, _, _, rfl, e, L.cl, L.nL, look_letters _ _ _, t, a, b, us, ds, rfl, ea, eb, k, ok.hg, ok.al, ok.t0, ok.bd, ok.ln, q⟩

end
end Own

namespace Own
/-! ### letters that stand -/
theorem c_x : chgR "cross" = 0 := by decide
theorem c_u : chgR "cup" = 2 := by decide
theorem c_a : chgR "cap" = -2 := by decide
theorem g_x {i : Int} : GoodR ("cross", i) := by unfold GoodR; dsimp only; decide
theorem g_u {i : Int} : GoodR ("cup", i) := by unfold GoodR; dsimp only; decide
theorem g_a {i : Int} : GoodR ("cap", i) := by unfold GoodR; dsimp only; decide
theorem o_x {L i : Int} : okR L ("cross", i) = true ↔ 0 ≤ i ∧ i + 1 < L := by
  unfold okR
  rw [decide_eq_true_iff, if_neg (by show ¬ _ = _; dsimp only; decide)]
  constructor <;> intro h <;> exact ⟨h.1, by have := h.2; omega⟩
theorem o_u {L i : Int} : okR L ("cup", i) = true ↔ 0 ≤ i ∧ i ≤ L := by
  unfold okR
  rw [decide_eq_true_iff, if_pos rfl]
  constructor <;> intro h <;> exact ⟨h.1, by have := h.2; omega⟩
theorem o_a {L i : Int} : okR L ("cap", i) = true ↔ 0 ≤ i ∧ i + 1 < L := by
  unfold okR
  rw [decide_eq_true_iff, if_neg (by show ¬ _ = _; dsimp only; decide)]
  constructor <;> intro h <;> exact ⟨h.1, by have := h.2; omega⟩
/-- the letters stand from L lanes on, and never more than m lanes -/
def Wf (m : Int) : Int → List Lt → Prop
  | L, [] => L ≤ m
  | L, d :: r => L ≤ m ∧ GoodR d ∧ okR L d = true ∧ Wf m (L + chgR d.1) r
theorem Wf.hd {m L : Int} : ∀ {ds : List Lt}, Wf m L ds → L ≤ m
  | [], h => h
  | _ :: _, h => h.1
theorem Wf.good {m : Int} : ∀ {ds : List Lt} {L : Int}, Wf m L ds → ∀ d ∈ ds, GoodR d
  | [], _, _, d, hd => by cases hd
  | e :: r, _, h, d, hd => by
    cases hd with
    | head => exact h.2.1
    | tail _ hd => exact h.2.2.2.good d hd
theorem endR_cons (L : Int) (d : Lt) (r : List Lt) : endR L (d :: r) = endR (L + chgR d.1) r := rfl
theorem endR_app (L : Int) (a b : List Lt) : endR L (a ++ b) = endR (endR L a) b := by
  unfold endR
  rw [List.foldl_append]
theorem Wf.all {m : Int} : ∀ {ds : List Lt} {L : Int}, Wf m L ds → AllR L ds
  | [], _, _ => fun i d e => by simp at e
  | e :: r, L, h => fun i d ed => by
    match i with
    | 0 =>
      obtain rfl : e = d := by simpa using ed
      exact h.2.2.1
    | i + 1 => exact h.2.2.2.all i d ed
theorem Wf.bd {m : Int} : ∀ {ds : List Lt} {L : Int}, Wf m L ds → ∀ i, i ≤ ds.length → endR L (ds.take i) ≤ m
  | [], _, h, i, _ => by rw [List.take_nil]; exact h
  | e :: r, L, h, i, hi => by
    match i with
    | 0 => exact h.1
    | i + 1 => exact h.2.2.2.bd i (Nat.le_of_succ_le_succ hi)
theorem Wf.ok {m t : Int} {ds : List Lt} (h : Wf m t ds) (t0 : 0 ≤ t) (hm : t + m ≤ 46) (hl : ds.length ≤ 900) : RowOk t ds :=
  ⟨t0, h.good, h.all, fun i hi => by have := h.bd i hi; omega, hl⟩
theorem Wf.app {m : Int} {b : List Lt} : ∀ {a : List Lt} {L : Int}, Wf m L a → Wf m (endR L a) b → Wf m L (a ++ b)
  | [], _, _, k => k
  | e :: r, L, h, k => ⟨h.1, h.2.1, h.2.2.1, h.2.2.2.app k⟩
theorem Wf.left {m : Int} {b : List Lt} : ∀ {a : List Lt} {L : Int}, Wf m L (a ++ b) → Wf m L a
  | [], _, h => h.hd
  | e :: r, L, h => ⟨h.1, h.2.1, h.2.2.1, Wf.left h.2.2.2⟩
theorem Wf.right {m : Int} {b : List Lt} : ∀ {a : List Lt} {L : Int}, Wf m L (a ++ b) → Wf m (endR L a) b
  | [], _, h => h
  | e :: r, L, h => Wf.right (a := r) h.2.2.2
end Own

namespace Own
open PySem PySem.Spec PyProof.Rows L2
/-- t + u: either of them when the other is empty, else a new tuple -/
def rCatA (K : PySem.W.Frag) : R2 := fun x y H Q => ∃ a b xs ys, x = .ref a ∧ y = .ref b ∧ SqT K H a xs ∧ SqT K H b ys ∧ xs.length + ys.length ≤ sizeLine ∧
  (xs = [] → Q (.ref b) H) ∧ (xs ≠ [] → ys = [] → Q (.ref a) H) ∧ (xs ≠ [] → ys ≠ [] → ∀ p, H p = none → Q (.ref p) (upd H p (.tup (xs ++ ys))))
theorem op_catA {X : Cx} {K : PySem.W.Frag} (hK : X.K = K) : OpR X (binaryOp .Add) (rCatA K) := by
  subst hK
  intro pins s σ H x y v u Q I rx ry h
  obtain ⟨a, b, xs, ys, rfl, rfl, ha, hb, hz, q0, q1, q2⟩ := h
  by_cases e : xs = []
  · cases rx
    cases ry
    obtain ⟨its, r1, p1, _⟩ := I.tuple ha
    obtain ⟨its2, r2, p2, _⟩ := I.tuple hb
    obtain ⟨⟨c1, d1, t1, l1⟩, h1, hc1, n1, hd1⟩ := id p1
    obtain ⟨⟨c2, d2, t2, l2⟩, h2, hc2, n2, hd2⟩ := id p2
    dsimp only at hc1 hd1 hc2 hd2
    subst hc1 hd1 hc2 hd2
    have ei : its = [] := r1.nil_iff.mpr e
    exact concat_meets ⟨_, h1, rfl⟩ ⟨_, h2, rfl⟩ noFill_tuple_add seq_tuple_add PySem.F.slot_tuple_add PySem.F.entry_tuple_add (PySem.F.args_tuple_add_2 _ _)
      (tuple_addW0 a b its.toArray its2.toArray n1 n2 d1 d2 l1 l2 (by rw [ei]; rfl)) ⟨h1, h2, .ref b, H, I, rfl, q0 e⟩
  · exact op_catT pins s σ H (.ref a) (.ref b) v u Q I rx ry ⟨a, b, xs, ys, rfl, rfl, ha, hb, e, hz, q1 e, q2 e⟩
end Own

namespace Own
open PySem PySem.Spec PyProof.Rows L2
/-! ### rows one behind the other -/
theorem new_same {H : Hp} {x dx : Addr} {o : HO} (nx : H x = none) (nd : H dx = none) (ne : dx ≠ x) : Same H (upd (upd H dx (.own x)) x o) :=
  (same_upd nd).trans (same_upd (by rw [upd_ne ne.symm]; exact nx))
theorem LtT.app {H : Hp} {vs us : List V} {ds es : List Lt} (h : LtT H vs ds) (k : LtT H us es) : LtT H (vs ++ us) (ds ++ es) := by
  refine ⟨by rw [List.length_append, List.length_append, h.1, k.1], fun i d e => ?_⟩
  by_cases c : i < ds.length
  · rw [List.getElem?_append_left c] at e
    rw [List.getElem?_append_left (by rw [h.1]; exact c)]
    exact h.2 i d e
  · rw [List.getElem?_append_right (by omega)] at e
    rw [List.getElem?_append_right (by rw [h.1]; omega), h.1]
    exact k.2 _ d e
section
variable {P : Program} {w : World} {K : PySem.W.Frag} {mg : Str → Option Value} {base : Heap} {C : Addr}
def spCkL : Sp := fun vs H Q _ => ∃ n : Int, vs = [.int n, .int n] ∧ Q .non H
theorem ok_ckl {f : Addr} {fd : FuncData} (F : Fun K "check_lanes" "check_lanes" s_check_lanes f fd)  : FnOk P w K mg base CX0 1 f fd ["one", "other"] spCkL := by
  refine F.ok sc_check_lanes (fun vs H Q E h => ?_) (fun cdv A outer s H vs Q E hr h => ?_)
  · obtain ⟨n, rfl, _⟩ := h
    rfl
  · obtain ⟨n, rfl, q⟩ := h
    refine ⟨_, (pss_one (ps_if (pt_cmpR op_ne (pv 0) (pv 1) (nomark _)) (pss_one ps_never) pss_nil)), ?_⟩
    refine ⟨_, rfl, _, rfl, rfl, _, rfl, ite2 (fun c => ?_) (fun _ => q)⟩
    rw [decide_eq_true (show V.int n = V.int n from rfl)] at c
    cases c

def spRsh (C : Addr) : Sp := fun vs H Q _ => ∃ (p o : Addr) (t : Int) (ds es : List Lt), vs = [.ref p, .ref o] ∧ RowAt C H p t ds ∧ RowAt C H o (endR t ds) es ∧ 0 ≤ t ∧ (∀ d ∈ ds ++ es, GoodR d) ∧ AllR t (ds ++ es) ∧ (ds ++ es).length ≤ 900 ∧
  ∀ H' x, Same H H' → RowAt C H' x t (ds ++ es) → Q (.ref x) H'
theorem ok_rsh {f : Addr} {fd : FuncData} (F : Fun K "__rshift__" "Row.__rshift__" s_Row_rshift f fd) (L : RowC K mg C) {f_i : Addr} {d_i : FuncData} (M : Mk K C f_i) (G_i : GRI P w K mg base C f_i d_i) (b_i : Binds K d_i ["self", "top", "letters"] []) {p_bo f_bo : Addr} {d_bo : FuncData} (P_bo : PropOf K C "bottom" p_bo f_bo) (G_bo : FnOk P w K mg base CX0 1 f_bo d_bo ["self"] (spBottom C)) (b_bo : Binds K d_bo ["self"] []) {f_k : Addr} {d_k : FuncData} (D_k : Df K mg "check_lanes" s_check_lanes ["one", "other"] f_k d_k) (G_k : FnOk P w K mg base CX0 1 f_k d_k ["one", "other"] spCkL) : FnOk P w K mg base CX0 7 f fd ["self", "other"] (spRsh C) := by
  refine F.ok sc_Row_rshift (fun vs H Q E h => ?_) (fun cdv A outer s H vs Q E hr h => ?_)
  · obtain ⟨p, o, t, ds, es, rfl, _⟩ := h
    rfl
  · obtain ⟨p, o, t, ds, es, rfl, hR, hS, t0, hg, al, ln, q⟩ := h
    refine ⟨_, (pss_cons (ps_expr (pe_call G_k (hr.mono (by decide)) (by rfl) D_k.g D_k.F.kp D_k.b .nil pass0 (pa_cons (pe_prop (pv 0) L.cl P_bo G_bo (hr.mono (by decide)) b_bo .nil pass0 (by rfl)) (pa_cons (pe_fld (pv 1) rfl) pa_nil))))
        (pss_one (ps_ret (pe_make M G_i (hr.mono (by decide)) (by rfl) L.g b_i .nil pass0 (pa_cons (pe_fld (pv 0) rfl) (pa_cons (pe_op (op_catA (K := K) rfl) (pe_fld (pv 0) rfl) (pe_fld (pv 1) rfl)) pa_nil)))))), ?_⟩
    obtain ⟨dx, a, b, us, e, ea, eb, k⟩ := id hR
    obtain ⟨dy, a2, b2, us2, f1, fa, fb, k2⟩ := id hS
    have l1 := k.1
    have l2 := k2.1
    have ln' := ln
    rw [List.length_append] at ln'
    refine ⟨_, rfl, p, dx, _, rfl, e, p, t, ds, rfl, hR, _, rfl, o, C, dy, _, _, rfl, f1, L.cl, L.nT, look_top _ _ _, endR t ds, rfl, ?_⟩
    have fin : ∀ (H1 : Hp) (c : Addr), Same H H1 → H1 c = some (.tup (us ++ us2)) → ∀ (R : Addr → Hp → Prop), (∀ H' x, Same H1 H' → RowAt C H' x t (ds ++ es) → R x H') → ∀ x dx, H1 x = none → H1 dx = none → dx ≠ x →
        spRInit C [.ref x, .int t, .ref c] (upd (upd H1 dx (.own x)) x (.ins C dx [])) (fun v H2 => v = .non ∧ R x H2) E0 := fun H1 c s1 ec R hq x dx nx nd ne =>
      ⟨x, dx, t, c, us ++ us2, ds ++ es, H1, rfl, upd_same, nx, new_same nx nd ne, t0, .inr ec, ((k.same s1).app (k2.same s1)).h, hg, al, ln, fun H' s' r => ⟨rfl, hq H' x s' r⟩⟩
    refine ⟨_, rfl, p, C, dx, _, _, rfl, e, L.cl, L.nT, look_top _ _ _, _, rfl, p, C, dx, _, _, rfl, e, L.cl, L.nL, look_letters _ _ _, _, rfl, o, C, dy, _, _, rfl, f1, L.cl, L.nL, look_letters _ _ _, b, b2, us, us2, rfl, rfl, .inl (.inl eb), .inl (.inl fb), Nat.le_of_lt (small1000 (by omega)), fun z => ?_, fun _ z => ?_, fun _ _ c nc => ?_⟩
    · subst z
      exact fun x dx' nx nd ne => fin H b2 (Same.refl _) fb (fun x H' => Q (.ref x) H') q x dx' nx nd ne
    · subst z
      rw [List.append_nil] at fin
      exact fun x dx' nx nd ne => fin H b (Same.refl _) eb (fun x H' => Q (.ref x) H') q x dx' nx nd ne
    · exact fun x dx' nx nd ne => fin _ c (same_upd nc) upd_same (fun x H' => Q (.ref x) H') (fun H' x s r => q H' x ((same_upd nc).trans s) r) x dx' nx nd ne
end
end Own

namespace HT
open PySem PySem.Spec PyProof.Rows
section
variable {prog : Program} {w : World} {A : Around} {E : Value → Shared → Prop} {s : Shared}
theorem adjust_rev (n : Nat) : Builtin.Slice.sliceAdjust none none (-1) (n : Int) = ((n : Int) - 1, -1) := by
  unfold Builtin.Slice.sliceAdjust
  simp
theorem places_rev (n : Nat) : Builtin.Slice.slicePlaces ((n : Int) - 1) (-1) (-1) = n := by
  unfold Builtin.Slice.slicePlaces
  have h1 : ¬ (-1 : Int) > 0 := by omega
  simp only [h1, if_false]
  split
  · rw [show -(-1 : Int) = 1 by decide, Int.ediv_one]
    omega
  · omega
theorem fm_congr {α β : Type} {f g : α → Option β} : ∀ {l : List α}, (∀ m ∈ l, f m = g m) → l.filterMap f = l.filterMap g
  | [], _ => rfl
  | a :: r, h => by
    rw [List.filterMap_cons, List.filterMap_cons, h a List.mem_cons_self, fm_congr fun m hm => h m (List.mem_cons_of_mem _ hm)]
theorem pick_rev (xs : Array Value) : ((List.range xs.size).filterMap fun (m : Nat) => xs[(((xs.size : Int) - 1) + (m : Int) * (-1)).toNat]?).toArray = xs.toList.reverse.toArray := by
  congr 1
  have e : ((List.range xs.size).filterMap fun (m : Nat) => xs[(((xs.size : Int) - 1) + (m : Int) * (-1)).toNat]?) = (((List.range xs.size).map fun k => xs.size - 1 - k).filterMap fun k => xs[k]?) := by
    rw [List.filterMap_map]
    refine fm_congr fun m hm => ?_
    have := List.mem_range.mp hm
    show _ = xs[xs.size - 1 - m]?
    rw [show (((xs.size : Int) - 1) + (m : Int) * (-1)).toNat = xs.size - 1 - m by omega]
  rw [e, PySem.W.krv_range, List.filterMap_reverse, PySem.W.krv_all]
theorem sliceApplied_rev {sl : Addr} {vl vu vs : Value} {n : Nat} {Q : Int × Int × Nat → Shared → Prop} (hs : s.heap.IsSliceOf sl vl vu vs) (pl : IsPart vl none) (pu : IsPart vu none) (ps : IsPart vs (some (-1)))
    (h : Q ((n : Int) - 1, -1, n) s) : wpAny (model prog w) A (Builtin.Slice.sliceApplied (.ref sl) (pure (n : Int))) Q E s := by
  obtain ⟨os, hos, hcs, hds⟩ := id hs
  unfold Builtin.Slice.sliceApplied Builtin.Slice.sliceFields
  refine wpAny_bind (wpAny_bind (wpAny_field hos hds (x := vl) rfl (wpAny_bind (wpAny_field hos hds (x := vu) rfl (wpAny_bind (wpAny_field hos hds (x := vs) rfl (wpAny_pure ?_)))))))
  refine wpAny_bind (slicePart_ ps ?_)
  show wpAny _ _ (if ((-1 : Int) == 0) = true then _ else _) _ _ s
  rw [if_neg (by decide)]
  refine wpAny_bind (slicePart_ pl (wpAny_bind (slicePart_ pu (wpAny_bind (wpAny_pure ?_)))))
  show wpAny _ _ (match Builtin.Slice.sliceAdjust none none (-1) (n : Int) with | (lo, hi) => pure (lo, (-1 : Int), Builtin.Slice.slicePlaces lo hi (-1))) _ _ s
  rw [adjust_rev n]
  show wpAny _ _ (pure ((n : Int) - 1, (-1 : Int), Builtin.Slice.slicePlaces ((n : Int) - 1) (-1) (-1))) _ _ s
  rw [places_rev]
  exact wpAny_pure h
theorem getItem_tuple_rev {t sl : Addr} {items : Array Value} {vl vu vs : Value} {Q : Value → Shared → Prop} (ht : IsTup s.heap t items) (hs : s.heap.IsSliceOf sl vl vu vs) (pl : IsPart vl none) (pu : IsPart vu none) (ps : IsPart vs (some (-1)))
    (h : Q (.ref s.heap.objs.size) { s with heap := s.heap.push { cls := .type "tuple", data := .seq items.toList.reverse.toArray } })
    (hsz : items.size ≤ sizeLine) : wpAny (model prog w) A (getItem (.ref t) (.ref sl)) Q E s := by
  have htake : sizeOk (.seq items.toList.reverse.toArray) := by
    show items.toList.reverse.toArray.size ≤ sizeLine
    rw [List.size_toArray, List.length_reverse, Array.length_toList]
    exact hsz
  obtain ⟨os, hos, hcs, hds⟩ := id hs
  have hTs : s.TypeIs (.ref sl) "slice" := ⟨os, hos, hcs⟩
  unfold getItem
  try with_reducible refine wpAny_holding ?_
  first | refine wpAny_bind (wpAny_pure ?_) | skip
  refine wpAny_bind (wpAny_sequenceKey ht.typeIs (by decide) ?_)
  refine wpAny_bind (wpAny_callSpecial?_slot (name := Str.ofString "__getitem__") ht.typeIs PyProof.Rows.slot_tuple_getitem
    (wpAny_call_entry PyProof.Rows.slot_tuple_getitem ht.typeIs entry_tuple_getitem ?_ (args_tuple_getitem _ _)))
  show wpAny _ _ (Builtin.Tuple.tupleItemsOf (.ref t) >>= _) _ _ s
  refine wpAny_bind (tupleItemsOf_ ht ?_)
  refine wpAny_bind (wpAny_typeOf hTs ?_)
  rw [if_pos (by decide)]
  refine wpAny_bind (sliceApplied_rev hs pl pu ps ?_)
  have hno : ¬ (((items.size : Int) - 1 == 0 && (-1 : Int) == 1 && items.size == items.size) = true) := by
    intro q
    rw [Bool.and_eq_true, Bool.and_eq_true] at q
    exact absurd (eq_of_beq q.1.2) (by decide)
  show wpAny _ _ (if ((items.size : Int) - 1 == 0 && (-1 : Int) == 1 && items.size == items.size) = true then _ else _) _ _ s
  rw [if_neg hno, pick_rev]
  first
    | exact wpAny_bind (m := Builtin.Tuple.tupleExact _) (wpAny_newObj_type (wpAny_pure ⟨_, rfl, wpAny_pure h⟩) htake)
    | exact wpAny_bind (m := Builtin.Tuple.tupleExact _) (wpAny_newObj_type (wpAny_bind (wpAny_pure (wpAny_pure ⟨_, rfl, wpAny_pure h⟩))) htake)
    | exact wpAny_bind (wpAny_bind (m := Builtin.Tuple.tupleExact _) (wpAny_newObj_type (wpAny_pure (wpAny_pure ⟨_, rfl, wpAny_pure h⟩)) htake))
    | exact wpAny_bind (wpAny_bind (m := Builtin.Tuple.tupleExact _) (wpAny_newObj_type (wpAny_pure ⟨_, rfl, wpAny_pure h⟩) htake))
end
end HT
namespace Own
open PySem PySem.Spec PyProof.Rows L2
def tRevT (K : PySem.W.Frag) (te : TE) : TE := fun σ H Q => te σ H fun x H1 => ∃ a xs, x = .ref a ∧ SqT K H1 a xs ∧ ∀ p, H1 p = none → Q (.ref p) (upd H1 p (.tup xs.reverse))
/-- t[::-1], t a tuple -/
theorem pe_revT {X : Cx} {e : Expr} {te : TE} {k : Nat} {p1 p2 p3 pos : Pos} (he : PE X e te) : PE X (.Subscript e (.Slice none none (some (.UnaryOp .USub (.Constant (.int 1) k p1) p2)) p3) pos) (tRevT X.K te) := by
  refine ⟨fun pins s σ H Q I h => ?_⟩
  refine Subscript_ (thn (he.run pins s σ H _ I h) fun v s1 ⟨x, H1, I1, r1, q1⟩ => ?_)
  obtain ⟨a, xs, ex, hx, q⟩ := q1
  subst ex
  cases r1
  have hst : PO X (some (.UnaryOp .USub (.Constant (.int 1) k p1) p2)) (tPart (tUn (rU fun i => .int (-i)) (tC (.int 1)))) := po_some (pe_un un_neg pe_int)
  refine wpAny_Slice (thn (po_none.run pins s1 σ H1 (fun o H2 => o = none ∧ H2 = H1) I1 ⟨rfl, rfl⟩) fun vl s2 ⟨l, H2, I2, pl, el, e2⟩ => ?_)
  subst el e2
  refine thn (po_none.run pins s2 σ H2 (fun o H3 => o = none ∧ H3 = H2) I2 ⟨rfl, rfl⟩) fun vu s3 ⟨u, H3, I3, pu, eu, e3⟩ => ?_
  subst eu e3
  refine thn (hst.run pins s3 σ H3 (fun o H4 => o = some (-1) ∧ H4 = H3) I3 ⟨1, rfl, -1, rfl, rfl, rfl⟩) fun vs s4 ⟨o, H4, I4, ps, eo, e4⟩ => ?_
  subst eo e4
  have I5 : Inv X pins σ H4 { s4 with heap := s4.heap.push { cls := .type "slice", data := .fields #[vl, vu, vs] } } := I4.kept (t' := s4.toks) fun b ob q => Heap.get?_push_of_some _ q
  obtain ⟨its, r, ht, hz⟩ := I5.tuple hx
  have hlen := r.length
  show wpAny (model X.prog X.w) X.A (subscriptTail e (.Slice none none (some (.UnaryOp .USub (.Constant (.int 1) k p1) p2)) p3) (.ref a) (.ref s4.heap.objs.size)) (EP X pins σ Q) X.xe { s4 with heap := s4.heap.push { cls := .type "slice", data := .fields #[vl, vu, vs] } }
  refine tail_any (ops := [.ref a, .ref s4.heap.objs.size]) ht.typeIs (PyProof.Rows.slot_tuple_getitem.lookup) ?_ (by with_unfolding_all rfl)
  refine HT.getItem_tuple_rev ht (Heap.IsSliceOf.new _ vl vu vs) pl pu ps ?_ (by rw [List.size_toArray]; omega)
  refine ⟨.ref _, _, I5.laid (t' := s4.toks) (o := .tup xs.reverse) (fun b ob q => Heap.get?_push_of_some _ q) (Nat.le_refl _) ?_, rfl, q _ (I5.hok.fresh (Nat.le_refl _))⟩
  exact ⟨by rw [List.length_reverse]; exact hz, _, r.reverse, IsTup.new _ _⟩
end Own

namespace Own
open PySem PySem.Spec PyProof.Rows L2
/-! ### rows upside down -/
def UPS : List (Str × Str) := [("cross", "cross"), ("cup", "cap"), ("cap", "cup")]
structure UpD (K : PySem.W.Frag) (w : World) (a : Addr) : Prop where
  at_ : ∀ p ∈ UPS, KDct K w a p.1 (.str p.2)
def upW (z : Str) : Str := if z = "cup" then "cap" else if z = "cap" then "cup" else z
def flip1 (d : Lt) : Lt := (upW d.1, d.2)
def flipD (ds : List Lt) : List Lt := ds.reverse.map flip1
theorem valN_mem {ps : List (Str × Int)} {x : Str} {i : Int} (h : valN ps x = some i) : (x, i) ∈ ps := by
  unfold valN at h
  cases e : ps.find? fun p => decide (p.1 = x) with
  | none => rw [e] at h; cases h
  | some p =>
    rw [e] at h
    have h1 := List.mem_of_find?_eq_some e
    have h2 := List.find?_some e
    have h3 : p.2 = i := Option.some.inj h
    rw [← of_decide_eq_true h2, ← h3]
    exact h1
theorem good_word {d : Lt} (h : GoodR d) : d.1 = "cross" ∨ d.1 = "cup" ∨ d.1 = "cap" := by
  unfold GoodR at h
  cases e : valN CHG d.1 with
  | none => rw [e] at h; cases h
  | some i =>
    have := valN_mem e
    unfold CHG at this
    simp only [List.mem_cons, List.not_mem_nil, or_false, Prod.mk.injEq] at this
    rcases this with h | h | h
    · exact .inl h.1
    · exact .inr (.inl h.1)
    · exact .inr (.inr h.1)
theorem up_mem {d : Lt} (h : GoodR d) : (d.1, upW d.1) ∈ UPS := by
  rcases good_word h with e | e | e <;> (rw [e]; decide +kernel)
theorem flip_good {d : Lt} (h : GoodR d) : GoodR (flip1 d) := by
  show (valN CHG (upW d.1)).isSome = true
  rcases good_word h with e | e | e <;> (rw [e]; decide +kernel)
theorem chg_up {d : Lt} (h : GoodR d) : chgR (flip1 d).1 = -chgR d.1 := by
  show chgR (upW d.1) = _
  rcases good_word h with e | e | e <;> (rw [e]; decide +kernel)
theorem ok_flip {d : Lt} {L : Int} (h : GoodR d) (o : okR L d = true) : okR (L + chgR d.1) (flip1 d) = true := by
  unfold okR at o ⊢
  have o := of_decide_eq_true o
  refine decide_eq_true ?_
  show 0 ≤ d.2 ∧ d.2 < if upW d.1 = "cup" then L + chgR d.1 + 1 else L + chgR d.1 - 1
  rcases good_word h with e | e | e <;> rw [e] at o ⊢
  · rw [if_neg (by decide +kernel)] at o
    rw [if_neg (by decide +kernel), show chgR "cross" = 0 by decide +kernel]
    omega
  · rw [if_pos rfl] at o
    rw [if_neg (by decide +kernel), show chgR "cup" = 2 by decide +kernel]
    omega
  · rw [if_neg (by decide +kernel)] at o
    rw [if_pos (by decide +kernel), show chgR "cap" = -2 by decide +kernel]
    omega
theorem end_next {t : Int} {ds : List Lt} {j : Nat} {d : Lt} (h : ds[j]? = some d) : endR t (ds.take (j + 1)) = endR t (ds.take j) + chgR d.1 := by
  rw [List.take_add_one, h]
  exact endR_snoc _ _ _
theorem flip_at {ds : List Lt} {i : Nat} {d : Lt} (h : (flipD ds)[i]? = some d) : i < ds.length ∧ ∃ e, ds[ds.length - 1 - i]? = some e ∧ d = flip1 e := by
  unfold flipD at h
  rw [List.getElem?_map] at h
  cases e : ds.reverse[i]? with
  | none => rw [e] at h; cases h
  | some u =>
    rw [e] at h
    have hi : i < ds.length := by
      have := (List.getElem?_eq_some_iff.mp e).1
      rw [List.length_reverse] at this
      exact this
    rw [List.getElem?_reverse hi] at e
    exact ⟨hi, u, e, (Option.some.inj h).symm⟩
theorem flip_len (ds : List Lt) : (flipD ds).length = ds.length := by
  unfold flipD
  rw [List.length_map, List.length_reverse]
theorem end_flip {t : Int} {ds : List Lt} (g : ∀ d ∈ ds, GoodR d) : ∀ i, i ≤ ds.length → endR (endR t ds) ((flipD ds).take i) = endR t (ds.take (ds.length - i))
  | 0, _ => by
    rw [List.take_zero, Nat.sub_zero, List.take_length]
    rfl
  | i + 1, h => by
    have ih := end_flip (t := t) g i (by omega)
    have hi : i < (flipD ds).length := by rw [flip_len]; omega
    have e := List.getElem?_eq_getElem hi
    obtain ⟨_, u, hu, eu⟩ := flip_at e
    rw [end_next e, ih, eu, chg_up (g u (List.mem_of_getElem? hu))]
    have e2 := end_next (t := t) hu
    rw [show ds.length - 1 - i + 1 = ds.length - i by omega] at e2
    rw [show ds.length - (i + 1) = ds.length - 1 - i by omega, e2]
    omega
theorem all_flip {t : Int} {ds : List Lt} (g : ∀ d ∈ ds, GoodR d) (al : AllR t ds) : AllR (endR t ds) (flipD ds) := fun i d h => by
  obtain ⟨hi, u, hu, rfl⟩ := flip_at h
  rw [end_flip g i (by omega)]
  have e2 := end_next (t := t) hu
  rw [show ds.length - 1 - i + 1 = ds.length - i by omega] at e2
  rw [e2]
  exact ok_flip (g u (List.mem_of_getElem? hu)) (al _ u hu)
theorem end_pos {t : Int} {ds : List Lt} (g : ∀ d ∈ ds, GoodR d) (t0 : 0 ≤ t) (al : AllR t ds) : ∀ i, i ≤ ds.length → 0 ≤ endR t (ds.take i)
  | 0, _ => t0
  | i + 1, h => by
    have ih := end_pos g t0 al i (by omega)
    have e := List.getElem?_eq_getElem (l := ds) (i := i) (by omega)
    rw [end_next e]
    have o := al i _ e
    have gd := g _ (List.mem_of_getElem? e)
    generalize ds[i] = d at *
    unfold okR at o
    have o := of_decide_eq_true o
    rcases good_word gd with e | e | e <;> rw [e] at o ⊢
    · rw [show chgR "cross" = 0 by decide +kernel]
      omega
    · rw [show chgR "cup" = 2 by decide +kernel]
      omega
    · rw [if_neg (by decide +kernel)] at o
      rw [show chgR "cap" = -2 by decide +kernel]
      omega
theorem end_flip_all {t : Int} {ds : List Lt} (g : ∀ d ∈ ds, GoodR d) (t0 : 0 ≤ t) (al : AllR t ds) : 0 ≤ endR t ds := by
  have := end_pos g t0 al ds.length (Nat.le_refl _)
  rw [List.take_length] at this
  exact this
section
variable {P : Program} {w : World} {K : PySem.W.Frag} {mg : Str → Option Value} {base : Heap} {C dU : Addr}
def spFlip (C : Addr) : Sp := fun vs H Q _ => ∃ (p : Addr) (t : Int) (ds : List Lt), vs = [.ref p] ∧ RowAt C H p t ds ∧ (∀ d ∈ ds, GoodR d) ∧ 0 ≤ t ∧ AllR t ds ∧ ds.length ≤ 900 ∧ ∀ H' x, Same H H' → RowAt C H' x (endR t ds) (flipD ds) → Q (.ref x) H'
set_option maxHeartbeats 1000000 in
theorem ok_flipped {f : Addr} {fd : FuncData} (F : Fun K "flipped" "Row.flipped" s_Row_flipped f fd) (L : RowC K mg C) (gU : mg "UPSIDE_DOWN" = some (.ref dU)) (TU : UpD K w dU)
    {p_bo f_bo : Addr} {d_bo : FuncData} (P_bo : PropOf K C "bottom" p_bo f_bo) (G_bo : FnOk P w K mg base CX0 1 f_bo d_bo ["self"] (spBottom C)) (b_bo : Binds K d_bo ["self"] [])
    {f_i : Addr} {d_i : FuncData} (M : Mk K C f_i) (G_i : GRI P w K mg base C f_i d_i) (b_i : Binds K d_i ["self", "top", "letters"] []) : FnOk P w K mg base CX0 7 f fd ["self"] (spFlip C) := by
  refine F.ok sc_Row_flipped (fun vs H Q E h => ?_) (fun cdv A outer s H vs Q E hr h => ?_)
  · obtain ⟨p, t, ds, rfl, _⟩ := h
    rfl
  · obtain ⟨p, t, ds, rfl, hp, hg, t0, al, hl, q⟩ := h
    refine ⟨_, (pss_one (ps_ret (pe_make M G_i (hr.mono (by decide)) (by rfl) L.g b_i .nil pass0 (pa_cons (pe_prop (pv 0) L.cl P_bo G_bo (hr.mono (by decide)) b_bo .nil pass0 (by rfl)) (pa_cons (pe_lc (own := [("word", 1), ("lane", 2)]) (g := gTup K 2 (gCons (gName 1) (gCons (gName 2) gNil))) (tt := tYes) rfl sc_Row_flipped.nd (pi_tup (pe_revT (pe_fld (pv 0) rfl))) (blkOk_by (own := [("word", 1), ("lane", 2)]) (N := ["self", "word", "lane"]) (sc := defScope s_Row_flipped) (by decide +kernel)) (fun _ _ _ _ _ => (pg_tup (by rfl) (pgs_cons (pg_name (i := 1) sc_Row_flipped.nd rfl (.inl rfl)) (pgs_cons (pg_name (i := 2) sc_Row_flipped.nd rfl (.inl rfl)) pgs_nil)))) (fun _ _ _ _ _ => pts_nil) (fun _ _ _ _ _ => (pe_tup (pa_cons (pe_ix (r := rIxD K w) ix_kdict (pe_glob (v := .ref dU) (by rfl) gU rfl) (pv 1) (fun _ _ => rfl)) (pa_cons (pv 2) pa_nil))))) pa_nil))))), ?_⟩
    obtain ⟨dx, la, a, us, e, ela, ea, k⟩ := id hp
    have gd := hg
    refine ⟨_, rfl, p, dx, _, rfl, e, p, t, ds, rfl, hp, ?_⟩
    refine ⟨_, rfl, p, C, dx, _, _, rfl, e, L.cl, L.nL, look_letters _ _ _, a, us, rfl, .inl (.inl ea), fun r nr => ?_⟩
    have s1 := same_upd (o := .tup us.reverse) nr
    have er : upd H r (.tup us.reverse) r = some (.tup us.reverse) := upd_same
    have k1 := k.same s1
    generalize upd H r (.tup us.reverse) = H1 at *
    have lu : us.length = ds.length := k.1
    refine ⟨r, rfl, ⟨_, .inl (.inl er)⟩, fun M nM => lc_tup (K := K) (a := r) (xs := us.reverse) (fun i Hi => ∃ Hc vs, Same H1 Hc ∧ Hc M = none ∧ Hi = upd Hc M (.lst vs) ∧ LtT Hc vs ((flipD ds).take i)) ⟨H1, [], Same.refl _, nM, rfl, .nil⟩ (fun i Hi _ pv => ?_) (fun i x Hi hx pv => ?_) (fun Hi pv => ?_)⟩
    · obtain ⟨Hc, vs, sc, nc, rfl, _⟩ := pv
      exact .inl (.inl ((sc.trans (same_upd nc)) _ _ er))
    · obtain ⟨Hc, vs, sc, nc, rfl, tc⟩ := pv
      have hi : i < us.length := by
        have := (List.getElem?_eq_some_iff.mp hx).1
        rw [List.length_reverse] at this
        exact this
      have hif : i < (flipD ds).length := by rw [flip_len]; omega
      have ei := List.getElem?_eq_getElem hif
      obtain ⟨_, u, hu, eu⟩ := flip_at ei
      rw [List.getElem?_reverse hi] at hx
      obtain ⟨b, e1, e2⟩ := k1.2 _ u hu
      rw [lu] at hx
      rw [hx] at e1
      cases e1
      have sM := same_upd (o := .lst vs) nc
      have eb := (sc.trans sM) _ _ e2
      refine ⟨b, _, rfl, .inl (.inl eb), rfl, _, _, rfl, _, _, rfl, rfl, rfl, ?_⟩
      refine ⟨_, rfl, dU, u.1, .str (upW u.1), rfl, rfl, TU.at_ _ (up_mem (gd u (List.mem_of_getElem? hu))), _, rfl, by show 2 ≤ sizeLine; decide, fun l nl => ?_⟩
      have sl := same_upd (o := .tup [.str (upW u.1), .int u.2]) nl
      have eM := sl _ _ (upd_same (H := Hc) (a := M) (o := .lst vs))
      have nlM : l ≠ M := fun z => by rw [z, upd_same] at nl; cases nl
      refine ⟨vs, eM, by rw [tc.1, List.length_take]; exact Nat.lt_of_le_of_lt (Nat.min_le_left _ _) (small1000 (by omega)), hole (upd (upd Hc M (.lst vs)) l (.tup [.str (upW u.1), .int u.2])) M, vs ++ [.ref l], same_hole nM ((sc.trans sM).trans sl), hole_at, upd_hole.symm, ?_⟩
      rw [List.take_add_one, ei]
      refine (tc.same (same_hole nc (sM.trans sl))).snoc ?_
      rw [hole_ne nlM, upd_same, eu]
      rfl
    · obtain ⟨Hc, vs, sc, nc, rfl, tc⟩ := pv
      rw [List.length_reverse, lu, ← flip_len, List.take_length] at tc
      have s5 := sc.trans (same_upd (o := .lst vs) nc)
      have tc5 := tc.same (same_upd (o := .lst vs) nc)
      have gf : ∀ d ∈ flipD ds, GoodR d := fun d hd => by
        unfold flipD at hd
        obtain ⟨u, hu, rfl⟩ := List.mem_map.mp hd
        exact flip_good (gd u (List.mem_reverse.mp hu))
      exact fun x dx' nx nd ne => ⟨x, dx', endR t ds, M, vs, flipD ds, _, rfl, upd_same, nx, new_same nx nd ne, end_flip_all gd t0 al, .inl upd_same, tc5.h, gf, all_flip gd al, by rw [flip_len]; omega, fun H' s c => ⟨rfl, q H' x ((s1.trans s5).trans s) c⟩⟩
end
end Own

namespace Own
/-! ### heights along a row: the table of a row tells their greatest differences -/
def Lip (t : Int) (u : Int → Int) : Prop := ∀ g, 0 ≤ g → g < t → u (g + 1) - u g ≤ 1 ∧ u g - u (g + 1) ≤ 1
def StX (t l : Int) (u w : Int → Int) : Prop := ∀ g, 0 ≤ g → g ≤ t → g ≠ l + 1 → w g = u g
def StU (t l : Int) (u w : Int → Int) : Prop := (∀ g, 0 ≤ g → g ≤ l → w g = u g) ∧ ∀ g, l ≤ g → g ≤ t → w (g + 2) = u g
def StL (t : Int) (d : Lt) (u w : Int → Int) : Prop := if d.1 = "cup" then StU t d.2 u w else if d.1 = "cross" then StX t d.2 u w else StU (t - 2) d.2 w u
def Conn : Int → List Lt → (Int → Int) → (Int → Int) → Prop
  | t, [], u, v => Lip t u ∧ v = u
  | t, d :: r, u, v => Lip t u ∧ ∃ w, StL t d u w ∧ Conn (t + chgR d.1) r w v
theorem Conn.lip {t : Int} : ∀ {ds : List Lt} {u v : Int → Int}, Conn t ds u v → Lip t u
  | [], _, _, h => h.1
  | _ :: _, _, _, h => h.1
theorem conn_app {b : List Lt} : ∀ {a : List Lt} {t : Int} {u v : Int → Int}, Conn t (a ++ b) u v ↔ ∃ w, Conn t a u w ∧ Conn (endR t a) b w v
  | [], t, u, v => ⟨fun h => ⟨u, ⟨h.lip, rfl⟩, h⟩, fun ⟨w, h1, h2⟩ => by obtain ⟨_, rfl⟩ := h1; exact h2⟩
  | d :: r, t, u, v => ⟨fun ⟨h1, w, h2, h3⟩ => by
      obtain ⟨x, h4, h5⟩ := conn_app.mp h3
      exact ⟨x, ⟨h1, w, h2, h4⟩, h5⟩, fun ⟨x, ⟨h1, w, h2, h4⟩, h5⟩ => ⟨h1, w, h2, conn_app.mpr ⟨x, h4, h5⟩⟩⟩
theorem conn_one {t : Int} {d : Lt} {u v : Int → Int} : Conn t [d] u v ↔ Lip t u ∧ StL t d u v ∧ Lip (t + chgR d.1) v :=
  ⟨fun ⟨h1, w, h2, h3, h4⟩ => by subst h4; exact ⟨h1, h2, h3⟩, fun ⟨h1, h2, h3⟩ => ⟨h1, v, h2, h3, rfl⟩⟩
theorem st_flip {t : Int} {d : Lt} {u w : Int → Int} (g : GoodR d) (h : StL t d u w) : StL (t + chgR d.1) (flip1 d) w u := by
  unfold StL flip1 at *
  rcases good_word g with e | e | e <;> rw [e] at h ⊢
  · rw [if_neg (by decide +kernel), if_pos rfl] at h
    rw [if_neg (show ¬ upW "cross" = "cup" by decide +kernel), if_pos (show upW "cross" = "cross" by decide +kernel), show chgR "cross" = 0 by decide +kernel]
    exact fun g g0 g1 hg => (h g g0 (by omega) hg).symm
  · rw [if_pos rfl] at h
    rw [if_neg (show ¬ upW "cup" = "cup" by decide +kernel), if_neg (show ¬ upW "cup" = "cross" by decide +kernel), show chgR "cup" = 2 by decide +kernel, show t + 2 - 2 = t by omega]
    exact h
  · rw [if_neg (by decide +kernel), if_neg (by decide +kernel)] at h
    rw [if_pos (show upW "cap" = "cup" by decide +kernel), show chgR "cap" = -2 by decide +kernel, show t + -2 = t - 2 by omega]
    exact h
theorem flipD_cons (d : Lt) (r : List Lt) : flipD (d :: r) = flipD r ++ [flip1 d] := by
  unfold flipD
  rw [List.reverse_cons, List.map_append]
  rfl
theorem conn_flip : ∀ {ds : List Lt} {t : Int} {u v : Int → Int}, (∀ d ∈ ds, GoodR d) → Conn t ds u v → Conn (endR t ds) (flipD ds) v u
  | [], t, u, v, _, h => by
    obtain ⟨h1, rfl⟩ := h
    exact ⟨h1, rfl⟩
  | d :: r, t, u, v, g, h => by
    obtain ⟨h1, w, h2, h3⟩ := h
    have gr := fun e he => g e (List.mem_cons_of_mem _ he)
    have gd := g d List.mem_cons_self
    have ih := conn_flip gr h3
    have e := end_flip (t := t + chgR d.1) gr r.length (Nat.le_refl _)
    rw [← flip_len r, List.take_length, flip_len, Nat.sub_self, List.take_zero] at e
    rw [flipD_cons, endR_cons]
    refine conn_app.mpr ⟨w, ih, ?_⟩
    rw [e]
    refine conn_one.mpr ⟨h3.lip, st_flip gd h2, ?_⟩
    rw [chg_up gd, show endR (t + chgR d.1) [] = t + chgR d.1 from rfl, show t + chgR d.1 + -chgR d.1 = t by omega]
    exact h1
/-! ### heights on the rim -/
def bnd (t n : Int) (u v : Int → Int) (i : Int) : Int := if i < t then u (i + 1) else v (hi n 1 - 1 - i)
def gpG (n g : Int) : Int := (n - 1 - g).fmod (hi n 1)
def Vg (n i : Int) : Prop := 0 ≤ i ∧ i < hi n 1
abbrev PP := (Int → Int) → (Int → Int) → Prop
structure Pots (t b : Int) (P : PP) : Prop where
  lo_ : ∀ {u v u' v'}, P u v → P u' v' → P (fun g => lo (u g) (u' g)) fun g => lo (v g) (v' g)
  sh : ∀ {u v} (c : Int), P u v → P (fun g => u g + c) fun g => v g + c
  zero : P (fun _ => 0) fun _ => 0
  lip : ∀ {u v}, P u v → Lip b v
  out : ∀ {u v}, P u v → v 0 = u 0 ∧ v b = u t
structure Tell (t b : Int) (P : PP) (T : Int → Int → Int) : Prop where
  up : ∀ {u v}, P u v → ∀ {i j}, Vg (t + b) i → Vg (t + b) j → bnd t (t + b) u v j - bnd t (t + b) u v i ≤ T i j ∧ bnd t (t + b) u v i - bnd t (t + b) u v j ≤ T i j
  ex : ∀ {i}, Vg (t + b) i → ∃ u v, P u v ∧ ∀ {j}, Vg (t + b) j → bnd t (t + b) u v j - bnd t (t + b) u v i = T i j
theorem Tell.sy {t b : Int} {P : PP} {T : Int → Int → Int} (h : Tell t b P T) {i j : Int} (vi : Vg (t + b) i) (vj : Vg (t + b) j) : T i j = T j i := by
  obtain ⟨u, v, p, e⟩ := h.ex vi
  obtain ⟨u', v', p', e'⟩ := h.ex vj
  have h1 := e vj
  have h2 := e' vi
  have h3 := (h.up p vj vi).2
  have h4 := (h.up p' vi vj).2
  omega
theorem Tell.dg {t b : Int} {P : PP} {T : Int → Int → Int} (h : Tell t b P T) {i : Int} (vi : Vg (t + b) i) : T i i = 0 := by
  obtain ⟨u, v, p, e⟩ := h.ex vi
  have h1 := e vi
  omega
theorem Tell.nn {t b : Int} {P : PP} {T : Int → Int → Int} (h : Tell t b P T) {i j : Int} (vi : Vg (t + b) i) (vj : Vg (t + b) j) : 0 ≤ T i j := by
  obtain ⟨u, v, p, e⟩ := h.ex vi
  have h1 := h.up p vi vj
  omega
/-- heights that tell T, from 0 on -/
theorem Tell.ex0 {t b : Int} {P : PP} {T : Int → Int → Int} (k : Pots t b P) (h : Tell t b P T) {i : Int} (vi : Vg (t + b) i) : ∃ u v, P u v ∧ ∀ {j}, Vg (t + b) j → bnd t (t + b) u v j = T i j := by
  obtain ⟨u, v, p, e⟩ := h.ex vi
  refine ⟨_, _, k.sh (-(bnd t (t + b) u v i)) p, fun {j} vj => ?_⟩
  have h1 := e vj
  have : ∀ c, bnd t (t + b) (fun g => u g + c) (fun g => v g + c) j = bnd t (t + b) u v j + c := fun c => by
    unfold bnd
    split <;> rfl
  rw [this]
  omega
theorem bnd_lo {t n j : Int} {u v u' v' : Int → Int} : bnd t n (fun g => lo (u g) (u' g)) (fun g => lo (v g) (v' g)) j = lo (bnd t n u v j) (bnd t n u' v' j) := by
  unfold bnd
  split <;> rfl
theorem bnd_sh {t n j c : Int} {u v : Int → Int} : bnd t n (fun g => u g + c) (fun g => v g + c) j = bnd t n u v j + c := by
  unfold bnd
  split <;> rfl
theorem bnd_gp {t b : Int} {u v : Int → Int} (t0 : 0 ≤ t) (b0 : 0 ≤ b) (o0 : v 0 = u 0) (o1 : v b = u t) {g : Int} (g0 : 0 ≤ g) (g1 : g ≤ b) : Vg (t + b) (gpG (t + b) g) ∧ bnd t (t + b) u v (gpG (t + b) g) = v g := by
  have hh := lo_hi (t + b) 1
  have hp : 0 < hi (t + b) 1 := by omega
  refine ⟨fmod_in _ hp, ?_⟩
  unfold gpG bnd
  by_cases c : t + b = 0
  · have : t = 0 := by omega
    have : b = 0 := by omega
    have : g = 0 := by omega
    have h1 : hi (t + b) 1 = 1 := by omega
    rw [h1, show t + b - 1 - g = -1 by omega, show (-1 : Int).fmod 1 = 0 by decide, if_neg (by omega), show (1 : Int) - 1 - 0 = 0 by omega, show g = 0 by omega]
  · have h1 : hi (t + b) 1 = t + b := by omega
    rw [h1]
    by_cases c2 : t + b - 1 - g < 0
    · have : t = 0 := by omega
      have : g = b := by omega
      have e : (t + b - 1 - g).fmod (t + b) = t + b - 1 := by
        rw [show t + b - 1 - g = -1 by omega, show (-1 : Int) = (t + b - 1) + (t + b) * (-1) by omega, Int.add_mul_fmod_self_left]
        exact fmod_lo (by omega) (by omega)
      rw [e, if_neg (by omega), show t + b - 1 - (t + b - 1) = 0 by omega, o0, show g = b by omega, o1, show t = 0 by omega]
    · rw [fmod_lo (by omega) (by omega)]
      split
      · rw [show t + b - 1 - g + 1 = t by omega, show g = b by omega, o1]
      · rw [show t + b - 1 - (t + b - 1 - g) = g by omega]
end Own

namespace Own
/-! ### two cords joined plainly -/
def jpM (M : Int → Int) (a x : Int) : Int := if x = a then a + 1 else if x = a + 1 then a else if x = M a then M (a + 1) else if x = M (a + 1) then M a else M x
/-- the law's word for two cords that cross -/
def lcr (A B C D : Int) : Prop := A ≠ B ∧ A ≠ C ∧ A ≠ D ∧ B ≠ C ∧ B ≠ D ∧ C ≠ D ∧ ¬ ((lo A B < C ∧ C < hi A B) ↔ (lo A B < D ∧ D < hi A B))
def bit (p : Prop) [Decidable p] : Int := if p then 1 else 0
theorem met_tM {n : Int} {M : Int → Int} (h : Mat n M) : Met (tM n M) := by
  have e : tabE (mtE M n.toNat) = tM n M := funext fun i => funext fun j => mt_tab i j
  rw [← e]
  exact (mtE_good h).met
theorem ct_01 (a m i j : Int) : ct a m i j = 0 ∨ ct a m i j = 1 := by
  unfold ct
  split
  · exact .inr rfl
  · exact .inl rfl
theorem ct_rel (a m i j k : Int) : ct a m i j = if ct a m i k = ct a m j k then 0 else 1 := by
  unfold ct
  generalize lo a m = x
  generalize hi a m = y
  by_cases h1 : x ≤ i ∧ i < y <;> by_cases h2 : x ≤ j ∧ j < y <;> by_cases h3 : x ≤ k ∧ k < y <;> simp [h1, h2, h3]
theorem stp_ct {a m : Int} (h : m ≠ a) (i : Int) : stp a m i = 1 - 2 * ct a m i (a - 1) := by
  unfold stp ct
  rcases lo_hi a m with ⟨h1, h2, h3⟩ | ⟨h1, h2, h3⟩ <;> rw [h2, h3] <;> repeat' split
  all_goals omega
theorem ct_par {a m1 m2 i : Int} (d1 : m1 ≠ a) (d2 : m1 ≠ a + 1) (d3 : m2 ≠ a) (d4 : m2 ≠ a + 1) (d5 : m1 ≠ m2) (hi_ : i ≠ a) : ct m1 m2 i (a - 1) = if ct a m1 i (a - 1) = ct (a + 1) m2 i (a - 1) then 0 else 1 := by
  unfold ct
  rcases lo_hi a m1 with ⟨h1, h2, h3⟩ | ⟨h1, h2, h3⟩ <;> rcases lo_hi (a + 1) m2 with ⟨k1, k2, k3⟩ | ⟨k1, k2, k3⟩ <;> rcases lo_hi m1 m2 with ⟨l1, l2, l3⟩ | ⟨l1, l2, l3⟩ <;> rw [h2, h3, k2, k3, l2, l3] <;> grind
theorem ct_geo {a m1 m2 i j : Int} (d1 : m1 ≠ a) (d2 : m1 ≠ a + 1) (d3 : m2 ≠ a) (d4 : m2 ≠ a + 1) (d5 : m1 ≠ m2) (hi_ : i ≠ a) : ¬ (ct a m1 i (a - 1) = 1 ∧ ct (a + 1) m2 i (a - 1) = 0 ∧ ct a m1 j (a - 1) = 0 ∧ ct (a + 1) m2 j (a - 1) = 1) := by
  unfold ct
  rcases lo_hi a m1 with ⟨h1, h2, h3⟩ | ⟨h1, h2, h3⟩ <;> rcases lo_hi (a + 1) m2 with ⟨k1, k2, k3⟩ | ⟨k1, k2, k3⟩ <;> rw [h2, h3, k2, k3] <;> grind
/-- one of the other cords, which does not cross both -/
theorem jp_pt {p q a m1 m2 i j : Int} (pq : p < q) (p1 : p ≠ a) (p2 : p ≠ a + 1) (p3 : p ≠ m1) (p4 : p ≠ m2) (q1 : q ≠ a) (q2 : q ≠ a + 1) (q3 : q ≠ m1) (q4 : q ≠ m2)
    (d1 : m1 ≠ a) (d2 : m1 ≠ a + 1) (d3 : m2 ≠ a) (d4 : m2 ≠ a + 1) (d5 : m1 ≠ m2) (no : ¬ (lcr p q a m1 ∧ lcr p q (a + 1) m2))
    (i1 : ct a m1 i (a - 1) = 0) (i2 : ct (a + 1) m2 i (a - 1) = 0) (j1 : ct a m1 j (a - 1) = 1) (j2 : ct (a + 1) m2 j (a - 1) = 1) :
    ct p q i (a - 1) + ct p q (a + 1) j = ct p q i j := by
  have hl : lo p q = p ∧ hi p q = q := by have := lo_hi p q; omega
  unfold lcr at no
  rw [hl.1, hl.2] at no
  unfold ct at *
  rw [hl.1, hl.2]
  rcases lo_hi a m1 with ⟨h1, h2, h3⟩ | ⟨h1, h2, h3⟩ <;> rcases lo_hi (a + 1) m2 with ⟨k1, k2, k3⟩ | ⟨k1, k2, k3⟩ <;> rw [h2, h3] at i1 j1 <;> rw [k2, k3] at i2 j2 <;> grind
theorem pre_add (f g : Int → Int) : ∀ k : Nat, pre (fun x => f x + g x) k = pre f k + pre g k
  | 0 => rfl
  | k + 1 => by
    rw [pre, pre, pre, pre_add f g k]
    omega
theorem fM_ct {M : Int → Int} {p : Int} (h : p < M p) (i j : Int) : fM M i j p = ct p (M p) i j := by
  have hl := lo_hi p (M p)
  unfold fM ct
  rw [show lo p (M p) = p by omega, show hi p (M p) = M p by omega]
  generalize M p = m at *
  by_cases c : (p ≤ i ∧ i < m ↔ p ≤ j ∧ j < m)
  · rw [if_neg fun z => z.2 c, if_neg fun z => z c]
  · rw [if_pos ⟨h, c⟩, if_pos c]
theorem fM_no {M : Int → Int} {p : Int} (h : ¬ p < M p) (i j : Int) : fM M i j p = 0 := if_neg fun z => h z.1
section
variable {n : Int} {M : Int → Int} (h : Mat n M) {a : Int} (a0 : 0 ≤ a) (a1 : a + 1 < n)
include h a0 a1
theorem jp_vals (d : M a ≠ a + 1) : jpM M a a = a + 1 ∧ jpM M a (a + 1) = a ∧ jpM M a (M a) = M (a + 1) ∧ jpM M a (M (a + 1)) = M a ∧ M a ≠ a ∧ M (a + 1) ≠ a ∧ M (a + 1) ≠ a + 1 ∧ M a ≠ M (a + 1) := by
  have e1 := h.ne a a0 (by omega)
  have e2 := h.ne (a + 1) (by omega) a1
  have e3 := h.inv a a0 (by omega)
  have e4 := h.inv (a + 1) (by omega) a1
  have e5 : M (a + 1) ≠ a := fun z => by rw [z] at e4; exact d e4
  have e6 : M a ≠ M (a + 1) := fun z => by rw [z, e4] at e3; omega
  unfold jpM
  refine ⟨if_pos rfl, ?_, ?_, ?_, e1, e5, e2, e6⟩
  · rw [if_neg (by omega), if_pos rfl]
  · rw [if_neg e1, if_neg d, if_pos rfl]
  · rw [if_neg e5, if_neg e2, if_neg (Ne.symm e6), if_pos rfl]
theorem jp_else {x : Int} (h1 : x ≠ a) (h2 : x ≠ a + 1) (h3 : x ≠ M a) (h4 : x ≠ M (a + 1)) : jpM M a x = M x := by
  unfold jpM
  rw [if_neg h1, if_neg h2, if_neg h3, if_neg h4]
theorem jp_closed (d : M a = a + 1) {x : Int} (x0 : 0 ≤ x) (x1 : x < n) : jpM M a x = M x := by
  have e3 := h.inv a a0 (by omega)
  rw [d] at e3
  unfold jpM
  rw [d, e3]
  repeat' split
  all_goals first | rfl | (subst_vars; first | exact d.symm | exact e3.symm | omega)
theorem jp_mat : Mat n (jpM M a) := by
  by_cases d : M a = a + 1
  · exact ⟨fun x x0 x1 => by rw [jp_closed h a0 a1 d x0 x1]; exact h.in_ x x0 x1, fun x x0 x1 => by rw [jp_closed h a0 a1 d x0 x1]; exact h.ne x x0 x1, fun x x0 x1 => by
      have hx := h.in_ x x0 x1
      rw [jp_closed h a0 a1 d x0 x1, jp_closed h a0 a1 d hx.1 hx.2]
      exact h.inv x x0 x1⟩
  · obtain ⟨v1, v2, v3, v4, e1, e2, e3, e4⟩ := jp_vals h a0 a1 d
    have r1 := h.in_ a a0 (by omega)
    have r2 := h.in_ (a + 1) (by omega) a1
    have key : ∀ x, 0 ≤ x → x < n → (0 ≤ jpM M a x ∧ jpM M a x < n) ∧ jpM M a x ≠ x ∧ jpM M a (jpM M a x) = x := fun x x0 x1 => by
      by_cases c1 : x = a
      · rw [c1, v1, v2]; omega
      by_cases c2 : x = a + 1
      · rw [c2, v2, v1]; omega
      by_cases c3 : x = M a
      · rw [c3, v3, v4]; omega
      by_cases c4 : x = M (a + 1)
      · rw [c4, v4, v3]; omega
      have rx := h.in_ x x0 x1
      have ix := h.inv x x0 x1
      have nx := h.ne x x0 x1
      have ia := h.inv a a0 (by omega)
      have ib := h.inv (a + 1) (by omega) a1
      rw [jp_else h a0 a1 c1 c2 c3 c4, jp_else h a0 a1 (fun z => c3 (by rw [← z, ix])) (fun z => c4 (by rw [← z, ix])) (fun z => c1 (by rw [← ix, z, ia])) (fun z => c2 (by rw [← ix, z, ib]))]
      exact ⟨rx, nx, ix⟩
    exact ⟨fun x x0 x1 => (key x x0 x1).1, fun x x0 x1 => (key x x0 x1).2.1, fun x x0 x1 => (key x x0 x1).2.2⟩
theorem jp_sum (d : M a ≠ a + 1) (i j : Int) : tM n M i j = tM n (jpM M a) i j + (ct a (M a) i j + ct (a + 1) (M (a + 1)) i j - (ct a (a + 1) i j + ct (M a) (M (a + 1)) i j)) := by
  obtain ⟨v1, v2, v3, v4, e1, e2, e3, e4⟩ := jp_vals h a0 a1 d
  have hj := jp_mat h a0 a1
  have r1 := h.in_ a a0 (by omega)
  have r2 := h.in_ (a + 1) (by omega) a1
  have s := tM_diff (n := n) (M := M) (N := jpM M a) (i := i) (j := j) (k := i) (l := j) [a, a + 1, M a, M (a + 1)] (by simp; omega) (fun x hx => by simp at hx; omega) fun x x0 x1 hx => by
    simp only [List.mem_cons, List.not_mem_nil, or_false, not_or] at hx
    unfold fM
    rw [jp_else h a0 a1 hx.1 hx.2.1 hx.2.2.1 hx.2.2.2]
  have p1 := fM_pair h a0 (by omega) i j
  have p2 := fM_pair h (a := a + 1) (by omega) a1 i j
  have p3 := fM_pair hj a0 (by omega) i j
  have p4 := fM_pair hj r1.1 r1.2 i j
  rw [v1] at p3
  rw [v3] at p4
  simp only [List.map_cons, List.map_nil, List.sum_cons, List.sum_nil] at s
  omega
theorem jp_both (d : M a ≠ a + 1) (no : ∀ p, 0 ≤ p → p < n → p < M p → ¬ (lcr p (M p) a (M a) ∧ lcr p (M p) (a + 1) (M (a + 1)))) {i j : Int} (hi_ : i ≠ a) (hj_ : j ≠ a)
    (i1 : ct a (M a) i (a - 1) = 0) (i2 : ct (a + 1) (M (a + 1)) i (a - 1) = 0) (j1 : ct a (M a) j (a - 1) = 1) (j2 : ct (a + 1) (M (a + 1)) j (a - 1) = 1) :
    tM n M i (a - 1) + tM n M (a + 1) j = tM n (jpM M a) i j := by
  obtain ⟨v1, v2, v3, v4, e1, e2, e3, e4⟩ := jp_vals h a0 a1 d
  have hj := jp_mat h a0 a1
  have r1 := h.in_ a a0 (by omega)
  have r2 := h.in_ (a + 1) (by omega) a1
  have s := pre_some (f := fun x => fM M i (a - 1) x + fM M (a + 1) j x) (k := n.toNat) [a, a + 1, M a, M (a + 1)] (fM (jpM M a) i j) (by simp; omega) (fun x hx => by simp at hx; omega) fun x x0 x1 hx => by
    simp only [List.mem_cons, List.not_mem_nil, or_false, not_or] at hx
    have x1 : x < n := by omega
    have ix := h.inv x x0 x1
    have ia := h.inv a a0 (by omega)
    have ib := h.inv (a + 1) (by omega) a1
    have ej : fM (jpM M a) i j x = fM M i j x := by
      unfold fM
      rw [jp_else h a0 a1 hx.1 hx.2.1 hx.2.2.1 hx.2.2.2]
    rw [ej]
    by_cases c : x < M x
    · rw [fM_ct c, fM_ct c, fM_ct c]
      exact jp_pt c hx.1 hx.2.1 hx.2.2.1 hx.2.2.2 (fun z => hx.2.2.1 (by rw [← z, ix])) (fun z => hx.2.2.2 (by rw [← z, ix])) (fun z => hx.1 (by rw [← ix, z, ia])) (fun z => hx.2.1 (by rw [← ix, z, ib])) e1 d e2 e3 e4 (no x x0 x1 c) i1 i2 j1 j2
    · rw [fM_no c, fM_no c, fM_no c]
      rfl
  rw [pre_add] at s
  have p1 := fM_pair h a0 (by omega) i (a - 1)
  have p2 := fM_pair h (a := a + 1) (by omega) a1 i (a - 1)
  have q1 := fM_pair h a0 (by omega) (a + 1) j
  have q2 := fM_pair h (a := a + 1) (by omega) a1 (a + 1) j
  have p3 := fM_pair hj a0 (by omega) i j
  have p4 := fM_pair hj r1.1 r1.2 i j
  rw [v1] at p3
  rw [v3] at p4
  simp only [List.map_cons, List.map_nil, List.sum_cons, List.sum_nil] at s
  have c1 := ct_rel a (M a) (a + 1) j (a - 1)
  have c2 := ct_rel (a + 1) (M (a + 1)) (a + 1) j (a - 1)
  have c3 : ct a (M a) (a + 1) (a - 1) = 1 := by
    unfold ct
    rcases lo_hi a (M a) with ⟨h1, h2, h3⟩ | ⟨h1, h2, h3⟩ <;> rw [h2, h3] <;> grind
  have c4 : ct (a + 1) (M (a + 1)) (a + 1) (a - 1) = 1 := by
    unfold ct
    rcases lo_hi (a + 1) (M (a + 1)) with ⟨h1, h2, h3⟩ | ⟨h1, h2, h3⟩ <;> rw [h2, h3] <;> grind
  have c5 : ct a (a + 1) i j = 0 := by
    unfold ct
    rw [show lo a (a + 1) = a by have := lo_hi a (a + 1); omega, show hi a (a + 1) = a + 1 by have := lo_hi a (a + 1); omega]
    grind
  have c6 := ct_rel (M a) (M (a + 1)) i j (a - 1)
  rw [ct_par e1 d e2 e3 e4 hi_, ct_par e1 d e2 e3 e4 hj_, i1, i2, j1, j2] at c6
  rw [c3, j1] at c1
  rw [c4, j2] at c2
  simp only [if_true] at c1 c2 c6
  show tM n M i (a - 1) + tM n M (a + 1) j = _
  unfold tM
  omega
/-- the joined cords have the table of the least ways -/
theorem jp_tab (no : M a = a + 1 ∨ ∀ p, 0 ≤ p → p < n → p < M p → ¬ (lcr p (M p) a (M a) ∧ lcr p (M p) (a + 1) (M (a + 1)))) {i j : Int} (hi_ : i ≠ a) (hj_ : j ≠ a) : tM n (jpM M a) i j = jnT (tM n M) a i j := by
  have mt := met_tM h
  have s1 := tM_step h a0 (by omega) i
  have s2 := tM_step h a0 (by omega) j
  have s3 := tM_step h (a := a + 1) (by omega) a1 i
  have s4 := tM_step h (a := a + 1) (by omega) a1 j
  rw [show a + 1 - 1 = a by omega] at s3 s4
  have t1 := mt.tri i (a - 1) j
  have t2 := mt.tri i (a + 1) j
  have y1 := mt.sy (a - 1) j
  have y2 := mt.sy (a + 1) j
  have mn := mn3_le (tM n M i j) (tM n M i (a + 1) + tM n M (a - 1) j) (tM n M i (a - 1) + tM n M (a + 1) j)
  unfold jnT
  by_cases d : M a = a + 1
  · have ej : tM n (jpM M a) i j = tM n M i j := pre_congr fun x x0 x1 => by
      unfold fM
      rw [jp_closed h a0 a1 d x0 (by omega)]
    have e3 := h.inv a a0 (by omega)
    rw [d] at e3
    rw [ej]
    have z : ∀ k, k ≠ a → stp a (M a) k + stp (a + 1) (M (a + 1)) k = 0 := fun k hk => by
      rw [d, e3]
      unfold stp
      grind
    have z1 := z i hi_
    have z2 := z j hj_
    omega
  · have no := no.resolve_left d
    obtain ⟨v1, v2, v3, v4, e1, e2, e3, e4⟩ := jp_vals h a0 a1 d
    have q := jp_sum h a0 a1 d i j
    have c5 : ct a (a + 1) i j = 0 := by
      unfold ct
      rw [show lo a (a + 1) = a by have := lo_hi a (a + 1); omega, show hi a (a + 1) = a + 1 by have := lo_hi a (a + 1); omega]
      grind
    have st1 := stp_ct e1 i
    have st2 := stp_ct e1 j
    have st3 := stp_ct e3 i
    have st4 := stp_ct e3 j
    rw [show a + 1 - 1 = a by omega] at st3 st4
    have bb : ∀ k, k ≠ a → ct (a + 1) (M (a + 1)) k a = ct (a + 1) (M (a + 1)) k (a - 1) := fun k hk => by
      unfold ct
      rcases lo_hi (a + 1) (M (a + 1)) with ⟨h1, h2, h3⟩ | ⟨h1, h2, h3⟩ <;> rw [h2, h3] <;> grind
    rw [bb i hi_] at st3
    rw [bb j hj_] at st4
    have c1 := ct_rel a (M a) i j (a - 1)
    have c2 := ct_rel (a + 1) (M (a + 1)) i j (a - 1)
    have c6 := ct_rel (M a) (M (a + 1)) i j (a - 1)
    rw [ct_par e1 d e2 e3 e4 hi_, ct_par e1 d e2 e3 e4 hj_] at c6
    have g1 := ct_geo (j := j) e1 d e2 e3 e4 hi_
    have g2 := ct_geo (j := i) e1 d e2 e3 e4 hj_
    have b1 := jp_both h a0 a1 d no (i := i) (j := j) hi_ hj_
    have b2 := jp_both h a0 a1 d no (i := j) (j := i) hj_ hi_
    rw [tM_comm n (jpM M a) j i] at b2
    have y3 := mt.sy (a + 1) i
    have A := ct_01 a (M a) i (a - 1)
    have B := ct_01 (a + 1) (M (a + 1)) i (a - 1)
    have C := ct_01 a (M a) j (a - 1)
    have D := ct_01 (a + 1) (M (a + 1)) j (a - 1)
    generalize ct a (M a) i (a - 1) = p at *
    generalize ct (a + 1) (M (a + 1)) i (a - 1) = p' at *
    generalize ct a (M a) j (a - 1) = r at *
    generalize ct (a + 1) (M (a + 1)) j (a - 1) = r' at *
    generalize ct a (M a) i j = x1 at *
    generalize ct (a + 1) (M (a + 1)) i j = x2 at *
    generalize ct (M a) (M (a + 1)) i j = x3 at *
    rcases A with rfl | rfl <;> rcases B with rfl | rfl <;> rcases C with rfl | rfl <;> rcases D with rfl | rfl <;> simp at c1 c2 c6 g1 g2 b1 b2 <;> omega
end
end Own

namespace Own
/-! ### one letter more -/
/-- the heights with one letter more -/
def Nx (b : Int) (d : Lt) (P : PP) : PP := fun u v => ∃ w, P u w ∧ StL b d w v ∧ Lip (b + chgR d.1) v
theorem stU_lo {t l : Int} {u w u' w' : Int → Int} (h : StU t l u w) (h' : StU t l u' w') : StU t l (fun g => lo (u g) (u' g)) fun g => lo (w g) (w' g) :=
  ⟨fun g g0 g1 => by show lo _ _ = lo _ _; rw [h.1 g g0 g1, h'.1 g g0 g1], fun g g0 g1 => by show lo _ _ = lo _ _; rw [h.2 g g0 g1, h'.2 g g0 g1]⟩
theorem stU_sh {t l c : Int} {u w : Int → Int} (h : StU t l u w) : StU t l (fun g => u g + c) fun g => w g + c :=
  ⟨fun g g0 g1 => by show _ + _ = _ + _; rw [h.1 g g0 g1], fun g g0 g1 => by show _ + _ = _ + _; rw [h.2 g g0 g1]⟩
theorem stL_lo {t : Int} {d : Lt} {u w u' w' : Int → Int} (h : StL t d u w) (h' : StL t d u' w') : StL t d (fun g => lo (u g) (u' g)) fun g => lo (w g) (w' g) := by
  unfold StL at *
  split
  · rename_i c
    rw [if_pos c] at h h'
    exact stU_lo h h'
  · rename_i c
    rw [if_neg c] at h h'
    split
    · rename_i c2
      rw [if_pos c2] at h h'
      exact fun g g0 g1 hg => by show lo _ _ = lo _ _; rw [h g g0 g1 hg, h' g g0 g1 hg]
    · rename_i c2
      rw [if_neg c2] at h h'
      exact stU_lo h h'
theorem stL_sh {t c : Int} {d : Lt} {u w : Int → Int} (h : StL t d u w) : StL t d (fun g => u g + c) fun g => w g + c := by
  unfold StL at *
  split
  · rename_i c
    rw [if_pos c] at h
    exact stU_sh h
  · rename_i c
    rw [if_neg c] at h
    split
    · rename_i c2
      rw [if_pos c2] at h
      exact fun g g0 g1 hg => by show _ + _ = _ + _; rw [h g g0 g1 hg]
    · rename_i c2
      rw [if_neg c2] at h
      exact stU_sh h
theorem lip_lo {t : Int} {u u' : Int → Int} (h : Lip t u) (h' : Lip t u') : Lip t fun g => lo (u g) (u' g) := fun g g0 g1 => by
  have a := h g g0 g1
  have b := h' g g0 g1
  have c := lo_hi (u g) (u' g)
  have d := lo_hi (u (g + 1)) (u' (g + 1))
  show lo _ _ - lo _ _ ≤ 1 ∧ lo _ _ - lo _ _ ≤ 1
  omega
theorem lip_sh {t c : Int} {u : Int → Int} (h : Lip t u) : Lip t fun g => u g + c := fun g g0 g1 => by
  have a := h g g0 g1
  show _ + c - (_ + c) ≤ 1 ∧ _ + c - (_ + c) ≤ 1
  omega
theorem lip_zero (t : Int) : Lip t fun _ => 0 := fun g g0 g1 => ⟨by show (0 : Int) - 0 ≤ 1; omega, by show (0 : Int) - 0 ≤ 1; omega⟩
theorem stL_zero (t : Int) (d : Lt) : StL t d (fun _ => 0) fun _ => 0 := by
  unfold StL
  split
  · exact ⟨fun _ _ _ => rfl, fun _ _ _ => rfl⟩
  · split
    · exact fun _ _ _ _ => rfl
    · exact ⟨fun _ _ _ => rfl, fun _ _ _ => rfl⟩
theorem Pots.nx {t b : Int} {P : PP} {d : Lt} (k : Pots t b P) (g : GoodR d) (o : okR b d = true) : Pots t (b + chgR d.1) (Nx b d P) where
  lo_ := fun ⟨w, h1, h2, h3⟩ ⟨w', h1', h2', h3'⟩ => ⟨_, k.lo_ h1 h1', stL_lo h2 h2', lip_lo h3 h3'⟩
  sh := fun c ⟨w, h1, h2, h3⟩ => ⟨_, k.sh c h1, stL_sh h2, lip_sh h3⟩
  zero := ⟨_, k.zero, stL_zero _ _, lip_zero _⟩
  lip := fun ⟨w, h1, h2, h3⟩ => h3
  out := fun {u v} ⟨w, h1, h2, h3⟩ => by
    have e := k.out h1
    rw [← e.1, ← e.2]
    unfold StL at h2
    obtain ⟨d1, l⟩ := d
    rcases good_word g with c | c | c <;> (dsimp only at c h2 ⊢; subst c)
    · rw [if_neg (by decide +kernel), if_pos rfl] at h2
      rw [o_x] at o
      rw [c_x, show b + 0 = b by omega]
      exact ⟨h2 0 (by omega) (by omega) (by omega), h2 b (by omega) (by omega) (by omega)⟩
    · rw [if_pos rfl] at h2
      rw [o_u] at o
      rw [c_u]
      exact ⟨h2.1 0 (by omega) (by omega), h2.2 b (by omega) (by omega)⟩
    · rw [if_neg (by decide +kernel), if_neg (by decide +kernel)] at h2
      rw [o_a] at o
      rw [c_a]
      refine ⟨(h2.1 0 (by omega) (by omega)).symm, ?_⟩
      have := h2.2 (b - 2) (by omega) (by omega)
      rw [show b - 2 + 2 = b by omega] at this
      exact this.symm
section
variable {t b : Int} {P : PP} {T : Int → Int → Int} (t0 : 0 ≤ t) (k : Pots t b P) (h : Tell t b P T)
include t0 k h
theorem tell_x {l : Int} (l0 : 0 ≤ l) (l1 : l + 1 < b) : Tell t b (fun u v => ∃ w, P u w ∧ StX b l w v ∧ Lip b v) (croT (t + b) T l) := by
  have hh : hi (t + b) 1 = t + b := by have := lo_hi (t + b) 1; omega
  have old : ∀ {u v w : Int → Int}, P u w → StX b l w v → ∀ {i}, Vg (t + b) i → i ≠ t + b - 2 - l → bnd t (t + b) u v i = bnd t (t + b) u w i := fun {u v w} p s {i} vi hi_ => by
    unfold Vg at vi
    unfold bnd
    rw [hh] at vi ⊢
    split
    · rfl
    · exact s _ (by omega) (by omega) (by omega)
  have mid : ∀ {u v : Int → Int}, bnd t (t + b) u v (t + b - 2 - l) = v (l + 1) := fun {u v} => by
    unfold bnd
    rw [if_neg (by omega), hh, show t + b - 1 - (t + b - 2 - l) = l + 1 by omega]
  have gl : ∀ {u w : Int → Int}, P u w → Vg (t + b) (lefG (t + b) l) ∧ bnd t (t + b) u w (lefG (t + b) l) = w l := fun p => bnd_gp t0 (by omega) (k.out p).1 (k.out p).2 l0 (by omega)
  have gr : ∀ {u w : Int → Int}, P u w → Vg (t + b) (rigG (t + b) l) ∧ bnd t (t + b) u w (rigG (t + b) l) = w (l + 2) := fun p => by
    have := bnd_gp t0 (by omega) (k.out p).1 (k.out p).2 (show 0 ≤ l + 2 by omega) (by omega)
    unfold gpG at this
    unfold rigG
    rw [show t + b - 2 - l - 1 = t + b - 1 - (l + 2) by omega]
    exact this
  have vl := (gl k.zero).1
  have vr := (gr k.zero).1
  have vm : Vg (t + b) (t + b - 2 - l) := ⟨by omega, by omega⟩
  refine ⟨fun {u v} ⟨w, p, s, li⟩ {i j} vi vj => ?_, fun {i} vi => ?_⟩
  · have near : ∀ {x}, Vg (t + b) x → x ≠ t + b - 2 - l → v (l + 1) - bnd t (t + b) u w x ≤ lo (T x (lefG (t + b) l)) (T x (rigG (t + b) l)) + 1 ∧ bnd t (t + b) u w x - v (l + 1) ≤ lo (T x (lefG (t + b) l)) (T x (rigG (t + b) l)) + 1 := fun {x} vx hx => by
      have h1 := h.up p vx vl
      have h2 := h.up p vx vr
      rw [(gl p).2] at h1
      rw [(gr p).2] at h2
      have h3 := li l l0 (by omega)
      have h4 := li (l + 1) (by omega) (by omega)
      have e1 := s l l0 (by omega) (by omega)
      have e2 := s (l + 2) (by omega) (by omega) (by omega)
      rw [show l + 1 + 1 = l + 2 by omega] at h4
      have := lo_hi (T x (lefG (t + b) l)) (T x (rigG (t + b) l))
      omega
    unfold croT
    by_cases ci : i = t + b - 2 - l
    · by_cases cj : j = t + b - 2 - l
      · rw [if_pos ⟨ci, cj⟩, ci, cj]
        omega
      · have n := near vj cj
        rw [if_neg fun z => cj z.2, if_neg cj, if_pos ci, ci, mid, old p s vj cj]
        omega
    · by_cases cj : j = t + b - 2 - l
      · have n := near vi ci
        rw [if_neg fun z => ci z.1, if_pos cj, cj, mid, old p s vi ci]
        omega
      · rw [if_neg fun z => ci z.1, if_neg cj, if_neg ci, old p s vi ci, old p s vj cj]
        exact h.up p vi vj
  · by_cases ci : i = t + b - 2 - l
    · obtain ⟨u1, w1, p1, e1⟩ := h.ex0 k vl
      obtain ⟨u2, w2, p2, e2⟩ := h.ex0 k vr
      have pp := k.sh 1 (k.lo_ p1 p2)
      have st : StX b l (fun g => lo (w1 g) (w2 g) + 1) (fun g => if g = l + 1 then 0 else lo (w1 g) (w2 g) + 1) := fun g g0 g1 hg => by
        show (if g = l + 1 then (0 : Int) else lo (w1 g) (w2 g) + 1) = _
        rw [if_neg hg]
      have a1 := e1 vl
      have a2 := e1 vr
      have a3 := e2 vl
      have a4 := e2 vr
      rw [(gl p1).2, h.dg vl] at a1
      rw [(gr p1).2] at a2
      rw [(gl p2).2] at a3
      rw [(gr p2).2, h.dg vr] at a4
      have n1 := h.nn vl vr
      have n2 := h.nn vr vl
      have li : Lip b fun g => if g = l + 1 then 0 else lo (w1 g) (w2 g) + 1 := fun g g0 g1 => by
        show (if g + 1 = l + 1 then (0 : Int) else lo (w1 (g + 1)) (w2 (g + 1)) + 1) - (if g = l + 1 then (0 : Int) else lo (w1 g) (w2 g) + 1) ≤ 1 ∧ (if g = l + 1 then (0 : Int) else lo (w1 g) (w2 g) + 1) - (if g + 1 = l + 1 then (0 : Int) else lo (w1 (g + 1)) (w2 (g + 1)) + 1) ≤ 1
        by_cases c1 : g = l
        · rw [if_pos (by omega), if_neg (by omega), c1]
          have := lo_hi (w1 l) (w2 l)
          omega
        · by_cases c2 : g = l + 1
          · rw [if_neg (by omega), if_pos c2, c2, show l + 1 + 1 = l + 2 by omega]
            have := lo_hi (w1 (l + 2)) (w2 (l + 2))
            omega
          · rw [if_neg (by omega), if_neg c2]
            have := lip_lo (k.lip p1) (k.lip p2) g g0 g1
            dsimp only at this
            omega
      refine ⟨_, _, ⟨_, pp, st, li⟩, fun {j} vj => ?_⟩
      rw [ci]
      by_cases cj : j = t + b - 2 - l
      · rw [show croT (t + b) T l (t + b - 2 - l) j = 0 from if_pos ⟨rfl, cj⟩, cj, Int.sub_self]
      · have e : croT (t + b) T l (t + b - 2 - l) j = lo (T j (lefG (t + b) l)) (T j (rigG (t + b) l)) + 1 := by
          unfold croT
          rw [if_neg fun z => cj z.2, if_neg cj, if_pos rfl]
        rw [e, mid, old pp st vj cj, bnd_sh (u := fun g => lo (u1 g) (u2 g)) (v := fun g => lo (w1 g) (w2 g)), bnd_lo, e1 vj, e2 vj, h.sy vj vl, h.sy vj vr, if_pos rfl]
        omega
    · obtain ⟨u1, w1, p1, e1⟩ := h.ex vi
      have st : StX b l w1 (fun g => if g = l + 1 then lo (w1 l) (w1 (l + 2)) + 1 else w1 g) := fun g g0 g1 hg => if_neg hg
      have li : Lip b fun g => if g = l + 1 then lo (w1 l) (w1 (l + 2)) + 1 else w1 g := fun g g0 g1 => by
        show (if g + 1 = l + 1 then lo (w1 l) (w1 (l + 2)) + 1 else w1 (g + 1)) - (if g = l + 1 then lo (w1 l) (w1 (l + 2)) + 1 else w1 g) ≤ 1 ∧ (if g = l + 1 then lo (w1 l) (w1 (l + 2)) + 1 else w1 g) - (if g + 1 = l + 1 then lo (w1 l) (w1 (l + 2)) + 1 else w1 (g + 1)) ≤ 1
        have q1 := k.lip p1 l l0 (by omega)
        have q2 := k.lip p1 (l + 1) (by omega) (by omega)
        rw [show l + 1 + 1 = l + 2 by omega] at q2
        have ll := lo_hi (w1 l) (w1 (l + 2))
        by_cases c1 : g = l
        · rw [if_pos (by omega), if_neg (by omega), c1]
          omega
        · by_cases c2 : g = l + 1
          · rw [if_neg (by omega), if_pos c2, c2, show l + 1 + 1 = l + 2 by omega]
            omega
          · rw [if_neg (by omega), if_neg c2]
            exact k.lip p1 g g0 g1
      refine ⟨_, _, ⟨_, p1, st, li⟩, fun {j} vj => ?_⟩
      rw [old p1 st vi ci]
      unfold croT
      by_cases cj : j = t + b - 2 - l
      · rw [if_neg fun z => ci z.1, if_pos cj, cj, mid]
        have a1 := e1 vl
        have a2 := e1 vr
        rw [(gl p1).2] at a1
        rw [(gr p1).2] at a2
        show (if l + 1 = l + 1 then lo (w1 l) (w1 (l + 2)) + 1 else _) - _ = _
        rw [if_pos rfl, ← a1, ← a2]
        have l1 := lo_hi (w1 l) (w1 (l + 2))
        have l2 := lo_hi (w1 l - bnd t (t + b) u1 w1 i) (w1 (l + 2) - bnd t (t + b) u1 w1 i)
        omega
      · rw [if_neg fun z => ci z.1, if_neg cj, if_neg ci, old p1 st vj cj]
        exact e1 vj
end
end Own

namespace Own
section
variable {t b : Int} {P : PP} {T : Int → Int → Int} (t0 : 0 ≤ t) (k : Pots t b P) (h : Tell t b P T)
include t0 k h
theorem tell_u {l : Int} (l0 : 0 ≤ l) (l1 : l ≤ b) : Tell t (b + 2) (fun u v => ∃ w, P u w ∧ StU b l w v ∧ Lip (b + 2) v) (cupT (t + b) T l) := by
  have hh := lo_hi (t + b) 1
  have h2 : hi (t + (b + 2)) 1 = t + b + 2 := by have := lo_hi (t + (b + 2)) 1; omega
  have gp : ∀ {u w : Int → Int}, P u w → ∀ {g}, 0 ≤ g → g ≤ b → Vg (t + b) (gpG (t + b) g) ∧ bnd t (t + b) u w (gpG (t + b) g) = w g := fun {u w} p {g} g0 g1 => bnd_gp t0 (by omega) (k.out p).1 (k.out p).2 g0 g1
  have vl := (gp k.zero l0 l1).1
  have el : lefG (t + b) l = gpG (t + b) l := rfl
  have vo : ∀ {i}, Vg (t + (b + 2)) i → i ≠ t + b - l → Vg (t + b) (srcG (t + b) l i) := fun {i} vi hi_ => fmod_in _ (by omega)
  have old : ∀ {u v w : Int → Int}, P u w → StU b l w v → ∀ {i}, Vg (t + (b + 2)) i → i ≠ t + b - l → bnd t (t + (b + 2)) u v i = bnd t (t + b) u w (srcG (t + b) l i) := fun {u v w} p s {i} vi hi_ => by
    unfold Vg at vi
    rw [h2] at vi
    by_cases c : t + b - l ≤ i
    · have e : srcG (t + b) l i = gpG (t + b) (t + b + 1 - i) := by
        unfold srcG gpG
        rw [if_pos c, show i - 2 * 1 = t + b - 1 - (t + b + 1 - i) by omega]
      rw [e, (gp p (by omega) (by omega)).2]
      unfold bnd
      rw [if_neg (by omega), h2, show t + b + 2 - 1 - i = t + b + 1 - i by omega]
      exact s.1 _ (by omega) (by omega)
    · have e : srcG (t + b) l i = i := by
        unfold srcG
        rw [if_neg c, show i - 2 * 0 = i by omega]
        exact fmod_lo (by omega) (by omega)
      rw [e]
      unfold bnd
      rw [h2, show hi (t + b) 1 = t + b by omega]
      split
      · rfl
      · rw [show t + b + 2 - 1 - i = t + b - 1 - i + 2 by omega]
        exact s.2 _ (by omega) (by omega)
  have mid : ∀ {u v : Int → Int}, bnd t (t + (b + 2)) u v (t + b - l) = v (l + 1) := fun {u v} => by
    unfold bnd
    rw [if_neg (by omega), h2, show t + b + 2 - 1 - (t + b - l) = l + 1 by omega]
  refine ⟨fun {u v} ⟨w, p, s, li⟩ {i j} vi vj => ?_, fun {i} vi => ?_⟩
  · have near : ∀ {x}, Vg (t + (b + 2)) x → x ≠ t + b - l → v (l + 1) - bnd t (t + (b + 2)) u v x ≤ T (srcG (t + b) l x) (lefG (t + b) l) + 1 ∧ bnd t (t + (b + 2)) u v x - v (l + 1) ≤ T (srcG (t + b) l x) (lefG (t + b) l) + 1 := fun {x} vx hx => by
      rw [old p s vx hx, el]
      have h1 := h.up p (vo vx hx) vl
      rw [(gp p l0 l1).2] at h1
      have h3 := li l l0 (by omega)
      have e1 := s.1 l l0 (by omega)
      omega
    unfold cupT
    by_cases ci : i = t + b - l
    · by_cases cj : j = t + b - l
      · rw [if_pos ⟨ci, cj⟩, ci, cj]
        omega
      · have n := near vj cj
        rw [if_neg fun z => cj z.2, if_neg cj, if_pos ci, ci, mid]
        omega
    · by_cases cj : j = t + b - l
      · have n := near vi ci
        rw [if_neg fun z => ci z.1, if_pos cj, cj, mid]
        omega
      · rw [if_neg fun z => ci z.1, if_neg cj, if_neg ci, old p s vi ci, old p s vj cj]
        exact h.up p (vo vi ci) (vo vj cj)
  · have mk : ∀ {u1 w1 : Int → Int}, P u1 w1 → ∀ e : Int, e ≤ 1 → -1 ≤ e → StU b l w1 (fun g => if g ≤ l then w1 g else if g = l + 1 then w1 l + e else w1 (g - 2)) ∧ Lip (b + 2) (fun g => if g ≤ l then w1 g else if g = l + 1 then w1 l + e else w1 (g - 2)) := fun {u1 w1} p1 e e1 e2 => by
      refine ⟨⟨fun g g0 g1 => if_pos g1, fun g g0 g1 => ?_⟩, fun g g0 g1 => ?_⟩
      · show (if g + 2 ≤ l then _ else if g + 2 = l + 1 then _ else w1 (g + 2 - 2)) = _
        rw [if_neg (by omega), if_neg (by omega), show g + 2 - 2 = g by omega]
      · show (if g + 1 ≤ l then w1 (g + 1) else if g + 1 = l + 1 then w1 l + e else w1 (g + 1 - 2)) - (if g ≤ l then w1 g else if g = l + 1 then w1 l + e else w1 (g - 2)) ≤ 1 ∧ (if g ≤ l then w1 g else if g = l + 1 then w1 l + e else w1 (g - 2)) - (if g + 1 ≤ l then w1 (g + 1) else if g + 1 = l + 1 then w1 l + e else w1 (g + 1 - 2)) ≤ 1
        by_cases c1 : g < l
        · rw [if_pos (by omega), if_pos (by omega)]
          exact k.lip p1 g g0 (by omega)
        · by_cases c2 : g = l
          · rw [if_neg (by omega), if_pos (by omega), if_pos (by omega), c2]
            omega
          · by_cases c3 : g = l + 1
            · rw [if_neg (by omega), if_neg (by omega), if_neg (by omega), if_pos c3, show g + 1 - 2 = l by omega]
              omega
            · rw [if_neg (by omega), if_neg (by omega), if_neg (by omega), if_neg c3, show g + 1 - 2 = g - 2 + 1 by omega]
              exact k.lip p1 (g - 2) (by omega) (by omega)
    by_cases ci : i = t + b - l
    · obtain ⟨u1, w1, p1, e1⟩ := h.ex vl
      obtain ⟨st, li⟩ := mk p1 (-1) (by omega) (by omega)
      refine ⟨_, _, ⟨_, p1, st, li⟩, fun {j} vj => ?_⟩
      rw [ci]
      by_cases cj : j = t + b - l
      · rw [show cupT (t + b) T l (t + b - l) j = 0 from if_pos ⟨rfl, cj⟩, cj, Int.sub_self]
      · have e : cupT (t + b) T l (t + b - l) j = T (srcG (t + b) l j) (lefG (t + b) l) + 1 := by
          unfold cupT
          rw [if_neg fun z => cj z.2, if_neg cj, if_pos rfl]
        have a := e1 (vo vj cj)
        rw [(gp p1 l0 l1).2] at a
        rw [e, mid, old p1 st vj cj, el, h.sy (vo vj cj) vl, if_neg (by omega), if_pos rfl]
        omega
    · obtain ⟨u1, w1, p1, e1⟩ := h.ex (vo vi ci)
      obtain ⟨st, li⟩ := mk p1 1 (by omega) (by omega)
      refine ⟨_, _, ⟨_, p1, st, li⟩, fun {j} vj => ?_⟩
      rw [old p1 st vi ci]
      by_cases cj : j = t + b - l
      · have e : cupT (t + b) T l i j = T (srcG (t + b) l i) (lefG (t + b) l) + 1 := by
          unfold cupT
          rw [if_neg fun z => ci z.1, if_pos cj]
        have a := e1 vl
        rw [(gp p1 l0 l1).2] at a
        rw [e, cj, mid, el, if_neg (by omega), if_pos rfl]
        omega
      · have e : cupT (t + b) T l i j = T (srcG (t + b) l i) (srcG (t + b) l j) := by
          unfold cupT
          rw [if_neg fun z => ci z.1, if_neg cj, if_neg ci]
        rw [e, old p1 st vj cj]
        exact e1 (vo vj cj)
theorem tell_a {l : Int} (l0 : 0 ≤ l) (l1 : l + 1 < b) : Tell t (b - 2) (fun u v => ∃ w, P u w ∧ StU (b - 2) l v w ∧ Lip (b - 2) v) (capT (t + b) T l) := by
  have hh : hi (t + b) 1 = t + b := by have := lo_hi (t + b) 1; omega
  by_cases n2 : t + b = 2
  · have tb : t + (b - 2) = 0 := by omega
    have one : ∀ {i}, Vg (t + (b - 2)) i → i = 0 := fun {i} vi => by
      unfold Vg at vi
      rw [tb, show hi 0 1 = 1 from rfl] at vi
      omega
    have z : ∀ i j, capT (t + b) T l i j = 0 := fun i j => if_pos n2
    refine ⟨fun {u v} _ {i j} vi vj => ?_, fun {i} vi => ⟨_, _, ⟨_, k.zero, ⟨fun _ _ _ => rfl, fun _ _ _ => rfl⟩, lip_zero _⟩, fun {j} vj => ?_⟩⟩
    · rw [one vi, one vj, z]
      omega
    · rw [one vi, one vj, z]
      omega
  have h2 : hi (t + (b - 2)) 1 = t + b - 2 := by have := lo_hi (t + (b - 2)) 1; omega
  have gl : ∀ {u w : Int → Int}, P u w → Vg (t + b) (lefG (t + b) l) ∧ bnd t (t + b) u w (lefG (t + b) l) = w l := fun p => bnd_gp t0 (by omega) (k.out p).1 (k.out p).2 l0 (by omega)
  have gr : ∀ {u w : Int → Int}, P u w → Vg (t + b) (rigG (t + b) l) ∧ bnd t (t + b) u w (rigG (t + b) l) = w (l + 2) := fun p => by
    have := bnd_gp t0 (by omega) (k.out p).1 (k.out p).2 (show 0 ≤ l + 2 by omega) (by omega)
    unfold gpG at this
    unfold rigG
    rw [show t + b - 2 - l - 1 = t + b - 1 - (l + 2) by omega]
    exact this
  have vl := (gl k.zero).1
  have vr := (gr k.zero).1
  have vo : ∀ {i}, Vg (t + (b - 2)) i → Vg (t + b) (jnG (t + b - 2 - l) i) := fun {i} vi => by
    unfold Vg at *
    rw [h2] at vi
    rw [hh]
    unfold jnG
    split <;> omega
  have old : ∀ {u v w : Int → Int}, StU (b - 2) l v w → ∀ {i}, Vg (t + (b - 2)) i → bnd t (t + (b - 2)) u v i = bnd t (t + b) u w (jnG (t + b - 2 - l) i) := fun {u v w} s {i} vi => by
    unfold Vg at vi
    rw [h2] at vi
    unfold bnd jnG
    rw [h2, hh]
    by_cases c : i < t + b - 2 - l
    · rw [if_pos c]
      split
      · rfl
      · rw [show t + b - 1 - i = t + b - 2 - 1 - i + 2 by omega]
        exact (s.2 _ (by omega) (by omega)).symm
    · rw [if_neg c, if_neg (by omega), if_neg (by omega), show t + b - 1 - (i + 2) = t + b - 2 - 1 - i by omega]
      exact (s.1 _ (by omega) (by omega)).symm
  have val : ∀ i j, capT (t + b) T l i j = cpM (t + b) T l (jnG (t + b - 2 - l) i) (jnG (t + b - 2 - l) j) := fun i j => if_neg n2
  refine ⟨fun {u v} ⟨w, p, s, li⟩ {i j} vi vj => ?_, fun {i} vi => ?_⟩
  · rw [val, old s vi, old s vj]
    have vx := vo vi
    have vy := vo vj
    generalize jnG (t + b - 2 - l) i = x at *
    generalize jnG (t + b - 2 - l) j = y at *
    have a1 := h.up p vx vy
    have a2 := h.up p vx vl
    have a3 := h.up p vr vy
    have a4 := h.up p vx vr
    have a5 := h.up p vl vy
    rw [(gl p).2] at a2 a5
    rw [(gr p).2] at a3 a4
    have e1 := s.1 l l0 (by omega)
    have e2 := s.2 l (by omega) (by omega)
    have m := mn3_le (T x y) (T x (lefG (t + b) l) + T (rigG (t + b) l) y) (T x (rigG (t + b) l) + T (lefG (t + b) l) y)
    unfold cpM
    omega
  · have vx := vo vi
    have ei : ∀ {v w u : Int → Int}, StU (b - 2) l v w → bnd t (t + (b - 2)) u v i = bnd t (t + b) u w (jnG (t + b - 2 - l) i) := fun s => old s vi
    have vali := fun j => val i j
    generalize jnG (t + b - 2 - l) i = x at vx ei vali
    obtain ⟨u1, w1, p1, e1⟩ := h.ex0 k vx
    obtain ⟨u2, w2, p2, e2⟩ := h.ex0 k vr
    obtain ⟨u3, w3, p3, e3⟩ := h.ex0 k vl
    have pp := k.lo_ (k.lo_ p1 (k.sh (T x (lefG (t + b) l)) p2)) (k.sh (T x (rigG (t + b) l)) p3)
    have eW : ∀ {y}, Vg (t + b) y → bnd t (t + b) (fun g => lo ((fun g => lo (u1 g) ((fun g => u2 g + T x (lefG (t + b) l)) g)) g) ((fun g => u3 g + T x (rigG (t + b) l)) g)) (fun g => lo ((fun g => lo (w1 g) ((fun g => w2 g + T x (lefG (t + b) l)) g)) g) ((fun g => w3 g + T x (rigG (t + b) l)) g)) y = cpM (t + b) T l x y := fun {y} vy => by
      rw [bnd_lo (u := fun g => lo (u1 g) ((fun g => u2 g + T x (lefG (t + b) l)) g)) (u' := fun g => u3 g + T x (rigG (t + b) l)) (v := fun g => lo (w1 g) ((fun g => w2 g + T x (lefG (t + b) l)) g)) (v' := fun g => w3 g + T x (rigG (t + b) l)), bnd_lo (u := u1) (v := w1) (u' := fun g => u2 g + T x (lefG (t + b) l)) (v' := fun g => w2 g + T x (lefG (t + b) l)), bnd_sh, bnd_sh, e1 vy, e2 vy, e3 vy]
      unfold cpM mn3
      rw [Int.add_comm (T (rigG (t + b) l) y), Int.add_comm (T (lefG (t + b) l) y)]
    generalize hU : (fun g => lo ((fun g => lo (u1 g) ((fun g => u2 g + T x (lefG (t + b) l)) g)) g) ((fun g => u3 g + T x (rigG (t + b) l)) g)) = U at pp eW
    generalize hW : (fun g => lo ((fun g => lo (w1 g) ((fun g => w2 g + T x (lefG (t + b) l)) g)) g) ((fun g => w3 g + T x (rigG (t + b) l)) g)) = W at pp eW
    have f1 := eW vl
    have f2 := eW vr
    have f3 := eW vx
    rw [(gl pp).2] at f1
    rw [(gr pp).2] at f2
    have m1 := mn3_le (T x (lefG (t + b) l)) (T x (lefG (t + b) l) + T (rigG (t + b) l) (lefG (t + b) l)) (T x (rigG (t + b) l) + T (lefG (t + b) l) (lefG (t + b) l))
    have m2 := mn3_le (T x (rigG (t + b) l)) (T x (lefG (t + b) l) + T (rigG (t + b) l) (rigG (t + b) l)) (T x (rigG (t + b) l) + T (lefG (t + b) l) (rigG (t + b) l))
    have m3 := mn3_le (T x x) (T x (lefG (t + b) l) + T (rigG (t + b) l) x) (T x (rigG (t + b) l) + T (lefG (t + b) l) x)
    have z1 := h.dg vl
    have z2 := h.dg vr
    have z3 := h.dg vx
    have n1 := h.nn vl vr
    have n2 := h.nn vr vl
    have n3 := h.nn vx vl
    have n4 := h.nn vr vx
    have n5 := h.nn vx vr
    have n6 := h.nn vl vx
    unfold cpM at f1 f2 f3
    have same : W l = W (l + 2) := by omega
    have zero : bnd t (t + b) U W x = 0 := by omega
    have lw := k.lip pp
    have st : StU (b - 2) l (fun g => if g ≤ l then W g else W (g + 2)) W := ⟨fun g g0 g1 => (if_pos g1).symm, fun g g0 g1 => by
      show W (g + 2) = if g ≤ l then W g else W (g + 2)
      by_cases c : g ≤ l
      · rw [if_pos c, show g = l by omega, same]
      · rw [if_neg c]⟩
    refine ⟨U, _, ⟨W, pp, st, fun g g0 g1 => ?_⟩, fun {j} vj => ?_⟩
    · show (if g + 1 ≤ l then W (g + 1) else W (g + 1 + 2)) - (if g ≤ l then W g else W (g + 2)) ≤ 1 ∧ (if g ≤ l then W g else W (g + 2)) - (if g + 1 ≤ l then W (g + 1) else W (g + 1 + 2)) ≤ 1
      have q := lw (g + 2) (by omega) (by omega)
      rw [show g + 2 + 1 = g + 1 + 2 by omega] at q
      by_cases c1 : g + 1 ≤ l
      · rw [if_pos c1, if_pos (by omega)]
        exact lw g g0 (by omega)
      · rw [if_neg c1]
        by_cases c2 : g ≤ l
        · rw [if_pos c2, show W g = W (g + 2) by rw [show g = l by omega, same]]
          exact q
        · rw [if_neg c2]
          exact q
    · rw [vali j, old st vj, ei st, zero, eW (vo vj)]
      omega
end
/-! ### every row -/
theorem spot_in {t i : Int} (i0 : 0 ≤ i) (i1 : i < 2 * t) : 0 ≤ spot t i ∧ spot t i ≤ t := by
  unfold spot
  have := lo_hi (i + 1) (2 * t - 1 - i)
  omega
theorem lip_far {t : Int} {u : Int → Int} (h : Lip t u) : ∀ (k : Nat) (a : Int), 0 ≤ a → a + k ≤ t → u (a + k) - u a ≤ k ∧ u a - u (a + k) ≤ k
  | 0, a, _, _ => by simp
  | k + 1, a, a0, a1 => by
    have e : ((k + 1 : Nat) : Int) = (k : Int) + 1 := by omega
    have ih := lip_far h k a a0 (by omega)
    have := h (a + k) (by omega) (by omega)
    rw [e, show a + ((k : Int) + 1) = a + k + 1 by omega]
    omega
theorem lip_abs {t : Int} {u : Int → Int} (h : Lip t u) {a b : Int} (a0 : 0 ≤ a) (a1 : a ≤ t) (b0 : 0 ≤ b) (b1 : b ≤ t) : u b - u a ≤ absI (a - b) ∧ u a - u b ≤ absI (a - b) := by
  unfold absI
  by_cases c : a ≤ b
  · have := lip_far h (b - a).toNat a a0 (by omega)
    rw [show a + ((b - a).toNat : Int) = b by omega] at this
    split <;> omega
  · have := lip_far h (a - b).toNat b b0 (by omega)
    rw [show b + ((a - b).toNat : Int) = a by omega] at this
    split <;> omega
theorem pots_nil (t : Int) : Pots t t (Conn t []) := ⟨fun ⟨h1, e1⟩ ⟨h2, e2⟩ => ⟨lip_lo h1 h2, by rw [e1, e2]⟩, fun c ⟨h1, e1⟩ => ⟨lip_sh h1, by rw [e1]⟩, ⟨lip_zero _, rfl⟩, fun ⟨h1, e1⟩ => by rw [e1]; exact h1, fun ⟨h1, e1⟩ => by rw [e1]; exact ⟨rfl, rfl⟩⟩
theorem bnd_nil {t : Int} (t0 : 0 < t) (u : Int → Int) {i : Int} (vi : Vg (t + t) i) : bnd t (t + t) u u i = u (spot t i) := by
  have hh : hi (t + t) 1 = t + t := by have := lo_hi (t + t) 1; omega
  unfold Vg at vi
  unfold bnd spot
  have := lo_hi (i + 1) (2 * t - 1 - i)
  split
  · rw [show lo (i + 1) (2 * t - 1 - i) = i + 1 by omega]
  · rw [hh, show lo (i + 1) (2 * t - 1 - i) = t + t - 1 - i by omega]
theorem tell_nil {t : Int} (t0 : 0 ≤ t) : Tell t t (Conn t []) (strT t) := by
  have hh := lo_hi (t + t) 1
  by_cases c : t = 0
  · have one : ∀ {i}, Vg (t + t) i → i = 0 := fun {i} vi => by
      unfold Vg at vi
      omega
    have z : ∀ i j, strT t i j = 0 := fun i j => if_pos c
    refine ⟨fun {u v} _ {i j} vi vj => ?_, fun {i} vi => ⟨_, _, (pots_nil t).zero, fun {j} vj => ?_⟩⟩
    · rw [one vi, one vj, z]
      omega
    · rw [one vi, one vj, z]
      omega
  have vs : ∀ {i}, Vg (t + t) i → 0 ≤ spot t i ∧ spot t i ≤ t := fun {i} vi => by
    unfold Vg at vi
    exact spot_in (by omega) (by omega)
  have val : ∀ i j, strT t i j = absI (spot t i - spot t j) := fun i j => if_neg c
  refine ⟨fun {u v} ⟨h1, e1⟩ {i j} vi vj => ?_, fun {i} vi => ⟨fun g => absI (spot t i - g), _, ⟨fun g g0 g1 => ?_, rfl⟩, fun {j} vj => ?_⟩⟩
  · subst e1
    rw [val, bnd_nil (by omega) _ vi, bnd_nil (by omega) _ vj]
    exact lip_abs h1 (vs vi).1 (vs vi).2 (vs vj).1 (vs vj).2
  · show absI (spot t i - (g + 1)) - absI (spot t i - g) ≤ 1 ∧ absI (spot t i - g) - absI (spot t i - (g + 1)) ≤ 1
    unfold absI
    split <;> split <;> omega
  · rw [val, bnd_nil (by omega) _ vi, bnd_nil (by omega) _ vj]
    show absI (spot t i - spot t j) - absI (spot t i - spot t i) = _
    rw [Int.sub_self, show absI 0 = 0 from rfl]
    omega
theorem PP_eq {P Q : PP} (h : ∀ u v, P u v ↔ Q u v) : P = Q := funext fun u => funext fun v => propext (h u v)
theorem Conn.lipB : ∀ {ds : List Lt} {t : Int} {u v : Int → Int}, Conn t ds u v → Lip (endR t ds) v
  | [], _, _, _, ⟨h1, e⟩ => by subst e; exact h1
  | _ :: _, _, _, _, ⟨_, _, _, h3⟩ => h3.lipB
theorem conn_nx (t : Int) (a : List Lt) (d : Lt) : Conn t (a ++ [d]) = Nx (endR t a) d (Conn t a) := PP_eq fun u v => by
  refine conn_app.trans ⟨fun ⟨w, h1, h2⟩ => ?_, fun ⟨w, h1, h2, h3⟩ => ?_⟩
  · have := conn_one.mp h2
    exact ⟨w, h1, this.2.1, this.2.2⟩
  · exact ⟨w, h1, conn_one.mpr ⟨h1.lipB, h2, h3⟩⟩
/-- the table of a row tells the greatest differences of heights -/
theorem tell_row {t m : Int} (t0 : 0 ≤ t) : ∀ (n : Nat) (ds : List Lt), ds.length = n → Wf m t ds → Pots t (endR t ds) (Conn t ds) ∧ Tell t (endR t ds) (Conn t ds) (RT t ds)
  | 0, ds, e, _ => by
    obtain rfl := List.length_eq_zero_iff.mp e
    exact ⟨pots_nil t, tell_nil t0⟩
  | n + 1, ds, e, wf => by
    obtain ⟨a, d, rfl⟩ : ∃ a d, ds = a ++ [d] := ⟨ds.dropLast, ds.getLast (by intro z; rw [z] at e; cases e), (List.dropLast_concat_getLast _).symm⟩
    have w1 := wf.left
    obtain ⟨_, g, o, _⟩ := wf.right
    obtain ⟨k, h⟩ := tell_row t0 n a (by simp at e; exact e) w1
    rw [RT_snoc, endR_snoc, conn_nx]
    refine ⟨k.nx g o, ?_⟩
    obtain ⟨d1, l⟩ := d
    rcases good_word g with c | c | c <;> (dsimp only at c; subst c)
    · rw [o_x] at o
      have e1 : stepT (t + endR t a) (RT t a) ("cross", l) = croT (t + endR t a) (RT t a) l := by
        unfold stepT
        rw [if_neg (show ¬ ("cross" : PySem.Str) = "cup" by decide +kernel), if_pos rfl]
      have := tell_x t0 k h o.1 o.2
      rw [e1]
      show Tell t (endR t a + chgR "cross") _ _
      unfold Nx
      dsimp only
      rw [c_x, show endR t a + 0 = endR t a by omega]
      exact this
    · rw [o_u] at o
      have e1 : stepT (t + endR t a) (RT t a) ("cup", l) = cupT (t + endR t a) (RT t a) l := if_pos rfl
      have := tell_u t0 k h o.1 o.2
      rw [e1]
      show Tell t (endR t a + chgR "cup") _ _
      unfold Nx
      dsimp only
      rw [c_u]
      exact this
    · rw [o_a] at o
      have e1 : stepT (t + endR t a) (RT t a) ("cap", l) = capT (t + endR t a) (RT t a) l := by
        unfold stepT
        rw [if_neg (show ¬ ("cap" : PySem.Str) = "cup" by decide +kernel), if_neg (show ¬ ("cap" : PySem.Str) = "cross" by decide +kernel)]
      have := tell_a t0 k h o.1 o.2
      rw [e1]
      show Tell t (endR t a + chgR "cap") _ _
      unfold Nx
      dsimp only
      rw [c_a, show endR t a + -2 = endR t a - 2 by omega]
      exact this
theorem Wf.gd {m t : Int} {ds : List Lt} (h : Wf m t ds) : (∀ d ∈ ds, GoodR d) ∧ AllR t ds := ⟨h.good, h.all⟩
theorem flip_flip {ds : List Lt} (g : ∀ d ∈ ds, GoodR d) : flipD (flipD ds) = ds := by
  unfold flipD
  rw [← List.map_reverse, List.reverse_reverse, List.map_map]
  refine (List.map_congr_left fun d hd => ?_).trans (List.map_id ds)
  show flip1 (flip1 d) = d
  unfold flip1
  obtain ⟨d1, l⟩ := d
  rcases good_word (g _ hd) with c | c | c <;> (dsimp only at c ⊢; subst c; rfl)
/-- the gap on the flipped rim -/
def mirG (n i : Int) : Int := if i < n - 1 then n - 2 - i else hi n 1 - 1
theorem mirG_in {n i : Int} (n0 : 0 ≤ n) (v : Vg n i) : Vg n (mirG n i) := by
  have := lo_hi n 1
  unfold Vg mirG at *
  split <;> omega
theorem bnd_flip {t b : Int} {u v : Int → Int} (t0 : 0 ≤ t) (b0 : 0 ≤ b) (o0 : v 0 = u 0) (o1 : v b = u t) {i : Int} (vi : Vg (t + b) i) : bnd b (t + b) v u i = bnd t (t + b) u v (mirG (t + b) i) := by
  have hh := lo_hi (t + b) 1
  unfold Vg at vi
  unfold bnd mirG
  by_cases c : i < t + b - 1
  · rw [if_pos c, show hi (t + b) 1 = t + b by omega]
    by_cases c2 : i < b
    · rw [if_pos c2]
      split
      · rw [show i + 1 = b by omega, show t + b - 2 - i + 1 = t by omega, o1]
      · rw [show t + b - 1 - (t + b - 2 - i) = i + 1 by omega]
    · rw [if_neg c2, if_pos (by omega), show t + b - 1 - i = t + b - 2 - i + 1 by omega]
  · rw [if_neg c]
    by_cases n0 : t + b = 0
    · rw [show hi (t + b) 1 = 1 by omega, if_neg (by omega), if_neg (by omega), show (1 : Int) - 1 - i = 0 by omega, show (1 : Int) - 1 - (1 - 1) = 0 by omega, o0]
    · rw [show hi (t + b) 1 = t + b by omega]
      by_cases c2 : i < b
      · have : t = 0 := by omega
        rw [if_pos c2, if_neg (by omega), show i + 1 = b by omega, o1, show t + b - 1 - (t + b - 1) = 0 by omega, o0, this]
      · rw [if_neg c2, show t + b - 1 - i = 0 by omega]
        split
        · have : b = 0 := by omega
          rw [show t + b - 1 + 1 = t by omega, ← o1, this, o0]
        · rw [show t + b - 1 - (t + b - 1) = 0 by omega, o0]
/-- the table of the flipped row is the mirrored one -/
theorem RT_flip {t m : Int} {ds : List Lt} (t0 : 0 ≤ t) (h : Wf m t ds) (h' : Wf m (endR t ds) (flipD ds)) {i j : Int} (vi : Vg (t + endR t ds) i) (vj : Vg (t + endR t ds) j) :
    RT (endR t ds) (flipD ds) i j = RT t ds (mirG (t + endR t ds) i) (mirG (t + endR t ds) j) := by
  obtain ⟨g, al⟩ := h.gd
  have b0 := end_flip_all g t0 al
  obtain ⟨k, T⟩ := tell_row t0 ds.length ds rfl h
  obtain ⟨k', T'⟩ := tell_row b0 (flipD ds).length (flipD ds) rfl h'
  have ee : endR (endR t ds) (flipD ds) = t := by
    have e := end_flip (t := t) g ds.length (Nat.le_refl _)
    rw [← flip_len ds, List.take_length, flip_len, Nat.sub_self, List.take_zero] at e
    exact e
  rw [ee] at k' T'
  have n0 : 0 ≤ t + endR t ds := by omega
  have cm : endR t ds + t = t + endR t ds := Int.add_comm _ _
  have bk : ∀ {u v}, Conn (endR t ds) (flipD ds) v u → Conn t ds u v := fun {u v} c => by
    have := conn_flip (ds := flipD ds) (fun d hd => by
      unfold flipD at hd
      obtain ⟨e, he, rfl⟩ := List.mem_map.mp hd
      exact flip_good (g e (List.mem_reverse.mp he))) c
    rw [ee, flip_flip g] at this
    exact this
  have up1 : RT (endR t ds) (flipD ds) i j ≤ RT t ds (mirG (t + endR t ds) i) (mirG (t + endR t ds) j) := by
    obtain ⟨v, u, p, e⟩ := T'.ex (i := i) (by rw [cm]; exact vi)
    have q := bk p
    have o := k.out q
    have := (T.up q (mirG_in n0 vi) (mirG_in n0 vj)).1
    rw [← bnd_flip t0 b0 o.1 o.2 vi, ← bnd_flip t0 b0 o.1 o.2 vj] at this
    have e2 := e (j := j) (by rw [cm]; exact vj)
    rw [cm] at e2
    omega
  have up2 : RT t ds (mirG (t + endR t ds) i) (mirG (t + endR t ds) j) ≤ RT (endR t ds) (flipD ds) i j := by
    obtain ⟨u, v, p, e⟩ := T.ex (mirG_in n0 vi)
    have q := conn_flip g p
    have o := k.out p
    have := (T'.up q (i := i) (j := j) (by rw [cm]; exact vi) (by rw [cm]; exact vj)).1
    rw [cm, bnd_flip t0 b0 o.1 o.2 vi, bnd_flip t0 b0 o.1 o.2 vj, e (mirG_in n0 vj)] at this
    exact this
  omega
end Own

namespace Own
/-! ### two cords joined plainly, without the two pins -/
def jqM (M : Int → Int) (a y : Int) : Int := bgS a (jpM M a (bgU a y))
section
variable {n : Int} {M : Int → Int} (h : Mat n M) {a : Int} (a0 : 0 ≤ a) (a1 : a + 1 < n)
include h a0 a1
theorem jp_pair : jpM M a a = a + 1 ∧ jpM M a (a + 1) = a := by
  unfold jpM
  exact ⟨if_pos rfl, by rw [if_neg (by omega), if_pos rfl]⟩
theorem jp_out {x : Int} (x0 : 0 ≤ x) (x1 : x < n) (h1 : x ≠ a) (h2 : x ≠ a + 1) : jpM M a x ≠ a ∧ jpM M a x ≠ a + 1 := by
  have hj := jp_mat h a0 a1
  have p := jp_pair h a0 a1
  have i := hj.inv x x0 x1
  exact ⟨fun z => h2 (by rw [← i, z, p.1]), fun z => h1 (by rw [← i, z, p.2])⟩
theorem jq_up {y : Int} (y0 : 0 ≤ y) (y1 : y < n - 2) : bgU a (jqM M a y) = jpM M a (bgU a y) ∧ 0 ≤ bgU a y ∧ bgU a y < n := by
  have ne := bgU_ne a y
  have r : 0 ≤ bgU a y ∧ bgU a y < n := by unfold bgU; split <;> omega
  have o := jp_out h a0 a1 r.1 r.2 ne.1 ne.2
  refine ⟨?_, r⟩
  unfold jqM
  generalize jpM M a (bgU a y) = z at *
  unfold bgU bgS
  split <;> split <;> omega
theorem jq_mat : Mat (n - 2) (jqM M a) := by
  have hj := jp_mat h a0 a1
  refine ⟨fun y y0 y1 => ?_, fun y y0 y1 z => ?_, fun y y0 y1 => ?_⟩
  · obtain ⟨e, r0, r1⟩ := jq_up h a0 a1 y0 y1
    have i := hj.in_ _ r0 r1
    rw [← e] at i
    unfold bgU at i
    split at i <;> omega
  · obtain ⟨e, r0, r1⟩ := jq_up h a0 a1 y0 y1
    rw [z] at e
    exact hj.ne _ r0 r1 e.symm
  · obtain ⟨e, r0, r1⟩ := jq_up h a0 a1 y0 y1
    show bgS a (jpM M a (bgU a (jqM M a y))) = y
    rw [e, hj.inv _ r0 r1, bgS_U]
theorem bg_jq {x : Int} (x0 : 0 ≤ x) (x1 : x < n) : bgM (jqM M a) a x = jpM M a x := by
  have p := jp_pair h a0 a1
  by_cases c1 : x = a
  · rw [c1, bg_1, p.1]
  by_cases c2 : x = a + 1
  · rw [c2, bg_2, p.2]
  rw [bg_old c1 c2]
  have e : bgU a (bgS a x) = x := by unfold bgU bgS; split <;> split <;> omega
  have r : 0 ≤ bgS a x ∧ bgS a x < n - 2 := by unfold bgS; split <;> omega
  have := (jq_up h a0 a1 r.1 r.2).1
  rw [this, e]
theorem jq_tab (no : M a = a + 1 ∨ ∀ p, 0 ≤ p → p < n → p < M p → ¬ (lcr p (M p) a (M a) ∧ lcr p (M p) (a + 1) (M (a + 1)))) {i j : Int} : tM (n - 2) (jqM M a) i j = jnT (tM n M) a (jnG a i) (jnG a j) := by
  have q := jq_mat h a0 a1
  have ni : ∀ k : Int, jnG a k ≠ a ∧ bgS a (jnG a k) = k := fun k => by
    unfold jnG bgS
    by_cases c : k < a
    · rw [if_pos c, if_pos c]
      omega
    · rw [if_neg c, if_neg (by omega)]
      omega
  have e := bg_far q (by omega) (f := a) a0 (by omega) (ni i).1 (ni j).1
  rw [(ni i).2, (ni j).2, show n - 2 + 2 = n by omega] at e
  rw [← e, ← jp_tab h a0 a1 no (ni i).1 (ni j).1]
  exact pre_congr fun x x0 x1 => by
    unfold fM
    rw [bg_jq h a0 a1 x0 (by omega)]
end
end Own

namespace Own
theorem prA_srt (n : Int) (i : Nat) : (prA n i).Pairwise Lex ∧ ∀ p ∈ prA n i, p.1 = (i : Int) := by
  unfold prA
  refine ⟨?_, fun p hp => ?_⟩
  · rw [List.pairwise_map]
    refine List.Pairwise.imp (fun {a b} h => ?_) List.pairwise_lt_range
    exact .inr ⟨rfl, by dsimp only; omega⟩
  · obtain ⟨k, _, rfl⟩ := List.mem_map.mp hp
    rfl
theorem prs_srt (n : Int) : ∀ i : Nat, (prs n i).Pairwise Lex ∧ ∀ p ∈ prs n i, p.1 < (i : Int)
  | 0 => ⟨List.Pairwise.nil, fun p hp => by cases hp⟩
  | i + 1 => by
    obtain ⟨h1, h2⟩ := prs_srt n i
    obtain ⟨h3, h4⟩ := prA_srt n i
    rw [prs_succ]
    refine ⟨List.pairwise_append.mpr ⟨h1, h3, fun a ha b hb => .inl ?_⟩, fun p hp => ?_⟩
    · rw [h4 b hb]
      exact h2 a ha
    · rcases List.mem_append.mp hp with h | h
      · have := h2 p h
        omega
      · rw [h4 p h]
        omega
theorem cotE_good {n : Int} (n0 : 0 ≤ n) (f : Int → Int → Int) : Good n (cotE n f) := by
  refine ⟨?_, fun e he => ?_⟩
  · unfold cotE
    rw [List.pairwise_map]
    refine List.Pairwise.filter _ ?_
    rw [List.pairwise_map]
    exact (prs_srt n n.toNat).1
  · unfold cotE at he
    obtain ⟨h1, h2⟩ := List.mem_filter.mp he
    obtain ⟨p, hp, rfl⟩ := List.mem_map.mp h1
    have m := prs_mem (i := n.toNat) (by omega) hp
    have h2 := of_decide_eq_true h2
    exact ⟨m.1, m.2.1, m.2.2, h2⟩
end Own

namespace Own
open PySem PySem.Spec PyProof.Rows L2
/-! ### the law: gaps, cords of a table -/
def tri (n : Int) (f : Int → Int → Int) (p : Int × Int) : Tr := (p.1, p.2, tw n f p.1 p.2)
section
variable {P : Program} {w : World} {K : PySem.W.Frag} {mg : Str → Option Value} {base : Heap} {C : Addr}
theorem ok_lgaps {f : Addr} {fd : FuncData} (F : Fun K "_law_gaps" "_law_gaps" s__law_gaps f fd) (T : Bi mg) : FnOk P w K mg base CX0 1 f fd ["_law_pins"] spGaps := by
  refine F.ok sc__law_gaps (fun vs H Q E h => ?_) (fun cdv A outer s H vs Q E hr h => ?_)
  · obtain ⟨n, rfl, _⟩ := h
    rfl
  · obtain ⟨n, rfl, q⟩ := h
    refine ⟨_, (pss_one (ps_ret (pe_callB (call_max2 rfl) (by rfl) T.b_max (by decide +kernel) (pa_cons (pv 0) (pa_cons pe_int pa_nil))))), ?_⟩
    exact ⟨_, rfl, n, 1, rfl, q⟩

def spDbl : Sp := fun vs H Q _ => ∃ (n : Int) (p : Addr) (f : Int → Int → Int), vs = [.int n, .ref p] ∧ GridB H p n f ∧ 0 ≤ n ∧ n ≤ 46 ∧ ∀ H' c, Same H H' → H c = none → TripL H' c ((prs n n.toNat).map (tri n f)) → Q (.ref c) H'
set_option maxHeartbeats 0 in
theorem ok_dbl {f : Addr} {fd : FuncData} (F : Fun K "_law_doubles" "_law_doubles" s__law_doubles f fd) (T : Bi mg) : FnOk P w K mg base CX0 1 f fd ["_law_pins", "_law_table"] spDbl := by
  refine F.ok sc__law_doubles (fun vs H Q E h => ?_) (fun cdv A outer s H vs Q E hr h => ?_)
  · obtain ⟨n, p, g, rfl, _⟩ := h
    rfl
  · obtain ⟨n, p, g, rfl, hG, n0, n1, q⟩ := h
    refine ⟨_, (pss_cons (ps_set (i := 2) sc__law_doubles.nd rfl (.inl rfl) (pe_lst pa_nil))
        (pss_cons (ps_for PassesOwn.never rfl (pi_range1 (by rfl) T.b_range (pa_cons (pv 0) pa_nil)) (pg_name (i := 3) sc__law_doubles.nd rfl (.inl rfl))
        (pss_one (ps_for PassesOwn.never rfl (pi_range2 (by rfl) T.b_range (pa_cons (pe_op op_add (pv 3) pe_int) (pa_cons (pv 0) pa_nil))) (pg_name (i := 4) sc__law_doubles.nd rfl (.inl rfl))
        (pss_cons (ps_set (i := 5) sc__law_doubles.nd rfl (.inl rfl) (pe_op op_modN (pe_callTy call_int1 (by rfl) T.b_int (by decide +kernel) (pa_cons (pe_op op_sub (pv 3) pe_int) pa_nil)) (pv 0)))
        (pss_cons (ps_set (i := 6) sc__law_doubles.nd rfl (.inl rfl) (pe_op op_sub (pe_op op_sub (pe_op op_add (pe_ix (r := rIxB K) ix_seqB (pe_ix (r := rIxB K) ix_seqB (pv 1) (pv 3) (fun _ _ => rfl)) (pv 4) (fun _ _ => rfl)) (pe_ix (r := rIxB K) ix_seqB (pe_ix (r := rIxB K) ix_seqB (pv 1) (pv 5) (fun _ _ => rfl)) (pe_op op_sub (pv 4) pe_int) (fun _ _ => rfl))) (pe_ix (r := rIxB K) ix_seqB (pe_ix (r := rIxB K) ix_seqB (pv 1) (pv 3) (fun _ _ => rfl)) (pe_op op_sub (pv 4) pe_int) (fun _ _ => rfl))) (pe_ix (r := rIxB K) ix_seqB (pe_ix (r := rIxB K) ix_seqB (pv 1) (pv 5) (fun _ _ => rfl)) (pv 4) (fun _ _ => rfl))))
        (pss_one (ps_expr (pe_bm PySem.F.plainAttrs_list PySem.F.slot_list_append PySem.F.type_list_append mt_append (pv 2) (pa_cons (pe_tup (pa_cons (pv 3) (pa_cons (pv 4) (pa_cons (pv 6) pa_nil)))) pa_nil)))))))))
        (pss_one (ps_ret (pv 2))))), ?_⟩
    refine ⟨by show 0 ≤ sizeLine; decide, fun c nc => ?_⟩
    refine ⟨_, rfl, n, rfl, by omega, by omega, for_range (lo := 0) (n := n.toNat) (fun i σ H' => (∃ y3 y4 y5 y6, σ = [some (.int n), some (.ref p), some (.ref c), y3, y4, y5, y6]) ∧ ∃ ws, LcI H c ws H' ∧ TrV H' ws ((prs n i).map (tri n g))) ⟨⟨none, none, none, none, rfl⟩, [], LcI.start nc, TrV.nil⟩ (fun i σ H' hi pv => ?_) (fun σ H' pv => ?_)⟩
    · obtain ⟨⟨y3, y4, y5, y6, rfl⟩, vs0, L0, tV0⟩ := pv
      refine ⟨_, rfl, _, _, rfl, rfl, _, rfl, 0 + (i : Int) + 1, n, rfl, ⟨by omega, by omega, by omega, by omega⟩, ?_⟩
      refine for_range (lo := 0 + (i : Int) + 1) (n := (n - (0 + (i : Int) + 1)).toNat) (fun j σ H' => (∃ y4 y5 y6, σ = [some (.int n), some (.ref p), some (.ref c), some (.int (0 + (i : Int))), y4, y5, y6]) ∧ ∃ ws, LcI H c ws H' ∧ TrV H' ws ((prs n i ++ (List.range j).map fun k : Nat => ((i : Int), (i : Int) + 1 + (k : Int))).map (tri n g))) ⟨⟨_, _, _, rfl⟩, vs0, L0, by rw [List.range_zero, List.map_nil, List.append_nil]; exact tV0⟩ (fun j σ H3 hj pv => ?_) (fun σ H3 pv => ?_)
      · obtain ⟨⟨y4, y5, y6, rfl⟩, vs, L1, tV⟩ := pv
        have ha0 : 0 ≤ 0 + (i : Int) := by omega
        have hb1 : 0 + (i : Int) + 1 + (j : Int) < n := by omega
        have ea : (0 : Int) + (i : Int) = (i : Int) := Int.zero_add _
        rw [ea] at ha0 hb1 ⊢
        have hGj := hG.same L1.same
        have fa := fmod_in ((i : Int) - 1) (show 0 < n by omega)
        have pb : pv1 n ((i : Int) + 1 + (j : Int)) = (i : Int) + 1 + (j : Int) - 1 := fmod_lo (by omega) (by omega)
        obtain ⟨us, u, h1, e1, r1⟩ := hGj.at_ (x := (i : Int)) ha0 (by omega)
        obtain ⟨us2, u2, h2, e2, r2⟩ := hGj.at_ fa.1 fa.2
        refine ⟨_, rfl, _, _, rfl, rfl, .inl ⟨_, rfl, _, rfl, _, _, rfl, rfl, by omega, ?_⟩⟩
        refine ⟨_, rfl, _, rfl, p, us, _, _, rfl, rfl, h1.b, e1, _, rfl, u, _, _, _, rfl, rfl, r1.b, gl_atI _ (by omega) (by omega), ?_⟩
        refine ⟨_, rfl, _, rfl, p, us2, _, _, rfl, rfl, h2.b, e2, _, rfl, _, _, rfl, rfl, u2, _, _, _, rfl, rfl, r2.b, gl_atI _ (by omega) (by omega), _, _, rfl, rfl, ?_⟩
        refine ⟨_, rfl, _, rfl, p, us, _, _, rfl, rfl, h1.b, e1, _, rfl, _, _, rfl, rfl, u, _, _, _, rfl, rfl, r1.b, gl_atI _ (by omega) (by omega), _, _, rfl, rfl, ?_⟩
        refine ⟨_, rfl, _, rfl, p, us2, _, _, rfl, rfl, h2.b, e2, _, rfl, u2, _, _, _, rfl, rfl, r2.b, gl_atI _ (by omega) (by omega), _, _, rfl, rfl, ?_⟩
        have el : (prs n i ++ (List.range (j + 1)).map fun k : Nat => ((i : Int), (i : Int) + 1 + (k : Int))).map (tri n g) = (prs n i ++ (List.range j).map fun k : Nat => ((i : Int), (i : Int) + 1 + (k : Int))).map (tri n g) ++ [tri n g ((i : Int), (i : Int) + 1 + (j : Int))] := by
          rw [List.range_succ]
          simp
        refine ⟨_, rfl, .inl ⟨rfl, _, .inl (.inl L1.at_)⟩, _, rfl, _, rfl, _, rfl, by show 3 ≤ sizeLine; decide, fun p2 np2 => ?_⟩
        have s3 := same_upd (o := .tup [.int (i : Int), .int ((i : Int) + 1 + (j : Int)), .int (g i ((i : Int) + 1 + (j : Int)) + g (((i : Int) - 1).fmod n) ((i : Int) + 1 + (j : Int) - 1) - g i ((i : Int) + 1 + (j : Int) - 1) - g (((i : Int) - 1).fmod n) ((i : Int) + 1 + (j : Int)))]) np2
        have nD : p2 ≠ c := L1.nn np2
        refine ⟨c, vs, _, rfl, rfl, s3 _ _ L1.at_, ?_, ⟨_, _, _, rfl⟩, vs ++ [.ref p2], L1.put nc s3, ?_⟩
        · rw [tV.1, List.length_map, List.length_append, List.length_map, List.length_range]
          have h1 := prs_len n i
          have h2 : i * n.toNat ≤ 46 * 46 := Nat.mul_le_mul (by omega) (by omega)
          exact Nat.lt_of_le_of_lt (show _ ≤ 20000 by omega) (by rw [sizeLine_eq]; decide)
        · rw [el]
          refine (tV.sameT (sameT_put L1.at_ s3)).snoc (t := tri n g ((i : Int), (i : Int) + 1 + (j : Int))) ?_
          rw [upd_ne nD, upd_same]
          unfold tri tw
          dsimp only
          rw [pb]
          rfl
      · obtain ⟨⟨y4, y5, y6, rfl⟩, vs, L1, tV⟩ := pv
        refine ⟨⟨_, _, _, _, rfl⟩, vs, L1, ?_⟩
        rw [prs_succ]
        rw [Int.zero_add] at tV
        exact tV
    · obtain ⟨⟨y3, y4, y5, y6, rfl⟩, vs, L1, tV⟩ := pv
      exact ⟨_, rfl, q _ c L1.same nc ⟨vs, L1.at_, tV⟩⟩

def spLCords : Sp := fun vs H Q _ => ∃ (n : Int) (p : Addr) (f : Int → Int → Int), vs = [.int n, .ref p] ∧ GridB H p n f ∧ 0 ≤ n ∧ n ≤ 46 ∧ (∀ a b, 0 ≤ a → a < b → b < n → TwOk n f a b) ∧ ∀ H' c, Same H H' → TripL H' c (cotE n f) → Q (.ref c) H'
set_option maxHeartbeats 0 in
theorem ok_lcords {f : Addr} {fd : FuncData} (F : Fun K "_law_cords" "_law_cords" s__law_cords f fd) (T : Bi mg) {f_d : Addr} {d_d : FuncData} (D_d : Df K mg "_law_doubles" s__law_doubles ["_law_pins", "_law_table"] f_d d_d) (G_d : FnOk P w K mg base CX0 1 f_d d_d ["_law_pins", "_law_table"] spDbl) : FnOk P w K mg base CX0 2 f fd ["_law_pins", "_law_table"] spLCords := by
  refine F.ok sc__law_cords (fun vs H Q E h => ?_) (fun cdv A outer s H vs Q E hr h => ?_)
  · obtain ⟨n, p, g, rfl, _⟩ := h
    rfl
  · obtain ⟨n, p, g, rfl, hG, n0, n1, tw0, q⟩ := h
    refine ⟨_, (pss_cons (ps_set (i := 2) sc__law_cords.nd rfl (.inl rfl) (pe_lst pa_nil))
        (pss_cons (ps_for PassesOwn.never rfl (pi_list (pe_call G_d (hr.mono (by decide)) (by rfl) D_d.g D_d.F.kp D_d.b .nil pass0 (pa_cons (pv 0) (pa_cons (pv 1) pa_nil)))) (pg_name (i := 3) sc__law_cords.nd rfl (.inl rfl))
        (pss_cons (ps_if (PW.pt (pw_or (pt_cmpR op_lt (pe_ix (r := rIxB K) ix_seqB (pv 3) pe_int (fun _ _ => rfl)) pe_int (nomark _)) (pw_or1 (pt_cmpR op_eq (pe_op op_mod (pe_callTy call_int1 (by rfl) T.b_int (by decide +kernel) (pa_cons (pe_ix (r := rIxB K) ix_seqB (pv 3) pe_int (fun _ _ => rfl)) pa_nil)) pe_int) pe_int (nomark _))))) (pss_one (ps_ret pe_non)) pss_nil)
        (pss_one (ps_if (pt_cmpR op_gt (pe_ix (r := rIxB K) ix_seqB (pv 3) pe_int (fun _ _ => rfl)) pe_int (nomark _)) (pss_one (ps_expr (pe_bm PySem.F.plainAttrs_list PySem.F.slot_list_append PySem.F.type_list_append mt_append (pv 2) (pa_cons (pe_tup (pa_cons (pe_ix (r := rIxB K) ix_seqB (pv 3) pe_int (fun _ _ => rfl)) (pa_cons (pe_ix (r := rIxB K) ix_seqB (pv 3) pe_int (fun _ _ => rfl)) (pa_cons (pe_op op_fdiv (pe_ix (r := rIxB K) ix_seqB (pv 3) pe_int (fun _ _ => rfl)) pe_int) pa_nil)))) pa_nil)))) pss_nil))))
        (pss_one (ps_ret (pv 2))))), ?_⟩
    refine ⟨by show 0 ≤ sizeLine; decide, fun c nc => ?_⟩
    have s1 := same_upd (o := .lst []) nc
    refine ⟨_, rfl, _, rfl, n, p, g, rfl, hG.same s1, n0, n1, fun H2 e s2 ne tE => ?_⟩
    obtain ⟨us, ee, tU⟩ := tE
    have hlp := prs_len n n.toNat
    have h2 : n.toNat * n.toNat ≤ 46 * 46 := Nat.mul_le_mul (by omega) (by omega)
    have nec : e ≠ c := fun z => by
      rw [z, upd_same] at ne
      cases ne
    have ec : H2 c = some (.lst []) := s2 _ _ upd_same
    have ee0 : hole H2 c e = some (.lst us) := by rw [hole_ne nec]; exact ee
    have tU0 : TrV (hole H2 c) us ((prs n n.toNat).map (tri n g)) := tU.sameT fun b o h => by
      by_cases z : b = c
      · rw [z, ec] at h
        cases h
      · rw [hole_ne z]
        exact h
    have hP : ∀ {x : Int × Int}, x ∈ prs n n.toNat → 0 ≤ x.1 ∧ x.1 < x.2 ∧ x.2 < n := fun h => prs_mem (i := n.toNat) (by omega) h
    have hU := tU.1
    rw [List.length_map] at hU
    refine ⟨e, rfl, ⟨us, .inl (.inl ee)⟩, for_list (xs := us) (fun i σ H' => (∃ y3, σ = [some (.int n), some (.ref p), some (.ref c), y3]) ∧ ∃ ws, LcI (hole H2 c) c ws H' ∧ ws.length ≤ i ∧ TrV H' ws ((((prs n n.toNat).take i).map (ent n g)).filter fun t => decide (0 < t.2.2))) ⟨⟨none, rfl⟩, [], ⟨hole H2 c, Same.refl _, hole_at, by rw [upd_hole, upd_self ec]⟩, Nat.le_refl _, TrV.nil⟩ (fun i σ H' _ pv => ?_) (fun i x σ H' hxi pv => ?_) (fun σ H' pv => ?_)⟩
    · obtain ⟨_, ws, L1, _⟩ := pv
      exact .inl (.inl (L1.same _ _ ee0))
    · obtain ⟨⟨y3, rfl⟩, ws, L1, lw, tV⟩ := pv
      have tU1 := tU0.same L1.same
      obtain ⟨b, t, rfl, hti, hb⟩ := tU1.at_ hxi
      rw [List.getElem?_map] at hti
      obtain ⟨pq, hpi, rfl⟩ := Option.map_eq_some_iff.mp hti
      have hm := hP (List.mem_of_getElem? hpi)
      have ok := tw0 pq.1 pq.2 hm.1 hm.2.1 hm.2.2
      have hbS : SqB K H' b (tv (tri n g pq)) := .inr (.inl (.inl hb))
      have ix : ∀ {k : Int} {j : Nat} {v : V}, k = (j : Nat) → (tv (tri n g pq))[j]? = some v → atI (tv (tri n g pq)) k = some v := fun h1 h2 => at_of h1 h2
      have e01 : ∀ {x y : Int}, decide (V.int x = V.int y) = true → x = y := fun z => V.int.inj (of_decide_eq_true z)
      refine ⟨_, rfl, b, _, _, _, rfl, rfl, hbS, ix (j := 2) rfl rfl, _, _, rfl, rfl, _, rfl, ite2 (fun c1 => absurd (of_decide_eq_true c1) (by show ¬ tw n g pq.1 pq.2 < 0; exact Int.not_lt.mpr ok.1)) (fun c1 => ?_)⟩
      refine ⟨_, rfl, b, _, _, _, rfl, rfl, hbS, ix (j := 2) rfl rfl, .inl ⟨_, rfl, _, _, rfl, rfl, by show (0 : Int) < 2; decide, rfl, _, rfl, ite2 (fun c2 => absurd (e01 c2) (by show ¬ tw n g pq.1 pq.2 % 2 = 1; have := ok.2; omega)) (fun c2 => ?_)⟩⟩
      have et : (((prs n n.toNat).take (i + 1)).map (ent n g)).filter (fun t => decide (0 < t.2.2)) = (((prs n n.toNat).take i).map (ent n g)).filter (fun t => decide (0 < t.2.2)) ++ [ent n g pq].filter (fun t => decide (0 < t.2.2)) := by
        rw [List.take_add_one, hpi, List.map_append, List.filter_append]
        rfl
      have i1 : i < us.length := (List.getElem?_eq_some_iff.mp hxi).1
      refine ⟨_, rfl, b, _, _, _, rfl, rfl, hbS, ix (j := 2) rfl rfl, _, _, rfl, rfl, _, rfl, ite2 (fun c3 => ?_) (fun c3 => ?_)⟩
      · have c3 : 0 < tw n g pq.1 pq.2 := of_decide_eq_true c3
        have h2' : 0 < tw n g pq.1 pq.2 / 2 := by have := ok.2; omega
        refine ⟨_, rfl, .inl ⟨rfl, _, .inl (.inl L1.at_)⟩, _, rfl, b, _, _, _, rfl, rfl, hbS, ix (j := 0) rfl rfl, _, rfl, b, _, _, _, rfl, rfl, hbS, ix (j := 1) rfl rfl, _, rfl, b, _, _, _, rfl, rfl, hbS, ix (j := 2) rfl rfl, _, _, rfl, rfl, ⟨by show (0 : Int) < 2; decide, by show (2 : Int) < 1073741824; decide⟩, by show 3 ≤ sizeLine; decide, fun p2 np2 => ?_⟩
        have s3 := same_upd (o := .tup (tv (ent n g pq))) np2
        have nD : p2 ≠ c := L1.nn np2
        refine ⟨c, ws, _, rfl, rfl, s3 _ _ L1.at_, ?_, ⟨_, rfl⟩, ws ++ [.ref p2], L1.put hole_at s3, by rw [List.length_append]; show _ + 1 ≤ _; omega, ?_⟩
        · exact Nat.lt_of_le_of_lt (show _ ≤ 20000 by omega) (by rw [sizeLine_eq]; decide)
        · rw [et, List.filter_cons, if_pos (show decide (0 < (ent n g pq).2.2) = true from decide_eq_true h2'), List.filter_nil]
          refine (tV.sameT (sameT_put L1.at_ s3)).snoc (t := ent n g pq) ?_
          rw [upd_ne nD, upd_same]
      · have c3 : ¬ 0 < tw n g pq.1 pq.2 := fun z => c3 (decide_eq_true z)
        refine ⟨⟨_, rfl⟩, ws, L1, by omega, ?_⟩
        rw [et, List.filter_cons, if_neg (by rw [decide_eq_true_iff]; show ¬ 0 < tw n g pq.1 pq.2 / 2; omega), List.filter_nil, List.append_nil]
        exact tV
    · obtain ⟨⟨y3, rfl⟩, ws, L1, lw, tV⟩ := pv
      rw [hU, List.take_length] at tV
      exact ⟨_, rfl, q _ c ((same_hole nc (s1.trans s2)).trans L1.same) ⟨ws, L1.at_, tV⟩⟩
end
end Own

namespace Own
open PySem PySem.Spec PyProof.Rows L2
/-! ### the law: letters, lanes, rows as given -/
section
variable {P : Program} {w : World} {K : PySem.W.Frag} {mg : Str → Option Value} {base : Heap} {C : Addr}
/-- letters in a list that is one's own -/
def LtL (H : Hp) (a : Addr) (ds : List Lt) : Prop := ∃ vs, H a = some (.lst vs) ∧ LtT H vs ds
theorem for_seqB {K : PySem.W.Frag} {a : Addr} {xs : List V} {g : TG} {tb : TS} {D : Ends} {σ : L2.St} {H : Hp} (hs : SqH H a xs) (Pv : Nat → L2.St → Hp → Prop) (h0 : Pv 0 σ H) (hk : ∀ i σ' H', Pv i σ' H' → ∀ o, H a = some o → H' a = some o)
    (turn : ∀ i x σ H1, xs[i]? = some x → Pv i σ H1 → g x σ H1 fun σ2 H3 => tb { D with nx := Pv (i + 1), ct := Pv (i + 1), bk := D.nx } σ2 H3) (hd : ∀ σ H, Pv xs.length σ H → D.nx σ H) :
    ∃ a', V.ref a = V.ref a' ∧ (((∃ xs, SqL K H a' xs) ∧ ForR g tb D σ (Itl K a') H) ∨ ((∃ xs, SqT K H a' xs) ∧ ForR g tb D σ (Itt K a') H)) := by
  refine ⟨a, rfl, ?_⟩
  rcases hs with e | e
  · exact .inl ⟨⟨_, .inl (.inl e)⟩, for_list Pv h0 (fun i σ H' _ pv => .inl (.inl (hk i σ H' pv _ e))) turn hd⟩
  · exact .inr ⟨⟨_, .inl (.inl e)⟩, for_tup Pv h0 (fun i σ H' _ pv => .inl (.inl (hk i σ H' pv _ e))) turn hd⟩
theorem cm2 (x : Int) : CMul 2 x := .inl ⟨by decide, by decide⟩
theorem good_cap {d : Lt} (h : GoodR d) (n1 : d.1 ≠ "cup") (n2 : d.1 ≠ "cross") : d.1 = "cap" := by
  unfold GoodR valN CHG at h
  rw [List.find?_cons, List.find?_cons, List.find?_cons, List.find?_nil] at h
  dsimp only at h
  rw [decide_eq_false fun z => n2 z.symm, decide_eq_false fun z => n1 z.symm] at h
  by_cases h3 : ("cap" : Str) = d.1
  · exact h3.symm
  · rw [decide_eq_false h3] at h
    cases h
theorem rb_cup {d : Lt} (g : GoodR d) : 2 * (if decide (V.str d.1 = V.str "cup") = true then (1 : Int) else 0) - 2 * (if decide (V.str d.1 = V.str "cap") = true then (1 : Int) else 0) = chgR d.1 := by
  have e : ∀ {x y : Str}, decide (V.str x = V.str y) = true ↔ x = y := fun {x y} => by
    rw [decide_eq_true_iff]
    exact ⟨fun z => V.str.inj z, fun z => by rw [z]⟩
  rcases good_words g with h | ⟨h1, h | h⟩
  · rw [h.2, if_pos (e.mpr h.1), if_neg (fun z => absurd ((e.mp z).symm.trans h.1) (by decide))]
    rfl
  · rw [h.2, if_neg (fun z => h1 (e.mp z)), if_neg (fun z => absurd ((e.mp z).symm.trans h.1) (by decide))]
    rfl
  · have hc := good_cap g h1 h.1
    rw [h.2, if_neg (fun z => h1 (e.mp z)), if_pos (e.mpr hc)]
    rfl
def spGiven : Sp := fun vs H Q _ => ∃ (a : Addr) (xs : List V) (ds : List Lt) (k : Int), vs = [.ref a, .int k] ∧ SqH H a xs ∧ LtH H xs ds ∧ ds.length ≤ 900 ∧
  ∀ H' c ys, Same H H' → SqH H' c ys → LtH H' ys ds → Q (.ref c) H'
set_option maxHeartbeats 0 in
theorem ok_given {f : Addr} {fd : FuncData} (F : Fun K "_law_given" "_law_given" s__law_given f fd) (T : Bi mg) : FnOk P w K mg base CX0 1 f fd ["_law_letters_here", "_law_form"] spGiven := by
  refine F.ok sc__law_given (fun vs H Q E h => ?_) (fun cdv A outer s H vs Q E hr h => ?_)
  · obtain ⟨a, xs, ds, k, rfl, _⟩ := h
    rfl
  · obtain ⟨a, xs, ds, k, rfl, hs, hd, hl, q⟩ := h
    refine ⟨_, (pss_cons (ps_set (i := 2) sc__law_given.nd rfl (.inl rfl) (pe_lst pa_nil))
        (pss_cons (ps_for PassesOwn.never rfl (pi_seq (pv 0)) (pg_name (i := 3) sc__law_given.nd rfl (.inl rfl))
        (pss_one (ps_if (pt_cmpR op_in_seq (pv 1) (pe_lst (pa_cons pe_int (pa_cons pe_int pa_nil))) (by rfl)) (pss_one (ps_expr (pe_bm PySem.F.plainAttrs_list PySem.F.slot_list_append PySem.F.type_list_append mt_append (pv 2) (pa_cons (pe_lst (pa_cons (pe_ix (r := rIxB K) ix_seqB (pv 3) pe_int (fun _ _ => rfl)) (pa_cons (pe_ix (r := rIxB K) ix_seqB (pv 3) pe_int (fun _ _ => rfl)) pa_nil))) pa_nil)))) (pss_one (ps_expr (pe_bm PySem.F.plainAttrs_list PySem.F.slot_list_append PySem.F.type_list_append mt_append (pv 2) (pa_cons (pe_tup (pa_cons (pe_ix (r := rIxB K) ix_seqB (pv 3) pe_int (fun _ _ => rfl)) (pa_cons (pe_ix (r := rIxB K) ix_seqB (pv 3) pe_int (fun _ _ => rfl)) pa_nil))) pa_nil)))))))
        (pss_cons (ps_if (pt_cmpR op_in_seq (pv 1) (pe_lst (pa_cons pe_int (pa_cons pe_int pa_nil))) (by rfl)) (pss_one (ps_ret (pv 2))) pss_nil)
        (pss_one (ps_ret (pe_callTy (call_tupK (K := K) rfl) (by rfl) T.b_tuple (by decide +kernel) (pa_cons (pv 2) pa_nil))))))), ?_⟩
    refine ⟨by show 0 ≤ sizeLine; decide, fun p np => ?_⟩
    have s1 := same_upd (o := .lst []) np
    have hs1 := hs.same s1
    have lx : xs.length ≤ 900 := by rw [hd.1]; exact hl
    have hap : a ≠ p := fun z => by rcases hs with e | e <;> (rw [z, np] at e; cases e)
    refine ⟨_, rfl, for_seqB hs1 (fun i σ H' => (∃ y3, σ = [some (.ref a), some (.int k), some (.ref p), y3]) ∧ ∃ ys, LcI H p ys H' ∧ LtH H' ys (ds.take i) ∧ ∀ v ∈ ys, v ≠ .ref p) ⟨⟨none, rfl⟩, [], LcI.start np, LtT.nil.h, fun v hv => nomatch hv⟩ (fun i σ H' pv o ho => ?_) (fun i x σ H1 ex pv => ?_) (fun σ H' pv => ?_)⟩
    · obtain ⟨_, ys, L1, _⟩ := pv
      rw [upd_ne hap] at ho
      exact L1.same _ _ ho
    · obtain ⟨⟨y3, rfl⟩, ys, L1, hy, nr⟩ := pv
      obtain ⟨b, d, rfl, hdi, hb⟩ := (hd.same L1.same).at_ ex
      have t0 : atI (lv d) 0 = some (.str d.1) := at_of (j := 0) rfl rfl
      have t1 : atI (lv d) 1 = some (.int d.2) := at_of (j := 1) rfl rfl
      have lyy : ys.length < sizeLine := by
        rw [hy.1, List.length_take]
        exact Nat.lt_of_le_of_lt (Nat.min_le_right _ _) (small1000 (by omega))
      have tk : ds.take (i + 1) = ds.take i ++ [d] := by rw [List.take_add_one, hdi]; rfl
      have fin : ∀ (H4 : Hp) (c : Addr), Same H1 H4 → H4 c = none → ∀ H5, Same H4 H5 → SqH H5 c (lv d) → ∃ p' acc y, V.ref p = .ref p' ∧ [V.ref c] = [y] ∧ H5 p' = some (.lst acc) ∧ acc.length < sizeLine ∧ ((∃ y3, [some (.ref a), some (.int k), some (.ref p), some (.ref b)] = [some (V.ref a), some (.int k), some (.ref p), y3]) ∧ ∃ ys, LcI H p ys (upd H5 p (.lst (acc ++ [y]))) ∧ LtH (upd H5 p (.lst (acc ++ [y]))) ys (ds.take (i + 1)) ∧ ∀ v ∈ ys, v ≠ .ref p) := fun H4 c s4 nc H5 s5 hc => by
        have ep := (s4.trans s5) _ _ L1.at_
        have ncp : c ≠ p := fun z => by rw [z, s4 _ _ L1.at_] at nc; cases nc
        refine ⟨p, ys, _, rfl, rfl, ep, lyy, ⟨_, rfl⟩, ys ++ [.ref c], L1.put np (s4.trans s5), ⟨?_, fun j u e => ?_⟩, fun v hv => ?_⟩
        · rw [List.length_append, hy.1, tk, List.length_append]
          rfl
        · rw [tk] at e
          by_cases hj : j < (ds.take i).length
          · rw [List.getElem?_append_left hj] at e
            obtain ⟨b', h1, h2⟩ := hy.2 j u e
            have nb : b' ≠ p := fun z => nr _ (List.mem_of_getElem? h1) (congrArg V.ref z)
            have h2' := h2.same (s4.trans s5)
            refine ⟨b', by rw [List.getElem?_append_left (by rw [hy.1]; exact hj)]; exact h1, ?_⟩
            rcases h2' with z | z
            · exact .inl (by rw [upd_ne nb]; exact z)
            · exact .inr (by rw [upd_ne nb]; exact z)
          · rw [List.getElem?_append_right (by omega)] at e
            have e0 : j - (ds.take i).length = 0 ∧ d = u := by
              cases hk : j - (ds.take i).length with
              | zero => rw [hk] at e; exact ⟨rfl, Option.some.inj e⟩
              | succ k => rw [hk] at e; simp at e
            refine ⟨c, by rw [List.getElem?_append_right (by rw [hy.1]; omega), hy.1, e0.1]; rfl, ?_⟩
            rw [← e0.2]
            rcases hc with z | z
            · exact .inl (by rw [upd_ne ncp]; exact z)
            · exact .inr (by rw [upd_ne ncp]; exact z)
        · rcases List.mem_append.mp hv with hv | hv
          · exact nr v hv
          · rw [List.mem_singleton.mp hv]
            exact fun z => ncp (V.ref.inj z)
      refine ⟨_, rfl, by show 2 ≤ sizeLine; decide, fun g1 n1 => ⟨g1, _, rfl, .inl (.inl (.inl upd_same)), rfl, rfl, _, rfl, ite2 (fun e => ?_) (fun e => ?_)⟩⟩
      · have s3 := same_upd (o := .lst [.int 0, .int 1]) n1
        have hb3 := hb.same s3
        refine ⟨_, rfl, .inl ⟨rfl, _, .inl (.inl (s3 _ _ L1.at_))⟩, _, rfl, b, _, _, _, rfl, rfl, hb3.b, t0, _, rfl, b, _, _, _, rfl, rfl, hb3.b, t1, by show 2 ≤ sizeLine; decide, fun c nc => ?_⟩
        obtain ⟨p1, acc, y, f1, f2, f3, f4, f5, f6⟩ := fin _ c s3 nc _ (same_upd nc) (.inl upd_same)
        obtain rfl : p = p1 := V.ref.inj f1
        exact ⟨p, acc, y, f1, f2, f3, f4, f5, f6⟩
      · have s3 := same_upd (o := .lst [.int 0, .int 1]) n1
        have hb3 := hb.same s3
        refine ⟨_, rfl, .inl ⟨rfl, _, .inl (.inl (s3 _ _ L1.at_))⟩, _, rfl, b, _, _, _, rfl, rfl, hb3.b, t0, _, rfl, b, _, _, _, rfl, rfl, hb3.b, t1, by show 2 ≤ sizeLine; decide, fun c nc => ?_⟩
        obtain ⟨p1, acc, y, f1, f2, f3, f4, f5, f6⟩ := fin _ c s3 nc _ (same_upd nc) (.inr upd_same)
        obtain rfl : p = p1 := V.ref.inj f1
        exact ⟨p, acc, y, f1, f2, f3, f4, f5, f6⟩
    · obtain ⟨⟨y3, rfl⟩, ys, L1, hy, nr⟩ := pv
      rw [hd.1, List.take_length] at hy
      refine ⟨_, rfl, by show 2 ≤ sizeLine; decide, fun g1 n1 => ⟨g1, _, rfl, .inl (.inl (.inl upd_same)), rfl, rfl, _, rfl, ite2 (fun e => ?_) (fun e => ?_)⟩⟩
      · have s3 := same_upd (o := .lst [.int 0, .int 2]) n1
        exact ⟨_, rfl, q _ p _ (L1.same.trans s3) (.inl (s3 _ _ L1.at_)) (hy.same s3)⟩
      · have s3 := same_upd (o := .lst [.int 0, .int 2]) n1
        refine ⟨_, rfl, p, _, rfl, .inl ⟨.inl (.inl (s3 _ _ L1.at_)), fun u nu => ?_⟩⟩
        have s4 := s3.trans (same_upd (o := .tup ys) nu)
        exact q _ u _ (L1.same.trans s4) (.inr upd_same) (hy.same s4)
end
end Own

namespace Own
open PySem PySem.Spec PyProof.Rows L2
/-! ### the law: is it the lot of these cords -/
section
variable {P : Program} {w : World} {K : PySem.W.Frag} {mg : Str → Option Value} {base : Heap} {C : Addr}
def spIsLot (C : Addr) : Sp := fun vs H Q _ => ∃ (x c : Addr) (n : Int) (cs : List Tr), vs = [.ref x, .int n, .ref c] ∧ LotAt C H x n cs ∧ TripL H c cs ∧ cs.length ≤ 1000 ∧ Q (.bl true) H
set_option maxHeartbeats 0 in
theorem ok_islot {f : Addr} {fd : FuncData} (F : Fun K "_law_is_lot" "_law_is_lot" s__law_is_lot f fd) (T : Bi mg) (L : LotC K mg C) (I : C8.InsC K C) {f_w : Addr} {d_w : FuncData} (D_w : Df K mg "_law_whole" s__law_whole ["_law_value"] f_w d_w) (G_w : FnOk P w K mg base CX0 1 f_w d_w ["_law_value"] spWhole) : FnOk P w K mg base CX0 2 f fd ["_law_told", "_law_pins", "_law_bunch"] (spIsLot C) := by
  refine F.ok sc__law_is_lot (fun vs H Q E h => ?_) (fun cdv A outer s H vs Q E hr h => ?_)
  · obtain ⟨x, c, n, cs, rfl, _⟩ := h
    rfl
  · obtain ⟨x, c, n, cs, rfl, hL, hT, hl, q⟩ := h
    refine ⟨_, (pss_cons (ps_if (PW.pt (pw_or (pt_not (pt_val (pe_callB call_isi (by rfl) T.b_isinstance (by decide +kernel) (pa_cons (pv 0) (pa_cons (pe_glob (v := .ref C) (by rfl) L.g rfl) pa_nil))))) (pw_or (pt_not (pt_val (pe_call G_w (hr.mono (by decide)) (by rfl) D_w.g D_w.F.kp D_w.b .nil pass0 (pa_cons (pe_fld (pv 0) rfl) pa_nil)))) (pw_or1 (pt_cmpR op_ne (pe_fld (pv 0) rfl) (pv 1) (nomark _)))))) (pss_one (ps_ret pe_bl)) pss_nil)
        (pss_cons (ps_if (PW.pt (pw_or (pt_not (pt_val (pe_callB call_isi (by rfl) T.b_isinstance (by decide +kernel) (pa_cons (pe_fld (pv 0) rfl) (pa_cons (pe_bltn (v := .ty "tuple") (by rfl) T.b_tuple (by decide +kernel) rfl) pa_nil))))) (pw_or1 (pt_cmpR op_ne (pe_callB call_len_seq (by rfl) T.b_len PySem.boot_len (pa_cons (pe_fld (pv 0) rfl) pa_nil)) (pe_callB call_len_seq (by rfl) T.b_len PySem.boot_len (pa_cons (pv 2) pa_nil)) (nomark _))))) (pss_one (ps_ret pe_bl)) pss_nil)
        (pss_cons (ps_for PassesOwn.never rfl (pi_range1 (by rfl) T.b_range (pa_cons (pe_callB call_len_seq (by rfl) T.b_len PySem.boot_len (pa_cons (pv 2) pa_nil)) pa_nil)) (pg_name (i := 3) sc__law_is_lot.nd rfl (.inl rfl))
        (pss_cons (ps_set (i := 4) sc__law_is_lot.nd rfl (.inl rfl) (pe_ix (r := rIxB K) ix_seqB (pe_fld (pv 0) rfl) (pv 3) (fun _ _ => rfl)))
        (pss_cons (ps_if (PW.pt (pw_or (pt_not (pt_val (pe_callB call_isi (by rfl) T.b_isinstance (by decide +kernel) (pa_cons (pv 4) (pa_cons (pe_bltn (v := .ty "tuple") (by rfl) T.b_tuple (by decide +kernel) rfl) pa_nil))))) (pw_or1 (pt_cmpR op_ne (pe_callB call_len_seq (by rfl) T.b_len PySem.boot_len (pa_cons (pv 4) pa_nil)) pe_int (nomark _))))) (pss_one (ps_ret pe_bl)) pss_nil)
        (pss_one (ps_for PassesOwn.never rfl (pi_range1 (by rfl) T.b_range (pa_cons pe_int pa_nil)) (pg_name (i := 5) sc__law_is_lot.nd rfl (.inl rfl))
        (pss_one (ps_if (PW.pt (pw_or (pt_not (pt_val (pe_call G_w (hr.mono (by decide)) (by rfl) D_w.g D_w.F.kp D_w.b .nil pass0 (pa_cons (pe_ix (r := rIxB K) ix_seqB (pv 4) (pv 5) (fun _ _ => rfl)) pa_nil)))) (pw_or1 (pt_cmpR op_ne (pe_ix (r := rIxB K) ix_seqB (pv 4) (pv 5) (fun _ _ => rfl)) (pe_ix (r := rIxB K) ix_seqB (pe_ix (r := rIxB K) ix_seqB (pv 2) (pv 3) (fun _ _ => rfl)) (pv 5) (fun _ _ => rfl)) (nomark _))))) (pss_one (ps_ret pe_bl)) pss_nil)))))))
        (pss_one (ps_ret pe_bl))))), ?_⟩
    obtain ⟨dx, cc, e, t⟩ := hL
    obtain ⟨zs, ez, tz⟩ := hT
    obtain ⟨us, eu, tu⟩ := t
    have lz := tz.1
    have lu := tu.1
    have neq : ∀ {v : V}, ¬ (!decide (v = v)) = true := fun {v} z => by
      rw [decide_eq_true rfl] at z
      cases z
    refine ⟨_, rfl, _, _, _, _, true, rfl, .own C, .base (.ins e I.cl I.ha I.hn I.htk I.hm), I.me, true, rfl, ?_⟩
    refine ⟨_, rfl, x, C, dx, _, _, rfl, e, L.cl, L.nP, flds_pins _ _, n, rfl, true, rfl, ?_⟩
    refine ⟨_, rfl, x, C, dx, _, _, rfl, e, L.cl, L.nP, flds_pins _ _, _, rfl, rfl, _, rfl, ite2 (fun c1 => absurd c1 neq) (fun _ => ?_)⟩
    refine ⟨_, rfl, x, C, dx, _, _, rfl, e, L.cl, L.nC, flds_cords _ _, _, _, _, _, true, rfl, .ty "tuple", .base (.tup eu), kit_ty (by decide +kernel), true, rfl, ?_⟩
    refine ⟨_, rfl, x, C, dx, _, _, rfl, e, L.cl, L.nC, flds_cords _ _, cc, us, rfl, .inr (.inl (.inl eu)), _, rfl, c, zs, rfl, .inl (.inl (.inl ez)), ?_⟩
    rw [lu, lz]
    refine ⟨rfl, _, rfl, ite2 (fun c1 => absurd c1 neq) (fun _ => ?_)⟩
    refine ⟨_, rfl, c, zs, rfl, .inl (.inl (.inl ez)), (cs.length : Int), (by rw [lz]), by omega, by omega, ?_⟩
    refine for_range (lo := 0) (n := cs.length) (fun i σ H' => (∃ y3 y4 y5, σ = [some (.ref x), some (.int n), some (.ref c), y3, y4, y5]) ∧ H' = H) ⟨⟨_, _, _, rfl⟩, rfl⟩ (fun i σ H' hi pv => ?_) (fun σ H' pv => ?_)
    · obtain ⟨⟨y3, y4, y5, rfl⟩, rfl⟩ := pv
      obtain ⟨b, eb, hb⟩ := tu.2 i cs[i] (List.getElem?_eq_getElem hi)
      obtain ⟨b2, eb2, hb2⟩ := tz.2 i cs[i] (List.getElem?_eq_getElem hi)
      generalize cs[i] = t at hb hb2
      refine ⟨_, rfl, x, C, dx, _, _, rfl, e, L.cl, L.nC, flds_cords _ _, _, rfl, cc, us, _, _, rfl, rfl, .inr (.inl (.inl eu)), at_of (Int.zero_add _) eb, ?_⟩
      refine ⟨_, rfl, _, _, _, _, true, rfl, .ty "tuple", .base (.tup hb), kit_ty (by decide +kernel), true, rfl, ?_⟩
      refine ⟨_, rfl, b, _, rfl, .inr (.inl (.inl hb)), rfl, _, rfl, ite2 (fun c1 => absurd c1 (neq (v := .int 3))) (fun _ => ?_)⟩
      refine ⟨3, rfl, by decide, by decide, ?_⟩
      refine for_range (lo := 0) (n := 3) (fun j σ H2 => (∃ y5, σ = [some (.ref x), some (.int n), some (.ref c), some (.int (0 + (i : Int))), some (.ref b), y5]) ∧ H2 = H') ⟨⟨_, rfl⟩, rfl⟩ (fun j σ H2 hj pv => ?_) (fun σ H2 pv => ?_)
      · obtain ⟨⟨y5, rfl⟩, rfl⟩ := pv
        obtain ⟨v, ev⟩ : ∃ v : Int, atI (tv t) (0 + (j : Int)) = some (.int v) := by
          obtain rfl | rfl | rfl : j = 0 ∨ j = 1 ∨ j = 2 := by omega
          · exact ⟨_, at_of (j := 0) rfl rfl⟩
          · exact ⟨_, at_of (j := 1) rfl rfl⟩
          · exact ⟨_, at_of (j := 2) rfl rfl⟩
        refine ⟨_, rfl, _, rfl, b, _, _, _, rfl, rfl, .inr (.inl (.inl hb)), ev, v, rfl, true, rfl, ?_⟩
        refine ⟨_, rfl, _, rfl, b, _, _, _, rfl, rfl, .inr (.inl (.inl hb)), ev, _, rfl, _, rfl, c, zs, _, _, rfl, rfl, .inl (.inl (.inl ez)), at_of (Int.zero_add _) eb2, _, rfl, b2, _, _, _, rfl, rfl, .inr (.inl (.inl hb2)), ev, rfl, _, rfl, ite2 (fun c1 => absurd c1 neq) (fun _ => ?_)⟩
        exact ⟨⟨_, rfl⟩, rfl⟩
      · obtain ⟨⟨y5, rfl⟩, rfl⟩ := pv
        exact ⟨⟨_, _, _, rfl⟩, rfl⟩
    · obtain ⟨⟨y3, y4, y5, rfl⟩, rfl⟩ := pv
      exact q
end
end Own

namespace Own
open PySem PySem.Spec PyProof.Rows L2
/-! ### the law: tables of rows -/
abbrev rAbs : List V → Hp → VK → Prop := fun xs H Q => ∃ i, xs = [.int i] ∧ Q (.int (if i < 0 then -i else i)) H
theorem gl_snoc {n : Int} (n0 : 0 ≤ n) (g : Int → Int) : gl (n + 1) g = gl n g ++ [.int (g n)] := gv_snoc n0 fun j => .int (g j)
/-- within a comprehension that makes rows: i rows are made at D -/
def RowsI (H0 : Hp) (D : Addr) (m : Int) (f : Int → Int → Int) (i : Nat) (H' : Hp) : Prop :=
  ∃ rs : List Addr, LcI H0 D (rs.map V.ref) H' ∧ rs.length = i ∧ rs.Nodup ∧ (∀ r ∈ rs, r ≠ D ∧ H0 r = none) ∧ ∀ (j : Nat) (r : Addr), rs[j]? = some r → H' r = some (.lst (gl m (f j)))
theorem RowsI.start {H0 : Hp} {D : Addr} {m : Int} {f : Int → Int → Int} (n : H0 D = none) : RowsI H0 D m f 0 (upd H0 D (.lst [])) :=
  ⟨[], LcI.start n, rfl, List.nodup_nil, fun r h => (nomatch h), fun j r e => by simp at e⟩
theorem RowsI.same {H0 : Hp} {D : Addr} {m : Int} {f : Int → Int → Int} {i : Nat} {H' : Hp} (h : RowsI H0 D m f i H') : Same H0 H' := by
  obtain ⟨rs, L, _⟩ := h
  exact L.same
theorem RowsI.snoc {H0 : Hp} {D : Addr} {m : Int} {f : Int → Int → Int} {i : Nat} {H' H4 : Hp} {R : Addr} (n0 : H0 D = none) (h : RowsI H0 D m f i H') (hi : i ≤ 1000) (nR : H' R = none) (s : Same H' H4) (e : H4 R = some (.lst (gl m (f i)))) :
    ∃ acc, H4 D = some (.lst acc) ∧ acc.length < sizeLine ∧ RowsI H0 D m f (i + 1) (upd H4 D (.lst (acc ++ [.ref R]))) := by
  obtain ⟨rs, L, hl, hn, hf, hr⟩ := h
  have nRD : R ≠ D := L.nn nR
  refine ⟨_, s _ _ L.at_, by rw [List.length_map, hl]; exact small1000 (by omega), rs ++ [R], ?_, by rw [List.length_append, hl]; rfl, ?_, fun r hm => ?_, fun j r ej => ?_⟩
  · rw [List.map_append]
    exact L.put n0 s
  · rw [List.nodup_append]
    refine ⟨hn, by simp, fun a ha b hb z => ?_⟩
    rw [List.mem_singleton.mp hb] at z
    obtain ⟨k, hk⟩ := List.mem_iff_getElem?.mp ha
    have := hr k a hk
    rw [z, nR] at this
    cases this
  · rcases List.mem_append.mp hm with hm | hm
    · exact hf r hm
    · rw [List.mem_singleton.mp hm]
      exact ⟨nRD, L.same.free nR⟩
  · by_cases hj : j < rs.length
    · rw [List.getElem?_append_left hj] at ej
      have hm := List.mem_of_getElem? ej
      rw [upd_ne (hf r hm).1]
      exact s _ _ (hr j r ej)
    · rw [List.getElem?_append_right (by omega)] at ej
      have e0 : j - rs.length = 0 ∧ R = r := by
        cases hk : j - rs.length with
        | zero => rw [hk] at ej; exact ⟨rfl, Option.some.inj ej⟩
        | succ k => rw [hk] at ej; simp at ej
      have ej2 : j = i := by omega
      rw [← e0.2, upd_ne nRD, ej2]
      exact e
theorem RowsI.grid {H0 : Hp} {D : Addr} {n m : Int} {f : Int → Int → Int} {H' : Hp} (h : RowsI H0 D m f n.toNat H') (n0 : H0 D = none) : ∃ rs, Grid H' D rs n m f ∧ Fresh H0 D rs := by
  obtain ⟨rs, L, hl, hn, hf, hr⟩ := h
  exact ⟨rs, ⟨L.at_, hl, hn, fun z => (hf D z).1 rfl, hr⟩, n0, fun r hm => (hf r hm).2⟩
section
variable {P : Program} {w : World} {K : PySem.W.Frag} {mg : Str → Option Value} {base : Heap} {C : Addr}
/-- a table of one's own -/
def TabL (H : Hp) (p : Addr) (n : Int) (T : Int → Int → Int) : Prop := ∃ rs, Grid H p rs (hi n 1) (hi n 1) T
def spStr : Sp := fun vs H Q _ => ∃ t : Int, vs = [.int t] ∧ 0 ≤ t ∧ t ≤ 20 ∧ ∀ H' p, Same H H' → TabL H' p (2 * t) (strT t) → Q (.ref p) H'
set_option maxHeartbeats 0 in
theorem ok_str {f : Addr} {fd : FuncData} (F : Fun K "_law_straight_table" "_law_straight_table" s__law_straight_table f fd) (T : Bi mg) (TE : BiX mg) : FnOk P w K mg base CX0 1 f fd ["_law_top"] spStr := by
  refine F.ok sc__law_straight_table (fun vs H Q E h => ?_) (fun cdv A outer s H vs Q E hr h => ?_)
  · obtain ⟨t, rfl, _⟩ := h
    rfl
  · obtain ⟨t, rfl, t0, t1, q⟩ := h
    refine ⟨_, (pss_cons (ps_if (pt_cmpR op_eq (pv 0) pe_int (nomark _)) (pss_one (ps_ret (pe_lst (pa_cons (pe_lst (pa_cons pe_int pa_nil)) pa_nil)))) pss_nil)
        (pss_cons (ps_set (i := 1) sc__law_straight_table.nd rfl (.inr rfl) (pe_lc (own := [("_law_k", 2)]) (g := gName 2) (tt := tYes) rfl sc__law_straight_table.nd (pi_range1 (by rfl) T.b_range (pa_cons (pe_op op_mul pe_int (pv 0)) pa_nil)) (blkOk_by (own := [("_law_k", 2)]) (N := ["_law_top", "_law_spots", "_law_k", "_law_a", "_law_b"]) (sc := defScope s__law_straight_table) (by decide +kernel)) (fun _ _ _ _ _ => (pg_name (i := 2) sc__law_straight_table.nd rfl (.inl rfl))) (fun _ _ _ _ _ => pts_nil) (fun _ _ _ _ _ => (pe_callB (call_min2 rfl) (by rfl) T.b_min (by decide +kernel) (pa_cons (pe_op op_add (pv 2) pe_int) (pa_cons (pe_op op_sub (pe_op op_sub (pe_op op_mul pe_int (pv 0)) pe_int) (pv 2)) pa_nil))))))
        (pss_one (ps_ret (pe_lc (own := [("_law_a", 3)]) (g := gName 3) (tt := tYes) rfl sc__law_straight_table.nd (pi_list (pv 1)) (blkOk_by (own := [("_law_a", 3)]) (N := ["_law_top", "_law_spots", "_law_k", "_law_a", "_law_b"]) (sc := defScope s__law_straight_table) (by decide +kernel)) (fun _ _ _ _ _ => pg_name (i := 3) sc__law_straight_table.nd rfl (Or.inr rfl)) (fun _ _ _ _ _ => pts_nil) (fun _ _ _ _ _ => (show PE _ _ (tLc (iList K (tVar 1)) (gName 4) tYes (tCB rAbs (tCons (tOp (rI0 fun i j => V.int (i - j)) (tVar 3) (tVar 4)) tNil)) [4]) from pe_lc (own := [("_law_b", 4)]) (g := gName 4) (tt := tYes) rfl sc__law_straight_table.nd (pi_list (pv 1)) (blkOk_by (own := [("_law_b", 4)]) (N := ["_law_top", "_law_spots", "_law_k", "_law_a", "_law_b"]) (sc := { kind := .function, names := [(".0", .local), ("_law_a", .cell), ("_law_spots", .cell)], isGenerator := false, isCoroutine := false }) (by decide +kernel)) (fun _ _ _ _ _ => pg_name (i := 4) sc__law_straight_table.nd rfl (Or.inl rfl)) (fun _ _ _ _ _ => pts_nil) (fun _ _ _ _ _ => (show PE _ _ (tCB rAbs (tCons (tOp (rI0 fun i j => V.int (i - j)) (tVar 3) (tVar 4)) tNil)) from (pe_callB (r := rAbs) call_abs (by rfl) TE.b_abs (by decide +kernel) (pa_cons (pe_op op_sub (pv 3) (pv 4)) pa_nil))))))))))), ?_⟩
    refine ⟨_, rfl, rfl, _, rfl, ite2 (fun c => ?_) (fun c => ?_)⟩
    · have c : t = 0 := V.int.inj (of_decide_eq_true c)
      subst c
      refine ⟨by show 1 ≤ sizeLine; decide, fun r nr => ⟨by show 1 ≤ sizeLine; decide, fun p np => ?_⟩⟩
      have s := (same_upd (o := .lst [.int 0]) nr).trans (same_upd (o := .lst [.ref r]) np)
      have nrp : r ≠ p := fun z => by rw [← z, upd_same] at np; cases np
      refine q _ p s ⟨[r], upd_same, rfl, by simp, by simp; exact fun z => nrp z.symm, fun j u e => ?_⟩
      obtain ⟨rfl, rfl⟩ : j = 0 ∧ r = u := by
        cases j with
        | zero => exact ⟨rfl, Option.some.inj e⟩
        | succ k => simp at e
      rw [upd_ne nrp, upd_same]
      rfl
    · have c : t ≠ 0 := fun z => c (by rw [z]; exact decide_eq_true rfl)
      have hh : hi (2 * t) 1 = 2 * t := by have := lo_hi (2 * t) 1; omega
      refine ⟨_, rfl, _, _, rfl, rfl, cm2 _, 2 * t, rfl, by omega, by omega, fun D hD => ?_⟩
      refine lc_range (lo := 0) (n := (2 * t).toNat) (fun i H' => LcI H D (gl (i : Int) (spot t)) H') (LcI.start hD) (fun i H2 hi2 L => ?_) (fun H2 L => ?_)
      · refine ⟨rfl, ?_⟩
        refine ⟨_, rfl, _, _, rfl, rfl, _, rfl, _, _, rfl, rfl, cm2 _, _, _, rfl, rfl, _, rfl, _, _, rfl, rfl, _, _, rfl, ?_⟩
        refine ⟨_, L.at_, by rw [gl_len]; exact small1000 (by omega), ?_⟩
        have e : gl ((i + 1 : Nat) : Int) (spot t) = gl (i : Int) (spot t) ++ [.int (lo ((0 : Int) + i + 1) (2 * t - 1 - (0 + i)))] := by
          rw [show ((i + 1 : Nat) : Int) = (i : Int) + 1 by omega, gl_snoc (by omega), Int.zero_add]
          rfl
        rw [e]
        exact L.put hD (Same.refl _)
      · rw [show (((2 * t).toNat : Nat) : Int) = 2 * t by omega] at L
        have eD := L.at_
        refine ⟨_, rfl, D, rfl, ⟨_, .inl (.inl eD)⟩, fun p np => ?_⟩
        refine lc_list (K := K) (a := D) (xs := gl (2 * t) (spot t)) (fun i H' => RowsI H2 p (2 * t) (strT t) i H') (RowsI.start np) (fun i H' _ pv => .inl (.inl (pv.same _ _ eD))) (fun i x H' hx pv => ?_) (fun H' pv => ?_)
        · obtain ⟨rfl, i1⟩ := gl_nat hx
          have eD' := pv.same _ _ eD
          refine ⟨rfl, ?_⟩
          refine ⟨_, rfl, D, rfl, ⟨_, .inl (.inl eD')⟩, fun R nR => ?_⟩
          refine lc_list (K := K) (a := D) (xs := gl (2 * t) (spot t)) (fun k H5 => LcI H' R (gl (k : Int) (strT t i)) H5) (LcI.start nR) (fun k H5 _ L5 => .inl (.inl (L5.same _ _ eD'))) (fun k y H5 hy L5 => ?_) (fun H5 L5 => ?_)
          · obtain ⟨rfl, k1⟩ := gl_nat hy
            refine ⟨rfl, ?_⟩
            refine ⟨_, rfl, _, rfl, _, _, rfl, rfl, _, rfl, ?_⟩
            refine ⟨_, L5.at_, by rw [gl_len]; exact small1000 (by omega), ?_⟩
            have e : gl ((k + 1 : Nat) : Int) (strT t i) = gl (k : Int) (strT t i) ++ [.int (if spot t i - spot t k < 0 then -(spot t i - spot t k) else spot t i - spot t k)] := by
              rw [show ((k + 1 : Nat) : Int) = (k : Int) + 1 by omega, gl_snoc (by omega)]
              unfold strT
              rw [if_neg c]
              rfl
            rw [e]
            exact L5.put nR (Same.refl _)
          · rw [gl_len, show (((2 * t).toNat : Nat) : Int) = 2 * t by omega] at L5
            exact pv.snoc np (by omega) nR L5.same L5.at_
        · rw [gl_len] at pv
          obtain ⟨rs, g, _⟩ := pv.grid np
          refine q _ p (L.same.trans pv.same) ⟨rs, ?_⟩
          rw [hh]
          exact g
end
end Own

namespace Own
open PySem PySem.Spec PyProof.Rows L2
/-! ### the law: one letter on a table -/
/-- a table while a new row and column are written at a: those below i are -/
def lpT (a : Int) (v : Int → Int) (f0 : Int → Int → Int) (i x y : Int) : Int := if y = a ∧ x < i then v x else if x = a ∧ y < i then v y else f0 x y
theorem lp_step {a i x y : Int} {v : Int → Int} {f0 : Int → Int → Int} : (if x = a ∧ y = i then v i else if x = i ∧ y = a then v i else lpT a v f0 i x y) = lpT a v f0 (i + 1) x y := by
  unfold lpT
  by_cases c1 : x = a ∧ y = i
  · rw [if_pos c1, c1.1, c1.2]
    by_cases c2 : i = a ∧ a < i + 1
    · rw [if_pos c2, c2.1]
    · rw [if_neg c2, if_pos ⟨rfl, by omega⟩]
  · rw [if_neg c1]
    by_cases c2 : x = i ∧ y = a
    · rw [if_pos c2, if_pos ⟨c2.2, by omega⟩, c2.1]
    · rw [if_neg c2]
      by_cases c3 : y = a ∧ x < i
      · rw [if_pos c3, if_pos ⟨c3.1, by omega⟩]
      · rw [if_neg c3, if_neg (show ¬ (y = a ∧ x < i + 1) from fun z => c3 ⟨z.1, by have := z.1; omega⟩)]
        by_cases c4 : x = a ∧ y < i
        · rw [if_pos c4, if_pos (show x = a ∧ y < i + 1 from ⟨c4.1, by omega⟩)]
        · rw [if_neg c4, if_neg (show ¬ (x = a ∧ y < i + 1) from fun z => c4 ⟨z.1, by have := z.1; omega⟩)]
theorem lp_end {a m x y : Int} {v : Int → Int} {f0 : Int → Int → Int} (hx : x < m) (hy : y < m) : (if x = a ∧ y = a then 0 else lpT a v f0 m x y) = if x = a ∧ y = a then 0 else if y = a then v x else if x = a then v y else f0 x y := by
  unfold lpT
  by_cases c : x = a ∧ y = a
  · rw [if_pos c, if_pos c]
  · rw [if_neg c, if_neg c]
    by_cases c1 : y = a
    · rw [if_pos ⟨c1, hx⟩, if_pos c1]
    · rw [if_neg fun z => c1 z.1, if_neg c1]
      by_cases c2 : x = a
      · rw [if_pos ⟨c2, hy⟩, if_pos c2]
      · rw [if_neg fun z => c2 z.1, if_neg c2]
theorem lp_zero {a x y i : Int} {v : Int → Int} {f0 : Int → Int → Int} (h : i = 0) (x0 : 0 ≤ x) (y0 : 0 ≤ y) : lpT a v f0 i x y = f0 x y := by
  unfold lpT
  rw [if_neg fun z => by omega, if_neg fun z => by omega]
/-- how many places below k are left without a and a + 1 -/
def kpN (a k : Int) : Int := if k ≤ a then k else if k = a + 1 then a else k - 2
abbrev rListK (K : PySem.W.Frag) : List V → Hp → VK → Prop := fun xs H Q => ∃ p ys, xs = [V.ref p] ∧ (SqL K H p ys ∨ SqT K H p ys) ∧ ∀ l, H l = none → Q (.ref l) (upd H l (.lst ys))
theorem call_listK {X : Cx} {K : PySem.W.Frag} (h : X.K = K) : CallR X (.type "list") (rListK K) := by
  subst h
  exact call_list_of
section
variable {P : Program} {w : World} {K : PySem.W.Frag} {mg : Str → Option Value} {base : Heap} {C : Addr}
def spTLet : Sp := fun vs H Q _ => ∃ (n : Int) (p b : Addr) (T : Int → Int → Int) (d : Lt), vs = [.int n, .ref p, .ref b] ∧ TabL H p n T ∧ SqH H b (lv d) ∧ 0 ≤ n ∧ n ≤ 100 ∧ GoodR d ∧ 0 ≤ d.2 ∧ (if d.1 = "cup" then d.2 ≤ n else d.2 + 2 ≤ n) ∧
  ∀ H' r, Same H H' → TabL H' r (n + chgR d.1) (stepT n T d) → Q (.ref r) H'
set_option maxHeartbeats 0 in
theorem ok_tlet {f : Addr} {fd : FuncData} (F : Fun K "_law_table_letter" "_law_table_letter" s__law_table_letter f fd) (T : Bi mg) {f_g : Addr} {d_g : FuncData} (D_g : Df K mg "_law_gaps" s__law_gaps ["_law_pins"] f_g d_g) (G_g : FnOk P w K mg base CX0 1 f_g d_g ["_law_pins"] spGaps) : FnOk P w K mg base CX0 2 f fd ["_law_pins", "_law_table", "_law_letter"] spTLet := by
  refine F.ok sc__law_table_letter (fun vs H Q E h => ?_) (fun cdv A outer s H vs Q E hr h => ?_)
  · obtain ⟨n, p, b, F, d, rfl, _⟩ := h
    rfl
  · obtain ⟨n, p, b, F, d, rfl, hp, hb, n0, n1, gd, d0, d1, q⟩ := h
    refine ⟨_, (pss_cons (ps_set (i := 3) sc__law_table_letter.nd rfl (.inr rfl) (pe_ix (r := rIxB K) ix_seqB (pv 2) pe_int (fun _ _ => rfl)))
        (pss_cons (ps_set (i := 4) sc__law_table_letter.nd rfl (.inr rfl) (pe_call G_g (hr.mono (by decide)) (by rfl) D_g.g D_g.F.kp D_g.b .nil pass0 (pa_cons (pv 0) pa_nil)))
        (pss_cons (ps_set (i := 5) sc__law_table_letter.nd rfl (.inr rfl) (pe_op op_modN (pe_callTy call_int1 (by rfl) T.b_int (by decide +kernel) (pa_cons (pe_op op_sub (pe_op op_sub (pv 0) pe_int) (pv 3)) pa_nil)) (pv 4)))
        (pss_cons (ps_if (pt_cmpR op_eq (pe_ix (r := rIxB K) ix_seqB (pv 2) pe_int (fun _ _ => rfl)) pe_str (nomark _)) (pss_cons (ps_set (i := 11) sc__law_table_letter.nd rfl (.inr rfl) (pe_lc (own := [("_law_k", 13)]) (g := gName 13) (tt := tYes) rfl sc__law_table_letter.nd (pi_range1 (by rfl) T.b_range (pa_cons (pe_op op_add (pv 0) pe_int) pa_nil)) (blkOk_by (own := [("_law_k", 13)]) (N := ["_law_pins", "_law_table", "_law_letter", "_law_lane", "_law_size", "_law_left", "_law_mid", "_law_right", "_law_kept", "_law_rows", "_law_i", "_law_source", "_law_new", "_law_k", "_law_row", "_law_j"]) (sc := defScope s__law_table_letter) (by decide +kernel)) (fun _ _ _ _ _ => (pg_name (i := 13) sc__law_table_letter.nd rfl (.inl rfl))) (fun _ _ _ _ _ => pts_nil) (fun _ _ _ _ _ => (pe_op op_modN (pe_callTy call_int1 (by rfl) T.b_int (by decide +kernel) (pa_cons (pe_op op_sub (pv 13) (pe_op op_mul pe_int (pe_callTy call_int1 (by rfl) T.b_int (by decide +kernel) (pa_cons (pe_cmpR op_ge (pv 13) (pe_op op_sub (pv 0) (pv 3)) (nomark _)) pa_nil)))) pa_nil)) (pv 4)))))
        (pss_cons (ps_setLc (i := 9) (own := [("_law_i", 10)]) (g := gName 10) (tt := tYes) rfl sc__law_table_letter.nd rfl rfl (sw_true rfl rfl rfl (by decide +kernel)) (pi_list (pv 11)) (blkOk_by (own := [("_law_i", 10)]) (N := ["_law_pins", "_law_table", "_law_letter", "_law_lane", "_law_size", "_law_left", "_law_mid", "_law_right", "_law_kept", "_law_rows", "_law_i", "_law_source", "_law_new", "_law_k", "_law_row", "_law_j"]) (sc := defScope s__law_table_letter) (by decide +kernel)) (fun _ _ _ _ _ => pg_name (i := 10) sc__law_table_letter.nd rfl (Or.inr rfl)) (fun _ _ _ _ _ => pts_nil) (fun _ _ _ _ _ => (show PE _ _ (tLc (iList K (tVar 11)) (gName 15) tYes (tOp (rIxB K) (tOp (rIxB K) (tVar 1) (tVar 10)) (tVar 15)) [15]) from pe_lc (own := [("_law_j", 15)]) (g := gName 15) (tt := tYes) rfl sc__law_table_letter.nd (pi_list (pv 11)) (blkOk_by (own := [("_law_j", 15)]) (N := ["_law_pins", "_law_table", "_law_letter", "_law_lane", "_law_size", "_law_left", "_law_mid", "_law_right", "_law_kept", "_law_rows", "_law_i", "_law_source", "_law_new", "_law_k", "_law_row", "_law_j"]) (sc := { kind := .function, names := [(".0", .local), ("_law_i", .cell), ("_law_source", .cell), ("_law_table", .cell)], isGenerator := false, isCoroutine := false }) (by decide +kernel)) (fun _ _ _ _ _ => pg_name (i := 15) sc__law_table_letter.nd rfl (Or.inl rfl)) (fun _ _ _ _ _ => pts_nil) (fun _ _ _ _ _ => (show PE _ _ (tOp (rIxB K) (tOp (rIxB K) (tVar 1) (tVar 10)) (tVar 15)) from (pe_ix (r := rIxB K) ix_seqB (pe_ix (r := rIxB K) ix_seqB (pv 1) (pv 10) (fun _ _ => rfl)) (pv 15) (fun _ _ => rfl)))))))
        (pss_cons (ps_set (i := 12) sc__law_table_letter.nd rfl (.inl rfl) (pe_op op_sub (pv 0) (pv 3)))
        (pss_cons (ps_for PassesOwn.never rfl (pi_range1 (by rfl) T.b_range (pa_cons (pe_op op_add (pv 0) pe_int) pa_nil)) (pg_name (i := 13) sc__law_table_letter.nd rfl (.inl rfl))
        (pss_cons (ps_asg (pe_op op_add (pe_ix (r := rIxB K) ix_seqB (pe_ix (r := rIxB K) ix_seqB (pv 1) (pe_ix (r := rIxB K) ix_seqB (pv 11) (pv 13) (fun _ _ => rfl)) (fun _ _ => rfl)) (pv 5) (fun _ _ => rfl)) pe_int) (pg_sub (pe_ix (r := rIxB K) ix_seqB (pv 9) (pv 13) (fun _ _ => rfl)) (pv 12) set_list))
        (pss_one (ps_asg (pe_ix (r := rIxB K) ix_seqB (pe_ix (r := rIxB K) ix_seqB (pv 9) (pv 13) (fun _ _ => rfl)) (pv 12) (fun _ _ => rfl)) (pg_sub (pe_ix (r := rIxB K) ix_seqB (pv 9) (pv 12) (fun _ _ => rfl)) (pv 13) set_list)))))
        (pss_cons (ps_asg pe_int (pg_sub (pe_ix (r := rIxB K) ix_seqB (pv 9) (pv 12) (fun _ _ => rfl)) (pv 12) set_list))
        (pss_one (ps_ret (pv 9)))))))) pss_nil)
        (pss_cons (ps_set (i := 6) sc__law_table_letter.nd rfl (.inr rfl) (pe_op op_sub (pe_op op_sub (pv 0) pe_int) (pv 3)))
        (pss_cons (ps_set (i := 7) sc__law_table_letter.nd rfl (.inr rfl) (pe_op op_modN (pe_callTy call_int1 (by rfl) T.b_int (by decide +kernel) (pa_cons (pe_op op_sub (pv 6) pe_int) pa_nil)) (pv 4)))
        (pss_cons (ps_if (pt_cmpR op_eq (pe_ix (r := rIxB K) ix_seqB (pv 2) pe_int (fun _ _ => rfl)) pe_str (nomark _)) (pss_cons (ps_setLc (i := 9) (own := [("_law_row", 14)]) (g := gName 14) (tt := tYes) rfl sc__law_table_letter.nd rfl rfl (sw_true rfl rfl rfl (by decide +kernel)) (pi_seq (pv 1)) (blkOk_by (own := [("_law_row", 14)]) (N := ["_law_pins", "_law_table", "_law_letter", "_law_lane", "_law_size", "_law_left", "_law_mid", "_law_right", "_law_kept", "_law_rows", "_law_i", "_law_source", "_law_new", "_law_k", "_law_row", "_law_j"]) (sc := defScope s__law_table_letter) (by decide +kernel)) (fun _ _ _ _ _ => (pg_name (i := 14) sc__law_table_letter.nd rfl (.inl rfl))) (fun _ _ _ _ _ => pts_nil) (fun _ _ _ _ _ => (pe_callTy (r := rListK K) (call_listK rfl) (by rfl) T.b_list (by decide +kernel) (pa_cons (pv 14) pa_nil))))
        (pss_cons (ps_for PassesOwn.never rfl (pi_range1 (by rfl) T.b_range (pa_cons (pv 4) pa_nil)) (pg_name (i := 13) sc__law_table_letter.nd rfl (.inl rfl))
        (pss_cons (ps_asg (pe_op op_add (pe_callB (call_min2 rfl) (by rfl) T.b_min (by decide +kernel) (pa_cons (pe_ix (r := rIxB K) ix_seqB (pe_ix (r := rIxB K) ix_seqB (pv 1) (pv 13) (fun _ _ => rfl)) (pv 5) (fun _ _ => rfl)) (pa_cons (pe_ix (r := rIxB K) ix_seqB (pe_ix (r := rIxB K) ix_seqB (pv 1) (pv 13) (fun _ _ => rfl)) (pv 7) (fun _ _ => rfl)) pa_nil))) pe_int) (pg_sub (pe_ix (r := rIxB K) ix_seqB (pv 9) (pv 13) (fun _ _ => rfl)) (pv 6) set_list))
        (pss_one (ps_asg (pe_ix (r := rIxB K) ix_seqB (pe_ix (r := rIxB K) ix_seqB (pv 9) (pv 13) (fun _ _ => rfl)) (pv 6) (fun _ _ => rfl)) (pg_sub (pe_ix (r := rIxB K) ix_seqB (pv 9) (pv 6) (fun _ _ => rfl)) (pv 13) set_list)))))
        (pss_cons (ps_asg pe_int (pg_sub (pe_ix (r := rIxB K) ix_seqB (pv 9) (pv 6) (fun _ _ => rfl)) (pv 6) set_list))
        (pss_one (ps_ret (pv 9)))))) pss_nil)
        (pss_cons (ps_setLc (i := 8) (own := [("_law_k", 13)]) (g := gName 13) rfl sc__law_table_letter.nd rfl rfl (sw_true rfl rfl rfl (by decide +kernel)) (pi_range1 (by rfl) T.b_range (pa_cons (pv 4) pa_nil)) (blkOk_by (own := [("_law_k", 13)]) (N := ["_law_pins", "_law_table", "_law_letter", "_law_lane", "_law_size", "_law_left", "_law_mid", "_law_right", "_law_kept", "_law_rows", "_law_i", "_law_source", "_law_new", "_law_k", "_law_row", "_law_j"]) (sc := defScope s__law_table_letter) (by decide +kernel)) (fun _ _ _ _ _ => (pg_name (i := 13) sc__law_table_letter.nd rfl (.inl rfl))) (fun _ _ _ _ _ => pts_one (PW.pt (pw_and (pt_cmpR op_ne (pv 13) (pv 6) (nomark _)) (pw_and1 (pt_cmpR op_ne (pv 13) (pv 5) (nomark _)))))) (fun _ _ _ _ _ => (pv 13)))
        (pss_cons (ps_if (pt_cmpR op_eq (pe_callB call_len_seq (by rfl) T.b_len PySem.boot_len (pa_cons (pv 8) pa_nil)) pe_int (nomark _)) (pss_one (ps_ret (pe_lst (pa_cons (pe_lst (pa_cons pe_int pa_nil)) pa_nil)))) pss_nil)
        (pss_cons (ps_set (i := 9) sc__law_table_letter.nd rfl (.inl rfl) (pe_lst pa_nil))
        (pss_cons (ps_for PassesOwn.never rfl (pi_list (pv 8)) (pg_name (i := 10) sc__law_table_letter.nd rfl (.inr rfl))
        (pss_one (ps_expr (pe_bm PySem.F.plainAttrs_list PySem.F.slot_list_append PySem.F.type_list_append mt_append (pv 9) (pa_cons (pe_lc (own := [("_law_j", 15)]) (g := gName 15) (tt := tYes) rfl sc__law_table_letter.nd (pi_list (pv 8)) (blkOk_by (own := [("_law_j", 15)]) (N := ["_law_pins", "_law_table", "_law_letter", "_law_lane", "_law_size", "_law_left", "_law_mid", "_law_right", "_law_kept", "_law_rows", "_law_i", "_law_source", "_law_new", "_law_k", "_law_row", "_law_j"]) (sc := defScope s__law_table_letter) (by decide +kernel)) (fun _ _ _ _ _ => (pg_name (i := 15) sc__law_table_letter.nd rfl (.inl rfl))) (fun _ _ _ _ _ => pts_nil) (fun _ _ _ _ _ => (pe_callB (cr_min3 rfl) (by rfl) T.b_min (by decide +kernel) (pa_cons (pe_ix (r := rIxB K) ix_seqB (pe_ix (r := rIxB K) ix_seqB (pv 1) (pv 10) (fun _ _ => rfl)) (pv 15) (fun _ _ => rfl)) (pa_cons (pe_op op_add (pe_ix (r := rIxB K) ix_seqB (pe_ix (r := rIxB K) ix_seqB (pv 1) (pv 10) (fun _ _ => rfl)) (pv 5) (fun _ _ => rfl)) (pe_ix (r := rIxB K) ix_seqB (pe_ix (r := rIxB K) ix_seqB (pv 1) (pv 7) (fun _ _ => rfl)) (pv 15) (fun _ _ => rfl))) (pa_cons (pe_op op_add (pe_ix (r := rIxB K) ix_seqB (pe_ix (r := rIxB K) ix_seqB (pv 1) (pv 10) (fun _ _ => rfl)) (pv 7) (fun _ _ => rfl)) (pe_ix (r := rIxB K) ix_seqB (pe_ix (r := rIxB K) ix_seqB (pv 1) (pv 5) (fun _ _ => rfl)) (pv 15) (fun _ _ => rfl))) pa_nil)))))) pa_nil)))))
        (pss_one (ps_ret (pv 9)))))))))))))), ?_⟩
    have hh := lo_hi n 1
    have hp0 : 0 < hi n 1 := by omega
    obtain ⟨prs, gp⟩ := hp
    obtain ⟨w1, l⟩ := d
    dsimp only at d0 d1 gd
    have t0 : atI (lv (w1, l)) 0 = some (.str w1) := at_of (j := 0) rfl rfl
    have t1 : atI (lv (w1, l)) 1 = some (.int l) := at_of (j := 1) rfl rfl
    have es : ∀ {x y : Str}, decide (V.str x = V.str y) = true ↔ x = y := fun {x y} => by
      rw [decide_eq_true_iff]
      exact ⟨fun z => V.str.inj z, fun z => by rw [z]⟩
    have ifd : ∀ {x y : Int}, (if decide (x ≤ y) = true then (1 : Int) else 0) = if x ≤ y then 1 else 0 := fun {x y} => by
      by_cases c : x ≤ y
      · rw [if_pos c, if_pos (decide_eq_true c)]
      · rw [if_neg c, if_neg fun z => c (of_decide_eq_true z)]
    have fl := fmod_in (n - 1 - l) hp0
    have fr := fmod_in (n - 2 - l - 1) hp0
    refine ⟨_, rfl, b, _, _, _, rfl, rfl, hb.b, t1, ?_⟩
    refine ⟨_, rfl, n, rfl, ?_⟩
    refine ⟨_, rfl, _, _, rfl, rfl, _, rfl, _, _, rfl, rfl, .inl ⟨_, rfl, _, rfl, _, _, rfl, rfl, by omega, ?_⟩⟩
    refine ⟨_, rfl, b, _, _, _, rfl, rfl, hb.b, t0, rfl, _, rfl, ite2 (fun c => ?_) (fun c => ?_)⟩
    · have c := es.mp c
      subst c
      rw [if_pos rfl] at d1
      have hn2 : hi (n + 2) 1 = n + 2 := by have := lo_hi (n + 2) 1; omega
      have hs : ∀ k, 0 ≤ srcG n l k ∧ srcG n l k < hi n 1 := fun k => fmod_in _ hp0
      refine ⟨_, rfl, _, _, rfl, rfl, n + 2, rfl, by omega, by omega, fun S nS => ?_⟩
      refine lc_range (lo := 0) (n := (n + 2).toNat) (fun i H' => LcI H S (gl (i : Int) (srcG n l)) H') (LcI.start nS) (fun i H1 hi1 L => ?_) (fun H1 L => ?_)
      · refine ⟨rfl, ?_⟩
        refine ⟨_, rfl, _, rfl, _, rfl, _, rfl, _, _, rfl, rfl, _, _, rfl, rfl, .inr ⟨_, rfl, _, _, rfl, rfl, cm2 _, _, _, rfl, rfl, .inl ⟨_, rfl, _, rfl, _, _, rfl, rfl, by omega, ?_⟩⟩⟩
        refine ⟨_, L.at_, by rw [gl_len]; exact small1000 (by omega), ?_⟩
        have e : gl ((i + 1 : Nat) : Int) (srcG n l) = gl (i : Int) (srcG n l) ++ [.int ((0 + (i : Int) - 2 * (if decide (n - l ≤ 0 + (i : Int)) = true then (1 : Int) else 0)).fmod (hi n 1))] := by
          rw [show ((i + 1 : Nat) : Int) = (i : Int) + 1 by omega, gl_snoc (by omega), ifd, Int.zero_add]
          rfl
        rw [e]
        exact L.put nS (Same.refl _)
      · rw [show (((n + 2).toNat : Nat) : Int) = n + 2 by omega] at L
        have eS := L.at_
        have gp1 := gp.same L.same
        refine ⟨_, rfl, S, rfl, ⟨_, .inl (.inl eS)⟩, fun D nD => ?_⟩
        refine lc_list (K := K) (a := S) (xs := gl (n + 2) (srcG n l)) (fun i H' => RowsI H1 D (n + 2) (fun x y => F (srcG n l x) (srcG n l y)) i H') (RowsI.start nD) (fun i H' _ pv => .inl (.inl (pv.same _ _ eS))) (fun i x H' hx pv => ?_) (fun H' pv => ?_)
        · obtain ⟨rfl, i1⟩ := gl_nat hx
          have eS' := pv.same _ _ eS
          have gp2 := gp1.same pv.same
          refine ⟨rfl, ?_⟩
          refine ⟨_, rfl, S, rfl, ⟨_, .inl (.inl eS')⟩, fun R nR => ?_⟩
          refine lc_list (K := K) (a := S) (xs := gl (n + 2) (srcG n l)) (fun k H5 => LcI H' R (gl (k : Int) fun y => F (srcG n l i) (srcG n l y)) H5) (LcI.start nR) (fun k H5 _ L5 => .inl (.inl (L5.same _ _ eS'))) (fun k y H5 hy L5 => ?_) (fun H5 L5 => ?_)
          · obtain ⟨rfl, k1⟩ := gl_nat hy
            obtain ⟨r, e1, a1, h1⟩ := (gp2.same L5.same).get (hs (i : Int)).1 (hs (i : Int)).2
            refine ⟨rfl, ?_⟩
            refine ⟨_, rfl, _, rfl, p, _, _, _, rfl, rfl, .inl (.inl (.inl (gp2.same L5.same).at_)), a1, _, rfl, r, _, _, _, rfl, rfl, .inl (.inl (.inl h1)), gl_atI _ (hs (k : Int)).1 (hs (k : Int)).2, ?_⟩
            refine ⟨_, L5.at_, by rw [gl_len]; exact small1000 (by omega), ?_⟩
            rw [show ((k + 1 : Nat) : Int) = (k : Int) + 1 by omega, gl_snoc (by omega)]
            exact L5.put nR (Same.refl _)
          · rw [gl_len, show (((n + 2).toNat : Nat) : Int) = n + 2 by omega] at L5
            exact pv.snoc nD (by omega) nR L5.same L5.at_
        · rw [gl_len] at pv
          obtain ⟨rs, g0, fr1⟩ := pv.grid nD
          have eSb := pv.same _ _ eS
          refine ⟨_, rfl, _, rfl, _, _, rfl, rfl, ?_⟩
          refine ⟨_, rfl, _, _, rfl, rfl, n + 2, rfl, by omega, by omega, ?_⟩
          refine for_range (lo := 0) (n := (n + 2).toNat) (fun i σ H2 => (∃ y13, σ = [some (.int n), some (.ref p), some (.ref b), some (.int l), some (.int (hi n 1)), some (.int (lefG n l)), none, none, none, some (.ref D), none, some (.ref S), some (.int (n - l)), y13, none, none]) ∧ Same H1 H2 ∧ Grid H2 D rs (n + 2) (n + 2) (lpT (n - l) (fun x => F (srcG n l x) (lefG n l) + 1) (fun x y => F (srcG n l x) (srcG n l y)) i)) ⟨⟨none, rfl⟩, pv.same, g0.congr fun x y x0 _ y0 _ => (lp_zero (f0 := fun x y => F (srcG n l x) (srcG n l y)) (i := ((0 : Nat) : Int)) rfl x0 y0).symm⟩ (fun i σ H2 hi2 pv2 => ?_) (fun σ H2 pv2 => ?_)
          · obtain ⟨⟨y13, rfl⟩, s2, g1⟩ := pv2
            have ez : (0 : Int) + (i : Int) = (i : Int) := Int.zero_add _
            rw [ez]
            have gpx := gp1.same s2
            obtain ⟨r, e1, a1, h1⟩ := gpx.get (hs (i : Int)).1 (hs (i : Int)).2
            obtain ⟨r1, e2, a2, h2⟩ := g1.get (a := (i : Int)) (by omega) (by omega)
            refine ⟨_, rfl, _, rfl, _, rfl, S, _, _, _, rfl, rfl, .inl (.inl (.inl (s2 _ _ eS))), gl_atI _ (by omega) (by omega), p, _, _, _, rfl, rfl, .inl (.inl (.inl gpx.at_)), a1, _, rfl, r, _, _, _, rfl, rfl, .inl (.inl (.inl h1)), gl_atI _ fl.1 fl.2, _, _, rfl, rfl, ?_⟩
            refine ⟨_, rfl, _, rfl, D, _, _, _, rfl, rfl, .inl (.inl (.inl g1.at_)), a2, _, rfl, r1, _, _, _, rfl, rfl, h2, gl_ix _ (by omega) (by omega), ?_⟩
            have g2 := g1.set (v := F (srcG n l i) (lefG n l) + 1) (by omega) (show 0 ≤ n - l by omega) (by omega) e2
            have s3 := fr1.row (o := .lst ((gl (n + 2) (lpT (n - l) (fun x => F (srcG n l x) (lefG n l) + 1) (fun x y => F (srcG n l x) (srcG n l y)) i i)).set (n - l).toNat (.int (F (srcG n l i) (lefG n l) + 1)))) s2 (List.mem_of_getElem? e2)
            obtain ⟨r2, e3, a3, h3⟩ := g2.get (a := (i : Int)) (by omega) (by omega)
            obtain ⟨r3, e4, a4, h4⟩ := g2.get (a := n - l) (by omega) (by omega)
            refine ⟨_, rfl, _, rfl, D, _, _, _, rfl, rfl, .inl (.inl (.inl g2.at_)), a3, _, rfl, r2, _, _, _, rfl, rfl, .inl (.inl (.inl h3)), gl_atI _ (by omega) (by omega), ?_⟩
            refine ⟨_, rfl, _, rfl, D, _, _, _, rfl, rfl, .inl (.inl (.inl g2.at_)), a4, _, rfl, r3, _, _, _, rfl, rfl, h4, gl_ix _ (by omega) (by omega), ?_⟩
            rw [if_pos ⟨rfl, rfl⟩]
            have g3 := g2.set (v := F (srcG n l i) (lefG n l) + 1) (by omega) (show 0 ≤ (i : Int) by omega) (by omega) e4
            refine ⟨⟨_, rfl⟩, fr1.row s3 (List.mem_of_getElem? e4), g3.congr fun x y _ _ _ _ => ?_⟩
            exact lp_step
          · obtain ⟨⟨y13, rfl⟩, s2, g1⟩ := pv2
            obtain ⟨r1, e2, a2, h2⟩ := g1.get (a := n - l) (by omega) (by omega)
            refine ⟨_, rfl, _, rfl, D, _, _, _, rfl, rfl, .inl (.inl (.inl g1.at_)), a2, _, rfl, r1, _, _, _, rfl, rfl, h2, gl_ix _ (by omega) (by omega), ?_⟩
            have g2 := g1.set (v := 0) (by omega) (show 0 ≤ n - l by omega) (by omega) e2
            refine ⟨_, rfl, q _ D (L.same.trans (fr1.row s2 (List.mem_of_getElem? e2))) ⟨rs, ?_⟩⟩
            rw [show chgR (("cup", l) : Lt).1 = 2 from c_u, hn2]
            refine g2.congr fun x y x0 x1 y0 y1 => ?_
            unfold stepT cupT
            rw [if_pos rfl]
            rw [show (((n + 2).toNat : Nat) : Int) = n + 2 by omega]
            exact lp_end x1 y1
    · have nc : w1 ≠ "cup" := fun z => c (es.mpr z)
      rw [if_neg nc] at d1
      have h2 : hi n 1 = n := by omega
      have el : lefG n l = n - 2 - l + 1 := by rw [lef_eq d0 (by omega)]; omega
      refine ⟨_, rfl, _, _, rfl, rfl, _, rfl, _, _, rfl, rfl, ?_⟩
      refine ⟨_, rfl, _, _, rfl, rfl, .inl ⟨_, rfl, _, rfl, _, _, rfl, rfl, by omega, ?_⟩⟩
      refine ⟨_, rfl, b, _, _, _, rfl, rfl, hb.b, t0, rfl, _, rfl, ite2 (fun c2 => ?_) (fun c2 => ?_)⟩
      · have c2 := es.mp c2
        subst c2
        refine ⟨_, rfl, lc_seqB (.inl gp.at_) (fun M i H' => RowsI H M (hi n 1) F i H') (fun M nM => RowsI.start nM) (fun M i H' nM pv o ho => pv.same _ _ ho) (fun D i x H' nD hx pv => ?_) (fun D H' nD pv => ?_)⟩
        · rw [List.getElem?_map] at hx
          obtain ⟨r, hr, rfl⟩ := Option.map_eq_some_iff.mp hx
          have i1 := (List.getElem?_eq_some_iff.mp hr).1
          rw [gp.len] at i1
          have h1 := pv.same _ _ (gp.row i r hr)
          refine ⟨rfl, ?_⟩
          refine ⟨_, rfl, r, _, rfl, .inl (.inl (.inl h1)), fun R nR => ?_⟩
          exact pv.snoc nD (by omega) nR (same_upd nR) upd_same
        · rw [List.length_map, gp.len] at pv
          obtain ⟨rs, g0, fr1⟩ := pv.grid nD
          refine ⟨_, rfl, hi n 1, rfl, by omega, by omega, ?_⟩
          refine for_range (lo := 0) (n := (hi n 1).toNat) (fun i σ H2 => (∃ y13, σ = [some (.int n), some (.ref p), some (.ref b), some (.int l), some (.int (hi n 1)), some (.int (lefG n l)), some (.int (n - 2 - l)), some (.int (rigG n l)), none, some (.ref D), none, none, none, y13, none, none]) ∧ Same H H2 ∧ Grid H2 D rs (hi n 1) (hi n 1) (lpT (n - 2 - l) (fun x => lo (F x (lefG n l)) (F x (rigG n l)) + 1) F i)) ⟨⟨none, rfl⟩, pv.same, g0.congr fun x y x0 _ y0 _ => (lp_zero (f0 := F) (i := ((0 : Nat) : Int)) rfl x0 y0).symm⟩ (fun i σ H2 hi2 pv2 => ?_) (fun σ H2 pv2 => ?_)
          · obtain ⟨⟨y13, rfl⟩, s2, g1⟩ := pv2
            have ez : (0 : Int) + (i : Int) = (i : Int) := Int.zero_add _
            rw [ez]
            have gpx := gp.same s2
            obtain ⟨r, e1, a1, h1⟩ := gpx.get (a := (i : Int)) (by omega) (by omega)
            obtain ⟨r1, e2, a2, hr1⟩ := g1.get (a := (i : Int)) (by omega) (by omega)
            refine ⟨_, rfl, _, rfl, p, _, _, _, rfl, rfl, .inl (.inl (.inl gpx.at_)), a1, _, rfl, r, _, _, _, rfl, rfl, .inl (.inl (.inl h1)), gl_atI _ fl.1 fl.2, ?_⟩
            refine ⟨_, rfl, _, rfl, p, _, _, _, rfl, rfl, .inl (.inl (.inl gpx.at_)), a1, _, rfl, r, _, _, _, rfl, rfl, .inl (.inl (.inl h1)), gl_atI _ fr.1 fr.2, _, _, rfl, _, _, rfl, rfl, ?_⟩
            refine ⟨_, rfl, _, rfl, D, _, _, _, rfl, rfl, .inl (.inl (.inl g1.at_)), a2, _, rfl, r1, _, _, _, rfl, rfl, hr1, gl_ix _ (by omega) (by omega), ?_⟩
            have g2 := g1.set (v := lo (F i (lefG n l)) (F i (rigG n l)) + 1) (by omega) (show 0 ≤ n - 2 - l by omega) (by omega) e2
            have s3 := fr1.row (o := .lst ((gl (hi n 1) (lpT (n - 2 - l) (fun x => lo (F x (lefG n l)) (F x (rigG n l)) + 1) F i i)).set (n - 2 - l).toNat (.int (lo (F i (lefG n l)) (F i (rigG n l)) + 1)))) s2 (List.mem_of_getElem? e2)
            obtain ⟨r2, e3, a3, h3⟩ := g2.get (a := (i : Int)) (by omega) (by omega)
            obtain ⟨r3, e4, a4, h4⟩ := g2.get (a := n - 2 - l) (by omega) (by omega)
            refine ⟨_, rfl, _, rfl, D, _, _, _, rfl, rfl, .inl (.inl (.inl g2.at_)), a3, _, rfl, r2, _, _, _, rfl, rfl, .inl (.inl (.inl h3)), gl_atI _ (by omega) (by omega), ?_⟩
            refine ⟨_, rfl, _, rfl, D, _, _, _, rfl, rfl, .inl (.inl (.inl g2.at_)), a4, _, rfl, r3, _, _, _, rfl, rfl, h4, gl_ix _ (by omega) (by omega), ?_⟩
            rw [if_pos (show (i : Int) = (i : Int) ∧ n - 2 - l = n - 2 - l from ⟨rfl, rfl⟩)]
            have g3 := g2.set (v := lo (F i (lefG n l)) (F i (rigG n l)) + 1) (by omega) (show 0 ≤ (i : Int) by omega) (by omega) e4
            refine ⟨⟨_, rfl⟩, fr1.row s3 (List.mem_of_getElem? e4), g3.congr fun x y _ _ _ _ => ?_⟩
            exact lp_step (v := fun x => lo (F x (lefG n l)) (F x (rigG n l)) + 1)
          · obtain ⟨⟨y13, rfl⟩, s2, g1⟩ := pv2
            obtain ⟨r1, e2, a2, hr1⟩ := g1.get (a := n - 2 - l) (by omega) (by omega)
            refine ⟨_, rfl, _, rfl, D, _, _, _, rfl, rfl, .inl (.inl (.inl g1.at_)), a2, _, rfl, r1, _, _, _, rfl, rfl, hr1, gl_ix _ (by omega) (by omega), ?_⟩
            have g2 := g1.set (v := 0) (by omega) (show 0 ≤ n - 2 - l by omega) (by omega) e2
            refine ⟨_, rfl, q _ D (fr1.row s2 (List.mem_of_getElem? e2)) ⟨rs, ?_⟩⟩
            rw [show chgR (("cross", l) : Lt).1 = 0 from c_x, Int.add_zero]
            refine g2.congr fun x y x0 x1 y0 y1 => ?_
            have est : stepT n F ("cross", l) = croT n F l := by
              unfold stepT
              rw [if_neg (show ¬ (("cross" : Str) = "cup") by decide), if_pos rfl]
            rw [est]
            unfold croT
            rw [show (((hi n 1).toNat : Nat) : Int) = hi n 1 by omega]
            exact lp_end x1 y1
      · have c2 : w1 ≠ "cross" := fun z => c2 (es.mpr z)
        have cw := good_cap gd nc c2
        dsimp only at cw
        subst cw
        have est : stepT n F ("cap", l) = capT n F l := by
          unfold stepT
          rw [if_neg (show ¬ (("cap" : Str) = "cup") by decide), if_neg (show ¬ (("cap" : Str) = "cross") by decide)]
        rw [show chgR (("cap", l) : Lt).1 = -2 from c_a, est] at q
        refine ⟨_, rfl, hi n 1, rfl, by omega, by omega, fun S nS => ?_⟩
        refine lc_range (lo := 0) (n := (hi n 1).toNat) (fun i H' => LcI H S (gl (kpN (n - 2 - l) (i : Int)) (jnG (n - 2 - l))) H') (by rw [show kpN (n - 2 - l) ((0 : Nat) : Int) = 0 by unfold kpN; rw [if_pos (by omega)]; rfl]; exact LcI.start nS) (fun i H1 hi1 L => ?_) (fun H1 L => ?_)
        · have ez : (0 : Int) + (i : Int) = (i : Int) := Int.zero_add _
          rw [ez]
          have ne : ∀ {x y : Int}, (!decide (V.int x = V.int y)) = true ↔ x ≠ y := fun {x y} => by
            by_cases z : x = y
            · rw [z, decide_eq_true rfl]
              exact ⟨fun w => (by cases w), fun w => absurd rfl w⟩
            · rw [decide_eq_false fun w => z (V.int.inj w)]
              exact ⟨fun _ => z, fun _ => rfl⟩
          have skip : kpN (n - 2 - l) (i : Int) = kpN (n - 2 - l) ((i : Int) + 1) → LcI H S (gl (kpN (n - 2 - l) ((i + 1 : Nat) : Int)) (jnG (n - 2 - l))) H1 := fun z => by
            rw [show ((i + 1 : Nat) : Int) = (i : Int) + 1 by omega, ← z]
            exact L
          refine ⟨rfl, ?_⟩
          refine ⟨_, rfl, _, rfl, rfl, _, rfl, ite2 (fun c5 => ?_) (fun c5 => ?_)⟩
          · have c5 := ne.mp c5
            refine ⟨_, rfl, _, rfl, rfl, _, rfl, ite2 (fun c6 => ?_) (fun c6 => ?_)⟩
            · have c6 : (i : Int) ≠ lefG n l := ne.mp c6
              refine ⟨_, rfl, _, L.at_, by rw [gl_len]; exact small1000 (by unfold kpN; split <;> (try split) <;> omega), ?_⟩
              have e : kpN (n - 2 - l) ((i + 1 : Nat) : Int) = kpN (n - 2 - l) (i : Int) + 1 ∧ jnG (n - 2 - l) (kpN (n - 2 - l) (i : Int)) = (i : Int) ∧ 0 ≤ kpN (n - 2 - l) (i : Int) := by
                rw [el] at c6
                unfold kpN jnG
                by_cases z : (i : Int) < n - 2 - l
                · rw [if_pos (show ((i + 1 : Nat) : Int) ≤ n - 2 - l by omega), if_pos (show (i : Int) ≤ n - 2 - l by omega), if_pos z]
                  omega
                · rw [if_neg (show ¬ ((i + 1 : Nat) : Int) ≤ n - 2 - l by omega), if_neg (show ¬ ((i + 1 : Nat) : Int) = n - 2 - l + 1 by omega), if_neg (show ¬ (i : Int) ≤ n - 2 - l by omega), if_neg (show ¬ (i : Int) = n - 2 - l + 1 by omega), if_neg (show ¬ ((i : Int) - 2 < n - 2 - l) by omega)]
                  omega
              rw [e.1, gl_snoc e.2.2, e.2.1]
              exact L.put nS (Same.refl _)
            · have c6 : (i : Int) = lefG n l := Classical.byContradiction fun z => c6 (ne.mpr z)
              refine skip ?_
              rw [el] at c6
              unfold kpN
              rw [if_neg (by omega), if_pos c6, if_neg (by omega), if_neg (by omega)]
              omega
          · have c5 : (i : Int) = n - 2 - l := Classical.byContradiction fun z => c5 (ne.mpr z)
            refine skip ?_
            unfold kpN
            rw [if_pos (by omega), if_neg (by omega), if_pos (by omega)]
            exact c5
        · have ek : kpN (n - 2 - l) (((hi n 1).toNat : Nat) : Int) = n - 2 := by
            unfold kpN
            by_cases z : n - 2 - l + 1 = n
            · omega
            · by_cases z2 : (((hi n 1).toNat : Nat) : Int) = n - 2 - l + 1
              · omega
              · rw [if_neg (by omega), if_neg z2]
                omega
          rw [ek] at L
          have eS := L.at_
          refine ⟨_, rfl, S, _, rfl, .inl (.inl (.inl eS)), rfl, _, rfl, ite2 (fun c5 => ?_) (fun c5 => ?_)⟩
          · have c5 : n = 2 := by
              have := V.int.inj (of_decide_eq_true c5)
              rw [gl_len] at this
              omega
            refine ⟨by show 1 ≤ sizeLine; decide, fun r nr => ⟨by show 1 ≤ sizeLine; decide, fun p2 np => ?_⟩⟩
            have s := (same_upd (o := .lst [.int 0]) nr).trans (same_upd (o := .lst [.ref r]) np)
            have nrp : r ≠ p2 := fun z => by rw [← z, upd_same] at np; cases np
            refine q _ p2 (L.same.trans s) ⟨[r], ?_⟩
            rw [c5]
            refine ⟨upd_same, rfl, by simp, by simp; exact fun z => nrp z.symm, fun j u e => ?_⟩
            obtain ⟨rfl, rfl⟩ : j = 0 ∧ r = u := by
              cases j with
              | zero => exact ⟨rfl, Option.some.inj e⟩
              | succ k => simp at e
            rw [upd_ne nrp, upd_same]
            rfl
          · have c5 : n ≠ 2 := fun z => c5 (by rw [gl_len, z]; exact decide_eq_true rfl)
            have h3 : hi (n - 2) 1 = n - 2 := by have := lo_hi (n - 2) 1; omega
            refine ⟨by show 0 ≤ sizeLine; decide, fun D nD => ?_⟩
            have eSD := (same_upd (o := .lst []) nD) _ _ eS
            refine ⟨_, rfl, S, rfl, ⟨_, .inl (.inl eSD)⟩, for_list (xs := gl (n - 2) (jnG (n - 2 - l))) (fun i σ H' => (∃ y10, σ = [some (.int n), some (.ref p), some (.ref b), some (.int l), some (.int (hi n 1)), some (.int (lefG n l)), some (.int (n - 2 - l)), some (.int (rigG n l)), some (.ref S), some (.ref D), y10, none, none, none, none, none]) ∧ RowsI H1 D (n - 2) (fun x y => cpM n F l (jnG (n - 2 - l) x) (jnG (n - 2 - l) y)) i H') ⟨⟨none, rfl⟩, RowsI.start nD⟩ (fun i σ H' _ pv => .inl (.inl (pv.2.same _ _ eS))) (fun i x σ H' hx pv => ?_) (fun σ H' pv => ?_)⟩
            · obtain ⟨⟨y10, rfl⟩, RI⟩ := pv
              obtain ⟨rfl, i1⟩ := gl_nat hx
              have eS' := RI.same _ _ eS
              have gp2 := (gp.same L.same).same RI.same
              obtain ⟨acc0, eD⟩ : ∃ acc, H' D = some (.lst acc) := by
                obtain ⟨rs, L9, _⟩ := RI
                exact ⟨_, L9.at_⟩
              have hj : ∀ k : Nat, (k : Int) < n - 2 → 0 ≤ jnG (n - 2 - l) k ∧ jnG (n - 2 - l) k < hi n 1 := fun k hk => by
                unfold jnG
                split <;> omega
              refine ⟨_, rfl, .inl ⟨rfl, _, .inl (.inl eD)⟩, _, rfl, S, rfl, ⟨_, .inl (.inl eS')⟩, fun R nR => ?_⟩
              refine lc_list (K := K) (a := S) (xs := gl (n - 2) (jnG (n - 2 - l))) (fun k H5 => LcI H' R (gl (k : Int) fun y => cpM n F l (jnG (n - 2 - l) i) (jnG (n - 2 - l) y)) H5) (LcI.start nR) (fun k H5 _ L5 => .inl (.inl (L5.same _ _ eS'))) (fun k y H5 hy L5 => ?_) (fun H5 L5 => ?_)
              · obtain ⟨rfl, k1⟩ := gl_nat hy
                have gp5 := gp2.same L5.same
                have ji := hj i i1
                have jk := hj k k1
                obtain ⟨ri, e1, a1, h1⟩ := gp5.get ji.1 ji.2
                obtain ⟨rr, e2, a2, h2'⟩ := gp5.get (a := rigG n l) fr.1 fr.2
                obtain ⟨rl, e3, a3, h3'⟩ := gp5.get (a := lefG n l) fl.1 fl.2
                refine ⟨rfl, ?_⟩
                refine ⟨_, rfl, _, rfl, p, _, _, _, rfl, rfl, .inl (.inl (.inl gp5.at_)), a1, _, rfl, ri, _, _, _, rfl, rfl, .inl (.inl (.inl h1)), gl_atI _ jk.1 jk.2, ?_⟩
                refine ⟨_, rfl, _, rfl, p, _, _, _, rfl, rfl, .inl (.inl (.inl gp5.at_)), a1, _, rfl, ri, _, _, _, rfl, rfl, .inl (.inl (.inl h1)), gl_atI _ fl.1 fl.2, _, rfl, _, rfl, p, _, _, _, rfl, rfl, .inl (.inl (.inl gp5.at_)), a2, _, rfl, rr, _, _, _, rfl, rfl, .inl (.inl (.inl h2')), gl_atI _ jk.1 jk.2, _, _, rfl, rfl, ?_⟩
                refine ⟨_, rfl, _, rfl, p, _, _, _, rfl, rfl, .inl (.inl (.inl gp5.at_)), a1, _, rfl, ri, _, _, _, rfl, rfl, .inl (.inl (.inl h1)), gl_atI _ fr.1 fr.2, _, rfl, _, rfl, p, _, _, _, rfl, rfl, .inl (.inl (.inl gp5.at_)), a3, _, rfl, rl, _, _, _, rfl, rfl, .inl (.inl (.inl h3')), gl_atI _ jk.1 jk.2, _, _, rfl, rfl, ?_⟩
                refine ⟨_, _, _, rfl, fun m m1 m2 m3 m4 => ?_⟩
                have em : m = cpM n F l (jnG (n - 2 - l) i) (jnG (n - 2 - l) k) := by
                  have := mn3_le (F (jnG (n - 2 - l) i) (jnG (n - 2 - l) k)) (F (jnG (n - 2 - l) i) (lefG n l) + F (rigG n l) (jnG (n - 2 - l) k)) (F (jnG (n - 2 - l) i) (rigG n l) + F (lefG n l) (jnG (n - 2 - l) k))
                  unfold cpM
                  omega
                refine ⟨_, L5.at_, by rw [gl_len]; exact small1000 (by omega), ?_⟩
                rw [show ((k + 1 : Nat) : Int) = (k : Int) + 1 by omega, gl_snoc (by omega), em]
                exact L5.put nR (Same.refl _)
              · rw [gl_len, show (((n - 2).toNat : Nat) : Int) = n - 2 by omega] at L5
                obtain ⟨acc, z1, z2, z3⟩ := RI.snoc nD (by omega) nR L5.same L5.at_
                exact ⟨D, acc, _, rfl, rfl, z1, z2, ⟨_, rfl⟩, z3⟩
            · obtain ⟨⟨y10, rfl⟩, RI⟩ := pv
              rw [gl_len] at RI
              obtain ⟨rs, g, _⟩ := RI.grid nD
              refine ⟨_, rfl, q _ D (L.same.trans RI.same) ⟨rs, ?_⟩⟩
              rw [show n + -2 = n - 2 by omega, h3]
              refine g.congr fun x y _ _ _ _ => ?_
              unfold capT
              rw [if_neg c5]
end
end Own

namespace Own
open PySem PySem.Spec PyProof.Rows L2
/-! ### the law: letters -/
section
variable {P : Program} {w : World} {K : PySem.W.Frag} {mg : Str → Option Value} {base : Heap} {C : Addr}
def spLetN : Sp := fun vs H Q _ => ∃ (a : Addr) (t m : Int) (n : Nat) (zs : List Int), vs = [.ref a, .int t, .int m] ∧ SqH H a (zs.map V.int) ∧ zs.length = 2 * n ∧ n ≤ 100 ∧ (∀ i, i < n → ∃ x y, zs[2 * i]? = some x ∧ zs[2 * i + 1]? = some y ∧ 0 ≤ x ∧ x < 12 ∧ 0 ≤ y) ∧ 0 ≤ t ∧ t ≤ m ∧ 4 ≤ m ∧
  ∀ H' c ds, Same H H' → H c = none → LtL H' c ds → Wf m t ds → ds.length = n → Q (.ref c) H'
set_option maxHeartbeats 0 in
theorem ok_letn {f : Addr} {fd : FuncData} (F : Fun K "_law_letters" "_law_letters" s__law_letters f fd) (T : Bi mg) : FnOk P w K mg base CX0 1 f fd ["_law_row", "_law_top", "_law_upto"] spLetN := by
  refine F.ok sc__law_letters (fun vs H Q E h => ?_) (fun cdv A outer s H vs Q E hr h => ?_)
  · obtain ⟨a, t, m, n, zs, rfl, _⟩ := h
    rfl
  · obtain ⟨a, t, m, n, zs, rfl, ha, hz, n1, hd, t0, t1, m1, q⟩ := h
    refine ⟨_, (pss_cons (ps_set (i := 3) sc__law_letters.nd rfl (.inl rfl) (pe_lst pa_nil))
        (pss_cons (ps_set (i := 4) sc__law_letters.nd rfl (.inl rfl) (pv 1))
        (pss_cons (ps_for PassesOwn.never rfl (pi_range1 (by rfl) T.b_range (pa_cons (pe_op op_fdiv (pe_callB call_len_seq (by rfl) T.b_len PySem.boot_len (pa_cons (pv 0) pa_nil)) pe_int) pa_nil)) (pg_name (i := 5) sc__law_letters.nd rfl (.inl rfl))
        (pss_cons (ps_set (i := 6) sc__law_letters.nd rfl (.inl rfl) (pe_ix (r := rIxB K) ix_seqB (pe_lst (pa_cons pe_str (pa_cons pe_str (pa_cons pe_str (pa_cons pe_str pa_nil))))) (pe_op op_fdiv (pe_ix (r := rIxB K) ix_seqB (pv 0) (pe_op op_mul pe_int (pv 5)) (fun _ _ => rfl)) pe_int) (fun _ _ => rfl)))
        (pss_cons (ps_if (pt_cmpR op_lt (pv 4) pe_int (nomark _)) (pss_one (ps_set (i := 6) sc__law_letters.nd rfl (.inl rfl) pe_str)) pss_nil)
        (pss_cons (ps_if (PW.pt (pw_and (pt_cmpR op_eq (pv 6) pe_str (nomark _)) (pw_and1 (pt_cmpR op_gt (pe_op op_add (pv 4) pe_int) (pv 2) (nomark _))))) (pss_one (ps_set (i := 6) sc__law_letters.nd rfl (.inl rfl) pe_str)) pss_nil)
        (pss_one (ps_if (pt_cmpR op_eq (pv 6) pe_str (nomark _)) (pss_cons (ps_expr (pe_bm PySem.F.plainAttrs_list PySem.F.slot_list_append PySem.F.type_list_append mt_append (pv 3) (pa_cons (pe_tup (pa_cons (pv 6) (pa_cons (pe_op op_modN (pe_callTy call_int1 (by rfl) T.b_int (by decide +kernel) (pa_cons (pe_ix (r := rIxB K) ix_seqB (pv 0) (pe_op op_add (pe_op op_mul pe_int (pv 5)) pe_int) (fun _ _ => rfl)) pa_nil)) (pe_op op_add (pv 4) pe_int)) pa_nil))) pa_nil)))
        (pss_one (ps_set (i := 4) sc__law_letters.nd rfl (.inl rfl) (pe_op op_add (pv 4) pe_int)))) (pss_cons (ps_expr (pe_bm PySem.F.plainAttrs_list PySem.F.slot_list_append PySem.F.type_list_append mt_append (pv 3) (pa_cons (pe_tup (pa_cons (pv 6) (pa_cons (pe_op op_modN (pe_callTy call_int1 (by rfl) T.b_int (by decide +kernel) (pa_cons (pe_ix (r := rIxB K) ix_seqB (pv 0) (pe_op op_add (pe_op op_mul pe_int (pv 5)) pe_int) (fun _ _ => rfl)) pa_nil)) (pe_op op_sub (pv 4) pe_int)) pa_nil))) pa_nil)))
        (pss_one (ps_set (i := 4) sc__law_letters.nd rfl (.inl rfl) (pe_op op_sub (pv 4) (pe_op op_mul pe_int (pe_callTy call_int1 (by rfl) T.b_int (by decide +kernel) (pa_cons (pe_cmpR op_eq (pv 6) pe_str (nomark _)) pa_nil)))))))))))))
        (pss_one (ps_ret (pv 3)))))), ?_⟩
    refine ⟨by show 0 ≤ sizeLine; decide, fun c nc => ?_⟩
    have s1 := same_upd (o := .lst []) nc
    have hac : a ≠ c := fun z => by rcases ha with e | e <;> (rw [z, nc] at e; cases e)
    have ha1 := ha.same s1
    refine ⟨_, rfl, _, rfl, a, _, rfl, ha1.lt, _, _, rfl, rfl, ⟨by show (0 : Int) < 2; decide, by show (2 : Int) < 1073741824; decide⟩, (n : Int), (by show [V.int ((((zs.map V.int).length : Nat) : Int) / 2)] = [V.int (n : Int)]; rw [List.length_map, hz, show (((2 * n : Nat) : Int) / 2) = (n : Int) by omega]), by omega, by omega, ?_⟩
    refine for_range (lo := 0) (n := n) (fun i σ H' => ∃ ds ws l y5 y6, σ = [some (.ref a), some (.int t), some (.int m), some (.ref c), some (.int l), y5, y6] ∧ endR t ds = l ∧ LcI H c ws H' ∧ LtT H' ws ds ∧ ds.length = i ∧ Wf m t ds) ⟨[], [], _, _, _, rfl, rfl, LcI.start nc, LtT.nil, rfl, t1⟩ (fun i σ H' hi pv => ?_) (fun σ H' pv => ?_)
    · obtain ⟨ds, ws, l, y5, y6, rfl, el, L1, hw, hl, wf⟩ := pv
      obtain ⟨x, y, ex, ey, x0, x1, y0⟩ := hd i hi
      have ha2 := ha.same L1.same
      have lm : endR t ds ≤ m := by
        have := wf.bd ds.length (Nat.le_refl _)
        rw [List.take_length] at this
        exact this
      have l0 : 0 ≤ endR t ds := by
        have := endR_nn t0 wf.good wf.all ds.length (Nat.le_refl _)
        rw [List.take_length] at this
        exact this
      have lw : ws.length < sizeLine := by
        rw [hw.1]
        exact small1000 (by omega)
      have fin : ∀ (H4 : Hp) (b : Addr) (d : Lt), Same H' H4 → H4 b = none → (upd H4 b (.tup (lv d))) c = some (.lst ws) ∧ LcI H c (ws ++ [.ref b]) (upd (upd H4 b (.tup (lv d))) c (.lst (ws ++ [.ref b]))) ∧ LtT (upd (upd H4 b (.tup (lv d))) c (.lst (ws ++ [.ref b]))) (ws ++ [.ref b]) (ds ++ [d]) := fun H4 b d s4 nb => by
        have s5 := s4.trans (same_upd (o := .tup (lv d)) nb)
        have nbc : b ≠ c := fun z => by rw [z, s4 _ _ L1.at_] at nb; cases nb
        refine ⟨s5 _ _ L1.at_, L1.put nc s5, ?_⟩
        have keep : LtT (upd (upd H4 b (.tup (lv d))) c (.lst (ws ++ [.ref b]))) ws ds := ⟨hw.1, fun j u e => by
          obtain ⟨b', h1, h2⟩ := hw.2 j u e
          have nb' : b' ≠ c := fun z => by rw [z, L1.at_] at h2; cases h2
          exact ⟨b', h1, by rw [upd_ne nb']; exact s5 _ _ h2⟩⟩
        exact keep.snoc (by rw [upd_ne nbc, upd_same])
      rw [el] at lm l0
      have ex2 : (zs.map V.int)[2 * i]? = some (.int x) := by rw [List.getElem?_map, ex]; rfl
      have ey2 : (zs.map V.int)[2 * i + 1]? = some (.int y) := by rw [List.getElem?_map, ey]; rfl
      refine ⟨by show 4 ≤ sizeLine; decide, fun g ng => ?_⟩
      have s3 := same_upd (o := .lst [.str "cross", .str "cross", .str "cap", .str "cup"]) ng
      have ha3 := ha2.same s3
      obtain ⟨w, ew, hw3⟩ : ∃ w : Str, atI [V.str "cross", .str "cross", .str "cap", .str "cup"] (x / 3) = some (.str w) ∧ (w = "cross" ∨ w = "cap" ∨ w = "cup") := by
        obtain h | h | h | h : x / 3 = 0 ∨ x / 3 = 1 ∨ x / 3 = 2 ∨ x / 3 = 3 := by omega
        · exact ⟨_, at_of (j := 0) h rfl, .inl rfl⟩
        · exact ⟨_, at_of (j := 1) h rfl, .inl rfl⟩
        · exact ⟨_, at_of (j := 2) h rfl, .inr (.inl rfl)⟩
        · exact ⟨_, at_of (j := 3) h rfl, .inr (.inr rfl)⟩
      refine ⟨_, rfl, _, rfl, _, _, rfl, rfl, cm2 _, a, _, _, _, rfl, rfl, ha3.b, at_of (j := 2 * i) (by omega) ex2, _, _, rfl, rfl, ⟨by show (0 : Int) < 3; decide, by show (3 : Int) < 1073741824; decide⟩, g, _, _, _, rfl, rfl, .inl (.inl (.inl upd_same)), ew, ?_⟩
      generalize upd H' g (.lst [.str "cross", .str "cross", .str "cap", .str "cup"]) = H3 at *
      have es : ∀ {x y : Str}, decide (V.str x = V.str y) = true ↔ x = y := fun {x y} => by
        rw [decide_eq_true_iff]
        exact ⟨fun z => V.str.inj z, fun z => by rw [z]⟩
      refine ⟨_, rfl, _, _, rfl, rfl, _, rfl, ite2 (fun c1 => ?_) (fun c1 => ?_)⟩
      · have c1 : l < 2 := of_decide_eq_true c1
        refine ⟨_, rfl, rfl, _, rfl, ite2 (fun c2 => ?_) (fun c2 => absurd (es.mpr rfl) c2)⟩
        refine ⟨_, rfl, _, _, rfl, rfl, _, rfl, _, _, rfl, rfl, _, rfl, ite2 (fun c3 => absurd (of_decide_eq_true c3) (by show ¬ m < l + 2; omega)) (fun c3 => ?_)⟩
        refine ⟨_, rfl, rfl, _, rfl, ite2 (fun c4 => ?_) (fun c4 => absurd (es.mpr rfl) c4)⟩
        have md := fmod_in y (show 0 < l + 1 by omega)
        refine ⟨_, rfl, .inl ⟨rfl, _, .inl (.inl (s3 _ _ L1.at_))⟩, _, rfl, _, rfl, _, rfl, _, _, rfl, rfl, cm2 _, _, _, rfl, rfl, a, _, _, _, rfl, rfl, ha3.b, at_of (j := 2 * i + 1) (by omega) ey2, .inl ⟨_, rfl, _, rfl, _, _, rfl, rfl, _, _, rfl, rfl, by omega, by show 2 ≤ sizeLine; decide, fun b nb => ?_⟩⟩
        obtain ⟨f1, f2, f3⟩ := fin _ b ("cup", y.fmod (l + 1)) s3 nb
        refine ⟨c, ws, _, rfl, rfl, f1, lw, _, rfl, _, _, rfl, rfl, ds ++ [(("cup", y.fmod (l + 1)) : Lt)], _, _, _, _, rfl, ?_, f2, f3, by rw [List.length_append, hl]; rfl, ?_⟩
        · rw [endR_snoc, el]
          rfl
        · exact wf.app (by rw [el]; exact ⟨lm, g_u, o_u.mpr ⟨md.1, by omega⟩, by show l + chgR "cup" ≤ m; rw [c_u]; omega⟩)
      · have c1 : ¬ l < 2 := fun z => c1 (decide_eq_true z)
        refine ⟨_, rfl, rfl, _, rfl, ite2 (fun c2 => ?_) (fun c2 => ?_)⟩
        · have c2 := es.mp c2
          refine ⟨_, rfl, _, _, rfl, rfl, _, rfl, _, _, rfl, rfl, _, rfl, ite2 (fun c3 => ?_) (fun c3 => ?_)⟩
          · refine ⟨_, rfl, rfl, _, rfl, ite2 (fun c4 => absurd (es.mp c4) (by decide)) (fun c4 => ?_)⟩
            have md := fmod_in y (show 0 < l - 1 by omega)
            refine ⟨_, rfl, .inl ⟨rfl, _, .inl (.inl (s3 _ _ L1.at_))⟩, _, rfl, _, rfl, _, rfl, _, _, rfl, rfl, cm2 _, _, _, rfl, rfl, a, _, _, _, rfl, rfl, ha3.b, at_of (j := 2 * i + 1) (by omega) ey2, .inl ⟨_, rfl, _, rfl, _, _, rfl, rfl, _, _, rfl, rfl, by omega, by show 2 ≤ sizeLine; decide, fun b nb => ?_⟩⟩
            obtain ⟨f1, f2, f3⟩ := fin _ b ("cross", y.fmod (l - 1)) s3 nb
            refine ⟨c, ws, _, rfl, rfl, f1, lw, _, rfl, _, rfl, rfl, .inr ⟨_, rfl, _, _, rfl, rfl, cm2 _, _, _, rfl, rfl, ds ++ [(("cross", y.fmod (l - 1)) : Lt)], _, _, _, _, rfl, ?_, f2, f3, by rw [List.length_append, hl]; rfl, ?_⟩⟩
            · rw [endR_snoc, el]
              rfl
            · exact wf.app (by rw [el]; exact ⟨lm, g_x, o_x.mpr ⟨md.1, by omega⟩, by show l + chgR "cross" ≤ m; rw [c_x]; omega⟩)
          · have c3 : ¬ m < l + 2 := fun z => c3 (decide_eq_true z)
            subst c2
            refine ⟨_, rfl, rfl, _, rfl, ite2 (fun c4 => ?_) (fun c4 => absurd (es.mpr rfl) c4)⟩
            have md := fmod_in y (show 0 < l + 1 by omega)
            refine ⟨_, rfl, .inl ⟨rfl, _, .inl (.inl (s3 _ _ L1.at_))⟩, _, rfl, _, rfl, _, rfl, _, _, rfl, rfl, cm2 _, _, _, rfl, rfl, a, _, _, _, rfl, rfl, ha3.b, at_of (j := 2 * i + 1) (by omega) ey2, .inl ⟨_, rfl, _, rfl, _, _, rfl, rfl, _, _, rfl, rfl, by omega, by show 2 ≤ sizeLine; decide, fun b nb => ?_⟩⟩
            obtain ⟨f1, f2, f3⟩ := fin _ b ("cup", y.fmod (l + 1)) s3 nb
            refine ⟨c, ws, _, rfl, rfl, f1, lw, _, rfl, _, _, rfl, rfl, ds ++ [(("cup", y.fmod (l + 1)) : Lt)], _, _, _, _, rfl, ?_, f2, f3, by rw [List.length_append, hl]; rfl, ?_⟩
            · rw [endR_snoc, el]
              rfl
            · exact wf.app (by rw [el]; exact ⟨lm, g_u, o_u.mpr ⟨md.1, by omega⟩, by show l + chgR "cup" ≤ m; rw [c_u]; omega⟩)
        · refine ⟨_, rfl, rfl, _, rfl, ite2 (fun c4 => absurd c4 c2) (fun c4 => ?_)⟩
          rcases hw3 with rfl | rfl | rfl
          · skip
            have md := fmod_in y (show 0 < l - 1 by omega)
            refine ⟨_, rfl, .inl ⟨rfl, _, .inl (.inl (s3 _ _ L1.at_))⟩, _, rfl, _, rfl, _, rfl, _, _, rfl, rfl, cm2 _, _, _, rfl, rfl, a, _, _, _, rfl, rfl, ha3.b, at_of (j := 2 * i + 1) (by omega) ey2, .inl ⟨_, rfl, _, rfl, _, _, rfl, rfl, _, _, rfl, rfl, by omega, by show 2 ≤ sizeLine; decide, fun b nb => ?_⟩⟩
            obtain ⟨f1, f2, f3⟩ := fin _ b ("cross", y.fmod (l - 1)) s3 nb
            refine ⟨c, ws, _, rfl, rfl, f1, lw, _, rfl, _, rfl, rfl, .inr ⟨_, rfl, _, _, rfl, rfl, cm2 _, _, _, rfl, rfl, ds ++ [(("cross", y.fmod (l - 1)) : Lt)], _, _, _, _, rfl, ?_, f2, f3, by rw [List.length_append, hl]; rfl, ?_⟩⟩
            · rw [endR_snoc, el]
              rfl
            · exact wf.app (by rw [el]; exact ⟨lm, g_x, o_x.mpr ⟨md.1, by omega⟩, by show l + chgR "cross" ≤ m; rw [c_x]; omega⟩)
          · skip
            have md := fmod_in y (show 0 < l - 1 by omega)
            refine ⟨_, rfl, .inl ⟨rfl, _, .inl (.inl (s3 _ _ L1.at_))⟩, _, rfl, _, rfl, _, rfl, _, _, rfl, rfl, cm2 _, _, _, rfl, rfl, a, _, _, _, rfl, rfl, ha3.b, at_of (j := 2 * i + 1) (by omega) ey2, .inl ⟨_, rfl, _, rfl, _, _, rfl, rfl, _, _, rfl, rfl, by omega, by show 2 ≤ sizeLine; decide, fun b nb => ?_⟩⟩
            obtain ⟨f1, f2, f3⟩ := fin _ b ("cap", y.fmod (l - 1)) s3 nb
            refine ⟨c, ws, _, rfl, rfl, f1, lw, _, rfl, _, rfl, rfl, .inr ⟨_, rfl, _, _, rfl, rfl, cm2 _, _, _, rfl, rfl, ds ++ [(("cap", y.fmod (l - 1)) : Lt)], _, _, _, _, rfl, ?_, f2, f3, by rw [List.length_append, hl]; rfl, ?_⟩⟩
            · rw [endR_snoc, el]
              rfl
            · exact wf.app (by rw [el]; exact ⟨lm, g_a, o_a.mpr ⟨md.1, by omega⟩, by show l + chgR "cap" ≤ m; rw [c_a]; omega⟩)
          · exact absurd (es.mpr rfl) c2
    · obtain ⟨ds, ws, l, y5, y6, rfl, el, L1, hw, hl, wf⟩ := pv
      exact ⟨_, rfl, q _ c ds L1.same nc ⟨ws, L1.at_, hw⟩ wf hl⟩
end
end Own

namespace Own
open PySem PySem.Spec PyProof.Rows L2
/-! ### the law: the bottom, the tables letter by letter -/
theorem TabL.same {H H' : Hp} {a : Addr} {n : Int} {T : Int → Int → Int} (s : Same H H') (h : TabL H a n T) : TabL H' a n T := let ⟨rs, g⟩ := h; ⟨rs, g.same s⟩
/-- the pins and the tables along a row -/
def TabsV (H : Hp) (vs : List V) (t : Int) (ds : List Lt) (k : Nat) : Prop := vs.length = k ∧ ∀ i, i < k → ∃ b u, vs[i]? = some (.ref b) ∧ H b = some (.lst [.int (t + endR t (ds.take i)), .ref u]) ∧ TabL H u (t + endR t (ds.take i)) (RT t (ds.take i))
theorem TabsV.same {H H' : Hp} {vs : List V} {t : Int} {ds : List Lt} {k : Nat} (s : Same H H') (h : TabsV H vs t ds k) : TabsV H' vs t ds k := ⟨h.1, fun i hi => let ⟨b, u, h1, h2, h3⟩ := h.2 i hi; ⟨b, u, h1, s _ _ h2, h3.same s⟩⟩
section
variable {P : Program} {w : World} {K : PySem.W.Frag} {mg : Str → Option Value} {base : Heap} {C : Addr}
def spBotL : Sp := fun vs H Q _ => ∃ (t : Int) (a : Addr) (xs : List V) (ds : List Lt), vs = [.int t, .ref a] ∧ SqH H a xs ∧ LtH H xs ds ∧ (∀ d ∈ ds, GoodR d) ∧ Q (.int (endR t ds)) H
theorem ok_botl {f : Addr} {fd : FuncData} (F : Fun K "_law_bottom" "_law_bottom" s__law_bottom f fd) (T : Bi mg) : FnOk P w K mg base CX0 1 f fd ["_law_top", "_law_letters_here"] spBotL := by
  refine F.ok sc__law_bottom (fun vs H Q E h => ?_) (fun cdv A outer s H vs Q E hr h => ?_)
  · obtain ⟨t, a, xs, ds, rfl, _⟩ := h
    rfl
  · obtain ⟨t, a, xs, ds, rfl, hs, hd, hg, q⟩ := h
    refine ⟨_, (pss_cons (ps_set (i := 2) sc__law_bottom.nd rfl (.inl rfl) (pv 0))
        (pss_cons (ps_for PassesOwn.never rfl (pi_seq (pv 1)) (pg_name (i := 3) sc__law_bottom.nd rfl (.inl rfl))
        (pss_one (ps_set (i := 2) sc__law_bottom.nd rfl (.inl rfl) (pe_op op_sub (pe_op op_add (pv 2) (pe_op op_mul pe_int (pe_callTy call_int1 (by rfl) T.b_int (by decide +kernel) (pa_cons (pe_cmpR op_eq (pe_ix (r := rIxB K) ix_seqB (pv 3) pe_int (fun _ _ => rfl)) pe_str (nomark _)) pa_nil)))) (pe_op op_mul pe_int (pe_callTy call_int1 (by rfl) T.b_int (by decide +kernel) (pa_cons (pe_cmpR op_eq (pe_ix (r := rIxB K) ix_seqB (pv 3) pe_int (fun _ _ => rfl)) pe_str (nomark _)) pa_nil)))))))
        (pss_one (ps_ret (pv 2))))), ?_⟩
    refine ⟨_, rfl, ?_⟩
    refine ⟨_, rfl, for_seqB hs (fun i σ H' => (∃ l y3, σ = [some (.int t), some (.ref a), some (.int l), y3] ∧ l = endR t (ds.take i)) ∧ H' = H) ⟨⟨_, _, rfl, rfl⟩, rfl⟩ (fun i σ H' pv o ho => by rw [pv.2]; exact ho) (fun i x σ H1 ex pv => ?_) (fun σ H' pv => ?_)⟩
    · obtain ⟨⟨l, y3, rfl, el⟩, rfl⟩ := pv
      obtain ⟨b, d, rfl, hdi, hb⟩ := hd.at_ ex
      have gd := hg d (List.mem_of_getElem? hdi)
      have t0 : atI (lv d) 0 = some (.str d.1) := at_of (j := 0) rfl rfl
      refine ⟨_, rfl, _, rfl, b, _, _, _, rfl, rfl, hb.b, t0, rfl, .inr ⟨_, rfl, _, _, rfl, rfl, cm2 _, _, _, rfl, rfl, _, rfl, b, _, _, _, rfl, rfl, hb.b, t0, rfl, .inr ⟨_, rfl, _, _, rfl, rfl, cm2 _, _, _, rfl, rfl, ⟨_, _, rfl, ?_⟩, rfl⟩⟩⟩
      rw [List.take_add_one, hdi]
      show _ = endR t (ds.take i ++ [d])
      rw [endR_snoc, el]
      have := rb_cup gd
      omega
    · obtain ⟨⟨l, y3, rfl, el⟩, rfl⟩ := pv
      rw [hd.1, List.take_length] at el
      rw [el]
      exact ⟨_, rfl, q⟩
end
end Own

namespace Own
open PySem PySem.Spec PyProof.Rows L2
/-! ### the law: cords that cross -/
theorem inV_l (a : Int) : ∀ l : List Int, inV (.int a) (l.map V.int) = decide (a ∈ l)
  | [] => rfl
  | b :: l => by
    have ih := inV_l a l
    unfold inV at ih ⊢
    rw [List.map_cons, List.any_cons, ih]
    show ((b == a) || _) = _
    by_cases c : a = b
    · simp [c]
    · have : (b == a) = false := by simp; omega
      rw [this]
      simp [c]
section
variable {P : Program} {w : World} {K : PySem.W.Frag} {mg : Str → Option Value} {base : Heap} {C : Addr}
instance (A B C D : Int) : Decidable (lcr A B C D) := by unfold lcr; infer_instance
def spLX : Sp := fun vs H Q _ => ∃ a b c d : Int, vs = [.int a, .int b, .int c, .int d] ∧ ∀ H', Same H H' → Q (.bl (decide (lcr a b c d))) H'
theorem ok_lx {f : Addr} {fd : FuncData} (F : Fun K "_law_cross" "_law_cross" s__law_cross f fd) (T : Bi mg) : FnOk P w K mg base CX0 1 f fd ["_law_a", "_law_b", "_law_c", "_law_d"] spLX := by
  refine F.ok sc__law_cross (fun vs H Q E h => ?_) (fun cdv A outer s H vs Q E hr h => ?_)
  · obtain ⟨a, b, c, d, rfl, _⟩ := h
    rfl
  · obtain ⟨a, b, c, d, rfl, q⟩ := h
    refine ⟨_, (pss_cons (ps_if (PW.pt (pw_or (pt_cmpR op_in_seq (pv 0) (pe_lst (pa_cons (pv 1) (pa_cons (pv 2) (pa_cons (pv 3) pa_nil)))) (by rfl)) (pw_or (pt_cmpR op_in_seq (pv 1) (pe_lst (pa_cons (pv 2) (pa_cons (pv 3) pa_nil))) (by rfl)) (pw_or1 (pt_cmpR op_eq (pv 2) (pv 3) (nomark _)))))) (pss_one (ps_ret pe_bl)) pss_nil)
        (pss_one (ps_ret (pe_cmpR op_ne (pe_chain op_lt op_lt (pe_callB (call_min2 rfl) (by rfl) T.b_min (by decide +kernel) (pa_cons (pv 0) (pa_cons (pv 1) pa_nil))) (pv 2) (pe_callB (call_max2 rfl) (by rfl) T.b_max (by decide +kernel) (pa_cons (pv 0) (pa_cons (pv 1) pa_nil)))) (pe_chain op_lt op_lt (pe_callB (call_min2 rfl) (by rfl) T.b_min (by decide +kernel) (pa_cons (pv 0) (pa_cons (pv 1) pa_nil))) (pv 3) (pe_callB (call_max2 rfl) (by rfl) T.b_max (by decide +kernel) (pa_cons (pv 0) (pa_cons (pv 1) pa_nil)))) (nomark _))))), ?_⟩
    have i3 : inV (V.int a) [V.int b, V.int c, V.int d] = decide (a = b ∨ a = c ∨ a = d) := inV_l a [b, c, d] |>.trans (by simp)
    have i2 : inV (V.int b) [V.int c, V.int d] = decide (b = c ∨ b = d) := inV_l b [c, d] |>.trans (by simp)
    have no : ∀ H', Same H H' → (a = b ∨ a = c ∨ a = d ∨ b = c ∨ b = d ∨ c = d) → Q (.bl false) H' := fun H' s z => by
      have := q H' s
      rw [decide_eq_false (show ¬ lcr a b c d from fun y => by obtain ⟨y1, y2, y3, y4, y5, y6, _⟩ := y; rcases z with z | z | z | z | z | z <;> exact absurd z (by assumption))] at this
      exact this
    refine ⟨_, rfl, _, rfl, _, rfl, _, rfl, by show 3 ≤ sizeLine; decide, fun g1 n1 => ⟨g1, _, rfl, .inl (.inl (.inl upd_same)), rfl, rfl, _, rfl, ite2 (fun e1 => ?_) (fun e1 => ?_)⟩⟩
    · have e1 := of_decide_eq_true (i3.symm.trans e1)
      exact ite2 (fun _ => no _ (same_upd n1) (by rcases e1 with h | h | h <;> simp [h])) (fun z => absurd rfl z)
    have e1 : ¬ (a = b ∨ a = c ∨ a = d) := fun z => e1 (i3.trans (decide_eq_true z))
    refine ⟨_, rfl, _, rfl, _, rfl, by show 2 ≤ sizeLine; decide, fun g2 n2 => ⟨g2, _, rfl, .inl (.inl (.inl upd_same)), rfl, rfl, _, rfl, ite2 (fun e2 => ?_) (fun e2 => ?_)⟩⟩
    · have e2 := of_decide_eq_true (i2.symm.trans e2)
      exact ite2 (fun _ => no _ ((same_upd n1).trans (same_upd n2)) (by rcases e2 with h | h <;> simp [h])) (fun z => absurd rfl z)
    have e2 : ¬ (b = c ∨ b = d) := fun z => e2 (i2.trans (decide_eq_true z))
    refine ⟨_, rfl, _, rfl, rfl, _, rfl, ite2 (fun e3 => ?_) (fun e3 => ?_)⟩
    · have e3 : c = d := V.int.inj (of_decide_eq_true e3)
      exact no _ ((same_upd n1).trans (same_upd n2)) (by simp [e3])
    have e3 : c ≠ d := fun z => e3 (decide_eq_true (congrArg V.int z))
    have q2 := q _ ((same_upd n1).trans (same_upd (o := .lst [.int c, .int d]) n2))
    generalize upd (upd H g1 (.lst [.int b, .int c, .int d])) g2 (.lst [.int c, .int d]) = H2 at *
    have fin : ∀ (x y : Bool), x = decide (lo a b < c ∧ c < hi a b) → y = decide (lo a b < d ∧ d < hi a b) → Q (.bl (!decide (V.bl x = V.bl y))) H2 := fun x y hx hy => by
      have e : decide (lcr a b c d) = !decide (V.bl x = V.bl y) := by
        have : lcr a b c d ↔ ¬ ((lo a b < c ∧ c < hi a b) ↔ (lo a b < d ∧ d < hi a b)) := ⟨fun z => z.2.2.2.2.2.2, fun z => ⟨by omega, by omega, by omega, by omega, by omega, e3, z⟩⟩
        have e : decide (¬ ((lo a b < c ∧ c < hi a b) ↔ (lo a b < d ∧ d < hi a b))) = !decide (V.bl x = V.bl y) := by
          rw [hx, hy]
          by_cases c1 : lo a b < c ∧ c < hi a b <;> by_cases c2 : lo a b < d ∧ d < hi a b <;> simp [c1, c2]
        exact (decide_eq_decide.mpr this).trans e
      rw [← e]
      exact q2
    have second : ∀ x : Bool, x = decide (lo a b < c ∧ c < hi a b) → (tChain (rI0 fun i j => V.bl (decide (i < j))) (rI0 fun i j => V.bl (decide (i < j))) (tCB (fun xs H Q => ∃ i j, xs = [V.int i, V.int j] ∧ Q (V.int (if j < i then j else i)) H) (tCons (tVar 0) (tCons (tVar 1) tNil))) (tVar 3) (tCB (fun xs H Q => ∃ i j, xs = [V.int i, V.int j] ∧ Q (V.int (if j > i then j else i)) H) (tCons (tVar 0) (tCons (tVar 1) tNil)))) [some (.int a), some (.int b), some (.int c), some (.int d)] H2 fun y H3 => rNe (V.bl x) y H3 Q := fun x hx => by
      refine ⟨_, rfl, _, rfl, _, _, rfl, _, rfl, _, _, rfl, rfl, _, rfl, ite2 (fun e => ?_) (fun e => ?_)⟩
      · have e := of_decide_eq_true e
        refine ⟨_, rfl, _, rfl, _, _, rfl, _, _, rfl, rfl, rfl, fin x _ hx ?_⟩
        exact decide_eq_decide.mpr ⟨fun z => ⟨e, z⟩, fun z => z.2⟩
      · have e : ¬ lo a b < d := fun z => e (decide_eq_true z)
        exact ⟨rfl, fin x _ hx (decide_eq_false fun z => e z.1).symm⟩
    refine ⟨_, rfl, _, rfl, _, _, rfl, _, rfl, _, _, rfl, rfl, _, rfl, ite2 (fun e => ?_) (fun e => ?_)⟩
    · have e : lo a b < c := of_decide_eq_true e
      refine ⟨_, rfl, _, rfl, _, _, rfl, _, _, rfl, rfl, ?_⟩
      exact second _ (decide_eq_decide.mpr ⟨fun z => ⟨e, z⟩, fun z => z.2⟩)
    · have e : ¬ lo a b < c := fun z => e (decide_eq_true z)
      exact second false (decide_eq_false fun z => e z.1).symm
end
end Own

namespace Own
open PySem PySem.Spec PyProof.Rows L2
/-! ### the law: cords of partners -/
section
variable {P : Program} {w : World} {K : PySem.W.Frag} {mg : Str → Option Value} {base : Heap} {C : Addr}
def spLOp : Sp := fun vs H Q _ => ∃ (a : Addr) (n : Int) (M : Int → Int), vs = [.ref a] ∧ H a = some (.lst (gl n M)) ∧ 0 ≤ n ∧ n ≤ 1000 ∧ ∀ H' c, Same H H' → H c = none → TripL H' c (mtE M n.toNat) → Q (.ref c) H'
theorem ok_lop {f : Addr} {fd : FuncData} (F : Fun K "_law_of_partners" "_law_of_partners" s__law_of_partners f fd) (T : Bi mg) : FnOk P w K mg base CX0 1 f fd ["_law_partners"] spLOp := by
  refine F.ok sc__law_of_partners (fun vs H Q E h => ?_) (fun cdv A outer s H vs Q E hr h => ?_)
  · obtain ⟨a, n, N, rfl, _⟩ := h
    rfl
  · obtain ⟨a, n, N, rfl, ha, n0, n1, q⟩ := h
    refine ⟨_, (pss_one (ps_ret (pe_lc (own := [("_law_p", 1)]) (g := gName 1) rfl sc__law_of_partners.nd (pi_range1 (by rfl) T.b_range (pa_cons (pe_callB call_len_seq (by rfl) T.b_len PySem.boot_len (pa_cons (pv 0) pa_nil)) pa_nil)) (blkOk_by (own := [("_law_p", 1)]) (N := ["_law_partners", "_law_p"]) (sc := defScope s__law_of_partners) (by decide +kernel)) (fun _ _ _ _ _ => (pg_name (i := 1) sc__law_of_partners.nd rfl (.inl rfl))) (fun _ _ _ _ _ => pts_one (pt_cmpR op_lt (pv 1) (pe_ix (r := rIxB K) ix_seqB (pv 0) (pv 1) (fun _ _ => rfl)) (nomark _))) (fun _ _ _ _ _ => (pe_tup (pa_cons (pv 1) (pa_cons (pe_ix (r := rIxB K) ix_seqB (pv 0) (pv 1) (fun _ _ => rfl)) (pa_cons pe_int pa_nil)))))))), ?_⟩
    have eL : ((gl n N).length : Int) = n := by
      rw [gl_len]
      omega
    refine ⟨_, rfl, a, _, rfl, .inl (.inl (.inl ha)), ?_⟩
    rw [eL]
    refine ⟨n, rfl, by omega, by omega, fun D hD => ?_⟩
    refine lc_range (lo := 0) (n := n.toNat) (fun i H' => ∃ ws, LcI H D ws H' ∧ TrV H' ws (mtE N i)) ⟨[], LcI.start hD, TrV.nil⟩ (fun i H1 hi pv => ?_) (fun H1 pv => ?_)
    · obtain ⟨ws, L1, tV⟩ := pv
      have hS : SqB K H1 a (gl n N) := .inl (.inl (.inl (L1.same _ _ ha)))
      have aI : atI (gl n N) (0 + (i : Int)) = some (.int (N (i : Int))) := by
        rw [Int.zero_add]
        exact gl_atI N (by omega) (by omega)
      refine ⟨rfl, _, rfl, _, rfl, _, rfl, a, _, _, _, rfl, rfl, hS, aI, _, _, rfl, rfl, _, rfl, ite2 (fun e => ?_) (fun e => ?_)⟩
      · have lt : (i : Int) < N (i : Int) := by have := of_decide_eq_true e; omega
        refine ⟨_, rfl, _, rfl, _, rfl, a, _, _, _, rfl, rfl, hS, aI, by show 3 ≤ sizeLine; decide, fun p2 np2 => ?_⟩
        have s3 := same_upd (o := .tup [.int (0 + (i : Int)), .int (N (i : Int)), .int 1]) np2
        have nD : p2 ≠ D := L1.nn np2
        refine ⟨ws, s3 _ _ L1.at_, ?_, ws ++ [.ref p2], L1.put hD s3, ?_⟩
        · rw [tV.1]
          exact Nat.lt_of_le_of_lt (mtE_len N i) (small1000 (by omega))
        · rw [mtE, if_pos lt]
          refine (tV.sameT (sameT_put L1.at_ s3)).snoc (t := ((i : Int), N (i : Int), 1)) ?_
          rw [upd_ne nD, upd_same, Int.zero_add]
      · have lt : ¬ (i : Int) < N (i : Int) := fun z => e (decide_eq_true (by omega))
        refine ⟨ws, L1, ?_⟩
        rw [mtE, if_neg lt, List.append_nil]
        exact tV
    · obtain ⟨ws, L1, tV⟩ := pv
      exact q H1 D L1.same hD ⟨ws, L1.at_, tV⟩
end
end Own

namespace Own
open PySem PySem.Spec PyProof.Rows L2
/-! ### the law: the tables letter by letter -/
theorem TabL.upd {H : Hp} {c u b0 u0 : Addr} {vs : List V} {k n : Int} {T : Int → Int → Int} {o : HO} (h : TabL H u n T) (e : H c = some (.lst vs)) (e0 : vs[0]? = some (.ref b0)) (eb : H b0 = some (.lst [.int k, .ref u0])) : TabL (upd H c o) u n T := by
  obtain ⟨rs, g⟩ := h
  have n1 : 1 ≤ hi n 1 := by have := lo_hi n 1; omega
  have hg : ∀ f : Int → Int, (gl (hi n 1) f)[0]? = some (.int (f 0)) := fun f => by
    unfold gl
    rw [List.getElem?_map, List.getElem?_range (by omega)]
    rfl
  have nu : u ≠ c := fun z => by
    subst z
    have h1 := g.at_
    rw [e] at h1
    obtain rfl := HO.lst.inj (Option.some.inj h1)
    rw [List.getElem?_map] at e0
    cases h2 : rs[0]? with
    | none => rw [h2] at e0; cases e0
    | some r =>
      rw [h2] at e0
      obtain rfl : r = b0 := V.ref.inj (Option.some.inj e0)
      have h3 := g.row 0 r h2
      rw [eb] at h3
      have h4 := HO.lst.inj (Option.some.inj h3)
      have h5 : (gl (hi n 1) (T (0 : Nat)))[1]? = some (.ref u0) := by rw [← h4]; rfl
      cases (gl_nat h5).1
  have nr : ∀ j r, rs[j]? = some r → r ≠ c := fun j r hj z => by
    subst z
    have h3 := g.row j r hj
    rw [e] at h3
    have h4 := HO.lst.inj (Option.some.inj h3)
    rw [h4, hg] at e0
    cases e0
  exact ⟨rs, ⟨by rw [upd_ne nu]; exact g.at_, g.len, g.nd, g.out, fun j r hj => by rw [upd_ne (nr j r hj)]; exact g.row j r hj⟩⟩
theorem TabsV.put {H : Hp} {c b u : Addr} {vs : List V} {t : Int} {ds : List Lt} {i : Nat} (h : TabsV H vs t ds (i + 1)) (e : H c = some (.lst vs)) (hb : H b = some (.lst [.int (t + endR t (ds.take (i + 1))), .ref u])) (hu : TabL H u (t + endR t (ds.take (i + 1))) (RT t (ds.take (i + 1)))) :
    TabsV (upd H c (.lst (vs ++ [.ref b]))) (vs ++ [.ref b]) t ds (i + 2) ∧ TabL (upd H c (.lst (vs ++ [.ref b]))) u (t + endR t (ds.take (i + 1))) (RT t (ds.take (i + 1))) := by
  obtain ⟨b0, u0, f1, f2, f3⟩ := h.2 0 (by omega)
  have nb : ∀ {x : Addr} {k : Int} {y : Addr}, H x = some (.lst [.int k, .ref y]) → x ≠ c := fun hx z => by
    rw [z, e] at hx
    have := HO.lst.inj (Option.some.inj hx)
    rw [this] at f1
    cases f1
  have up : ∀ {y : Addr} {n : Int} {T : Int → Int → Int}, TabL H y n T → TabL (upd H c (.lst (vs ++ [.ref b]))) y n T := fun hy => hy.upd e f1 f2
  refine ⟨⟨by rw [List.length_append, h.1]; rfl, fun j hj => ?_⟩, up hu⟩
  by_cases c1 : j < i + 1
  · obtain ⟨b', u', g1, g2, g3⟩ := h.2 j c1
    exact ⟨b', u', by rw [List.getElem?_append_left (by rw [h.1]; exact c1)]; exact g1, by rw [upd_ne (nb g2)]; exact g2, up g3⟩
  · obtain rfl : j = i + 1 := by omega
    exact ⟨b, u, by rw [List.getElem?_append_right (by rw [h.1]; omega), h.1, Nat.sub_self]; rfl, by rw [upd_ne (nb hb)]; exact hb, up hu⟩
section
variable {P : Program} {w : World} {K : PySem.W.Frag} {mg : Str → Option Value} {base : Heap} {C : Addr}
def spByT : Sp := fun vs H Q _ => ∃ (t : Int) (a : Addr) (xs : List V) (ds : List Lt), vs = [.int t, .ref a] ∧ SqH H a xs ∧ LtH H xs ds ∧ (∀ d ∈ ds, GoodR d) ∧ AllR t ds ∧ 0 ≤ t ∧ t ≤ 20 ∧ ds.length ≤ 900 ∧ (∀ i, i ≤ ds.length → t + endR t (ds.take i) ≤ 100) ∧
  ∀ H' c ys, Same H H' → H c = none → H' c = some (.lst ys) → TabsV H' ys t ds (ds.length + 1) → Q (.ref c) H'
theorem ok_byt {f : Addr} {fd : FuncData} (F : Fun K "_law_by_tables" "_law_by_tables" s__law_by_tables f fd) (T : Bi mg) {f_s : Addr} {d_s : FuncData} (D_s : Df K mg "_law_straight_table" s__law_straight_table ["_law_top"] f_s d_s) (G_s : FnOk P w K mg base CX0 1 f_s d_s ["_law_top"] spStr) {f_l : Addr} {d_l : FuncData} (D_l : Df K mg "_law_table_letter" s__law_table_letter ["_law_pins", "_law_table", "_law_letter"] f_l d_l) (G_l : FnOk P w K mg base CX0 2 f_l d_l ["_law_pins", "_law_table", "_law_letter"] spTLet) : FnOk P w K mg base CX0 3 f fd ["_law_top", "_law_letters_here"] spByT := by
  refine F.ok sc__law_by_tables (fun vs H Q E h => ?_) (fun cdv A outer s H vs Q E hr h => ?_)
  · obtain ⟨t, a, xs, ds, rfl, _⟩ := h
    rfl
  · obtain ⟨t, a, xs, ds, rfl, hs, hd, hg, al, t0, t1, hl, hm, q⟩ := h
    refine ⟨_, (pss_cons (ps_set (i := 2) sc__law_by_tables.nd rfl (.inl rfl) (pe_op op_mul pe_int (pv 0)))
        (pss_cons (ps_set (i := 3) sc__law_by_tables.nd rfl (.inl rfl) (pe_call G_s (hr.mono (by decide)) (by rfl) D_s.g D_s.F.kp D_s.b .nil pass0 (pa_cons (pv 0) pa_nil)))
        (pss_cons (ps_set (i := 4) sc__law_by_tables.nd rfl (.inl rfl) (pe_lst (pa_cons (pe_lst (pa_cons (pv 2) (pa_cons (pv 3) pa_nil))) pa_nil)))
        (pss_cons (ps_for PassesOwn.never rfl (pi_seq (pv 1)) (pg_name (i := 5) sc__law_by_tables.nd rfl (.inl rfl))
        (pss_cons (ps_set (i := 3) sc__law_by_tables.nd rfl (.inl rfl) (pe_call G_l (hr.mono (by decide)) (by rfl) D_l.g D_l.F.kp D_l.b .nil pass0 (pa_cons (pv 2) (pa_cons (pv 3) (pa_cons (pv 5) pa_nil)))))
        (pss_cons (ps_set (i := 2) sc__law_by_tables.nd rfl (.inl rfl) (pe_op op_sub (pe_op op_add (pv 2) (pe_op op_mul pe_int (pe_callTy call_int1 (by rfl) T.b_int (by decide +kernel) (pa_cons (pe_cmpR op_eq (pe_ix (r := rIxB K) ix_seqB (pv 5) pe_int (fun _ _ => rfl)) pe_str (nomark _)) pa_nil)))) (pe_op op_mul pe_int (pe_callTy call_int1 (by rfl) T.b_int (by decide +kernel) (pa_cons (pe_cmpR op_eq (pe_ix (r := rIxB K) ix_seqB (pv 5) pe_int (fun _ _ => rfl)) pe_str (nomark _)) pa_nil)))))
        (pss_one (ps_expr (pe_bm PySem.F.plainAttrs_list PySem.F.slot_list_append PySem.F.type_list_append mt_append (pv 4) (pa_cons (pe_lst (pa_cons (pv 2) (pa_cons (pv 3) pa_nil))) pa_nil)))))))
        (pss_one (ps_ret (pv 4))))))), ?_⟩
    refine ⟨_, rfl, _, _, rfl, rfl, cm2 _, _, rfl, t, rfl, t0, t1, fun H1 p s1 hp => ?_⟩
    refine ⟨_, rfl, _, rfl, by show 2 ≤ sizeLine; decide, fun b0 nb0 => ⟨by show 1 ≤ sizeLine; decide, fun c nc => ?_⟩⟩
    have sb := same_upd (o := .lst [.int (2 * t), .ref p]) nb0
    have sH := s1.trans sb
    have sc := same_upd (o := .lst [.ref b0]) nc
    have ncH : H c = none := sH.free nc
    have hac : a ≠ c := fun z => by rcases hs with e | e <;> (rw [z, ncH] at e; cases e)
    have nbc : b0 ≠ c := fun z => by rw [← z, upd_same] at nc; cases nc
    refine ⟨_, rfl, for_seqB (hs.same (sH.trans sc)) (fun i σ H' => ∃ ws u y5, σ = [some (.int t), some (.ref a), some (.int (t + endR t (ds.take i))), some (.ref u), some (.ref c), y5] ∧ LcI (upd H1 b0 (.lst [.int (2 * t), .ref p])) c ws H' ∧ TabsV H' ws t ds (i + 1) ∧ TabL H' u (t + endR t (ds.take i)) (RT t (ds.take i))) ?_ (fun i σ H' pv o ho => ?_) (fun i x σ H2 ex pv => ?_) (fun σ H' pv => ?_)⟩
    · have e2 : t + endR t (ds.take 0) = 2 * t := by show t + t = 2 * t; omega
      have hp2 := (hp.same sb).same sc
      refine ⟨[.ref b0], p, none, ?_, ⟨_, Same.refl _, nc, rfl⟩, ⟨rfl, fun j hj => ?_⟩, by rw [e2]; exact hp2⟩
      · rw [e2]
        rfl
      · obtain rfl : j = 0 := by omega
        refine ⟨b0, p, rfl, ?_, by rw [e2]; exact hp2⟩
        rw [upd_ne nbc, upd_same, e2]
    · obtain ⟨ws, u, y5, rfl, L1, tv, hu⟩ := pv
      rw [upd_ne hac] at ho
      exact L1.same _ _ ho
    · obtain ⟨ws, u, y5, rfl, L1, tv, hu⟩ := pv
      obtain ⟨b, d, rfl, hdi, hb⟩ := (hd.same (sH.trans L1.same)).at_ ex
      have gd := hg d (List.mem_of_getElem? hdi)
      have il : i < ds.length := (List.getElem?_eq_some_iff.mp hdi).1
      have o := of_decide_eq_true (al i d hdi)
      have l0 := endR_nn t0 hg al i (by omega)
      have lm := hm i (by omega)
      have tk : ds.take (i + 1) = ds.take i ++ [d] := by rw [List.take_add_one, hdi]; rfl
      have tz : atI (lv d) 0 = some (.str d.1) := at_of (j := 0) rfl rfl
      refine ⟨_, rfl, _, rfl, _, rfl, _, u, b, _, d, rfl, hu, hb, by omega, lm, gd, o.1, ?_, fun H4 r s4 hr => ?_⟩
      · have := o.2
        split <;> rename_i c1
        · rw [if_pos c1] at this
          omega
        · rw [if_neg c1] at this
          omega
      have hb4 := hb.same s4
      refine ⟨_, rfl, _, rfl, b, _, _, _, rfl, rfl, hb4.b, tz, rfl, .inr ⟨_, rfl, _, _, rfl, rfl, cm2 _, _, _, rfl, rfl, _, rfl, b, _, _, _, rfl, rfl, hb4.b, tz, rfl, .inr ⟨_, rfl, _, _, rfl, rfl, cm2 _, _, _, rfl, rfl, ?_⟩⟩⟩
      have en : t + endR t (ds.take i) + chgR d.1 = t + endR t (ds.take (i + 1)) := by
        rw [tk, endR_snoc]
        omega
      have ek : t + endR t (ds.take i) + 2 * (if decide (V.str d.1 = V.str "cup") = true then (1 : Int) else 0) - 2 * (if decide (V.str d.1 = V.str "cap") = true then (1 : Int) else 0) = t + endR t (ds.take (i + 1)) := by
        have := rb_cup gd
        omega
      rw [en, ← RT_snoc, ← tk] at hr
      refine ⟨_, rfl, .inl ⟨rfl, _, .inl (.inl (s4 _ _ L1.at_))⟩, _, rfl, _, rfl, by show 2 ≤ sizeLine; decide, fun b2 nb2 => ?_⟩
      have e4 := s4 _ _ L1.at_
      have s5 := same_upd (o := .lst [.int (t + endR t (ds.take i) + 2 * (if decide (V.str d.1 = V.str "cup") = true then (1 : Int) else 0) - 2 * (if decide (V.str d.1 = V.str "cap") = true then (1 : Int) else 0)), .ref r]) nb2
      have pp := TabsV.put ((tv.same s4).same s5) (s5 _ _ e4) (b := b2) (u := r) (by rw [upd_same, ek]) (hr.same s5)
      refine ⟨c, ws, _, rfl, rfl, s5 _ _ e4, by rw [tv.1]; exact small1000 (by omega), ws ++ [.ref b2], r, some (.ref b), ?_, L1.put nc (s4.trans s5), pp.1, pp.2⟩
      rw [← ek]
      rfl
    · obtain ⟨ws, u, y5, rfl, L1, tv, hu⟩ := pv
      refine ⟨_, rfl, q H' c ws (sH.trans L1.same) ncH L1.at_ ?_⟩
      rw [← hd.1]
      exact tv
end
end Own

namespace Own
open PySem PySem.Spec PyProof.Rows L2
/-! ### the law: the table of cords by their sides -/
theorem call_sumK {X : Cx} {K : PySem.W.Frag} (h : X.K = K) (hc : X.calm = true) : CallR X (.builtin "sum") (rSum K) := by
  subst h
  exact cr_sum hc
theorem ch_at {K : PySem.W.Frag} {H : Hp} {b : Addr} {t : Tr} (hb : H b = some (.tup (tv t))) {v : Nat} {k : Int} {σ : L2.St} {R : VK} (e7 : σ[7]? = some (some (.ref b))) (ev : σ[v]? = some (some (.int k))) (q : R (.bl (decide (t.1 ≤ k ∧ k < t.2.1))) H) :
    (tChain (rI0 fun i j => V.bl (decide (i ≤ j))) (rI0 fun i j => V.bl (decide (i < j))) (tOp (rIxB K) (tVar 7) (tC (V.int 0))) (tVar v) (tOp (rIxB K) (tVar 7) (tC (V.int 1)))) σ H R := by
  have hS : SqB K H b (tv t) := .inr (.inl (.inl hb))
  refine ⟨_, e7, b, _, _, _, rfl, rfl, hS, at_of (j := 0) rfl rfl, _, ev, _, _, rfl, rfl, _, rfl, ite2 (fun e => ?_) (fun e => ?_)⟩
  · have e : t.1 ≤ k := of_decide_eq_true e
    refine ⟨_, e7, b, _, _, _, rfl, rfl, hS, at_of (j := 1) rfl rfl, _, _, rfl, rfl, ?_⟩
    rw [show decide (t.1 ≤ k ∧ k < t.2.1) = decide (k < t.2.1) from decide_eq_decide.mpr ⟨fun z => z.2, fun z => ⟨e, z⟩⟩] at q
    exact q
  · rw [decide_eq_false (fun z => e (decide_eq_true z.1))] at q
    exact q
def sdB (i j : Int) (t : Tr) : Bool := decide (¬ ((t.1 ≤ i ∧ i < t.2.1) ↔ (t.1 ≤ j ∧ j < t.2.1)))
theorem sd_sum (i j : Int) : ∀ {cs : List Tr}, (∀ t ∈ cs, t.1 < t.2.1) → ((cs.filter (sdB i j)).map fun t => t.2.2).sum = tabE cs i j
  | [], _ => rfl
  | t :: r, h => by
    rw [tabE_cons (h t List.mem_cons_self), List.filter_cons, ← sd_sum i j fun e he => h e (List.mem_cons_of_mem _ he)]
    unfold dc
    by_cases c : (t.1 ≤ i ∧ i < t.2.1 ↔ t.1 ≤ j ∧ j < t.2.1)
    · rw [if_pos c, if_neg (by unfold sdB; simp [c])]
      omega
    · rw [if_neg c, if_pos (by unfold sdB; exact decide_eq_true c)]
      rw [List.map_cons, List.sum_cons]
section
variable {P : Program} {w : World} {K : PySem.W.Frag} {mg : Str → Option Value} {base : Heap} {C : Addr}
def spSid : Sp := fun vs H Q _ => ∃ (n : Int) (c : Addr) (cs : List Tr), vs = [.int n, .ref c] ∧ TripL H c cs ∧ (∀ t ∈ cs, t.1 < t.2.1) ∧ cs.length ≤ 1000 ∧ 0 ≤ n ∧ n ≤ 46 ∧ ∀ H' p, Same H H' → TabL H' p n (tabE cs) → Q (.ref p) H'
set_option maxHeartbeats 0 in
theorem ok_sid {f : Addr} {fd : FuncData} (F : Fun K "_law_sides_table" "_law_sides_table" s__law_sides_table f fd) (T : Bi mg) {f_g : Addr} {d_g : FuncData} (D_g : Df K mg "_law_gaps" s__law_gaps ["_law_pins"] f_g d_g) (G_g : FnOk P w K mg base CX0 1 f_g d_g ["_law_pins"] spGaps) : FnOk P w K mg base CX0 2 f fd ["_law_pins", "_law_bunch"] spSid := by
  refine F.ok sc__law_sides_table (fun vs H Q E h => ?_) (fun cdv A outer s H vs Q E hr h => ?_)
  · obtain ⟨n, c, cs, rfl, _⟩ := h
    rfl
  · obtain ⟨n, c, cs, rfl, hc, ho, hl, n0, n1, q⟩ := h
    refine ⟨_, (pss_cons (ps_set (i := 2) sc__law_sides_table.nd rfl (.inl rfl) (pe_call G_g (hr.mono (by decide)) (by rfl) D_g.g D_g.F.kp D_g.b .nil pass0 (pa_cons (pv 0) pa_nil)))
        (pss_cons (ps_set (i := 3) sc__law_sides_table.nd rfl (.inl rfl) (pe_lst pa_nil))
        (pss_cons (ps_for PassesOwn.never rfl (pi_range1 (by rfl) T.b_range (pa_cons (pv 2) pa_nil)) (pg_name (i := 4) sc__law_sides_table.nd rfl (.inr rfl))
        (pss_cons (ps_setLc (i := 5) (own := [("_law_j", 6)]) (g := gName 6) (tt := tYes) rfl sc__law_sides_table.nd rfl rfl (sw_true rfl rfl rfl (by decide +kernel)) (pi_range1 (by rfl) T.b_range (pa_cons (pv 2) pa_nil)) (blkOk_by (own := [("_law_j", 6)]) (N := ["_law_pins", "_law_bunch", "_law_size", "_law_rows", "_law_i", "_law_near", "_law_j", "_law_c"]) (sc := defScope s__law_sides_table) (by decide +kernel)) (fun _ _ _ _ _ => pg_name (i := 6) sc__law_sides_table.nd rfl (Or.inr rfl)) (fun _ _ _ _ _ => pts_nil) (fun _ _ _ _ _ => (pe_callB (r := rSum K) (call_sumK rfl rfl) (by rfl) T.b_sum (by decide +kernel) (pa_cons (show PE _ _ (tLc (iList K (tVar 1)) (gName 7) (tTest (tOp rNe (tChain (rI0 fun i j => V.bl (decide (i ≤ j))) (rI0 fun i j => V.bl (decide (i < j))) (tOp (rIxB K) (tVar 7) (tC (V.int 0))) (tVar 4) (tOp (rIxB K) (tVar 7) (tC (V.int 1)))) (tChain (rI0 fun i j => V.bl (decide (i ≤ j))) (rI0 fun i j => V.bl (decide (i < j))) (tOp (rIxB K) (tVar 7) (tC (V.int 0))) (tVar 6) (tOp (rIxB K) (tVar 7) (tC (V.int 1)))))) (tOp (rIxB K) (tVar 7) (tC (V.int 2))) [7]) from pe_lc (own := [("_law_c", 7)]) (g := gName 7) (tt := (tTest (tOp rNe (tChain (rI0 fun i j => V.bl (decide (i ≤ j))) (rI0 fun i j => V.bl (decide (i < j))) (tOp (rIxB K) (tVar 7) (tC (V.int 0))) (tVar 4) (tOp (rIxB K) (tVar 7) (tC (V.int 1)))) (tChain (rI0 fun i j => V.bl (decide (i ≤ j))) (rI0 fun i j => V.bl (decide (i < j))) (tOp (rIxB K) (tVar 7) (tC (V.int 0))) (tVar 6) (tOp (rIxB K) (tVar 7) (tC (V.int 1))))))) rfl sc__law_sides_table.nd (pi_list (pv 1)) (blkOk_by (own := [("_law_c", 7)]) (N := ["_law_pins", "_law_bunch", "_law_size", "_law_rows", "_law_i", "_law_near", "_law_j", "_law_c"]) (sc := { kind := .function, names := [(".0", .local), ("_law_j", .cell), ("sum", .globalImplicit), ("_law_bunch", .cell), ("_law_i", .cell)], isGenerator := false, isCoroutine := false }) (by decide +kernel)) (fun _ _ _ _ _ => pg_name (i := 7) sc__law_sides_table.nd rfl (Or.inl rfl)) (fun _ _ _ _ _ => pts_one (show PT _ _ (tTest (tOp rNe (tChain (rI0 fun i j => V.bl (decide (i ≤ j))) (rI0 fun i j => V.bl (decide (i < j))) (tOp (rIxB K) (tVar 7) (tC (V.int 0))) (tVar 4) (tOp (rIxB K) (tVar 7) (tC (V.int 1)))) (tChain (rI0 fun i j => V.bl (decide (i ≤ j))) (rI0 fun i j => V.bl (decide (i < j))) (tOp (rIxB K) (tVar 7) (tC (V.int 0))) (tVar 6) (tOp (rIxB K) (tVar 7) (tC (V.int 1)))))) from (pt_cmpR op_ne (pe_chain op_le op_lt (pe_ix (r := rIxB K) ix_seqB (pv 7) pe_int (fun _ _ => rfl)) (pv 4) (pe_ix (r := rIxB K) ix_seqB (pv 7) pe_int (fun _ _ => rfl))) (pe_chain op_le op_lt (pe_ix (r := rIxB K) ix_seqB (pv 7) pe_int (fun _ _ => rfl)) (pv 6) (pe_ix (r := rIxB K) ix_seqB (pv 7) pe_int (fun _ _ => rfl))) (nomark _)))) (fun _ _ _ _ _ => (show PE _ _ (tOp (rIxB K) (tVar 7) (tC (V.int 2))) from (pe_ix (r := rIxB K) ix_seqB (pv 7) pe_int (fun _ _ => rfl))))) pa_nil))))
        (pss_one (ps_expr (pe_bm PySem.F.plainAttrs_list PySem.F.slot_list_append PySem.F.type_list_append mt_append (pv 3) (pa_cons (pv 5) pa_nil))))))
        (pss_one (ps_ret (pv 3)))))), ?_⟩
    have hh := lo_hi n 1
    obtain ⟨us, ec, tc⟩ := hc
    refine ⟨_, rfl, n, rfl, by show 0 ≤ sizeLine; decide, fun D nD => ⟨_, rfl, hi n 1, rfl, by omega, by omega, for_range (lo := 0) (n := (hi n 1).toNat) (fun i σ H' => (∃ y4 y5 y6 y7, σ = [some (.int n), some (.ref c), some (.int (hi n 1)), some (.ref D), y4, y5, y6, y7]) ∧ RowsI H D (hi n 1) (tabE cs) i H') ⟨⟨_, _, _, _, rfl⟩, RowsI.start nD⟩ (fun i σ H1 hi1 pv => ?_) (fun σ H' pv => ?_)⟩⟩
    · obtain ⟨⟨y4, y5, y6, y7, rfl⟩, R1⟩ := pv
      refine ⟨_, rfl, hi n 1, rfl, by omega, by omega, fun E nE => ?_⟩
      refine lc_range (lo := 0) (n := (hi n 1).toNat) (fun j H' => LcI H1 E (gl (j : Int) (tabE cs i)) H') (LcI.start nE) (fun j H2 hj L => ?_) (fun H2 L => ?_)
      · have ec2 := L.same _ _ (R1.same _ _ ec)
        have tc2 := (tc.same R1.same).same L.same
        refine ⟨rfl, _, rfl, c, rfl, ⟨_, .inl (.inl ec2)⟩, fun G nG => ?_⟩
        refine lc_list (K := K) (a := c) (xs := us) (fun k H' => LcI H2 G (((cs.take k).filter (sdB i j)).map fun t => V.int t.2.2) H') (LcI.start nG) (fun k H' _ L2 => .inl (.inl (L2.same _ _ ec2))) (fun k x H3 ex L2 => ?_) (fun H3 L2 => ?_)
        · obtain ⟨b, t, rfl, ht, hb⟩ := (tc2.same L2.same).at_ ex
          have kl : k < cs.length := (List.getElem?_eq_some_iff.mp ht).1
          have tk : cs.take (k + 1) = cs.take k ++ [t] := by rw [List.take_add_one, ht]; rfl
          have hS : SqB K H3 b (tv t) := .inr (.inl (.inl hb))
          rw [tk, List.filter_append]
          refine ⟨rfl, ch_at hb rfl rfl (ch_at hb rfl rfl ⟨rfl, _, rfl, ?_⟩)⟩
          have fin : ∀ p : Bool, p = sdB i j t → (if p = true then (tOp (rIxB K) (tVar 7) (tC (V.int 2))) [some (V.int n), some (V.ref c), some (V.int (hi n 1)), some (V.ref D), some (.int (0 + (i : Int))), y5, some (.int (0 + (j : Int))), some (.ref b)] H3 (fun y H4 => ∃ acc, H4 G = some (.lst acc) ∧ acc.length < sizeLine ∧ LcI H2 G ((((cs.take k).filter (sdB i j) ++ [t].filter (sdB i j))).map fun t => V.int t.2.2) (upd H4 G (.lst (acc ++ [y])))) else LcI H2 G ((((cs.take k).filter (sdB i j) ++ [t].filter (sdB i j))).map fun t => V.int t.2.2) H3) := fun p hp => by
            by_cases c1 : p = true
            · rw [if_pos c1]
              rw [hp] at c1
              rw [List.filter_cons, if_pos c1, List.filter_nil, List.map_append]
              refine ⟨_, rfl, b, _, _, _, rfl, rfl, hS, at_of (j := 2) rfl rfl, _, L2.at_, ?_, L2.put nG (Same.refl _)⟩
              rw [List.length_map]
              refine Nat.lt_of_le_of_lt (List.length_filter_le _ _) (small1000 ?_)
              rw [List.length_take]
              omega
            · rw [if_neg c1]
              rw [hp] at c1
              rw [List.filter_cons, if_neg c1, List.filter_nil, List.append_nil]
              exact L2
          refine fin _ ?_
          unfold sdB
          rw [Int.zero_add, Int.zero_add]
          by_cases c1 : t.1 ≤ (i : Int) ∧ (i : Int) < t.2.1 <;> by_cases c2 : t.1 ≤ (j : Int) ∧ (j : Int) < t.2.1 <;> simp [c1, c2]
        · have hlu : us.length = cs.length := tc.1
          rw [hlu, List.take_length] at L2
          refine ⟨G, (cs.filter (sdB i j)).map fun t => t.2.2, rfl, .inl (.inl (by rw [L2.at_, List.map_map]; rfl)), ?_⟩
          rw [sd_sum _ _ ho]
          refine ⟨_, L2.same _ _ L.at_, by rw [gl_len]; exact small1000 (by omega), ?_⟩
          have e : gl ((j + 1 : Nat) : Int) (tabE cs i) = gl (j : Int) (tabE cs i) ++ [.int (tabE cs i j)] := by
            rw [show ((j + 1 : Nat) : Int) = (j : Int) + 1 by omega, gl_snoc (by omega)]
          rw [e]
          exact L.put nE L2.same
      · rw [show (((hi n 1).toNat : Nat) : Int) = hi n 1 by omega] at L
        obtain ⟨acc, f1, f2, f3⟩ := R1.snoc nD (by omega) nE L.same L.at_
        exact ⟨_, rfl, .inl ⟨rfl, _, .inl (.inl f1)⟩, _, rfl, D, acc, _, rfl, rfl, f1, f2, ⟨_, _, _, _, rfl⟩, f3⟩
    · obtain ⟨⟨y4, y5, y6, y7, rfl⟩, R1⟩ := pv
      obtain ⟨rs, g, _⟩ := R1.grid nD
      exact ⟨_, rfl, q H' D R1.same ⟨rs, g⟩⟩
end
end Own

namespace Own
open PySem PySem.Spec PyProof.Rows L2
/-! ### the law: the table with one pin dropped -/
theorem call_minK {X : Cx} {K : PySem.W.Frag} (h : X.K = K) (hc : X.calm = true) : CallR X (.builtin "min") (rMin K) := by
  subst h
  exact cr_min hc
theorem ix2 {K : PySem.W.Frag} {H : Hp} {p : Addr} {n a b : Int} {T : Int → Int → Int} (h : TabL H p n T) (a0 : 0 ≤ a) (a1 : a < hi n 1) (b0 : 0 ≤ b) (b1 : b < hi n 1) {v1 v2 v3 : Nat} {σ : L2.St} {R : VK} (e1 : σ[v1]? = some (some (.ref p))) (e2 : σ[v2]? = some (some (.int a))) (e3 : σ[v3]? = some (some (.int b))) (q : R (.int (T a b)) H) :
    (tOp (rIxB K) (tOp (rIxB K) (tVar v1) (tVar v2)) (tVar v3)) σ H R := by
  obtain ⟨rs, g⟩ := h
  obtain ⟨r, f1, f2, f3⟩ := g.get a0 a1
  exact ⟨_, e1, _, e2, p, _, _, _, rfl, rfl, .inl (.inl (.inl g.at_)), f2, _, e3, r, _, _, _, rfl, rfl, .inl (.inl (.inl f3)), gl_atI _ b0 b1, q⟩
/-- the law's table with the pin x dropped, l the gap before x -/
def dwF (T : Int → Int → Int) (l x i j : Int) : Int := mn3 (T i j) (T i l + T x j) (T i x + T l j) * (if i = j then 0 else 1)
section
variable {P : Program} {w : World} {K : PySem.W.Frag} {mg : Str → Option Value} {base : Heap} {C : Addr}
def spDpt : Sp := fun vs H Q _ => ∃ (n x : Int) (p : Addr) (T : Int → Int → Int), vs = [.int n, .ref p, .int x] ∧ TabL H p n T ∧ (∀ k, T k k = 0) ∧ 2 ≤ n ∧ n ≤ 46 ∧ 0 ≤ x ∧ x < n ∧ ∀ H' r, Same H H' → TabL H' r (n - 1) (fun i j => dwF T ((x - 1).fmod n) x (upG x i) (upG x j)) → Q (.ref r) H'
set_option maxHeartbeats 0 in
theorem ok_dpt {f : Addr} {fd : FuncData} (F : Fun K "_law_dropped_table" "_law_dropped_table" s__law_dropped_table f fd) (T : Bi mg) : FnOk P w K mg base CX0 1 f fd ["_law_pins", "_law_table", "_law_pin"] spDpt := by
  refine F.ok sc__law_dropped_table (fun vs H Q E h => ?_) (fun cdv A outer s H vs Q E hr h => ?_)
  · obtain ⟨n, x, p, F, rfl, _⟩ := h
    rfl
  · obtain ⟨n, x, p, F, rfl, hp, dg, n2, n1, x0, x1, q⟩ := h
    refine ⟨_, (pss_cons (ps_set (i := 3) sc__law_dropped_table.nd rfl (.inl rfl) (pe_op op_modN (pe_callTy call_int1 (by rfl) T.b_int (by decide +kernel) (pa_cons (pe_op op_sub (pv 2) pe_int) pa_nil)) (pv 0)))
        (pss_cons (ps_setLc (i := 4) (own := [("_law_k", 9)]) (g := gName 9) rfl sc__law_dropped_table.nd rfl rfl (sw_true rfl rfl rfl (by decide +kernel)) (pi_range1 (by rfl) T.b_range (pa_cons (pv 0) pa_nil)) (blkOk_by (own := [("_law_k", 9)]) (N := ["_law_pins", "_law_table", "_law_pin", "_law_left", "_law_kept", "_law_rows", "_law_i", "_law_row", "_law_j", "_law_k", "_law_ways"]) (sc := defScope s__law_dropped_table) (by decide +kernel)) (fun _ _ _ _ _ => (pg_name (i := 9) sc__law_dropped_table.nd rfl (.inl rfl))) (fun _ _ _ _ _ => pts_one (pt_cmpR op_ne (pv 9) (pv 2) (nomark _))) (fun _ _ _ _ _ => (pv 9)))
        (pss_cons (ps_if (pt_cmpR op_eq (pe_callB call_len_seq (by rfl) T.b_len PySem.boot_len (pa_cons (pv 4) pa_nil)) pe_int (nomark _)) (pss_one (ps_ret (pe_lst (pa_cons (pe_lst (pa_cons pe_int pa_nil)) pa_nil)))) pss_nil)
        (pss_cons (ps_set (i := 5) sc__law_dropped_table.nd rfl (.inl rfl) (pe_lst pa_nil))
        (pss_cons (ps_for PassesOwn.never rfl (pi_list (pv 4)) (pg_name (i := 6) sc__law_dropped_table.nd rfl (.inl rfl))
        (pss_cons (ps_set (i := 7) sc__law_dropped_table.nd rfl (.inl rfl) (pe_lst pa_nil))
        (pss_cons (ps_for PassesOwn.never rfl (pi_list (pv 4)) (pg_name (i := 8) sc__law_dropped_table.nd rfl (.inl rfl))
        (pss_cons (ps_set (i := 10) sc__law_dropped_table.nd rfl (.inl rfl) (pe_lst (pa_cons (pe_ix (r := rIxB K) ix_seqB (pe_ix (r := rIxB K) ix_seqB (pv 1) (pv 6) (fun _ _ => rfl)) (pv 8) (fun _ _ => rfl)) (pa_cons (pe_op op_add (pe_ix (r := rIxB K) ix_seqB (pe_ix (r := rIxB K) ix_seqB (pv 1) (pv 6) (fun _ _ => rfl)) (pv 3) (fun _ _ => rfl)) (pe_ix (r := rIxB K) ix_seqB (pe_ix (r := rIxB K) ix_seqB (pv 1) (pv 2) (fun _ _ => rfl)) (pv 8) (fun _ _ => rfl))) (pa_cons (pe_op op_add (pe_ix (r := rIxB K) ix_seqB (pe_ix (r := rIxB K) ix_seqB (pv 1) (pv 6) (fun _ _ => rfl)) (pv 2) (fun _ _ => rfl)) (pe_ix (r := rIxB K) ix_seqB (pe_ix (r := rIxB K) ix_seqB (pv 1) (pv 3) (fun _ _ => rfl)) (pv 8) (fun _ _ => rfl))) pa_nil)))))
        (pss_cons (ps_if (pt_cmpR op_eq (pv 6) (pv 3) (nomark _)) (pss_one (ps_set (i := 10) sc__law_dropped_table.nd rfl (.inl rfl) (pe_op op_cat (pv 10) (pe_lst (pa_cons (pe_ix (r := rIxB K) ix_seqB (pe_ix (r := rIxB K) ix_seqB (pv 1) (pv 2) (fun _ _ => rfl)) (pv 8) (fun _ _ => rfl)) pa_nil))))) pss_nil)
        (pss_cons (ps_if (pt_cmpR op_eq (pv 8) (pv 3) (nomark _)) (pss_one (ps_set (i := 10) sc__law_dropped_table.nd rfl (.inl rfl) (pe_op op_cat (pv 10) (pe_lst (pa_cons (pe_ix (r := rIxB K) ix_seqB (pe_ix (r := rIxB K) ix_seqB (pv 1) (pv 6) (fun _ _ => rfl)) (pv 2) (fun _ _ => rfl)) pa_nil))))) pss_nil)
        (pss_one (ps_expr (pe_bm PySem.F.plainAttrs_list PySem.F.slot_list_append PySem.F.type_list_append mt_append (pv 7) (pa_cons (pe_op op_mul (pe_callB (r := rMin K) (call_minK rfl rfl) (by rfl) T.b_min (by decide +kernel) (pa_cons (pv 10) pa_nil)) (pe_callTy call_int1 (by rfl) T.b_int (by decide +kernel) (pa_cons (pe_cmpR op_ne (pv 6) (pv 8) (nomark _)) pa_nil))) pa_nil))))))))
        (pss_one (ps_expr (pe_bm PySem.F.plainAttrs_list PySem.F.slot_list_append PySem.F.type_list_append mt_append (pv 5) (pa_cons (pv 7) pa_nil)))))))
        (pss_one (ps_ret (pv 5)))))))), ?_⟩
    have hh : hi n 1 = n := by have := lo_hi n 1; omega
    have hh1 : hi (n - 1) 1 = n - 1 := by have := lo_hi (n - 1) 1; omega
    have fl := fmod_in (x - 1) (show 0 < n by omega)
    refine ⟨_, rfl, _, _, rfl, rfl, .inl ⟨_, rfl, _, rfl, _, _, rfl, rfl, by omega, ?_⟩⟩
    have ne : ∀ {x y : Int}, (!decide (V.int x = V.int y)) = true ↔ x ≠ y := fun {x y} => by
      by_cases z : x = y
      · rw [z, decide_eq_true rfl]
        exact ⟨fun w => (by cases w), fun w => absurd rfl w⟩
      · rw [decide_eq_false fun w => z (V.int.inj w)]
        exact ⟨fun _ => z, fun _ => rfl⟩
    have eq : ∀ {x y : Int}, decide (V.int x = V.int y) = true ↔ x = y := fun {x y} => ⟨fun z => V.int.inj (of_decide_eq_true z), fun z => decide_eq_true (congrArg V.int z)⟩
    refine ⟨_, rfl, n, rfl, by omega, by omega, fun D nD => ?_⟩
    refine lc_range (lo := 0) (n := n.toNat) (fun i H' => LcI H D (gl (if (i : Int) ≤ x then (i : Int) else (i : Int) - 1) (upG x)) H') (by rw [if_pos (by omega)]; exact LcI.start nD) (fun i H1 hi1 L => ?_) (fun H1 L => ?_)
    · refine ⟨rfl, _, rfl, _, rfl, rfl, _, rfl, ite2 (fun c => ?_) (fun c => ?_)⟩
      · have c := ne.mp c
        refine ⟨_, rfl, _, L.at_, by rw [gl_len]; exact small1000 (by split <;> omega), ?_⟩
        have e : gl (if ((i + 1 : Nat) : Int) ≤ x then ((i + 1 : Nat) : Int) else ((i + 1 : Nat) : Int) - 1) (upG x) = gl (if (i : Int) ≤ x then (i : Int) else (i : Int) - 1) (upG x) ++ [.int (0 + (i : Int))] := by
          by_cases z : (i : Int) < x
          · rw [if_pos (by omega), if_pos (by omega), show ((i + 1 : Nat) : Int) = (i : Int) + 1 by omega, gl_snoc (by omega)]
            unfold upG
            rw [if_pos z, Int.zero_add]
          · rw [if_neg (by omega), if_neg (by omega), show ((i + 1 : Nat) : Int) - 1 = ((i : Int) - 1) + 1 by omega, gl_snoc (by omega)]
            unfold upG
            rw [if_neg (by omega), show (i : Int) - 1 + 1 = 0 + (i : Int) by omega]
        rw [e]
        exact L.put nD (Same.refl _)
      · have c : (0 : Int) + (i : Int) = x := Classical.byContradiction fun z => c (ne.mpr z)
        have e : (if ((i + 1 : Nat) : Int) ≤ x then ((i + 1 : Nat) : Int) else ((i + 1 : Nat) : Int) - 1) = (if (i : Int) ≤ x then (i : Int) else (i : Int) - 1) := by
          split <;> split <;> omega
        rw [e]
        exact L
    rw [if_neg (by omega), show ((n.toNat : Nat) : Int) - 1 = n - 1 by omega] at L
    have eD := L.at_
    refine ⟨_, rfl, D, _, rfl, .inl (.inl (.inl eD)), rfl, _, rfl, ite2 (fun c => absurd (eq.mp c) (by rw [gl_len]; omega)) (fun _ => ?_)⟩
    refine ⟨by show 0 ≤ sizeLine; decide, fun O nO => ?_⟩
    have eDO : D ≠ O := fun z => by rw [← z, eD] at nO; cases nO
    refine ⟨_, rfl, D, rfl, ⟨_, .inl (.inl (by rw [upd_ne eDO]; exact eD))⟩, ?_⟩
    refine for_list (xs := gl (n - 1) (upG x)) (fun i σ H' => (∃ y6 y7 y8 y9 y10, σ = [some (.int n), some (.ref p), some (.int x), some (.int ((x - 1).fmod n)), some (.ref D), some (.ref O), y6, y7, y8, y9, y10]) ∧ RowsI H1 O (n - 1) (fun i j => dwF F ((x - 1).fmod n) x (upG x i) (upG x j)) i H') ⟨⟨_, _, _, _, _, rfl⟩, RowsI.start nO⟩ (fun i σ H' _ pv => .inl (.inl (pv.2.same _ _ eD))) (fun i v σ H2 hv pv => ?_) (fun σ H' pv => ?_)
    · obtain ⟨⟨y6, y7, y8, y9, y10, rfl⟩, R1⟩ := pv
      obtain ⟨rfl, i1⟩ := gl_nat hv
      have eD2 := R1.same _ _ eD
      refine ⟨by show 0 ≤ sizeLine; decide, fun R nR => ?_⟩
      have eDR : D ≠ R := fun z => by rw [← z, eD2] at nR; cases nR
      refine ⟨_, rfl, D, rfl, ⟨_, .inl (.inl (by rw [upd_ne eDR]; exact eD2))⟩, ?_⟩
      refine for_list (xs := gl (n - 1) (upG x)) (fun j σ H' => (∃ y8 y9 y10, σ = [some (.int n), some (.ref p), some (.int x), some (.int ((x - 1).fmod n)), some (.ref D), some (.ref O), some (.int (upG x i)), some (.ref R), y8, y9, y10]) ∧ LcI H2 R (gl (j : Int) fun j => dwF F ((x - 1).fmod n) x (upG x i) (upG x j)) H') ⟨⟨_, _, _, rfl⟩, LcI.start nR⟩ (fun j σ H' _ pv => .inl (.inl (pv.2.same _ _ eD2))) (fun j v σ H3 hv pv => ?_) (fun σ H' pv => ?_)
      · obtain ⟨⟨y8, y9, y10, rfl⟩, L3⟩ := pv
        obtain ⟨rfl, j1⟩ := gl_nat hv
        have u0 : ∀ k : Int, 0 ≤ k → k < n - 1 → 0 ≤ upG x k ∧ upG x k < hi n 1 := fun k k0 k1 => by unfold upG; split <;> omega
        obtain ⟨X0, X1⟩ := u0 i (by omega) i1
        obtain ⟨Y0, Y1⟩ := u0 j (by omega) j1
        have nXY : (upG x (i : Int) = upG x (j : Int)) ↔ i = j := by unfold upG; split <;> split <;> omega
        have h3 := (((hp.same (L.same)).same R1.same).same L3.same)
        have sn : gl ((j + 1 : Nat) : Int) (fun j => dwF F ((x - 1).fmod n) x (upG x i) (upG x j)) = gl (j : Int) (fun j => dwF F ((x - 1).fmod n) x (upG x i) (upG x j)) ++ [.int (dwF F ((x - 1).fmod n) x (upG x i) (upG x j))] := by
          rw [show ((j + 1 : Nat) : Int) = (j : Int) + 1 by omega, gl_snoc (by omega)]
        rw [sn]
        generalize upG x (i : Int) = X at *
        generalize upG x (j : Int) = Y at *
        generalize (x - 1).fmod n = l at *
        have l0 := fl.1
        have l1 : l < hi n 1 := by omega
        have x1' : x < hi n 1 := by omega
        have mn := mn3_le (F X Y) (F X l + F x Y) (F X x + F l Y)
        have fin : ∀ (H5 : Hp) (W : Addr) (ns : List Int) (y9 : Option V) (Rr : VK), H5 W = some (.lst (ns.map V.int)) → mn3 (F X Y) (F X l + F x Y) (F X x + F l Y) ∈ ns → (∀ y ∈ ns, mn3 (F X Y) (F X l + F x Y) (F X x + F l Y) ≤ y) → Rr (.int (mn3 (F X Y) (F X l + F x Y) (F X x + F l Y))) H5 →
            (tCB (rMin K) (tCons (tVar 10) tNil)) [some (.int n), some (.ref p), some (.int x), some (.int l), some (.ref D), some (.ref O), some (.int X), some (.ref R), some (.int Y), y9, some (.ref W)] H5 Rr := fun H5 W ns y9 Rr e5 m1 m2 qq => by
          refine ⟨_, rfl, W, ns, rfl, .inl (.inl e5), List.length_pos_of_mem m1, fun m hm1 hm2 => ?_⟩
          have a1 := m2 m hm1
          have a2 := hm2 _ m1
          rw [show m = mn3 (F X Y) (F X l + F x Y) (F X x + F l Y) by omega]
          exact qq
        have vl : ∀ b : Bool, b = (!decide (V.int X = V.int Y)) → mn3 (F X Y) (F X l + F x Y) (F X x + F l Y) * (if b = true then 1 else 0) = dwF F l x X Y := fun b hb => by
          unfold dwF
          by_cases z : X = Y
          · rw [if_pos z, if_neg (by rw [hb]; exact fun w => ne.mp w z)]
          · rw [if_neg z, if_pos (by rw [hb]; exact ne.mpr z)]
        have lj : (gl (j : Int) fun j => dwF F l x X (upG x j)).length < sizeLine := by rw [gl_len]; exact small1000 (by omega)
        refine ix2 h3 X0 X1 Y0 Y1 rfl rfl rfl (ix2 h3 X0 X1 l0 l1 rfl rfl rfl (ix2 h3 x0 x1' Y0 Y1 rfl rfl rfl ⟨_, _, rfl, rfl, ix2 h3 X0 X1 x0 x1' rfl rfl rfl (ix2 h3 l0 l1 Y0 Y1 rfl rfl rfl ⟨_, _, rfl, rfl, by show 3 ≤ sizeLine; decide, fun G nG => ?_⟩)⟩))
        have s4 := same_upd (o := .lst ([F X Y, F X l + F x Y, F X x + F l Y].map V.int)) nG
        have h4 := h3.same s4
        refine ⟨_, rfl, _, rfl, rfl, _, rfl, ite2 (fun c1 => ?_) (fun c1 => ?_)⟩
        · have c1 : X = l := eq.mp c1
          have d1 : F X l = 0 := by rw [c1]; exact dg l
          refine ⟨_, rfl, ix2 h4 x0 x1' Y0 Y1 rfl rfl rfl ⟨by show 1 ≤ sizeLine; decide, fun G2 n2' => ?_⟩⟩
          have s5 := s4.trans (same_upd (o := .lst [.int (F x Y)]) n2')
          refine ⟨G, G2, _, _, rfl, rfl, (same_upd n2') _ _ upd_same, upd_same, by show 4 ≤ sizeLine; decide, fun G3 n3 => ?_⟩
          have s6 := s5.trans (same_upd (o := .lst ([F X Y, F X l + F x Y, F X x + F l Y, F x Y].map V.int)) n3)
          have h6 := h3.same s6
          refine ⟨_, rfl, _, rfl, rfl, _, rfl, ite2 (fun c2 => ?_) (fun c2 => ?_)⟩
          · have c2 : Y = l := eq.mp c2
            have d2 : F l Y = 0 := by rw [c2]; exact dg l
            refine ⟨_, rfl, ix2 h6 X0 X1 x0 x1' rfl rfl rfl ⟨by show 1 ≤ sizeLine; decide, fun G4 n4 => ?_⟩⟩
            refine ⟨G3, G4, _, _, rfl, rfl, (same_upd n4) _ _ upd_same, upd_same, by show 5 ≤ sizeLine; decide, fun G5 n5 => ?_⟩
            have st := (s6.trans (same_upd (o := .lst [.int (F X x)]) n4)).trans (same_upd (o := .lst ([F X Y, F X l + F x Y, F X x + F l Y, F x Y, F X x].map V.int)) n5)
            refine ⟨_, rfl, .inl ⟨rfl, _, .inl (.inl (st _ _ L3.at_))⟩, fin _ G5 [F X Y, F X l + F x Y, F X x + F l Y, F x Y, F X x] _ _ upd_same (by rcases mn.2.2.2 with z | z | z <;> simp [z]) (fun y hy => by simp only [List.mem_cons, List.not_mem_nil, or_false] at hy; rcases hy with rfl | rfl | rfl | rfl | rfl <;> omega) ?_⟩
            refine ⟨_, rfl, _, rfl, rfl, .inr ⟨_, rfl, _, _, rfl, rfl, .inr ⟨by split <;> decide, by split <;> decide⟩, R, _, _, rfl, rfl, st _ _ L3.at_, lj, ⟨_, _, _, rfl⟩, ?_⟩⟩
            dsimp only
            rw [vl _ rfl]
            exact L3.put nR st
          · have st := s6
            refine ⟨_, rfl, .inl ⟨rfl, _, .inl (.inl (st _ _ L3.at_))⟩, fin _ G3 [F X Y, F X l + F x Y, F X x + F l Y, F x Y] _ _ upd_same (by rcases mn.2.2.2 with z | z | z <;> simp [z]) (fun y hy => by simp only [List.mem_cons, List.not_mem_nil, or_false] at hy; rcases hy with rfl | rfl | rfl | rfl <;> omega) ?_⟩
            refine ⟨_, rfl, _, rfl, rfl, .inr ⟨_, rfl, _, _, rfl, rfl, .inr ⟨by split <;> decide, by split <;> decide⟩, R, _, _, rfl, rfl, st _ _ L3.at_, lj, ⟨_, _, _, rfl⟩, ?_⟩⟩
            dsimp only
            rw [vl _ rfl]
            exact L3.put nR st
        · refine ⟨_, rfl, _, rfl, rfl, _, rfl, ite2 (fun c2 => ?_) (fun c2 => ?_)⟩
          · have c2 : Y = l := eq.mp c2
            have d2 : F l Y = 0 := by rw [c2]; exact dg l
            refine ⟨_, rfl, ix2 h4 X0 X1 x0 x1' rfl rfl rfl ⟨by show 1 ≤ sizeLine; decide, fun G4 n4 => ?_⟩⟩
            refine ⟨G, G4, _, _, rfl, rfl, (same_upd n4) _ _ upd_same, upd_same, by show 4 ≤ sizeLine; decide, fun G5 n5 => ?_⟩
            have st := (s4.trans (same_upd (o := .lst [.int (F X x)]) n4)).trans (same_upd (o := .lst ([F X Y, F X l + F x Y, F X x + F l Y, F X x].map V.int)) n5)
            refine ⟨_, rfl, .inl ⟨rfl, _, .inl (.inl (st _ _ L3.at_))⟩, fin _ G5 [F X Y, F X l + F x Y, F X x + F l Y, F X x] _ _ upd_same (by rcases mn.2.2.2 with z | z | z <;> simp [z]) (fun y hy => by simp only [List.mem_cons, List.not_mem_nil, or_false] at hy; rcases hy with rfl | rfl | rfl | rfl <;> omega) ?_⟩
            refine ⟨_, rfl, _, rfl, rfl, .inr ⟨_, rfl, _, _, rfl, rfl, .inr ⟨by split <;> decide, by split <;> decide⟩, R, _, _, rfl, rfl, st _ _ L3.at_, lj, ⟨_, _, _, rfl⟩, ?_⟩⟩
            dsimp only
            rw [vl _ rfl]
            exact L3.put nR st
          · have st := s4
            refine ⟨_, rfl, .inl ⟨rfl, _, .inl (.inl (st _ _ L3.at_))⟩, fin _ G [F X Y, F X l + F x Y, F X x + F l Y] _ _ upd_same (by rcases mn.2.2.2 with z | z | z <;> simp [z]) (fun y hy => by simp only [List.mem_cons, List.not_mem_nil, or_false] at hy; rcases hy with rfl | rfl | rfl <;> omega) ?_⟩
            refine ⟨_, rfl, _, rfl, rfl, .inr ⟨_, rfl, _, _, rfl, rfl, .inr ⟨by split <;> decide, by split <;> decide⟩, R, _, _, rfl, rfl, st _ _ L3.at_, lj, ⟨_, _, _, rfl⟩, ?_⟩⟩
            dsimp only
            rw [vl _ rfl]
            exact L3.put nR st
      · obtain ⟨⟨y8, y9, y10, rfl⟩, L3⟩ := pv
        rw [gl_len, show (((n - 1).toNat : Nat) : Int) = n - 1 by omega] at L3
        obtain ⟨acc, f1, f2, f3⟩ := R1.snoc nO (by omega) nR L3.same L3.at_
        exact ⟨_, rfl, .inl ⟨rfl, _, .inl (.inl f1)⟩, _, rfl, O, acc, _, rfl, rfl, f1, f2, ⟨_, _, _, _, _, rfl⟩, f3⟩
    · obtain ⟨⟨y6, y7, y8, y9, y10, rfl⟩, R1⟩ := pv
      rw [gl_len] at R1
      obtain ⟨rs, g, _⟩ := R1.grid nO
      refine ⟨_, rfl, q H' O (L.same.trans R1.same) ⟨rs, ?_⟩⟩
      rw [hh1]
      exact g
end
end Own

namespace Own
open PySem PySem.Spec PyProof.Rows L2
/-- a list of pairs, each a tuple -/
def PairsV (H : Hp) (bs : List Addr) (ps : List (Int × Int)) : Prop := bs.length = ps.length ∧ ∀ (i : Nat) (b : Addr) (p : Int × Int), bs[i]? = some b → ps[i]? = some p → H b = some (.tup [.int p.1, .int p.2])
theorem PairsV.sameT {H H' : Hp} {bs : List Addr} {ps : List (Int × Int)} (s : SameT H H') (h : PairsV H bs ps) : PairsV H' bs ps := ⟨h.1, fun i b p e1 e2 => s _ _ (h.2 i b p e1 e2)⟩
theorem PairsV.snoc {H : Hp} {bs : List Addr} {ps : List (Int × Int)} {b : Addr} {p : Int × Int} (h : PairsV H bs ps) (e : H b = some (.tup [.int p.1, .int p.2])) : PairsV H (bs ++ [b]) (ps ++ [p]) := by
  refine ⟨by rw [List.length_append, List.length_append, h.1]; rfl, fun i c q h1 h2 => ?_⟩
  by_cases hi : i < bs.length
  · rw [List.getElem?_append_left hi] at h1
    rw [List.getElem?_append_left (by rw [← h.1]; exact hi)] at h2
    exact h.2 i c q h1 h2
  · rw [List.getElem?_append_right (by omega)] at h1
    rw [List.getElem?_append_right (by rw [← h.1]; omega), ← h.1] at h2
    have hk : i - bs.length = 0 := by
      cases hk : i - bs.length with
      | zero => rfl
      | succ k =>
        rw [hk] at h1
        simp at h1
    rw [hk] at h1 h2
    obtain rfl : b = c := Option.some.inj h1
    obtain rfl : p = q := Option.some.inj h2
    exact e
theorem PairsV.at_ {H : Hp} {bs : List Addr} {ps : List (Int × Int)} (h : PairsV H bs ps) {b : Addr} (m : b ∈ bs) : ∃ p ∈ ps, H b = some (.tup [.int p.1, .int p.2]) := by
  obtain ⟨i, hi, e⟩ := List.mem_iff_getElem.mp m
  have hp : i < ps.length := by
    rw [← h.1]
    exact hi
  exact ⟨ps[i], List.getElem_mem hp, h.2 i b ps[i] (by rw [List.getElem?_eq_getElem hi, e]) (List.getElem?_eq_getElem hp)⟩
/-- as data -/
def pd (p : Int × Int) : PyData := .tuple [.int p.1, .int p.2]
theorem PairsV.dp {K : PySem.W.Frag} {H : Hp} : ∀ {bs : List Addr} {ps : List (Int × Int)}, PairsV H bs ps → DpAll K H (bs.map V.ref) (ps.map pd)
  | [], [], _ => .nil
  | [], _ :: _, h => by have := h.1; simp at this
  | _ :: _, [], h => by have := h.1; simp at this
  | b :: bs, p :: ps, h => .cons (.tup (.inl (.inl (h.2 0 b p rfl rfl))) (.cons (.int _) (.cons (.int _) .nil))) (PairsV.dp ⟨by have := h.1; simpa using this, fun i c q h1 h2 => h.2 (i + 1) c q h1 h2⟩)
theorem pd_eqv (p q : Int × Int) : PyData.eqv (pd p) (pd q) = decide (p = q) := by
  unfold pd
  simp only [PyData.eqv, PyData.eqvAll, Bool.and_true]
  by_cases h : p = q
  · subst h
    simp
  · rw [decide_eq_false h]
    by_cases h1 : p.1 = q.1
    · have h2 : ¬ p.2 = q.2 := fun z => h (Prod.ext h1 z)
      simp [h1, h2]
    · simp [h1]
theorem any_pd (p : Int × Int) (ps : List (Int × Int)) : ((ps.map pd).any fun z => PyData.eqv z (pd p)) = decide (p ∈ ps) := by
  rw [List.any_map]
  induction ps with
  | nil => rfl
  | cons q r ih =>
    rw [List.any_cons, ih]
    show (PyData.eqv (pd q) (pd p) || decide (p ∈ r)) = _
    rw [pd_eqv]
    by_cases h : q = p
    · subst h
      simp
    · have h2 : ¬ p = q := fun z => h z.symm
      simp [h, h2]
theorem shaped_pd (p : Int × Int) : SeqAt.shaped (pd p) = true := by
  unfold SeqAt.shaped pd
  simp [PyData.canLay0, PyData.canLayAll0, PyData.depth, PyData.depthAll]
theorem lay_pds : ∀ ps : List (Int × Int), PyData.canLayAll0 (ps.map pd) = true ∧ PyData.depthAll (ps.map pd) ≤ 1
  | [] => ⟨rfl, Nat.zero_le _⟩
  | p :: r => by
    obtain ⟨h1, h2⟩ := lay_pds r
    refine ⟨?_, ?_⟩
    · show (PyData.canLay0 (pd p) && PyData.canLayAll0 (r.map pd)) = true
      rw [h1]
      rfl
    · show max (PyData.depth (pd p)) (PyData.depthAll (r.map pd)) ≤ 1
      have : PyData.depth (pd p) = 1 := rfl
      omega
theorem shaped_pds (ps : List (Int × Int)) : SeqAt.shaped (.list (ps.map pd)) = true := by
  obtain ⟨h1, h2⟩ := lay_pds ps
  unfold SeqAt.shaped
  have e1 : PyData.canLay0 (.list (ps.map pd)) = true := h1
  have e2 : PyData.depth (.list (ps.map pd)) ≤ 64 := by
    show PyData.depthAll (ps.map pd) + 1 ≤ 64
    omega
  rw [e1, decide_eq_true e2]
  rfl
section
variable {P : Program} {w : World} {K : PySem.W.Frag} {mg : Str → Option Value} {base : Heap} {C : Addr}
def pos (l : List Tr) : List Tr := l.filter fun t => decide (0 < t.2.2)
theorem pos_snoc (l : List Tr) (t : Tr) : pos (l ++ [t]) = if 0 < t.2.2 then pos l ++ [t] else pos l := by
  unfold pos
  rw [List.filter_append]
  by_cases h : 0 < t.2.2
  · rw [if_pos h, List.filter_cons, if_pos (decide_eq_true h)]
    rfl
  · rw [if_neg h, List.filter_cons, if_neg (by rw [decide_eq_false h]; decide)]
    exact List.append_nil _
theorem pos_all {l : List Tr} (h : ∀ t ∈ l, 1 ≤ t.2.2) : pos l = l := List.filter_eq_self.mpr fun t ht => decide_eq_true (by have := h t ht; omega)
/-- as IsNorm, entries without cords left out -/
structure GN (l r : List Tr) : Prop where
  srt : (r.map pr).Pairwise Lex
  mem : ∀ p, p ∈ r.map pr ↔ p ∈ (pos l).map ky
  cnt : ∀ e ∈ r, e.2.2 = tot (pr e) l
theorem GN.norm {l r : List Tr} (h : GN l r) (v : ∀ t ∈ l, 1 ≤ t.2.2) : IsNorm l r := ⟨h.srt, fun p => by rw [h.mem, pos_all v], h.cnt⟩
def spNorm (K : PySem.W.Frag) : Sp := fun vs H Q _ => ∃ (a : Addr) (xs : List V) (l : List Tr), vs = [.ref a] ∧ SqB K H a xs ∧ TrV H xs l ∧ (∀ t ∈ l, t.1 ≠ t.2.1) ∧ l.length ≤ 1000 ∧ ∀ H' c r, Same H H' → TripL H' c r → GN l r → Q (.ref c) H'
theorem ok_norm {f : Addr} {fd : FuncData} (F : Fun K "_law_norm" "_law_norm" s__law_norm f fd) (T : Bi mg) : FnOk P w K mg base CX0 1 f fd ["_law_triples"] (spNorm K) := by
  refine F.ok sc__law_norm (fun vs H Q E h => ?_) (fun cdv A outer s H vs Q E hr h => ?_)
  · obtain ⟨a, xs, l, rfl, _⟩ := h
    rfl
  · obtain ⟨a, xs, l, rfl, hB, hx, hnz, hl, q⟩ := h
    have hu65 : (A.deeper (envOfC "_law_norm" (defScope s__law_norm) s.heap.objs.size f cdv)).units + 65 < cLine := by
      have := hr.un
      omega
    refine ⟨_, (pss_cons (ps_set (i := 1) sc__law_norm.nd rfl (.inl rfl) (pe_lst pa_nil))
        (pss_cons (ps_for PassesOwn.never rfl (pi_seq (pv 0)) (pg_name (i := 2) sc__law_norm.nd rfl (.inl rfl))
        (pss_cons (ps_set (i := 5) sc__law_norm.nd rfl (.inl rfl) (pe_callB (call_min2 rfl) (by rfl) T.b_min (by decide +kernel) (pa_cons (pe_ix (r := rIxT K) ix_tup (pv 2) pe_int (fun _ _ => rfl)) (pa_cons (pe_ix (r := rIxT K) ix_tup (pv 2) pe_int (fun _ _ => rfl)) pa_nil))))
        (pss_cons (ps_set (i := 6) sc__law_norm.nd rfl (.inl rfl) (pe_callB (call_max2 rfl) (by rfl) T.b_max (by decide +kernel) (pa_cons (pe_ix (r := rIxT K) ix_tup (pv 2) pe_int (fun _ _ => rfl)) (pa_cons (pe_ix (r := rIxT K) ix_tup (pv 2) pe_int (fun _ _ => rfl)) pa_nil))))
        (pss_one (ps_if (PW.pt (pw_and (pt_cmpR op_ne (pv 5) (pv 6) (nomark _)) (pw_and (pt_cmpR op_gt (pe_ix (r := rIxT K) ix_tup (pv 2) pe_int (fun _ _ => rfl)) pe_int (nomark _)) (pw_and1 (pt_cmpR (op_notInD hu65) (pe_tup (pa_cons (pv 5) (pa_cons (pv 6) pa_nil))) (pv 1) (by rfl)))))) (pss_one (ps_expr (pe_bm PySem.F.plainAttrs_list PySem.F.slot_list_append PySem.F.type_list_append mt_append (pv 1) (pa_cons (pe_tup (pa_cons (pv 5) (pa_cons (pv 6) pa_nil))) pa_nil)))) pss_nil)))))
        (pss_cons (ps_set (i := 3) sc__law_norm.nd rfl (.inl rfl) (pe_lst pa_nil))
        (pss_cons (ps_for PassesOwn.never rfl (pi_list (pe_callB cr_sortedPO (by rfl) T.b_sorted (by decide +kernel) (pa_cons (pv 1) pa_nil))) (pg_name (i := 4) sc__law_norm.nd rfl (.inl rfl))
        (pss_cons (ps_set (i := 7) sc__law_norm.nd rfl (.inl rfl) pe_int)
        (pss_cons (ps_for PassesOwn.never rfl (pi_seq (pv 0)) (pg_name (i := 2) sc__law_norm.nd rfl (.inl rfl))
        (pss_one (ps_if (PW.pt (pw_and (pt_cmpR op_eq (pe_callB (call_min2 rfl) (by rfl) T.b_min (by decide +kernel) (pa_cons (pe_ix (r := rIxT K) ix_tup (pv 2) pe_int (fun _ _ => rfl)) (pa_cons (pe_ix (r := rIxT K) ix_tup (pv 2) pe_int (fun _ _ => rfl)) pa_nil))) (pe_ix (r := rIxT K) ix_tup (pv 4) pe_int (fun _ _ => rfl)) (nomark _)) (pw_and1 (pt_cmpR op_eq (pe_callB (call_max2 rfl) (by rfl) T.b_max (by decide +kernel) (pa_cons (pe_ix (r := rIxT K) ix_tup (pv 2) pe_int (fun _ _ => rfl)) (pa_cons (pe_ix (r := rIxT K) ix_tup (pv 2) pe_int (fun _ _ => rfl)) pa_nil))) (pe_ix (r := rIxT K) ix_tup (pv 4) pe_int (fun _ _ => rfl)) (nomark _))))) (pss_one (ps_set (i := 7) sc__law_norm.nd rfl (.inl rfl) (pe_op op_add (pv 7) (pe_ix (r := rIxT K) ix_tup (pv 2) pe_int (fun _ _ => rfl))))) pss_nil)))
        (pss_one (ps_expr (pe_bm PySem.F.plainAttrs_list PySem.F.slot_list_append PySem.F.type_list_append mt_append (pv 3) (pa_cons (pe_tup (pa_cons (pe_ix (r := rIxT K) ix_tup (pv 4) pe_int (fun _ _ => rfl)) (pa_cons (pe_ix (r := rIxT K) ix_tup (pv 4) pe_int (fun _ _ => rfl)) (pa_cons (pv 7) pa_nil)))) pa_nil)))))))
        (pss_one (ps_ret (pv 3))))))), ?_⟩
    refine ⟨Nat.zero_le _, fun p np => ?_⟩
    have sp : Same H (upd H p (.lst [])) := same_upd np
    refine ⟨_, rfl, a, rfl, for_same (Hb := H) hB (fun i σ H' => ∃ (bs : List Addr) (ps : List (Int × Int)) (y2 y5 y6 : Option V), σ = [some (.ref a), some (.ref p), y2, none, none, y5, y6, none] ∧ H' p = some (.lst (bs.map V.ref)) ∧ PairsV H' bs ps ∧ ps.Nodup ∧ (∀ x, x ∈ ps ↔ x ∈ (pos (l.take i)).map ky) ∧ Same H H' ∧ ps.length ≤ i) ⟨[], [], none, none, none, rfl, upd_same, ⟨rfl, fun i b q h => by simp at h⟩, List.nodup_nil, fun x => by simp [pos], sp, Nat.le_refl _⟩ (fun i σ' H' pv => by obtain ⟨_, _, _, _, _, _, _, _, _, _, s, _⟩ := pv; exact s) (fun i x σ H' hxi pv => ?_) (fun σ H' pv => ?_)⟩
    · obtain ⟨bs, ps, y2, y5, y6, rfl, ep, pV, hnd, hmem, sm, hlen⟩ := pv
      obtain ⟨b, t, rfl, hti, hb⟩ := (hx.same sm).at_ hxi
      have hil : i < l.length := (List.getElem?_eq_some_iff.mp hti).1
      have etk : l.take (i + 1) = l.take i ++ [t] := by rw [List.take_add_one, hti]; rfl
      have qb : SqT K H' b (tv t) := .inl (.inl hb)
      have i0 : atI (tv t) 0 = some (.int t.1) := atI_nat (j := 0) rfl
      have i1 : atI (tv t) 1 = some (.int t.2.1) := atI_nat (j := 1) rfl
      have i2 : atI (tv t) 2 = some (.int t.2.2) := atI_nat (j := 2) rfl
      refine ⟨_, rfl, b, _, 0, _, rfl, rfl, qb, i0, _, rfl, b, _, 1, _, rfl, rfl, qb, i1, _, _, rfl, ?_⟩
      refine ⟨_, rfl, b, _, 0, _, rfl, rfl, qb, i0, _, rfl, b, _, 1, _, rfl, rfl, qb, i1, _, _, rfl, ?_⟩
      have nz : (!decide (V.int (if t.2.1 < t.1 then t.2.1 else t.1) = V.int (if t.2.1 > t.1 then t.2.1 else t.1))) = true := by
        have h1 := hnz t (List.mem_of_getElem? hti)
        have h2 := lo_hi t.1 t.2.1
        unfold lo hi at h2
        rw [decide_eq_false fun z => by have := V.int.inj z; omega]
        rfl
      refine ⟨_, rfl, _, rfl, rfl, _, rfl, ?_⟩
      rw [nz]
      refine ⟨_, rfl, b, _, 2, _, rfl, rfl, qb, i2, _, _, rfl, rfl, _, rfl, ?_⟩
      by_cases hv : 0 < t.2.2
      · rw [decide_eq_true hv]
        refine ⟨_, rfl, _, rfl, by show 2 ≤ sizeLine; decide, fun u nu => ?_⟩
        have su : Same H' (upd H' u (.tup [.int (lo t.1 t.2.1), .int (hi t.1 t.2.1)])) := same_upd nu
        have pV1 := pV.sameT fun b o h => su _ _ h
        have ep1 := su _ _ ep
        refine ⟨_, rfl, pd (ky t), ps.map pd, .tup (.inl (.inl upd_same)) (.cons (.int _) (.cons (.int _) .nil)), .lst (.inl (.inl ep1)) pV1.dp, shaped_pd _, shaped_pds _, _, rfl, ?_⟩
        rw [any_pd]
        by_cases hk : ky t ∈ ps
        · rw [decide_eq_true hk]
          refine ⟨bs, ps, _, _, _, rfl, ep1, pV1, hnd, fun x => ?_, sm.trans su, by omega⟩
          rw [etk, pos_snoc, if_pos hv, List.map_append, List.mem_append, ← hmem]
          constructor
          · exact .inl
          · rintro (h | h)
            · exact h
            · rw [List.mem_singleton.mp h]
              exact hk
        · rw [decide_eq_false hk]
          refine ⟨_, rfl, .inl ⟨rfl, _, .inl (.inl ep1)⟩, _, rfl, _, rfl, by show 2 ≤ sizeLine; decide, fun v nv => ?_⟩
          have sv := same_upd (o := .tup [.int (lo t.1 t.2.1), .int (hi t.1 t.2.1)]) nv
          have ep2 := sv _ _ ep1
          refine ⟨p, _, _, rfl, rfl, ep2, ?_, ?_⟩
          · rw [List.length_map, pV.1]
            exact small1000 (by omega)
          have nvp : v ≠ p := fun z => by
            rw [z] at nv
            exact nomatch (ep1.symm.trans nv)
          refine ⟨bs ++ [v], ps ++ [ky t], _, _, _, rfl, ?_, ?_, ?_, fun x => ?_, same_put (H1 := H) np ((sm.trans su).trans sv), ?_⟩
          · rw [upd_same, List.map_append]
            rfl
          · refine (pV1.sameT (sameT_put ep1 sv)).snoc ?_
            rw [upd_ne nvp, upd_same]
            rfl
          · exact List.nodup_append.mpr ⟨hnd, by simp, fun x hx2 y hy z => hk (by rw [List.mem_singleton.mp hy] at z; rw [← z]; exact hx2)⟩
          · rw [etk, pos_snoc, if_pos hv, List.map_append, List.mem_append, List.mem_append, ← hmem]
            exact Iff.rfl
          · rw [List.length_append]
            show ps.length + 1 ≤ i + 1
            omega
      · rw [decide_eq_false hv]
        refine ⟨bs, ps, _, _, _, rfl, ep, pV, hnd, fun x => ?_, sm, by omega⟩
        rw [etk, pos_snoc, if_neg hv]
        exact hmem x
    · obtain ⟨bs, ps, y2, y5, y6, rfl, ep, pV, hnd, hmem, sm, hlen⟩ := pv
      rw [hx.1] at hlen
      rw [hx.1, List.take_length] at hmem
      refine ⟨Nat.zero_le _, fun rw_ nrw => ?_⟩
      have s1 : Same H' (upd H' rw_ (.lst [])) := same_upd nrw
      have pV1 := pV.sameT fun b o h => s1 _ _ h
      refine ⟨_, rfl, p, _, kOf (upd H' rw_ (.lst [])), rfl, .inl (.inl (s1 _ _ ep)), fun x hx2 => ?_, fun ys p0 hsrt hstb np0 => ?_⟩
      · obtain ⟨b, hb, rfl⟩ := List.mem_map.mp hx2
        obtain ⟨pp, _, hp⟩ := pV1.at_ hb
        exact ⟨b, rfl, by rw [kOf_at hp]; exact hp⟩
      generalize hH1 : upd H' rw_ (.lst []) = H1 at s1 pV1 hsrt hstb np0
      have erw : H1 rw_ = some (.lst []) := by rw [← hH1]; exact upd_same
      have hks : (bs.map V.ref).map (kOf H1) = ps := by
        apply List.ext_getElem
        · rw [List.length_map, List.length_map]
          exact pV1.1
        · intro j h1 h2
          rw [List.getElem_map, List.getElem_map]
          rw [List.length_map, List.length_map] at h1
          exact kOf_at (pV1.2 j bs[j] ps[j] (List.getElem?_eq_getElem h1) (List.getElem?_eq_getElem h2))
      have hperm : (ys.map (kOf H1)).Perm ps := by
        have := hstb.perm.map (kOf H1)
        rw [hks] at this
        exact this
      have hall : ∀ y ∈ ys, ∃ b, y = .ref b ∧ H1 b = some (.tup [.int (kOf H1 y).1, .int (kOf H1 y).2]) := fun y hy => by
        obtain ⟨b, hb, rfl⟩ := List.mem_map.mp (hstb.perm.mem_iff.mp hy)
        obtain ⟨pp, _, hp⟩ := pV1.at_ hb
        exact ⟨b, rfl, by rw [kOf_at hp]; exact hp⟩
      have hlex : (ys.map (kOf H1)).Pairwise Lex := sorted_lex (hperm.nodup_iff.mpr hnd) (SrtO.srtd_map (lt := SrtO.lexB) (f := kOf H1) hsrt)
      have hN : GN l ((ys.map (kOf H1)).map fun p => (p.1, p.2, tot p l)) := by
        have e1 : (((ys.map (kOf H1)).map fun p => ((p.1, p.2, tot p l) : Tr))).map pr = ys.map (kOf H1) := by
          rw [List.map_map]
          exact List.map_id' _
        refine ⟨by rw [e1]; exact hlex, fun x => by rw [e1, hperm.mem_iff]; exact hmem x, fun e he => ?_⟩
        obtain ⟨x, _, rfl⟩ := List.mem_map.mp he
        rfl
      have hylen : ys.length ≤ 1000 := by
        have h1 := hperm.length_eq
        rw [List.length_map] at h1
        omega
      generalize hr0 : ((ys.map (kOf H1)).map fun p => ((p.1, p.2, tot p l) : Tr)) = r at hN
      have hrl : r.length = ys.length := by rw [← hr0, List.length_map, List.length_map]
      have s0 : Same H1 (upd H1 p0 (.lst ys)) := same_upd np0
      have n0rw : p0 ≠ rw_ := fun z => by
        rw [z, erw] at np0
        cases np0
      have nrwH : H rw_ = none := sm.free nrw
      refine ⟨p0, rfl, ⟨_, .inl (.inl upd_same)⟩, for_list (xs := ys) (fun j σ H2 => ∃ (vs : List V) (y2 y4 y5 y6 y7 : Option V), σ = [some (.ref a), some (.ref p), y2, some (.ref rw_), y4, y5, y6, y7] ∧ Same H H2 ∧ SameT H1 H2 ∧ H2 p0 = some (.lst ys) ∧ H2 rw_ = some (.lst vs) ∧ TrV H2 vs (r.take j)) ⟨[], _, _, _, _, _, rfl, ?_, fun b o h => s0 _ _ h, upd_same, s0 _ _ erw, TrV.nil⟩ (fun j σ H2 _ pv => by obtain ⟨_, _, _, _, _, _, _, _, _, e, _⟩ := pv; exact .inl (.inl e)) (fun j x σ H2 hxj pv => ?_) (fun σ H2 pv => ?_)⟩
      · exact (sm.trans s1).trans s0
      · obtain ⟨vs, y2, y4, y5, y6, y7, rfl, sH, sT, e0, eR, tV⟩ := pv
        obtain ⟨b, rfl, hb⟩ := hall x (List.mem_of_getElem? hxj)
        have hjl : j < ys.length := (List.getElem?_eq_some_iff.mp hxj).1
        generalize hp : kOf H1 (.ref b) = pq at hb
        have hb2 : SqT K H2 b [.int pq.1, .int pq.2] := .inl (.inl (sT _ _ hb))
        have j0 : atI [V.int pq.1, .int pq.2] 0 = some (.int pq.1) := atI_nat (j := 0) rfl
        have j1 : atI [V.int pq.1, .int pq.2] 1 = some (.int pq.2) := atI_nat (j := 1) rfl
        have hrj : r[j]? = some (pq.1, pq.2, tot pq l) := by
          rw [← hr0, List.getElem?_map, List.getElem?_map, hxj, ← hp]
          rfl
        refine ⟨_, rfl, a, rfl, for_same (Hb := H) hB (fun i σ H3 => (∃ y2, σ = [some (.ref a), some (.ref p), y2, some (.ref rw_), some (.ref b), y5, y6, some (.int (tot pq (l.take i)))]) ∧ H3 = H2) ⟨⟨y2, rfl⟩, rfl⟩ (fun i σ' H3 pv => by rw [pv.2]; exact sH) (fun i x σ H3 hxi pv => ?_) (fun σ H3 pv => ?_)⟩
        · obtain ⟨⟨y2, rfl⟩, rfl⟩ := pv
          obtain ⟨u, t, rfl, hti, hu⟩ := (hx.same sH).at_ hxi
          have qb : SqT K H3 u (tv t) := .inl (.inl hu)
          have i0 : atI (tv t) 0 = some (.int t.1) := atI_nat (j := 0) rfl
          have i1 : atI (tv t) 1 = some (.int t.2.1) := atI_nat (j := 1) rfl
          have i2 : atI (tv t) 2 = some (.int t.2.2) := atI_nat (j := 2) rfl
          have et : tot pq (l.take (i + 1)) = tot pq (l.take i) + (if ky t = pq then t.2.2 else 0) := by
            rw [List.take_add_one, hti]
            exact tot_snoc pq (l.take i) t
          refine ⟨_, rfl, u, _, 0, _, rfl, rfl, qb, i0, _, rfl, u, _, 1, _, rfl, rfl, qb, i1, _, _, rfl, ?_⟩
          refine ⟨_, rfl, b, _, 0, _, rfl, rfl, hb2, j0, rfl, _, rfl, ite2 (fun e1 => ?_) (fun e1 => ?_)⟩
          · have f1 : lo t.1 t.2.1 = pq.1 := V.int.inj (of_decide_eq_true e1)
            refine ⟨_, rfl, u, _, 0, _, rfl, rfl, qb, i0, _, rfl, u, _, 1, _, rfl, rfl, qb, i1, _, _, rfl, ?_⟩
            refine ⟨_, rfl, b, _, 1, _, rfl, rfl, hb2, j1, rfl, _, rfl, ite2 (fun e2 => ?_) (fun e2 => ?_)⟩
            · have f2 : hi t.1 t.2.1 = pq.2 := V.int.inj (of_decide_eq_true e2)
              refine ⟨_, rfl, _, rfl, u, _, 2, _, rfl, rfl, qb, i2, _, _, rfl, rfl, ⟨some (.ref u), ?_⟩, rfl⟩
              rw [et, if_pos (show ky t = pq from Prod.ext f1 f2)]
              rfl
            · have f2 : ¬ hi t.1 t.2.1 = pq.2 := fun z => e2 (decide_eq_true (congrArg V.int z))
              refine ⟨⟨some (.ref u), ?_⟩, rfl⟩
              rw [et, if_neg (fun z : ky t = pq => f2 (congrArg Prod.snd z)), Int.add_zero]
              rfl
          · have f1 : ¬ lo t.1 t.2.1 = pq.1 := fun z => e1 (decide_eq_true (congrArg V.int z))
            refine ⟨⟨some (.ref u), ?_⟩, rfl⟩
            rw [et, if_neg (fun z : ky t = pq => f1 (congrArg Prod.fst z)), Int.add_zero]
            rfl
        · obtain ⟨⟨y2, rfl⟩, rfl⟩ := pv
          rw [hx.1, List.take_length]
          refine ⟨_, rfl, .inl ⟨rfl, _, .inl (.inl eR)⟩, _, rfl, b, _, 0, _, rfl, rfl, hb2, j0, _, rfl, b, _, 1, _, rfl, rfl, hb2, j1, _, rfl, by show 3 ≤ sizeLine; decide, fun u nu => ?_⟩
          have su := same_upd (o := .tup [.int pq.1, .int pq.2, .int (tot pq l)]) nu
          refine ⟨rw_, _, _, rfl, rfl, su _ _ eR, ?_, ?_⟩
          · rw [tV.1, List.length_take]
            exact Nat.lt_of_le_of_lt (Nat.min_le_right _ _) (small1000 (by omega))
          have nur : u ≠ rw_ := fun z => by
            rw [z, eR] at nu
            cases nu
          refine ⟨_, _, _, _, _, _, rfl, same_put (H1 := H) nrwH (sH.trans su), fun c o h => ?_, ?_, upd_same, ?_⟩
          · exact sameT_put (H := H3) eR su _ _ (sT _ _ h)
          · rw [upd_ne n0rw]
            exact su _ _ e0
          · rw [List.take_add_one, hrj]
            refine (tV.sameT (sameT_put eR su)).snoc ?_
            rw [upd_ne nur, upd_same]
      · obtain ⟨vs, y2, y4, y5, y6, y7, rfl, sH, sT, e0, eR, tV⟩ := pv
        rw [← hrl, List.take_length] at tV
        exact ⟨_, rfl, q _ rw_ r sH ⟨vs, eR, tV⟩ hN⟩
end
end Own

namespace Own
open PySem PySem.Spec PyProof.Rows L2
/-! ### the law: two cords joined -/
theorem TabL.gridB {H : Hp} {p : Addr} {n : Int} {T : Int → Int → Int} (n1 : 1 ≤ n) (h : TabL H p n T) : GridB H p n T := by
  obtain ⟨rs, g⟩ := h
  have hh : hi n 1 = n := by have := lo_hi n 1; omega
  rw [hh] at g
  refine ⟨rs.map V.ref, .inl g.at_, fun i hlt => ?_⟩
  obtain ⟨r, e1, e2, e3⟩ := g.get (a := (i : Int)) (by omega) (by omega)
  refine ⟨r, ?_, .inl e3⟩
  rw [List.getElem?_map]
  rw [Int.toNat_natCast] at e1
  rw [e1]
  rfl
theorem dw_dp {m x : Int} {cs : List Tr} (gd : Good m cs) (m2 : 2 ≤ m) (x0 : 0 ≤ x) (x1 : x < m) (i j : Int) : dwF (tabE cs) ((x - 1).fmod m) x (upG x i) (upG x j) = dpT (tabE cs) x i j := by
  have lm : ∀ k, tabE cs k ((x - 1).fmod m) = tabE cs k (x - 1) := fun k => by
    by_cases c : x = 0
    · rw [c, show (0 : Int) - 1 = (m - 1) + m * (-1) by omega, Int.add_mul_fmod_self_left, fmod_lo (by omega) (by omega), gd.last]
      rw [show m - 1 + m * -1 = -1 by omega]
    · rw [fmod_lo (by omega) (by omega)]
  have lm2 : ∀ k, tabE cs ((x - 1).fmod m) k = tabE cs (x - 1) k := fun k => by
    rw [tabE_comm, lm, tabE_comm]
  unfold dwF
  by_cases c : upG x i = upG x j
  · have e : i = j := by unfold upG at c; split at c <;> split at c <;> omega
    rw [if_pos c, e, Int.mul_zero]
    exact (dp_dg gd j).symm
  · rw [if_neg c, Int.mul_one, lm, lm2]
    rfl
theorem mg_ne {n : Int} {M : Int → Int} (h : Mat n M) {a : Int} (a0 : 0 ≤ a) (a1 : a + 1 < n) (d : M a ≠ a + 1) : ∀ t ∈ mtE M n.toNat, nmG a t.1 ≠ nmG a t.2.1 := fun t ht z => by
  have m := mtE_mem.mp ht
  unfold nmG at z
  have : t.1 = a ∧ t.2.1 = a + 1 := by split at z <;> split at z <;> omega
  exact d (by rw [← this.1, ← m.2.2.2.1, this.2, this.1])
theorem mg_all {n : Int} {M : Int → Int} (h : Mat n M) {a : Int} (a0 : 0 ≤ a) (a1 : a + 1 < n) (d : M a ≠ a + 1) : mgE a (mtE M n.toNat) = (mtE M n.toNat).map fun t => (nmG a t.1, nmG a t.2.1, t.2.2) := by
  unfold mgE
  rw [List.filter_eq_self.mpr fun t ht => decide_eq_true (mg_ne h a0 a1 d t ht)]
theorem jn_list {n g : Int} (g0 : 0 ≤ g) (g1 : g + 1 < n) (J : Int → Int) : (gl n J).take g.toNat ++ (gl n J).drop (g + 2).toNat = gl (n - 2) fun y => J (bgU g y) := by
  unfold gl
  apply List.ext_getElem
  · simp
    omega
  · intro j h1 h2
    simp only [List.length_map, List.length_range] at h2
    rw [List.getElem_map, List.getElem_range]
    by_cases c : j < g.toNat
    · rw [List.getElem_append_left (by simp; omega), List.getElem_take, List.getElem_map, List.getElem_range]
      show V.int (J j) = V.int (J (bgU g j))
      unfold bgU
      rw [if_neg (by omega)]
    · rw [List.getElem_append_right (by simp; omega), List.getElem_drop, List.getElem_map, List.getElem_range]
      show V.int (J _) = V.int (J (bgU g j))
      unfold bgU
      rw [if_pos (by omega)]
      congr 2
      simp
      omega
theorem jq_val {n : Int} {M : Int → Int} (h : Mat n M) {a : Int} (a0 : 0 ≤ a) (a1 : a + 1 < n) {y : Int} (y0 : 0 ≤ y) (y1 : y < n - 2) {v : Int} (e : v = if bgU a y = M (a + 1) then M a else if bgU a y = M a then M (a + 1) else M (bgU a y)) : v - 2 * (if decide (a < v) = true then (1 : Int) else 0) = jqM M a y := by
  have ne := bgU_ne a y
  obtain ⟨_, r0, r1⟩ := jq_up h a0 a1 y0 y1
  have o := jp_out h a0 a1 r0 r1 ne.1 ne.2
  have ej : v = jpM M a (bgU a y) := by
    rw [e]
    unfold jpM
    rw [if_neg ne.1, if_neg ne.2]
    by_cases c1 : bgU a y = M (a + 1)
    · rw [if_pos c1]
      by_cases c2 : bgU a y = M a
      · rw [if_pos c2, ← c2, c1]
      · rw [if_neg c2, if_pos c1]
    · rw [if_neg c1]
      by_cases c2 : bgU a y = M a
      · rw [if_pos c2, if_pos c2]
      · rw [if_neg c2, if_neg c2, if_neg c1]
  unfold jqM
  rw [← ej] at o ⊢
  unfold bgS
  by_cases c : a < v
  · rw [if_pos (decide_eq_true c), if_neg (by omega)]
    omega
  · rw [if_neg (by simpa using c), if_pos (by omega)]
    omega
section
variable {P : Program} {w : World} {K : PySem.W.Frag} {mg : Str → Option Value} {base : Heap} {C : Addr}
def spLJn : Sp := fun vs H Q _ => ∃ (a : Addr) (g n : Int) (M : Int → Int), vs = [.ref a, .int g] ∧ H a = some (.lst (gl n M)) ∧ Mat n M ∧ 0 ≤ g ∧ g + 1 < n ∧ n ≤ 46 ∧
  ∀ H' d N, Same H H' → H' d = some (.lst (gl (n - 2) N)) → Mat (n - 2) N → (2 < n → ∀ i j, 0 ≤ i → i < n - 2 → 0 ≤ j → j < n - 2 → tM (n - 2) N i j = jnT (tM n M) g (jnG g i) (jnG g j)) → Q (.ref d) H'
set_option maxHeartbeats 0 in
theorem ok_ljn {f : Addr} {fd : FuncData} (F : Fun K "_law_joined_partners" "_law_joined_partners" s__law_joined_partners f fd) (T : Bi mg) {f_x : Addr} {d_x : FuncData} (D_x : Df K mg "_law_cross" s__law_cross ["_law_a", "_law_b", "_law_c", "_law_d"] f_x d_x) (G_x : FnOk P w K mg base CX0 1 f_x d_x ["_law_a", "_law_b", "_law_c", "_law_d"] spLX) {f_n : Addr} {d_n : FuncData} (D_n : Df K mg "_law_norm" s__law_norm ["_law_triples"] f_n d_n) (G_n : FnOk P w K mg base CX0 1 f_n d_n ["_law_triples"] (spNorm K)) {f_d : Addr} {d_d : FuncData} (D_d : Df K mg "_law_dropped_table" s__law_dropped_table ["_law_pins", "_law_table", "_law_pin"] f_d d_d) (G_d : FnOk P w K mg base CX0 1 f_d d_d ["_law_pins", "_law_table", "_law_pin"] spDpt) {f_s : Addr} {d_s : FuncData} (D_s : Df K mg "_law_sides_table" s__law_sides_table ["_law_pins", "_law_bunch"] f_s d_s) (G_s : FnOk P w K mg base CX0 2 f_s d_s ["_law_pins", "_law_bunch"] spSid) {f_c : Addr} {d_c : FuncData} (D_c : Df K mg "_law_cords" s__law_cords ["_law_pins", "_law_table"] f_c d_c) (G_c : FnOk P w K mg base CX0 2 f_c d_c ["_law_pins", "_law_table"] spLCords) : FnOk P w K mg base CX0 3 f fd ["_law_partners", "_law_low"] spLJn := by
  refine F.ok sc__law_joined_partners (fun vs H Q E h => ?_) (fun cdv A outer s H vs Q E hr h => ?_)
  · obtain ⟨a, g, n, N, rfl, _⟩ := h
    rfl
  · obtain ⟨a, g, n, N, rfl, ha, hM, g0, g1, n1, q⟩ := h
    refine ⟨_, (pss_cons (ps_set (i := 2) sc__law_joined_partners.nd rfl (.inl rfl) (pe_callB call_len_seq (by rfl) T.b_len PySem.boot_len (pa_cons (pv 0) pa_nil)))
        (pss_cons (ps_set (i := 3) sc__law_joined_partners.nd rfl (.inr rfl) (pe_ix (r := rIxB K) ix_seqB (pv 0) (pv 1) (fun _ _ => rfl)))
        (pss_cons (ps_set (i := 4) sc__law_joined_partners.nd rfl (.inr rfl) (pe_ix (r := rIxB K) ix_seqB (pv 0) (pe_op op_add (pv 1) pe_int) (fun _ _ => rfl)))
        (C8.pss_cut (ps_if (pt_cmpR op_ne (pv 3) (pe_op op_add (pv 1) pe_int) (nomark _)) (pss_cons (ps_setLc (i := 7) (own := [("_law_p", 13)]) (g := gName 13) rfl sc__law_joined_partners.nd rfl rfl (sw_true rfl rfl rfl (by decide +kernel)) (pi_range1 (by rfl) T.b_range (pa_cons (pv 2) pa_nil)) (blkOk_by (own := [("_law_p", 13)]) (N := ["_law_partners", "_law_low", "_law_pins", "_law_one", "_law_other", "_law_row", "_law_rest", "_law_bunch", "_law_both", "_law_merged", "_law_table", "_law_back", "_law_c", "_law_p"]) (sc := defScope s__law_joined_partners) (by decide +kernel)) (fun _ _ _ _ _ => (pg_name (i := 13) sc__law_joined_partners.nd rfl (.inl rfl))) (fun _ _ _ _ _ => pts_one (pt_cmpR op_lt (pv 13) (pe_ix (r := rIxB K) ix_seqB (pv 0) (pv 13) (fun _ _ => rfl)) (nomark _))) (fun _ _ _ _ _ => (pe_tup (pa_cons (pv 13) (pa_cons (pe_ix (r := rIxB K) ix_seqB (pv 0) (pv 13) (fun _ _ => rfl)) (pa_cons pe_int pa_nil))))))
        (pss_cons (ps_setLc (i := 8) (own := [("_law_c", 12)]) (g := gName 12) rfl sc__law_joined_partners.nd rfl rfl (sw_true rfl rfl rfl (by decide +kernel)) (pi_list (pv 7)) (blkOk_by (own := [("_law_c", 12)]) (N := ["_law_partners", "_law_low", "_law_pins", "_law_one", "_law_other", "_law_row", "_law_rest", "_law_bunch", "_law_both", "_law_merged", "_law_table", "_law_back", "_law_c", "_law_p"]) (sc := defScope s__law_joined_partners) (by decide +kernel)) (fun _ _ _ _ _ => (pg_name (i := 12) sc__law_joined_partners.nd rfl (.inl rfl))) (fun _ _ _ _ _ => pts_one (PW.pt (pw_and (pt_val (pe_call G_x (hr.mono (by decide)) (by rfl) D_x.g D_x.F.kp D_x.b .nil pass0 (pa_cons (pe_ix (r := rIxB K) ix_seqB (pv 12) pe_int (fun _ _ => rfl)) (pa_cons (pe_ix (r := rIxB K) ix_seqB (pv 12) pe_int (fun _ _ => rfl)) (pa_cons (pv 1) (pa_cons (pv 3) pa_nil)))))) (pw_and1 (pt_val (pe_call G_x (hr.mono (by decide)) (by rfl) D_x.g D_x.F.kp D_x.b .nil pass0 (pa_cons (pe_ix (r := rIxB K) ix_seqB (pv 12) pe_int (fun _ _ => rfl)) (pa_cons (pe_ix (r := rIxB K) ix_seqB (pv 12) pe_int (fun _ _ => rfl)) (pa_cons (pe_op op_add (pv 1) pe_int) (pa_cons (pv 4) pa_nil)))))))))) (fun _ _ _ _ _ => (pv 12)))
        (pss_one (ps_if (pt_cmpR op_gt (pe_callB call_len_seq (by rfl) T.b_len PySem.boot_len (pa_cons (pv 8) pa_nil)) pe_int (nomark _)) (pss_cons (ps_set (i := 9) sc__law_joined_partners.nd rfl (.inl rfl) (pe_call G_n (hr.mono (by decide)) (by rfl) D_n.g D_n.F.kp D_n.b .nil pass0 (pa_cons (pe_lc (own := [("_law_c", 12)]) (g := gName 12) (tt := tYes) rfl sc__law_joined_partners.nd (pi_list (pv 7)) (blkOk_by (own := [("_law_c", 12)]) (N := ["_law_partners", "_law_low", "_law_pins", "_law_one", "_law_other", "_law_row", "_law_rest", "_law_bunch", "_law_both", "_law_merged", "_law_table", "_law_back", "_law_c", "_law_p"]) (sc := defScope s__law_joined_partners) (by decide +kernel)) (fun _ _ _ _ _ => (pg_name (i := 12) sc__law_joined_partners.nd rfl (.inl rfl))) (fun _ _ _ _ _ => pts_nil) (fun _ _ _ _ _ => (pe_tup (pa_cons (pe_op op_sub (pe_ix (r := rIxB K) ix_seqB (pv 12) pe_int (fun _ _ => rfl)) (pe_callTy call_int1 (by rfl) T.b_int (by decide +kernel) (pa_cons (pe_cmpR op_gt (pe_ix (r := rIxB K) ix_seqB (pv 12) pe_int (fun _ _ => rfl)) (pv 1) (nomark _)) pa_nil))) (pa_cons (pe_op op_sub (pe_ix (r := rIxB K) ix_seqB (pv 12) pe_int (fun _ _ => rfl)) (pe_callTy call_int1 (by rfl) T.b_int (by decide +kernel) (pa_cons (pe_cmpR op_gt (pe_ix (r := rIxB K) ix_seqB (pv 12) pe_int (fun _ _ => rfl)) (pv 1) (nomark _)) pa_nil))) (pa_cons (pe_ix (r := rIxB K) ix_seqB (pv 12) pe_int (fun _ _ => rfl)) pa_nil)))))) pa_nil)))
        (pss_cons (ps_set (i := 10) sc__law_joined_partners.nd rfl (.inl rfl) (pe_call G_d (hr.mono (by decide)) (by rfl) D_d.g D_d.F.kp D_d.b .nil pass0 (pa_cons (pe_op op_sub (pv 2) pe_int) (pa_cons (pe_call G_s (hr.mono (by decide)) (by rfl) D_s.g D_s.F.kp D_s.b .nil pass0 (pa_cons (pe_op op_sub (pv 2) pe_int) (pa_cons (pv 9) pa_nil))) (pa_cons (pv 1) pa_nil)))))
        (pss_cons (ps_setLc (i := 11) (own := [("_law_p", 13)]) (g := gName 13) (tt := tYes) rfl sc__law_joined_partners.nd rfl rfl (sw_true rfl rfl rfl (by decide +kernel)) (pi_range1 (by rfl) T.b_range (pa_cons (pe_op op_sub (pv 2) pe_int) pa_nil)) (blkOk_by (own := [("_law_p", 13)]) (N := ["_law_partners", "_law_low", "_law_pins", "_law_one", "_law_other", "_law_row", "_law_rest", "_law_bunch", "_law_both", "_law_merged", "_law_table", "_law_back", "_law_c", "_law_p"]) (sc := defScope s__law_joined_partners) (by decide +kernel)) (fun _ _ _ _ _ => (pg_name (i := 13) sc__law_joined_partners.nd rfl (.inl rfl))) (fun _ _ _ _ _ => pts_nil) (fun _ _ _ _ _ => pe_int))
        (pss_cons (ps_for PassesOwn.never rfl (pi_list (pe_call G_c (hr.mono (by decide)) (by rfl) D_c.g D_c.F.kp D_c.b .nil pass0 (pa_cons (pe_op op_sub (pv 2) pe_int) (pa_cons (pv 10) pa_nil)))) (pg_name (i := 12) sc__law_joined_partners.nd rfl (.inl rfl))
        (pss_cons (ps_asg (pe_ix (r := rIxB K) ix_seqB (pv 12) pe_int (fun _ _ => rfl)) (pg_sub (pv 11) (pe_ix (r := rIxB K) ix_seqB (pv 12) pe_int (fun _ _ => rfl)) set_list))
        (pss_one (ps_asg (pe_ix (r := rIxB K) ix_seqB (pv 12) pe_int (fun _ _ => rfl)) (pg_sub (pv 11) (pe_ix (r := rIxB K) ix_seqB (pv 12) pe_int (fun _ _ => rfl)) set_list)))))
        (pss_one (ps_ret (pv 11))))))) pss_nil)))) pss_nil)
        (pss_cons (ps_set (i := 5) sc__law_joined_partners.nd rfl (.inl rfl) (pe_callTy (r := rListK K) (call_listK rfl) (by rfl) T.b_list (by decide +kernel) (pa_cons (pv 0) pa_nil)))
        (pss_cons (ps_asg (pv 4) (pg_sub (pv 5) (pv 3) set_list))
        (pss_cons (ps_asg (pv 3) (pg_sub (pv 5) (pv 4) set_list))
        (pss_cons (ps_set (i := 6) sc__law_joined_partners.nd rfl (.inl rfl) (pe_op op_cat (pe_slice sl_list (pv 5) po_none (po_some (pv 1))) (pe_slice sl_list (pv 5) (po_some (pe_op op_add (pv 1) pe_int)) po_none)))
        (pss_one (ps_ret (pe_lc (own := [("_law_p", 13)]) (g := gName 13) (tt := tYes) rfl sc__law_joined_partners.nd (pi_list (pv 6)) (blkOk_by (own := [("_law_p", 13)]) (N := ["_law_partners", "_law_low", "_law_pins", "_law_one", "_law_other", "_law_row", "_law_rest", "_law_bunch", "_law_both", "_law_merged", "_law_table", "_law_back", "_law_c", "_law_p"]) (sc := defScope s__law_joined_partners) (by decide +kernel)) (fun _ _ _ _ _ => (pg_name (i := 13) sc__law_joined_partners.nd rfl (.inl rfl))) (fun _ _ _ _ _ => pts_nil) (fun _ _ _ _ _ => (pe_op op_sub (pv 13) (pe_op op_mul pe_int (pe_callTy call_int1 (by rfl) T.b_int (by decide +kernel) (pa_cons (pe_cmpR op_gt (pv 13) (pv 1) (nomark _)) pa_nil)))))))))))))))), ?_⟩
    have eL : ((gl n N).length : Int) = n := by
      rw [gl_len]
      omega
    have hS : SqB K H a (gl n N) := .inl (.inl (.inl ha))
    have ne : ∀ {x y : Int}, (!decide (V.int x = V.int y)) = true ↔ x ≠ y := fun {x y} => by
      by_cases z : x = y
      · rw [z, decide_eq_true rfl]
        exact ⟨fun w => (by cases w), fun w => absurd rfl w⟩
      · rw [decide_eq_false fun w => z (V.int.inj w)]
        exact ⟨fun _ => z, fun _ => rfl⟩
    refine ⟨_, rfl, a, _, rfl, .inl (.inl (.inl ha)), ?_⟩
    rw [eL]
    refine ⟨_, rfl, _, rfl, a, _, _, _, rfl, rfl, hS, gl_atI N g0 (by omega), ?_⟩
    refine ⟨_, rfl, _, rfl, _, _, rfl, rfl, a, _, _, _, rfl, rfl, hS, gl_atI N (show 0 ≤ g + 1 by omega) g1, ?_⟩
    have r1 := hM.in_ g g0 (by omega)
    have r2 := hM.in_ (g + 1) (by omega) g1
    refine ⟨fun σ H' => (∃ y5 y6 y7 y8 y9 y10 y11 y12 y13, σ = [some (.ref a), some (.int g), some (.int n), some (.int (N g)), some (.int (N (g + 1))), y5, y6, y7, y8, y9, y10, y11, y12, y13]) ∧ Same H H' ∧ (N g = g + 1 ∨ ∀ p, 0 ≤ p → p < n → p < N p → ¬ (lcr p (N p) g (N g) ∧ lcr p (N p) (g + 1) (N (g + 1)))), ?_, fun σ' H' hm => ?_⟩
    · refine ⟨_, rfl, _, rfl, _, _, rfl, rfl, rfl, _, rfl, ite2 (fun c => ?_) (fun c => ?_)⟩
      · have c := ne.mp c
        refine ⟨_, rfl, n, rfl, by omega, by omega, fun D nD => ?_⟩
        refine lc_range (lo := 0) (n := n.toNat) (fun i H' => ∃ ws, LcI H D ws H' ∧ TrV H' ws (mtE N i)) ⟨[], LcI.start nD, TrV.nil⟩ (fun i H1 hi pv => ?_) (fun H1 pv => ?_)
        · obtain ⟨ws, L1, tV⟩ := pv
          have hS : SqB K H1 a (gl n N) := .inl (.inl (.inl (L1.same _ _ ha)))
          have aI : atI (gl n N) (0 + (i : Int)) = some (.int (N (i : Int))) := by
            rw [Int.zero_add]
            exact gl_atI N (by omega) (by omega)
          refine ⟨rfl, _, rfl, _, rfl, _, rfl, a, _, _, _, rfl, rfl, hS, aI, _, _, rfl, rfl, _, rfl, ite2 (fun e => ?_) (fun e => ?_)⟩
          · have lt : (i : Int) < N (i : Int) := by have := of_decide_eq_true e; omega
            refine ⟨_, rfl, _, rfl, _, rfl, a, _, _, _, rfl, rfl, hS, aI, by show 3 ≤ sizeLine; decide, fun p2 np2 => ?_⟩
            have s3 := same_upd (o := .tup [.int (0 + (i : Int)), .int (N (i : Int)), .int 1]) np2
            have nD2 : p2 ≠ D := L1.nn np2
            refine ⟨ws, s3 _ _ L1.at_, ?_, ws ++ [.ref p2], L1.put nD s3, ?_⟩
            · rw [tV.1]
              exact Nat.lt_of_le_of_lt (mtE_len N i) (small1000 (by omega))
            · rw [mtE, if_pos lt]
              refine (tV.sameT (sameT_put L1.at_ s3)).snoc (t := ((i : Int), N (i : Int), 1)) ?_
              rw [upd_ne nD2, upd_same, Int.zero_add]
          · have lt : ¬ (i : Int) < N (i : Int) := fun z => e (decide_eq_true (by omega))
            refine ⟨ws, L1, ?_⟩
            rw [mtE, if_neg lt, List.append_nil]
            exact tV
        · obtain ⟨ws, L1, tV⟩ := pv
          have eD := L1.at_
          have sD := L1.same
          have lw : ws.length ≤ 1000 := by rw [tV.1]; exact Nat.le_trans (mtE_len N _) (by omega)
          refine ⟨_, rfl, D, rfl, ⟨_, .inl (.inl eD)⟩, fun E nE => ?_⟩
          refine lc_list (K := K) (a := D) (xs := ws) (fun i H' => ∃ us, LcI H1 E us H' ∧ us.length ≤ i ∧ (us = [] ↔ ∀ t ∈ (mtE N n.toNat).take i, ¬ (lcr t.1 t.2.1 g (N g) ∧ lcr t.1 t.2.1 (g + 1) (N (g + 1))))) ⟨[], LcI.start nE, Nat.le_refl _, by simp⟩ (fun i H' _ pv => by obtain ⟨us, L, _⟩ := pv; exact .inl (.inl (L.same _ _ eD))) (fun i x H2 hx pv => ?_) (fun H2 pv => ?_)
          · obtain ⟨us, L2, ul, ue⟩ := pv
            obtain ⟨b, t, rfl, ht, hb⟩ := (tV.same L2.same).at_ hx
            have hS2 : SqB K H2 b (tv t) := .inr (.inl (.inl hb))
            have tk : (mtE N n.toNat).take (i + 1) = (mtE N n.toNat).take i ++ [t] := by rw [List.take_add_one, ht]; rfl
            have fin0 : ∀ H5, Same H2 H5 → (lcr t.1 t.2.1 g (N g) ∧ lcr t.1 t.2.1 (g + 1) (N (g + 1))) → ∃ acc, H5 E = some (.lst acc) ∧ acc.length < sizeLine ∧ ∃ us, LcI H1 E us (upd H5 E (.lst (acc ++ [V.ref b]))) ∧ us.length ≤ i + 1 ∧ (us = [] ↔ ∀ t ∈ (mtE N n.toNat).take (i + 1), ¬ (lcr t.1 t.2.1 g (N g) ∧ lcr t.1 t.2.1 (g + 1) (N (g + 1)))) := fun H5 s5 hx2 => by
              have il := (List.getElem?_eq_some_iff.mp hx).1
              refine ⟨us, s5 _ _ L2.at_, small1000 (by omega), us ++ [.ref b], L2.put nE s5, by rw [List.length_append]; show us.length + 1 ≤ i + 1; omega, ?_⟩
              rw [tk]
              constructor
              · intro z
                simp at z
              · intro z
                exact absurd hx2 (z t (by simp))
            have fin1 : ∀ H5, Same H2 H5 → ¬ (lcr t.1 t.2.1 g (N g) ∧ lcr t.1 t.2.1 (g + 1) (N (g + 1))) → ∃ us, LcI H1 E us H5 ∧ us.length ≤ i + 1 ∧ (us = [] ↔ ∀ t ∈ (mtE N n.toNat).take (i + 1), ¬ (lcr t.1 t.2.1 g (N g) ∧ lcr t.1 t.2.1 (g + 1) (N (g + 1)))) := fun H5 s5 hx2 => by
              refine ⟨us, L2.keep nE s5, by omega, ?_⟩
              rw [tk, ue]
              constructor
              · intro z u hu
                rcases List.mem_append.mp hu with hu | hu
                · exact z u hu
                · rw [List.mem_singleton.mp hu]
                  exact hx2
              · intro z u hu
                exact z u (List.mem_append_left _ hu)
            refine ⟨rfl, ?_⟩
            refine ⟨_, rfl, b, _, _, _, rfl, rfl, hS2, at_of (j := 0) rfl rfl, _, rfl, b, _, _, _, rfl, rfl, hS2, at_of (j := 1) rfl rfl, _, rfl, _, rfl, t.1, t.2.1, g, N g, rfl, fun H3 s3 => ?_⟩
            refine ⟨_, rfl, ite2 (fun e1 => ?_) (fun e1 => ?_)⟩
            · have e1 := of_decide_eq_true e1
              have hS3 : SqB K H3 b (tv t) := .inr (.inl (.inl (s3 _ _ hb)))
              refine ⟨_, rfl, b, _, _, _, rfl, rfl, hS3, at_of (j := 0) rfl rfl, _, rfl, b, _, _, _, rfl, rfl, hS3, at_of (j := 1) rfl rfl, _, rfl, _, _, rfl, rfl, _, rfl, t.1, t.2.1, g + 1, N (g + 1), rfl, fun H4 s4 => ?_⟩
              refine ⟨_, rfl, ite2 (fun e2 => ?_) (fun e2 => ?_)⟩
              · have e2 := of_decide_eq_true e2
                exact ⟨_, rfl, fin0 H4 (s3.trans s4) ⟨e1, e2⟩⟩
              · exact fin1 H4 (s3.trans s4) fun z => e2 (decide_eq_true z.2)
            · exact ite2 (fun z => absurd z (by decide)) (fun _ => fin1 H3 s3 fun z => e1 (decide_eq_true z.1))
          · obtain ⟨us, L2, ul, ue⟩ := pv
            rw [tV.1, List.take_length] at ue
            have eE := L2.at_
            have ql : ∀ {l : List V}, 0 < (l.length : Int) ↔ l ≠ [] := fun {l} => by cases l <;> simp
            refine ⟨_, rfl, E, us, rfl, .inl (.inl (.inl eE)), _, _, rfl, rfl, _, rfl, ite2 (fun e => ?_) (fun e => ?_)⟩
            · have eD2 := L2.same _ _ eD
              have tV2 := tV.same L2.same
              have r0 := hM.ne g g0 (by omega)
              have n3 : 2 < n := by omega
              have hnz := mg_ne hM g0 g1 c
              refine ⟨_, rfl, D, rfl, ⟨_, .inl (.inl eD2)⟩, fun G nG => ?_⟩
              refine lc_list (K := K) (a := D) (xs := ws) (fun i H' => ∃ vs, LcI H2 G vs H' ∧ TrV H' vs (((mtE N n.toNat).take i).map fun t => (nmG g t.1, nmG g t.2.1, t.2.2))) ⟨[], LcI.start nG, TrV.nil⟩ (fun i H' _ pv => by obtain ⟨vs, L, _⟩ := pv; exact .inl (.inl (L.same _ _ eD2))) (fun i x H3 hx pv => ?_) (fun H3 pv => ?_)
              · obtain ⟨vs, L3, tW⟩ := pv
                obtain ⟨b, t, rfl, ht, hb⟩ := (tV2.same L3.same).at_ hx
                have hS3 : SqB K H3 b (tv t) := .inr (.inl (.inl hb))
                have tk : (mtE N n.toNat).take (i + 1) = (mtE N n.toNat).take i ++ [t] := by rw [List.take_add_one, ht]; rfl
                have nm : ∀ x : Int, x - (if decide (g < x) = true then (1 : Int) else 0) = nmG g x := fun x => by
                  unfold nmG
                  by_cases z : g < x
                  · rw [if_pos (decide_eq_true z), if_neg (by omega)]
                  · rw [if_neg (by simpa using z), if_pos (by omega)]
                    omega
                refine ⟨rfl, ?_⟩
                refine ⟨_, rfl, b, _, _, _, rfl, rfl, hS3, at_of (j := 0) rfl rfl, _, rfl, b, _, _, _, rfl, rfl, hS3, at_of (j := 0) rfl rfl, _, rfl, _, _, rfl, rfl, .inr ⟨_, rfl, _, _, rfl, rfl, ?_⟩⟩
                refine ⟨_, rfl, b, _, _, _, rfl, rfl, hS3, at_of (j := 1) rfl rfl, _, rfl, b, _, _, _, rfl, rfl, hS3, at_of (j := 1) rfl rfl, _, rfl, _, _, rfl, rfl, .inr ⟨_, rfl, _, _, rfl, rfl, ?_⟩⟩
                refine ⟨_, rfl, b, _, _, _, rfl, rfl, hS3, at_of (j := 2) rfl rfl, by show 3 ≤ sizeLine; decide, fun p2 np2 => ?_⟩
                dsimp only at np2 ⊢
                rw [nm, nm]
                have s3 := same_upd (o := .tup [.int (nmG g t.1), .int (nmG g t.2.1), .int t.2.2]) np2
                have nG2 : p2 ≠ G := L3.nn np2
                refine ⟨vs, s3 _ _ L3.at_, ?_, vs ++ [.ref p2], L3.put nG s3, ?_⟩
                · have il := (List.getElem?_eq_some_iff.mp hx).1
                  rw [tW.1, List.length_map, List.length_take]
                  exact small1000 (by omega)
                · rw [tk, List.map_append]
                  refine (tW.sameT (sameT_put L3.at_ s3)).snoc (t := (nmG g t.1, nmG g t.2.1, t.2.2)) ?_
                  rw [upd_ne nG2, upd_same]
              · obtain ⟨vs, L3, tW⟩ := pv
                rw [tV.1, List.take_length, ← mg_all hM g0 g1 c] at tW
                have lmg : (mgE g (mtE N n.toNat)).length ≤ 1000 := Nat.le_trans (mgE_len g _) (Nat.le_trans (mtE_len N _) (by omega))
                refine ⟨G, vs, _, rfl, .inl (.inl (.inl L3.at_)), tW, ?_, lmg, fun H4 c4 r4 s4 t4 gn4 => ?_⟩
                · rw [mg_all hM g0 g1 c]
                  intro u hu
                  obtain ⟨t, ht, rfl⟩ := List.mem_map.mp hu
                  exact hnz t ht
                have hN4 : IsNorm (mgE g (mtE N n.toNat)) r4 := gn4.norm fun u hu => by
                  have v := (mgE_vld (mtE_good hM) g0 g1 u hu).1
                  exact v.2.2.2.2.2
                obtain ⟨gr4, et4, ev4, one4⟩ := jn_merged hM g0 g1 hN4
                obtain ⟨us4, ec4, tc4⟩ := id t4
                refine ⟨_, rfl, _, _, rfl, rfl, _, rfl, _, _, rfl, rfl, _, rfl, n - 1, c4, r4, rfl, t4, fun t ht => (gr4.ord t ht).2.1, ?_, by omega, by omega, fun H5 p5 s5 h5 => ?_⟩
                · exact Nat.le_trans hN4.len lmg
                refine ⟨_, rfl, n - 1, g, p5, tabE r4, rfl, h5, gr4.met.dg, by omega, by omega, g0, by omega, fun H6 p6 s6 h6 => ?_⟩
                rw [show n - 1 - 1 = n - 2 by omega] at h6
                have h6 := (h6.gridB (by omega)).congr fun x y _ _ _ _ => dw_dp gr4 (by omega) g0 (by omega) x y
                refine ⟨_, rfl, _, _, rfl, rfl, n - 2, rfl, by omega, by omega, fun B nB => ?_⟩
                refine lc_range (lo := 0) (n := (n - 2).toNat) (fun i H' => LcI H6 B (gl (i : Int) fun _ => 0) H') (LcI.start nB) (fun i H7 hi7 L7 => ?_) (fun H7 L7 => ?_)
                · refine ⟨rfl, _, L7.at_, by rw [gl_len]; exact small1000 (by omega), ?_⟩
                  have e := L7.put (m := gl (i : Int) (fun _ => 0) ++ [.int 0]) nB (Same.refl _)
                  rw [show gl ((i + 1 : Nat) : Int) (fun _ => 0) = gl (i : Int) (fun _ => 0) ++ [.int 0] by rw [show ((i + 1 : Nat) : Int) = (i : Int) + 1 by omega, gl_snoc (by omega)]]
                  exact e
                rw [show (((n - 2).toNat : Nat) : Int) = n - 2 by omega] at L7
                have gr3 : Good (n - 2) (cotE (n - 2) (dpT (tabE r4) g)) := cotE_good (by omega) _
                have jd := jn_dropped hM g0 g1 n3 hN4 gr3.self
                refine ⟨_, rfl, _, _, rfl, rfl, _, rfl, n - 2, p6, dpT (tabE r4) g, rfl, h6.same L7.same, by omega, by omega, fun a b a0 ab b1 => ?_, fun H8 c8 s8 t8 => ?_⟩
                · have := dp_tw gr4 (by omega) g0 (show g < n - 1 by omega) ev4 a0 ab (by omega)
                  rw [show n - 1 - 1 = n - 2 by omega] at this
                  exact this
                obtain ⟨us8, ec8, tc8⟩ := t8
                have eB8 := s8 _ _ L7.at_
                have cB : c8 ≠ B := fun z => by
                  rw [z, eB8] at ec8
                  have h0 := HO.lst.inj (Option.some.inj ec8)
                  have h1 : (gl (n - 2) fun _ => 0)[0]? = some (V.int 0) := by
                    unfold gl
                    rw [List.getElem?_map, List.getElem?_range (by omega)]
                    rfl
                  rw [h0] at h1
                  obtain ⟨b, t, e, _⟩ := tc8.at_ h1
                  cases e
                have ec0 : hole H8 B c8 = some (.lst us8) := by rw [hole_ne cB]; exact ec8
                have tc0 : TrV (hole H8 B) us8 (cotE (n - 2) (dpT (tabE r4) g)) := tc8.sameT fun b o h => by
                  by_cases z : b = B
                  · rw [z, eB8] at h
                    cases h
                  · rw [hole_ne z]
                    exact h
                have sF : Same H (hole H8 B) := ((((((sD.trans L2.same).trans L3.same).trans s4).trans s5).trans s6)).trans (same_hole nB (L7.same.trans s8))
                refine ⟨c8, rfl, ⟨us8, .inl (.inl ec8)⟩, for_list (xs := us8) (fun i σ H' => (∃ y12, σ = [some (.ref a), some (.int g), some (.int n), some (.int (N g)), some (.int (N (g + 1))), none, none, some (.ref D), some (.ref E), some (.ref c4), some (.ref p6), some (.ref B), y12, none]) ∧ LcI (hole H8 B) B (gl (n - 2) (mtF ((cotE (n - 2) (dpT (tabE r4) g)).take i))) H') ⟨⟨_, rfl⟩, ⟨hole H8 B, Same.refl _, hole_at, by rw [upd_hole]; exact (upd_self eB8).symm⟩⟩ (fun i σ H' _ pv => .inl (.inl (pv.2.same _ _ ec0))) (fun i x σ H' hx pv => ?_) (fun σ H' pv => ?_)⟩
                · obtain ⟨⟨y12, rfl⟩, L9⟩ := pv
                  obtain ⟨b, tt, rfl, hti, hb⟩ := (tc0.same L9.same).at_ hx
                  obtain ⟨v0, v1, v2, v3⟩ := gr3.ord tt (List.mem_of_getElem? hti)
                  have hS9 : SqB K H' b (tv tt) := .inr (.inl (.inl hb))
                  refine ⟨_, rfl, b, _, _, _, rfl, rfl, hS9, at_of (j := 1) rfl rfl, _, rfl, _, rfl, b, _, _, _, rfl, rfl, hS9, at_of (j := 0) rfl rfl, B, _, _, _, rfl, rfl, L9.at_, gl_ix _ v0 (show tt.1 < n - 2 by omega), ?_⟩
                  rw [gl_set _ _ v0 (show tt.1 < n - 2 by omega)]
                  have nbB : b ≠ B := fun z => by rw [z, L9.at_] at hb; cases hb
                  have hb2 : upd H' B (.lst (gl (n - 2) fun y => if y = tt.1 then tt.2.1 else mtF ((cotE (n - 2) (dpT (tabE r4) g)).take i) y)) b = some (.tup (tv tt)) := by rw [upd_ne nbB]; exact hb
                  have hS10 : SqB K (upd H' B (.lst (gl (n - 2) fun y => if y = tt.1 then tt.2.1 else mtF ((cotE (n - 2) (dpT (tabE r4) g)).take i) y))) b (tv tt) := .inr (.inl (.inl hb2))
                  refine ⟨_, rfl, b, _, _, _, rfl, rfl, hS10, at_of (j := 0) rfl rfl, _, rfl, _, rfl, b, _, _, _, rfl, rfl, hS10, at_of (j := 1) rfl rfl, B, _, _, _, rfl, rfl, upd_same, gl_ix _ (show 0 ≤ tt.2.1 by omega) v2, ?_⟩
                  rw [gl_set _ _ (show 0 ≤ tt.2.1 by omega) v2, upd_upd]
                  refine ⟨⟨_, rfl⟩, ?_⟩
                  have eg : (gl (n - 2) fun y => if y = tt.2.1 then tt.1 else if y = tt.1 then tt.2.1 else mtF ((cotE (n - 2) (dpT (tabE r4) g)).take i) y) = gl (n - 2) (mtF ((cotE (n - 2) (dpT (tabE r4) g)).take (i + 1))) := gl_congr fun x _ _ => by
                    rw [List.take_add_one, hti]
                    exact (mtF_snoc _ _ _).symm
                  rw [eg]
                  exact L9.put hole_at (Same.refl _)
                · obtain ⟨⟨y12, rfl⟩, L9⟩ := pv
                  rw [tc8.1, List.take_length] at L9
                  refine ⟨_, rfl, q H' B _ (sF.trans L9.same) L9.at_ (mtF_mat gr3 jd.2.1) fun _ i j i0 i1 j0 j1 => ?_⟩
                  rw [← mt_tab, mtF_lot gr3 jd.2.1, jd.2.2 i j i0 i1 j0 j1, jn_tab et4]
            · refine ⟨⟨_, _, _, _, _, _, _, _, _, rfl⟩, sD.trans L2.same, .inr fun p p0 p1 pl => ?_⟩
              have un : us = [] := Classical.byContradiction fun z => e (decide_eq_true (ql.mpr z))
              exact ue.mp un (p, N p, 1) (mtE_mem.mpr ⟨p0, by dsimp only; omega, pl, rfl, rfl⟩)
      · exact ⟨⟨_, _, _, _, _, _, _, _, _, rfl⟩, Same.refl _, .inl (Classical.byContradiction fun z => c (ne.mpr z))⟩
    · obtain ⟨⟨y5, y6, y7, y8, y9, y10, y11, y12, y13, rfl⟩, s1, no⟩ := hm
      have e1 := s1 _ _ ha
      refine ⟨_, rfl, a, _, rfl, .inl (.inl (.inl e1)), fun R nR => ?_⟩
      have s2 := same_upd (o := .lst (gl n N)) nR
      refine ⟨_, rfl, _, rfl, _, rfl, R, _, _, _, rfl, rfl, upd_same, gl_ix _ r1.1 r1.2, ?_⟩
      rw [gl_set _ _ r1.1 r1.2, upd_upd]
      refine ⟨_, rfl, _, rfl, _, rfl, R, _, _, _, rfl, rfl, upd_same, gl_ix _ r2.1 r2.2, ?_⟩
      rw [gl_set _ _ r2.1 r2.2, upd_upd]
      generalize hms : gl n (fun y => if y = N (g + 1) then N g else if y = N g then N (g + 1) else N y) = ms at *
      have lm : (ms.length : Int) = n := by rw [← hms, gl_len]; omega
      have s2' := same_upd (o := .lst ms) nR
      refine ⟨_, rfl, _, rfl, g, rfl, R, ms, rfl, .inl (.inl upd_same), fun u1 m1 => ?_⟩
      rw [cut_to ms g0 (by omega)]
      have t1 := same_upd (o := .lst (ms.take g.toNat)) m1
      refine ⟨_, rfl, _, rfl, _, _, rfl, rfl, g + 2, rfl, R, ms, rfl, .inl (.inl (t1 _ _ upd_same)), fun u2 m2 => ?_⟩
      rw [cut_from ms (show 0 ≤ g + 2 by omega) (by omega)]
      have t2 := same_upd (o := .lst (ms.drop (g + 2).toNat)) m2
      refine ⟨u1, u2, _, _, rfl, rfl, t2 _ _ upd_same, upd_same, ?_, fun u3 m3 => ?_⟩
      · rw [List.length_take, List.length_drop]
        exact Nat.le_of_lt (small1000 (by omega))
      have t3 := same_upd (o := .lst (ms.take g.toNat ++ ms.drop (g + 2).toNat)) m3
      have sA := ((((s1.trans s2').trans t1).trans t2).trans t3)
      have eJ : ms.take g.toNat ++ ms.drop (g + 2).toNat = gl (n - 2) fun y => if bgU g y = N (g + 1) then N g else if bgU g y = N g then N (g + 1) else N (bgU g y) := by
        rw [← hms]
        exact jn_list g0 g1 _
      have e3 : upd (upd (upd (upd H' R (.lst ms)) u1 (.lst (ms.take g.toNat))) u2 (.lst (ms.drop (g + 2).toNat))) u3 (.lst (ms.take g.toNat ++ ms.drop (g + 2).toNat)) u3 = some (.lst (gl (n - 2) fun y => if bgU g y = N (g + 1) then N g else if bgU g y = N g then N (g + 1) else N (bgU g y))) := by
        rw [upd_same, eJ]
      generalize upd (upd (upd (upd H' R (.lst ms)) u1 (.lst (ms.take g.toNat))) u2 (.lst (ms.drop (g + 2).toNat))) u3 (.lst (ms.take g.toNat ++ ms.drop (g + 2).toNat)) = HA at sA e3
      refine ⟨_, rfl, u3, rfl, ⟨_, .inl (.inl e3)⟩, fun D nD => ?_⟩
      refine lc_list (K := K) (a := u3) (xs := gl (n - 2) fun y => if bgU g y = N (g + 1) then N g else if bgU g y = N g then N (g + 1) else N (bgU g y)) (fun i H' => LcI HA D (gl (i : Int) (jqM N g)) H') (LcI.start nD) (fun i H' _ L => .inl (.inl (L.same _ _ e3))) (fun i x H' hx L => ?_) (fun H' L => ?_)
      · obtain ⟨rfl, i1⟩ := gl_nat hx
        refine ⟨rfl, _, rfl, _, rfl, _, rfl, _, _, rfl, rfl, .inr ⟨_, rfl, _, _, rfl, rfl, cm2 _, _, _, rfl, rfl, _, L.at_, by rw [gl_len]; exact small1000 (by omega), ?_⟩⟩
        have jv := jq_val hM g0 g1 (y := (i : Int)) (by omega) i1 rfl
        dsimp only
        rw [jv, show ((i + 1 : Nat) : Int) = (i : Int) + 1 by omega, gl_snoc (by omega)]
        exact L.put nD (Same.refl _)
      · rw [gl_len, show (((n - 2).toNat : Nat) : Int) = n - 2 by omega] at L
        exact q H' D (jqM N g) (sA.trans L.same) L.at_ (jq_mat hM g0 g1) fun _ i j _ _ _ _ => jq_tab hM g0 g1 no
end
end Own

namespace Own
open PySem PySem.Spec PyProof.Rows L2
/-! ### the law: one letter on partners -/
theorem crs_lcr {n : Int} {M : Int → Int} (h : Mat n M) {a : Int} (a0 : 0 ≤ a) (a1 : a + 1 < n) (d : M a ≠ a + 1) : lcr a (M a) (a + 1) (M (a + 1)) ↔ crs M a := by
  obtain ⟨_, _, _, _, v5, v6, v7, v8⟩ := jp_vals h a0 a1 d
  unfold lcr crs
  generalize M a = p at *
  generalize M (a + 1) = r at *
  rcases lo_hi a p with ⟨h1, h2, h3⟩ | ⟨h1, h2, h3⟩ <;> rcases lo_hi (a + 1) r with ⟨k1, k2, k3⟩ | ⟨k1, k2, k3⟩ <;> rw [h2, h3, k2, k3] <;> grind
theorem sw_row {n : Int} {M : Int → Int} (h : Mat n M) {a : Int} (a0 : 0 ≤ a) (a1 : a + 1 < n) (d : M a ≠ a + 1) (x : Int) : (if x = M a then a + 1 else if x = a + 1 then M a else if x = M (a + 1) then a else if x = a then M (a + 1) else M x) = swM M a x := by
  obtain ⟨_, _, _, _, v5, v6, v7, v8⟩ := jp_vals h a0 a1 d
  unfold swM
  generalize M x = y
  generalize M a = p at *
  generalize M (a + 1) = r at *
  grind
section
variable {P : Program} {w : World} {K : PySem.W.Frag} {mg : Str → Option Value} {base : Heap} {C : Addr}
def spPLt : Sp := fun vs H Q _ => ∃ (a b : Addr) (n : Int) (M : Int → Int) (T : Int → Int → Int) (d : Lt), vs = [.ref a, .ref b] ∧ H a = some (.lst (gl n M)) ∧ Mat n M ∧ EqT n T (tM n M) ∧ SqH H b (lv d) ∧ 0 ≤ n ∧ n ≤ 44 ∧ GoodR d ∧ 0 ≤ d.2 ∧ (if d.1 = "cup" then d.2 ≤ n else d.2 + 2 ≤ n) ∧
  ∀ H' r N, Same H H' → H' r = some (.lst (gl (n + chgR d.1) N)) → Mat (n + chgR d.1) N → EqT (n + chgR d.1) (stepT n T d) (tM (n + chgR d.1) N) → Q (.ref r) H'
set_option maxHeartbeats 0 in
theorem ok_plt {f : Addr} {fd : FuncData} (F : Fun K "_law_partners_letter" "_law_partners_letter" s__law_partners_letter f fd) (T : Bi mg) {f_x : Addr} {d_x : FuncData} (D_x : Df K mg "_law_cross" s__law_cross ["_law_a", "_law_b", "_law_c", "_law_d"] f_x d_x) (G_x : FnOk P w K mg base CX0 1 f_x d_x ["_law_a", "_law_b", "_law_c", "_law_d"] spLX) {f_j : Addr} {d_j : FuncData} (D_j : Df K mg "_law_joined_partners" s__law_joined_partners ["_law_partners", "_law_low"] f_j d_j) (G_j : FnOk P w K mg base CX0 3 f_j d_j ["_law_partners", "_law_low"] spLJn) : FnOk P w K mg base CX0 4 f fd ["_law_partners", "_law_letter"] spPLt := by
  refine F.ok sc__law_partners_letter (fun vs H Q E h => ?_) (fun cdv A outer s H vs Q E hr h => ?_)
  · obtain ⟨a, b, n, N, F, d, rfl, _⟩ := h
    rfl
  · obtain ⟨a, b, n, N, F, d, rfl, ha, hM, hE, hb, n0, n1, gd, d0, d1, q⟩ := h
    refine ⟨_, (pss_cons (ps_set (i := 2) sc__law_partners_letter.nd rfl (.inl rfl) (pe_callB call_len_seq (by rfl) T.b_len PySem.boot_len (pa_cons (pv 0) pa_nil)))
        (pss_cons (ps_if (pt_cmpR op_eq (pe_ix (r := rIxB K) ix_seqB (pv 1) pe_int (fun _ _ => rfl)) pe_str (nomark _)) (pss_cons (ps_set (i := 7) sc__law_partners_letter.nd rfl (.inr rfl) (pe_op op_sub (pv 2) (pe_ix (r := rIxB K) ix_seqB (pv 1) pe_int (fun _ _ => rfl))))
        (pss_cons (ps_setLc (i := 6) (own := [("_law_p", 8)]) (g := gName 8) (tt := tYes) rfl sc__law_partners_letter.nd rfl rfl (sw_true rfl rfl rfl (by decide +kernel)) (pi_list (pv 0)) (blkOk_by (own := [("_law_p", 8)]) (N := ["_law_partners", "_law_letter", "_law_pins", "_law_low", "_law_one", "_law_other", "_law_row", "_law_new", "_law_p"]) (sc := defScope s__law_partners_letter) (by decide +kernel)) (fun _ _ _ _ _ => (pg_name (i := 8) sc__law_partners_letter.nd rfl (.inl rfl))) (fun _ _ _ _ _ => pts_nil) (fun _ _ _ _ _ => (pe_op op_add (pv 8) (pe_op op_mul pe_int (pe_callTy call_int1 (by rfl) T.b_int (by decide +kernel) (pa_cons (pe_cmpR op_ge (pv 8) (pv 7) (nomark _)) pa_nil))))))
        (pss_one (ps_ret (pe_op op_cat (pe_op op_cat (pe_slice sl_list (pv 6) po_none (po_some (pv 7))) (pe_lst (pa_cons (pe_op op_add (pv 7) pe_int) (pa_cons (pv 7) pa_nil)))) (pe_slice sl_list (pv 6) (po_some (pv 7)) po_none)))))) pss_nil)
        (pss_cons (ps_set (i := 3) sc__law_partners_letter.nd rfl (.inl rfl) (pe_op op_sub (pe_op op_sub (pv 2) pe_int) (pe_ix (r := rIxB K) ix_seqB (pv 1) pe_int (fun _ _ => rfl))))
        (pss_cons (ps_if (pt_cmpR op_eq (pe_ix (r := rIxB K) ix_seqB (pv 1) pe_int (fun _ _ => rfl)) pe_str (nomark _)) (pss_one (ps_ret (pe_call G_j (hr.mono (by decide)) (by rfl) D_j.g D_j.F.kp D_j.b .nil pass0 (pa_cons (pv 0) (pa_cons (pv 3) pa_nil))))) pss_nil)
        (pss_cons (ps_set (i := 4) sc__law_partners_letter.nd rfl (.inl rfl) (pe_ix (r := rIxB K) ix_seqB (pv 0) (pv 3) (fun _ _ => rfl)))
        (pss_cons (ps_set (i := 5) sc__law_partners_letter.nd rfl (.inl rfl) (pe_ix (r := rIxB K) ix_seqB (pv 0) (pe_op op_add (pv 3) pe_int) (fun _ _ => rfl)))
        (pss_cons (ps_set (i := 6) sc__law_partners_letter.nd rfl (.inl rfl) (pe_callTy (r := rListK K) (call_listK rfl) (by rfl) T.b_list (by decide +kernel) (pa_cons (pv 0) pa_nil)))
        (pss_cons (ps_if (PW.pt (pw_and (pt_cmpR op_ne (pv 4) (pe_op op_add (pv 3) pe_int) (nomark _)) (pw_and1 (pt_not (pt_val (pe_call G_x (hr.mono (by decide)) (by rfl) D_x.g D_x.F.kp D_x.b .nil pass0 (pa_cons (pv 3) (pa_cons (pv 4) (pa_cons (pe_op op_add (pv 3) pe_int) (pa_cons (pv 5) pa_nil)))))))))) (pss_cons (ps_asg (pv 5) (pg_sub (pv 6) (pv 3) set_list))
        (pss_cons (ps_asg (pv 3) (pg_sub (pv 6) (pv 5) set_list))
        (pss_cons (ps_asg (pv 4) (pg_sub (pv 6) (pe_op op_add (pv 3) pe_int) set_list))
        (pss_one (ps_asg (pe_op op_add (pv 3) pe_int) (pg_sub (pv 6) (pv 4) set_list)))))) pss_nil)
        (pss_one (ps_ret (pv 6))))))))))), ?_⟩
    have eL : ((gl n N).length : Int) = n := by
      rw [gl_len]
      omega
    have tz : atI (lv d) 0 = some (.str d.1) := at_of (j := 0) rfl rfl
    have t1 : atI (lv d) 1 = some (.int d.2) := at_of (j := 1) rfl rfl
    have es : ∀ {x y : Str}, decide (V.str x = V.str y) = true ↔ x = y := fun {x y} => by
      rw [decide_eq_true_iff]
      exact ⟨fun z => V.str.inj z, fun z => by rw [z]⟩
    have ne : ∀ {x y : Int}, (!decide (V.int x = V.int y)) = true ↔ x ≠ y := fun {x y} => by
      by_cases z : x = y
      · rw [z, decide_eq_true rfl]
        exact ⟨fun w => (by cases w), fun w => absurd rfl w⟩
      · rw [decide_eq_false fun w => z (V.int.inj w)]
        exact ⟨fun _ => z, fun _ => rfl⟩
    refine ⟨_, rfl, a, _, rfl, .inl (.inl (.inl ha)), ?_⟩
    rw [eL]
    refine ⟨_, rfl, b, _, _, _, rfl, rfl, hb.b, tz, rfl, _, rfl, ite2 (fun c => ?_) (fun c => ?_)⟩
    · have c := es.mp c
      rw [if_pos c] at d1
      have st : stepT n F d = cupT n F d.2 := if_pos c
      have cg : chgR d.1 = 2 := by rw [c]; exact c_u
      rw [st, cg] at q
      refine ⟨_, rfl, _, rfl, b, _, _, _, rfl, rfl, hb.b, t1, _, _, rfl, rfl, ?_⟩
      have f0 : 0 ≤ n - d.2 := by omega
      have f1 : n - d.2 ≤ n := by omega
      have fe : EqT (n + 2) (cupT n F d.2) (tM (n + 2) (bgM N (n - d.2))) := cup_eq hM hE d0 d1
      dsimp only
      generalize n - d.2 = f at *
      refine ⟨_, rfl, a, rfl, ⟨_, .inl (.inl ha)⟩, fun D nD => ?_⟩
      refine lc_list (K := K) (a := a) (xs := gl n N) (fun i H' => LcI H D (gl (i : Int) fun x => bgU f (N x)) H') (LcI.start nD) (fun i H' _ L => .inl (.inl (L.same _ _ ha))) (fun i x H1 hx L => ?_) (fun H1 L => ?_)
      · obtain ⟨rfl, i1⟩ := gl_nat hx
        refine ⟨rfl, _, rfl, _, rfl, _, rfl, _, _, rfl, rfl, .inr ⟨_, rfl, _, _, rfl, rfl, cm2 _, _, _, rfl, rfl, _, L.at_, by rw [gl_len]; exact small1000 (by omega), ?_⟩⟩
        have v : N (i : Int) + 2 * (if decide (f ≤ N (i : Int)) = true then (1 : Int) else 0) = bgU f (N (i : Int)) := by
          unfold bgU
          by_cases z : f ≤ N (i : Int)
          · rw [if_pos (decide_eq_true z), if_pos z]
            omega
          · rw [if_neg (by simpa using z), if_neg z]
            omega
        dsimp only
        rw [v, show ((i + 1 : Nat) : Int) = (i : Int) + 1 by omega, gl_snoc (by omega)]
        exact L.put nD (Same.refl _)
      · rw [gl_len, show ((n.toNat : Nat) : Int) = n by omega] at L
        have sD := L.same
        have eD := L.at_
        have bl := bg_list f0 f1 N
        generalize hm : gl n (fun x => bgU f (N x)) = ms at *
        have lm : (ms.length : Int) = n := by rw [← hm, gl_len]; omega
        refine ⟨_, rfl, _, rfl, f, rfl, D, ms, rfl, .inl (.inl eD), fun u1 m1 => ?_⟩
        rw [cut_to ms f0 (by omega)]
        have s1 := same_upd (o := .lst (ms.take f.toNat)) m1
        refine ⟨_, rfl, _, _, rfl, rfl, _, rfl, by show 2 ≤ sizeLine; decide, fun u2 m2 => ?_⟩
        have s2 := same_upd (o := .lst [V.int (f + 1), .int f]) m2
        refine ⟨_, _, _, _, rfl, rfl, s2 _ _ upd_same, upd_same, ?_, fun u3 m3 => ?_⟩
        · rw [List.length_take]
          exact Nat.le_of_lt (small1000 (show min _ _ + 2 ≤ 1000 by omega))
        have s3 := same_upd (o := .lst (ms.take f.toNat ++ [V.int (f + 1), .int f])) m3
        have s123 := (s1.trans s2).trans s3
        have e3 : upd (upd (upd H1 u1 (.lst (ms.take f.toNat))) u2 (.lst [V.int (f + 1), .int f])) u3 (.lst (ms.take f.toNat ++ [V.int (f + 1), .int f])) u3 = some (.lst (ms.take f.toNat ++ [V.int (f + 1), .int f])) := upd_same
        have eD3 := s123 _ _ eD
        generalize upd (upd (upd H1 u1 (.lst (ms.take f.toNat))) u2 (.lst [V.int (f + 1), .int f])) u3 (.lst (ms.take f.toNat ++ [V.int (f + 1), .int f])) = H3 at *
        refine ⟨_, rfl, _, rfl, f, rfl, D, ms, rfl, .inl (.inl eD3), fun u4 m4 => ?_⟩
        rw [cut_from ms f0 (by omega)]
        have s4 := same_upd (o := .lst (ms.drop f.toNat)) m4
        refine ⟨_, _, _, _, rfl, rfl, s4 _ _ e3, upd_same, ?_, fun u5 m5 => ?_⟩
        · rw [List.length_append, List.length_take, List.length_drop]
          exact Nat.le_of_lt (small1000 (show min _ _ + 2 + _ ≤ 1000 by omega))
        refine q _ u5 (bgM N f) (sD.trans (s123.trans (s4.trans (same_upd m5)))) ?_ (bg_mat hM f0 f1) fe
        rw [upd_same, ← bl]
    · have c : d.1 ≠ "cup" := fun z => c (es.mpr z)
      rw [if_neg c] at d1
      have a0 : 0 ≤ n - 2 - d.2 := by omega
      have a1 : n - 2 - d.2 + 1 < n := by omega
      refine ⟨_, rfl, _, _, rfl, rfl, _, rfl, b, _, _, _, rfl, rfl, hb.b, t1, _, _, rfl, rfl, ?_⟩
      refine ⟨_, rfl, b, _, _, _, rfl, rfl, hb.b, tz, rfl, _, rfl, ite2 (fun c2 => ?_) (fun c2 => ?_)⟩
      · have c2 := es.mp c2
        have st : stepT n F d = capT n F d.2 := by
          unfold stepT
          rw [if_neg c, if_neg (by rw [c2]; decide +kernel)]
        have cg : chgR d.1 = -2 := by rw [c2]; exact c_a
        rw [st, cg, show n + -2 = n - 2 by omega] at q
        refine ⟨_, rfl, _, rfl, a, n - 2 - d.2, n, N, rfl, ha, hM, a0, a1, by omega, fun H' r M' s e m t => q H' r M' s e m (cap_eq hM hE d0 (by omega) m t)⟩
      · have c2 : d.1 ≠ "cap" := fun z => c2 (es.mpr z)
        have c3 : d.1 = "cross" := by rcases good_word gd with z | z | z; exact z; exact absurd z c; exact absurd z c2
        have st : stepT n F d = croT n F d.2 := by
          unfold stepT
          rw [if_neg c, if_pos c3]
        have cg : chgR d.1 = 0 := by rw [c3]; exact c_x
        rw [st, cg, show n + 0 = n by omega] at q
        have fe : EqT n (croT n F d.2) (tM n (crM N (n - 2 - d.2))) := cro_eq hM hE d0 (by omega)
        have q := fun H' r (s : Same H H') (e : H' r = some (.lst (gl n (crM N (n - 2 - d.2))))) => q H' r _ s e (cr_mat hM a0 a1) fe
        dsimp only
        generalize n - 2 - d.2 = l at *
        have hS : SqB K H a (gl n N) := .inl (.inl (.inl ha))
        refine ⟨_, rfl, _, rfl, a, _, _, _, rfl, rfl, hS, gl_atI N a0 (by omega), ?_⟩
        refine ⟨_, rfl, _, rfl, _, _, rfl, rfl, a, _, _, _, rfl, rfl, hS, gl_atI N (show 0 ≤ l + 1 by omega) a1, ?_⟩
        refine ⟨_, rfl, a, _, rfl, .inl (.inl (.inl ha)), fun R nR => ?_⟩
        have s1 := same_upd (o := .lst (gl n N)) nR
        have r1 := hM.in_ l a0 (by omega)
        have r2 := hM.in_ (l + 1) (by omega) a1
        refine ⟨_, rfl, _, rfl, _, _, rfl, rfl, rfl, _, rfl, ite2 (fun c4 => ?_) (fun c4 => ?_)⟩
        · have c4 := ne.mp c4
          refine ⟨_, rfl, _, rfl, _, rfl, _, _, rfl, rfl, _, rfl, l, N l, l + 1, N (l + 1), rfl, fun H3 s3 => ⟨_, rfl, ?_⟩⟩
          have eR := s3 _ _ (upd_same (H := H) (a := R) (o := .lst (gl n N)))
          have s13 := s1.trans s3
          refine ite2 (fun c5 => ?_) (fun c5 => ?_)
          · have c5 : ¬ lcr l (N l) (l + 1) (N (l + 1)) := fun z => by rw [decide_eq_true z] at c5; cases c5
            have cm : crM N l = swM N l := if_neg fun z => z.elim c4 fun z => c5 ((crs_lcr hM a0 a1 c4).mpr z)
            rw [cm] at q
            refine ⟨_, rfl, _, rfl, _, rfl, R, _, _, _, rfl, rfl, eR, gl_ix _ a0 (by omega), ?_⟩
            rw [gl_set _ _ a0 (by omega)]
            refine ⟨_, rfl, _, rfl, _, rfl, R, _, _, _, rfl, rfl, upd_same, gl_ix _ r2.1 r2.2, ?_⟩
            rw [gl_set _ _ r2.1 r2.2, upd_upd]
            refine ⟨_, rfl, _, rfl, _, rfl, _, _, rfl, rfl, R, _, _, _, rfl, rfl, upd_same, gl_ix _ (show 0 ≤ l + 1 by omega) a1, ?_⟩
            rw [gl_set _ _ (show 0 ≤ l + 1 by omega) a1, upd_upd]
            refine ⟨_, rfl, _, _, rfl, rfl, _, rfl, _, rfl, R, _, _, _, rfl, rfl, upd_same, gl_ix _ r1.1 r1.2, ?_⟩
            rw [gl_set _ _ r1.1 r1.2, upd_upd]
            refine ⟨_, rfl, q _ R (fun b o e => ?_) ?_⟩
            · rw [upd_ne fun z => by rw [z, nR] at e; cases e]
              exact s13 _ _ e
            · rw [upd_same]
              refine congrArg (fun z => some (HO.lst z)) (gl_congr fun x _ _ => sw_row hM a0 a1 c4 x)
          · have c5 : lcr l (N l) (l + 1) (N (l + 1)) := Classical.byContradiction fun z => c5 (by rw [decide_eq_false z]; rfl)
            have cm : crM N l = N := if_pos (.inr ((crs_lcr hM a0 a1 c4).mp c5))
            rw [cm] at q
            exact ⟨_, rfl, q _ R s13 eR⟩
        · have c4 : N l = l + 1 := Classical.byContradiction fun z => c4 (ne.mpr z)
          have cm : crM N l = N := if_pos (.inl c4)
          rw [cm] at q
          exact ⟨_, rfl, q _ R s1 upd_same⟩
end
end Own

namespace Own
open PySem PySem.Spec PyProof.Rows L2
/-! ### the law: the cords letter by letter, by the rules -/
theorem TripL.upd {H : Hp} {c u b0 : Addr} {us vs : List V} {xs : List V} {l : List Tr} (hu : H u = some (.lst us)) (tu : TrV H us l) (e : H c = some (.lst vs)) (e0 : vs[0]? = some (.ref b0)) (eb : H b0 = some (.lst xs)) (o : HO) : TripL (upd H c o) u l := by
  have nu : u ≠ c := fun z => by
    subst z
    rw [e] at hu
    obtain rfl := HO.lst.inj (Option.some.inj hu)
    obtain ⟨b, t, hb, _, ht⟩ := tu.at_ e0
    obtain rfl : b0 = b := V.ref.inj hb
    rw [eb] at ht
    cases ht
  refine ⟨us, by rw [upd_ne nu]; exact hu, tu.sameT fun b o h => ?_⟩
  rw [upd_ne fun z => by rw [z, e] at h; cases h]
  exact h
/-- the pins and the cords along a row -/
def RulV (H : Hp) (vs : List V) (t : Int) (ds : List Lt) (k : Nat) : Prop := vs.length = k ∧ ∀ i, i < k → ∃ b u N, vs[i]? = some (.ref b) ∧ H b = some (.lst [.int (t + endR t (ds.take i)), .ref u]) ∧ TripL H u (mtE N (t + endR t (ds.take i)).toNat) ∧ Mat (t + endR t (ds.take i)) N ∧ EqT (t + endR t (ds.take i)) (RT t (ds.take i)) (tM (t + endR t (ds.take i)) N)
theorem RulV.same {H H' : Hp} {vs : List V} {t : Int} {ds : List Lt} {k : Nat} (s : Same H H') (h : RulV H vs t ds k) : RulV H' vs t ds k := ⟨h.1, fun i hi => let ⟨b, u, N, h1, h2, h3, h4⟩ := h.2 i hi; ⟨b, u, N, h1, s _ _ h2, h3.same s, h4⟩⟩
theorem RulV.put {H : Hp} {c b u : Addr} {vs : List V} {t : Int} {ds : List Lt} {i : Nat} {N : Int → Int} (h : RulV H vs t ds (i + 1)) (e : H c = some (.lst vs)) (hb : H b = some (.lst [.int (t + endR t (ds.take (i + 1))), .ref u])) (hu : TripL H u (mtE N (t + endR t (ds.take (i + 1))).toNat)) (hm : Mat (t + endR t (ds.take (i + 1))) N) (he : EqT (t + endR t (ds.take (i + 1))) (RT t (ds.take (i + 1))) (tM (t + endR t (ds.take (i + 1))) N)) :
    RulV (upd H c (.lst (vs ++ [.ref b]))) (vs ++ [.ref b]) t ds (i + 2) := by
  obtain ⟨b0, u0, N0, f1, f2, f3⟩ := h.2 0 (by omega)
  have nb : ∀ {x : Addr} {k : Int} {y : Addr}, H x = some (.lst [.int k, .ref y]) → x ≠ c := fun hx z => by
    rw [z, e] at hx
    have := HO.lst.inj (Option.some.inj hx)
    rw [this] at f1
    cases f1
  have up : ∀ {y : Addr} {l : List Tr}, TripL H y l → TripL (upd H c (.lst (vs ++ [.ref b]))) y l := fun hy => by
    obtain ⟨us, e1, t1⟩ := hy
    exact TripL.upd e1 t1 e f1 f2 _
  refine ⟨by rw [List.length_append, h.1]; rfl, fun j hj => ?_⟩
  by_cases c1 : j < i + 1
  · obtain ⟨b', u', N', g1, g2, g3, g4⟩ := h.2 j c1
    exact ⟨b', u', N', by rw [List.getElem?_append_left (by rw [h.1]; exact c1)]; exact g1, by rw [upd_ne (nb g2)]; exact g2, up g3, g4⟩
  · obtain rfl : j = i + 1 := by omega
    exact ⟨b, u, N, by rw [List.getElem?_append_right (by rw [h.1]; omega), h.1, Nat.sub_self]; rfl, by rw [upd_ne (nb hb)]; exact hb, up hu, hm, he⟩
section
variable {P : Program} {w : World} {K : PySem.W.Frag} {mg : Str → Option Value} {base : Heap} {C : Addr}
def spByR : Sp := fun vs H Q _ => ∃ (t : Int) (a : Addr) (xs : List V) (ds : List Lt), vs = [.int t, .ref a] ∧ SqH H a xs ∧ LtH H xs ds ∧ (∀ d ∈ ds, GoodR d) ∧ AllR t ds ∧ 0 ≤ t ∧ t ≤ 20 ∧ ds.length ≤ 900 ∧ (∀ i, i ≤ ds.length → t + endR t (ds.take i) ≤ 44) ∧
  ∀ H' c ys, Same H H' → H c = none → H' c = some (.lst ys) → RulV H' ys t ds (ds.length + 1) → Q (.ref c) H'
set_option maxHeartbeats 0 in
theorem ok_byr {f : Addr} {fd : FuncData} (F : Fun K "_law_by_rules" "_law_by_rules" s__law_by_rules f fd) (T : Bi mg) {f_o : Addr} {d_o : FuncData} (D_o : Df K mg "_law_of_partners" s__law_of_partners ["_law_partners"] f_o d_o) (G_o : FnOk P w K mg base CX0 1 f_o d_o ["_law_partners"] spLOp) {f_l : Addr} {d_l : FuncData} (D_l : Df K mg "_law_partners_letter" s__law_partners_letter ["_law_partners", "_law_letter"] f_l d_l) (G_l : FnOk P w K mg base CX0 4 f_l d_l ["_law_partners", "_law_letter"] spPLt) : FnOk P w K mg base CX0 5 f fd ["_law_top", "_law_letters_here"] spByR := by
  refine F.ok sc__law_by_rules (fun vs H Q E h => ?_) (fun cdv A outer s H vs Q E hr h => ?_)
  · obtain ⟨t, a, xs, ds, rfl, _⟩ := h
    rfl
  · obtain ⟨t, a, xs, ds, rfl, hs, hd, hg, al, t0, t1, hl, hm, q⟩ := h
    refine ⟨_, (pss_cons (ps_setLc (i := 2) (own := [("_law_pin", 5)]) (g := gName 5) (tt := tYes) rfl sc__law_by_rules.nd rfl rfl (sw_true rfl rfl rfl (by decide +kernel)) (pi_range1 (by rfl) T.b_range (pa_cons (pe_op op_mul pe_int (pv 0)) pa_nil)) (blkOk_by (own := [("_law_pin", 5)]) (N := ["_law_top", "_law_letters_here", "_law_partners", "_law_found", "_law_letter", "_law_pin"]) (sc := defScope s__law_by_rules) (by decide +kernel)) (fun _ _ _ _ _ => (pg_name (i := 5) sc__law_by_rules.nd rfl (.inl rfl))) (fun _ _ _ _ _ => pts_nil) (fun _ _ _ _ _ => (pe_op op_sub (pe_op op_sub (pe_op op_mul pe_int (pv 0)) pe_int) (pv 5))))
        (pss_cons (ps_set (i := 3) sc__law_by_rules.nd rfl (.inl rfl) (pe_lst (pa_cons (pe_lst (pa_cons (pe_op op_mul pe_int (pv 0)) (pa_cons (pe_call G_o (hr.mono (by decide)) (by rfl) D_o.g D_o.F.kp D_o.b .nil pass0 (pa_cons (pv 2) pa_nil)) pa_nil))) pa_nil)))
        (pss_cons (ps_for PassesOwn.never rfl (pi_seq (pv 1)) (pg_name (i := 4) sc__law_by_rules.nd rfl (.inl rfl))
        (pss_cons (ps_set (i := 2) sc__law_by_rules.nd rfl (.inl rfl) (pe_call G_l (hr.mono (by decide)) (by rfl) D_l.g D_l.F.kp D_l.b .nil pass0 (pa_cons (pv 2) (pa_cons (pv 4) pa_nil))))
        (pss_one (ps_expr (pe_bm PySem.F.plainAttrs_list PySem.F.slot_list_append PySem.F.type_list_append mt_append (pv 3) (pa_cons (pe_lst (pa_cons (pe_callB call_len_seq (by rfl) T.b_len PySem.boot_len (pa_cons (pv 2) pa_nil)) (pa_cons (pe_call G_o (hr.mono (by decide)) (by rfl) D_o.g D_o.F.kp D_o.b .nil pass0 (pa_cons (pv 2) pa_nil)) pa_nil))) pa_nil))))))
        (pss_one (ps_ret (pv 3)))))), ?_⟩
    refine ⟨_, rfl, _, _, rfl, rfl, cm2 _, 2 * t, rfl, by omega, by omega, fun D nD => ?_⟩
    refine lc_range (lo := 0) (n := (2 * t).toNat) (fun i H' => LcI H D (gl (i : Int) (stM t)) H') (LcI.start nD) (fun i H1 hi L => ?_) (fun H1 L => ?_)
    · refine ⟨rfl, _, rfl, _, _, rfl, rfl, cm2 _, _, _, rfl, rfl, _, rfl, _, _, rfl, rfl, _, L.at_, by rw [gl_len]; exact small1000 (by omega), ?_⟩
      dsimp only
      rw [show ((i + 1 : Nat) : Int) = (i : Int) + 1 by omega, gl_snoc (by omega), show 2 * t - 1 - (0 + (i : Int)) = stM t (i : Int) by unfold stM; omega]
      exact L.put nD (Same.refl _)
    rw [show (((2 * t).toNat : Nat) : Int) = 2 * t by omega] at L
    refine ⟨_, rfl, _, _, rfl, rfl, cm2 _, _, rfl, D, 2 * t, stM t, rfl, L.at_, by omega, by omega, fun H2 u s2 nu2 tu2 => ?_⟩
    refine ⟨by show 2 ≤ sizeLine; decide, fun b0 nb0 => ⟨by show 1 ≤ sizeLine; decide, fun c nc => ?_⟩⟩
    have sb := same_upd (o := .lst [.int (2 * t), .ref u]) nb0
    have sH := (L.same.trans s2).trans sb
    have sc := same_upd (o := .lst [.ref b0]) nc
    have ncH : H c = none := sH.free nc
    have hac : a ≠ c := fun z => by rcases hs with e | e <;> (rw [z, ncH] at e; cases e)
    have nbc : b0 ≠ c := fun z => by rw [← z, upd_same] at nc; cases nc
    refine ⟨_, rfl, for_seqB (hs.same (sH.trans sc)) (fun i σ H' => ∃ ws p N y4 y5, σ = [some (.int t), some (.ref a), some (.ref p), some (.ref c), y4, y5] ∧ LcI (upd H2 b0 (.lst [.int (2 * t), .ref u])) c ws H' ∧ RulV H' ws t ds (i + 1) ∧ p ≠ c ∧ H' p = some (.lst (gl (t + endR t (ds.take i)) N)) ∧ Mat (t + endR t (ds.take i)) N ∧ EqT (t + endR t (ds.take i)) (RT t (ds.take i)) (tM (t + endR t (ds.take i)) N)) ?_ (fun i σ H' pv o ho => ?_) (fun i x σ H3 ex pv => ?_) (fun σ H' pv => ?_)⟩
    · have e2 : t + endR t (ds.take 0) = 2 * t := by show t + t = 2 * t; omega
      have D3 := sc _ _ (sb _ _ (s2 _ _ L.at_))
      have nDc : D ≠ c := fun z => by rw [← z, sb _ _ (s2 _ _ L.at_)] at nc; cases nc
      have st := str_eq t0
      refine ⟨[.ref b0], D, stM t, none, none, rfl, ⟨_, Same.refl _, nc, rfl⟩, ⟨rfl, fun j hj => ?_⟩, nDc, by rw [e2]; exact D3, by rw [e2]; exact st_mat t, by rw [e2]; exact st⟩
      obtain rfl : j = 0 := by omega
      refine ⟨b0, u, stM t, rfl, ?_, by rw [e2]; exact (tu2.same sb).same sc, by rw [e2]; exact st_mat t, by rw [e2]; exact st⟩
      rw [upd_ne nbc, upd_same, e2]
    · obtain ⟨ws, p, N, y4, y5, rfl, L1, tv, hu⟩ := pv
      rw [upd_ne hac] at ho
      exact L1.same _ _ ho
    · obtain ⟨ws, p, N, y4, y5, rfl, L1, tv, npc, ep, hM, hE⟩ := pv
      obtain ⟨b, d, rfl, hdi, hb⟩ := (hd.same (sH.trans L1.same)).at_ ex
      have gd := hg d (List.mem_of_getElem? hdi)
      have il : i < ds.length := (List.getElem?_eq_some_iff.mp hdi).1
      have o := of_decide_eq_true (al i d hdi)
      have l0 := endR_nn t0 hg al i (by omega)
      have lm := hm i (by omega)
      have lm1 := hm (i + 1) (by omega)
      have l01 := endR_nn t0 hg al (i + 1) (by omega)
      have tk : ds.take (i + 1) = ds.take i ++ [d] := by rw [List.take_add_one, hdi]; rfl
      have en : t + endR t (ds.take i) + chgR d.1 = t + endR t (ds.take (i + 1)) := by
        rw [tk, endR_snoc]
        omega
      refine ⟨_, rfl, _, rfl, p, b, _, N, _, d, rfl, ep, hM, hE, hb, by omega, lm, gd, o.1, ?_, fun H4 r M4 s4 e4 m4 q4 => ?_⟩
      · have := o.2
        split <;> rename_i c1
        · rw [if_pos c1] at this
          omega
        · rw [if_neg c1] at this
          omega
      rw [en] at e4 m4 q4
      rw [← RT_snoc, ← tk] at q4
      have er : ((gl (t + endR t (ds.take (i + 1))) M4).length : Int) = t + endR t (ds.take (i + 1)) := by rw [gl_len]; omega
      refine ⟨_, rfl, .inl ⟨rfl, _, .inl (.inl (s4 _ _ L1.at_))⟩, _, rfl, r, _, rfl, .inl (.inl (.inl e4)), ?_⟩
      rw [er]
      refine ⟨_, rfl, r, _, M4, rfl, e4, by omega, by omega, fun H5 u5 s5 nu5 tu5 => ⟨by show 2 ≤ sizeLine; decide, fun b2 nb2 => ?_⟩⟩
      have c4 := s4 _ _ L1.at_
      obtain ⟨b9, u9, N9, f1, f2, _⟩ := tv.2 0 (by omega)
      have nrc : r ≠ c := fun z => by
        rw [z, c4] at e4
        have := HO.lst.inj (Option.some.inj e4)
        rw [this] at f1
        cases (gl_nat f1).1
      have s6 := same_upd (o := .lst [.int (t + endR t (ds.take (i + 1))), .ref u5]) nb2
      have s56 := s5.trans s6
      have e6 := s56 _ _ c4
      have pp := RulV.put ((tv.same s4).same s56) e6 (b := b2) (u := u5) upd_same (tu5.same s6) m4 q4
      refine ⟨c, ws, _, rfl, rfl, e6, by rw [tv.1]; exact small1000 (by omega), ws ++ [.ref b2], r, M4, some (.ref b), _, rfl, L1.put nc (s4.trans s56), pp, nrc, ?_, m4, q4⟩
      rw [upd_ne nrc]
      exact s56 _ _ e4
    · obtain ⟨ws, p, N, y4, y5, rfl, L1, tv, _⟩ := pv
      refine ⟨_, rfl, q H' c ws (sH.trans L1.same) ncH L1.at_ ?_⟩
      rw [← hd.1]
      exact tv
end
end Own

namespace Own
open PySem PySem.Spec PyProof.Rows L2
/-! ### the law: a lot that is due both ways -/
theorem TabL.gridB0 {H : Hp} {p : Addr} {n : Int} {T : Int → Int → Int} (h : TabL H p n T) : GridB H p n T := by
  obtain ⟨rs, g⟩ := h
  refine ⟨rs.map V.ref, .inl g.at_, fun i hlt => ?_⟩
  have hh : hi n 1 = n := by have := lo_hi n 1; omega
  rw [hh] at g
  obtain ⟨r, e1, e2, e3⟩ := g.get (a := (i : Int)) (by omega) (by omega)
  refine ⟨r, ?_, .inl e3⟩
  rw [List.getElem?_map]
  rw [Int.toNat_natCast] at e1
  rw [e1]
  rfl
theorem cot_self {n : Int} (n0 : 0 ≤ n) {cs : List Tr} (g : Good n cs) : cotE n (tabE cs) = cs := cot_own n0 g (fun _ _ _ _ _ _ => rfl) (cotE_good n0 _).self
/-- lots with the same table are the same -/
theorem good_uniq {n : Int} (n0 : 0 ≤ n) {cs ds : List Tr} (g : Good n cs) (h : Good n ds) (e : ∀ i j, 0 ≤ i → i < n → 0 ≤ j → j < n → tabE cs i j = tabE ds i j) : cs = ds := by
  have h1 := cot_own n0 h e (cotE_good n0 (tabE cs)).self
  rw [cot_self n0 g] at h1
  exact h1
section
variable {P : Program} {w : World} {K : PySem.W.Frag} {mg : Str → Option Value} {base : Heap} {C : Addr}
def spDue (C : Addr) : Sp := fun vs H Q _ => ∃ (x r c u v : Addr) (n : Int) (cs : List Tr) (T : Int → Int → Int), vs = [.ref x, .ref r, .ref c] ∧ LotAt C H x n cs ∧ Good n cs ∧ cs.length ≤ 1000 ∧ H r = some (.lst [.int n, .ref u]) ∧ TripL H u cs ∧ H c = some (.lst [.int n, .ref v]) ∧ TabL H v n T ∧ (∀ i j, 0 ≤ i → i < n → 0 ≤ j → j < n → T i j = tabE cs i j) ∧ 0 ≤ n ∧ n ≤ 46 ∧ ∀ H', Same H H' → Q (.bl true) H'
theorem ok_due {f : Addr} {fd : FuncData} (F : Fun K "_law_due" "_law_due" s__law_due f fd) {f_i : Addr} {d_i : FuncData} (D_i : Df K mg "_law_is_lot" s__law_is_lot ["_law_told", "_law_pins", "_law_bunch"] f_i d_i) (G_i : FnOk P w K mg base CX0 2 f_i d_i ["_law_told", "_law_pins", "_law_bunch"] (spIsLot C)) {f_c : Addr} {d_c : FuncData} (D_c : Df K mg "_law_cords" s__law_cords ["_law_pins", "_law_table"] f_c d_c) (G_c : FnOk P w K mg base CX0 2 f_c d_c ["_law_pins", "_law_table"] spLCords) : FnOk P w K mg base CX0 5 f fd ["_law_told", "_law_ruled", "_law_costed"] (spDue C) := by
  refine F.ok sc__law_due (fun vs H Q E h => ?_) (fun cdv A outer s H vs Q E hr h => ?_)
  · obtain ⟨x, r, c, u, v, n, cs, T, rfl, _⟩ := h
    rfl
  · obtain ⟨x, r, c, u, v, n, cs, T, rfl, hL, hg, hl, er, tu, ec, tv, hT, n0, n1, q⟩ := h
    refine ⟨_, (pss_cons (ps_if (pt_not (pt_val (pe_call G_i (hr.mono (by decide)) (by rfl) D_i.g D_i.F.kp D_i.b .nil pass0 (pa_cons (pv 0) (pa_cons (pe_ix (r := rIxB K) ix_seqB (pv 1) pe_int (fun _ _ => rfl)) (pa_cons (pe_ix (r := rIxB K) ix_seqB (pv 1) pe_int (fun _ _ => rfl)) pa_nil)))))) (pss_one (ps_ret pe_bl)) pss_nil)
        (pss_one (ps_ret (pe_call G_i (hr.mono (by decide)) (by rfl) D_i.g D_i.F.kp D_i.b .nil pass0 (pa_cons (pv 0) (pa_cons (pe_ix (r := rIxB K) ix_seqB (pv 2) pe_int (fun _ _ => rfl)) (pa_cons (pe_call G_c (hr.mono (by decide)) (by rfl) D_c.g D_c.F.kp D_c.b .nil pass0 (pa_cons (pe_ix (r := rIxB K) ix_seqB (pv 2) pe_int (fun _ _ => rfl)) (pa_cons (pe_ix (r := rIxB K) ix_seqB (pv 2) pe_int (fun _ _ => rfl)) pa_nil))) pa_nil))))))), ?_⟩
    have a0 : ∀ {u : Addr}, atI [V.int n, .ref u] 0 = some (.int n) := fun {u} => at_of (j := 0) rfl rfl
    have a1 : ∀ {u : Addr}, atI [V.int n, .ref u] 1 = some (.ref u) := fun {u} => at_of (j := 1) rfl rfl
    have hr1 : SqB K H r [.int n, .ref u] := .inl (.inl (.inl er))
    have hc1 : SqB K H c [.int n, .ref v] := .inl (.inl (.inl ec))
    refine ⟨_, rfl, _, rfl, r, _, _, _, rfl, rfl, hr1, a0, _, rfl, r, _, _, _, rfl, rfl, hr1, a1, x, u, n, cs, rfl, hL, tu, hl, _, rfl, ite2 (fun z => absurd z (by decide)) (fun _ => ?_)⟩
    refine ⟨_, rfl, _, rfl, c, _, _, _, rfl, rfl, hc1, a0, _, rfl, c, _, _, _, rfl, rfl, hc1, a0, _, rfl, c, _, _, _, rfl, rfl, hc1, a1, n, v, T, rfl, tv.gridB0, n0, n1, own_tw hg hT, fun H' c' s' t' => ?_⟩
    rw [cotE_congr hT, cot_self n0 hg] at t'
    exact ⟨x, c', n, cs, rfl, hL.same s', t', hl, q H' s'⟩

/-- letters of a row some of whose top lanes are bent down -/
def cupsD (k : Nat) : List Lt := (List.range k).map fun j : Nat => (("cup", (j : Int)) : Lt)
def shD (s : Int) (ds : List Lt) : List Lt := ds.map fun d => ((d.1, d.2 + s) : Lt)
def bentD (b : Int) (ds : List Lt) : List Lt := cupsD b.toNat ++ shD b ds
theorem cupsD_succ (k : Nat) : cupsD (k + 1) = cupsD k ++ [(("cup", (k : Int)) : Lt)] := by
  unfold cupsD
  rw [List.range_succ, List.map_append]
  rfl
theorem LtT.upd {H : Hp} {c : Addr} {l ws : List V} {ds : List Lt} {o : HO} (h : LtT H ws ds) (e : H c = some (.lst l)) : LtT (upd H c o) ws ds := ⟨h.1, fun i d hi => by
  obtain ⟨b, h1, h2⟩ := h.2 i d hi
  exact ⟨b, h1, by rw [upd_ne fun z => by rw [z, e] at h2; cases h2]; exact h2⟩⟩
def spBent : Sp := fun vs H Q _ => ∃ (t b : Int) (a : Addr) (ds : List Lt), vs = [.int t, .ref a, .int b] ∧ LtL H a ds ∧ 0 ≤ b ∧ b ≤ 100 ∧ ds.length ≤ 800 ∧ ∀ H' r l, Same H H' → H' r = some (.lst [.int (t - b), .ref l]) → LtL H' l (bentD b ds) → Q (.ref r) H'
set_option maxHeartbeats 0 in
theorem ok_bent {f : Addr} {fd : FuncData} (F : Fun K "_law_bent" "_law_bent" s__law_bent f fd) (T : Bi mg) : FnOk P w K mg base CX0 1 f fd ["_law_top", "_law_letters_here", "_law_bend"] spBent := by
  refine F.ok sc__law_bent (fun vs H Q E h => ?_) (fun cdv A outer s H vs Q E hr h => ?_)
  · obtain ⟨t, b, a, ds, rfl, _⟩ := h
    rfl
  · obtain ⟨t, b, a, ds, rfl, ha, b0, b1, hl, q⟩ := h
    refine ⟨_, (pss_one (ps_ret (pe_lst (pa_cons (pe_op op_sub (pv 0) (pv 2)) (pa_cons (pe_op op_cat (pe_lc (own := [("_law_k", 3)]) (g := gName 3) (tt := tYes) rfl sc__law_bent.nd (pi_range1 (by rfl) T.b_range (pa_cons (pv 2) pa_nil)) (blkOk_by (own := [("_law_k", 3)]) (N := ["_law_top", "_law_letters_here", "_law_bend", "_law_k", "_law_letter"]) (sc := defScope s__law_bent) (by decide +kernel)) (fun _ _ _ _ _ => (pg_name (i := 3) sc__law_bent.nd rfl (.inl rfl))) (fun _ _ _ _ _ => pts_nil) (fun _ _ _ _ _ => (pe_tup (pa_cons pe_str (pa_cons (pv 3) pa_nil))))) (pe_lc (own := [("_law_letter", 4)]) (g := gName 4) (tt := tYes) rfl sc__law_bent.nd (pi_list (pv 1)) (blkOk_by (own := [("_law_letter", 4)]) (N := ["_law_top", "_law_letters_here", "_law_bend", "_law_k", "_law_letter"]) (sc := defScope s__law_bent) (by decide +kernel)) (fun _ _ _ _ _ => (pg_name (i := 4) sc__law_bent.nd rfl (.inl rfl))) (fun _ _ _ _ _ => pts_nil) (fun _ _ _ _ _ => (pe_tup (pa_cons (pe_ix (r := rIxB K) ix_seqB (pv 4) pe_int (fun _ _ => rfl)) (pa_cons (pe_op op_add (pe_ix (r := rIxB K) ix_seqB (pv 4) pe_int (fun _ _ => rfl)) (pv 2)) pa_nil)))))) pa_nil))))), ?_⟩
    obtain ⟨xs, ea, tx⟩ := ha
    have lx : xs.length ≤ 800 := by rw [tx.1]; exact hl
    refine ⟨_, rfl, _, rfl, _, _, rfl, rfl, _, rfl, b, rfl, by omega, by omega, fun D nD => ?_⟩
    refine lc_range (lo := 0) (n := b.toNat) (fun i H' => ∃ ws, LcI H D ws H' ∧ LtT H' ws (cupsD i)) ⟨[], LcI.start nD, LtT.nil⟩ (fun i H1 hi pv => ?_) (fun H1 pv => ?_)
    · obtain ⟨ws, L, tw⟩ := pv
      refine ⟨rfl, _, rfl, by show 2 ≤ sizeLine; decide, fun p np => ?_⟩
      have s1 := same_upd (o := .tup (lv ("cup", (i : Int)))) np
      have nD2 : p ≠ D := L.nn np
      dsimp only at np ⊢
      rw [Int.zero_add]
      have eD1 := s1 _ _ L.at_
      refine ⟨ws, eD1, ?_, ws ++ [.ref p], L.put nD s1, ?_⟩
      · rw [tw.1]
        unfold cupsD
        rw [List.length_map, List.length_range]
        exact small1000 (by omega)
      · rw [cupsD_succ]
        exact ((tw.same s1).upd eD1).snoc (by rw [upd_ne nD2, upd_same])
    · obtain ⟨ws, L, tw⟩ := pv
      have ea1 := L.same _ _ ea
      refine ⟨_, rfl, a, rfl, ⟨_, .inl (.inl ea1)⟩, fun E nE => ?_⟩
      refine lc_list (K := K) (a := a) (xs := xs) (fun i H' => ∃ us, LcI H1 E us H' ∧ LtT H' us (shD b (ds.take i))) ⟨[], LcI.start nE, LtT.nil⟩ (fun i H' _ pv => by obtain ⟨us, L, _⟩ := pv; exact .inl (.inl (L.same _ _ ea1))) (fun i x H2 hx pv => ?_) (fun H2 pv => ?_)
      · obtain ⟨us, L2, tu⟩ := pv
        obtain ⟨p, d, rfl, hd, hp⟩ := ((tx.same (L.same.trans L2.same)).h).at_ hx
        have t0 : atI (lv d) 0 = some (.str d.1) := at_of (j := 0) rfl rfl
        have t1 : atI (lv d) 1 = some (.int d.2) := at_of (j := 1) rfl rfl
        refine ⟨rfl, _, rfl, p, _, _, _, rfl, rfl, hp.b, t0, _, rfl, p, _, _, _, rfl, rfl, hp.b, t1, _, rfl, _, _, rfl, rfl, by show 2 ≤ sizeLine; decide, fun p2 np2 => ?_⟩
        have s2 := same_upd (o := .tup (lv (d.1, d.2 + b))) np2
        have nE2 : p2 ≠ E := L2.nn np2
        have eE := s2 _ _ L2.at_
        have il := (List.getElem?_eq_some_iff.mp hx).1
        refine ⟨us, eE, ?_, us ++ [.ref p2], L2.put nE s2, ?_⟩
        · rw [tu.1]
          unfold shD
          rw [List.length_map, List.length_take]
          exact small1000 (by omega)
        · rw [List.take_add_one, hd]
          unfold shD
          rw [List.map_append]
          exact ((tu.same s2).upd eE).snoc (by rw [upd_ne nE2, upd_same])
      · obtain ⟨us, L2, tu⟩ := pv
        rw [tx.1, List.take_length] at tu
        have eD2 := L2.same _ _ L.at_
        refine ⟨D, E, ws, us, rfl, rfl, eD2, L2.at_, ?_, fun F nF => ⟨by show 2 ≤ sizeLine; decide, fun r nr => ?_⟩⟩
        · rw [tw.1, tu.1]
          unfold cupsD shD
          rw [List.length_map, List.length_map, List.length_range]
          exact Nat.le_of_lt (small1000 (by omega))
        · have s3 := same_upd (o := .lst (ws ++ us)) nF
          have s4 := same_upd (o := .lst [.int (t - b), .ref F]) nr
          refine q _ r F (((L.same.trans L2.same).trans s3).trans s4) upd_same ⟨ws ++ us, s4 _ _ upd_same, ?_⟩
          exact (((tw.same L2.same).app tu).same s3).same s4
end
end Own

namespace Own
open PySem PySem.Spec PyProof.Rows L2
/-! ### repr where no repr is under way -/
/-- repr of a list or a tuple of plain data without dicts -/
def rRepr (K : PySem.W.Frag) : List V → Hp → VK → Prop := fun vs H Q => ∃ (p : Addr) (d : PyData), vs = [V.ref p] ∧ Dp K H (.ref p) d ∧ d.showable = true ∧ d.hasDict = false ∧ d.depth ≤ 60 ∧ d.shown.length ≤ sizeLine ∧ Q (.str d.shown) H
theorem cr_repr {X : Cx} {K : PySem.W.Frag} (hK : X.K = K) (hg : X.A.guards = some []) (hu : X.A.units + 64 < cLine) : CallR X (.builtin "repr") (rRepr K) := by
  subst hK
  intro pins s σ H vs us Q I r ⟨p, d, ev, hd, h1, h2, h3, h4, q⟩
  subst ev
  obtain ⟨u, rfl, ru⟩ := vals1 r
  obtain ⟨as, rd⟩ := Dp.reads I d _ u hd ru
  obtain rfl : u = Value.ref p := ru
  refine repr_of_reads' rd h1 (fun z => by rw [h2] at z; cases z) hg (by omega) (fun b o e => e) (fun h' t tk hk => ?_) h4
  exact ⟨.str d.shown, H, I.kept hk, ⟨t, rfl⟩, q⟩
end Own

namespace Own
open PySem PySem.Spec PyProof.Rows L2
/-! ### the law's promise, where the law is called (no repr is under way there) -/
/-- the promise of the def that is called at the top -/
def TopOk (P : Program) (w : World) (K : PySem.W.Frag) (mg : Str → Option Value) (base : Heap) (CX : CXT) (f : Addr) (fd : FuncData) (x : Str) (sp : Sp) : Prop :=
  ∀ (s : Shared) (H : Hp) (u : Value) (v : V) (Q : VK) (E : XK), Env0 P w K mg base callerA [] s H → BindsTo s fd ⟨[u], []⟩ [(x, u)] → RelV v u → sp [v] H Q E →
    codeAny (model P w) callerA (.call (.ref f) ⟨[u], []⟩) (CR CX [] P w H s Q E) s
section
variable {P : Program} {w : World} {K : PySem.W.Frag} {mg : Str → Option Value} {base : Heap}
/-- by its body -/
theorem topOk_of {CX : CXT} {k : Nat} {f : Addr} {x name qual : Str} {params : Arguments} {body : List Stmt} {scope : Scope} {dV kV doc pm cdv ct oc : Value} {an od : Option Addr} {osl : Array (Option Value)} {N : List Str} {sp : Sp}
    (hf : K.lookup f = some ⟨oc, od, .func (PySem.W.fnOf name qual params body scope dV kV doc pm an cdv ct), osl⟩) (hc : PySem.W.codeIn K cdv qual = true) (sc : FnScope N [x] scope) (rm : Room (k + 1) callerA)
    (run : ∀ (s : Shared) (H : Hp) (v : V) (Q : VK) (E : XK), Room k (callerA.deeper (envOfC qual scope s.heap.objs.size f cdv)) → sp [v] H Q E →
      ∃ t, PSs (cxOf CX P w K mg base N qual scope f cdv callerA [] s H E) body t ∧ t { nx := fun _ H' => Q .non H', rt := Q } (start N [v]) H) :
    TopOk P w K mg base CX f (PySem.W.fnOf name qual params body scope dV kV doc pm an cdv ct) x sp := by
  intro s H u v Q E env bd rv want
  have inH : K.In s.heap := env.mod.kin.keeps fun a o z => (env.bs a o z).1
  have noL : s.heap.NoLimit := env.mod.nolimit.keeps fun a o z => (env.bs a o z).1
  have place : ∀ y ∈ ([(x, u)] : List (Str × Value)), scope.names.lookup y.1 = some .local ∨ (scope.names.lookup y.1 = some .cell ∧ ((cellsFrom (s.heap.objs.size + 1) scope.names []).lookup y.1).isSome = true) := fun y hy => by
    rw [List.mem_singleton.mp hy]
    exact (sc.par x (List.mem_singleton.mpr rfl)).elim .inl fun z => .inr ⟨z, PySem.W.cellsFrom_some _ _ _ (.inl z)⟩
  refine codeAny_call_function rm.depth (inH _ _ hf) rfl sc.co sc.gen rfl (PySem.W.codeRec_of inH hc) (bd _ _ _ _ ?_)
  refine wpAny_newFunctionEnv_cells sc.kind place fun en eqe s2 at2 => ?_
  subst eqe
  refine ⟨noL.keeps at2.toInCall.keep, codeAny_func ?_⟩
  obtain ⟨t, ht, good⟩ := run s H v Q E (rm.deeper _) want
  have J0 : Inv (cxOf CX P w K mg base N qual scope f cdv callerA [] s H E) [] (start N [v]) H s2 := inv_start (us := [u]) sc rm.hd env rfl (.cons rv .nil) at2
  refine wpAny_mono (ht.run [] s2 (start N [v]) H _ J0 good) (fun r s3 z => ?_) fun e s3 z => z
  cases r with
  | brk => exact z.elim fun _ y => y.elim fun _ y => y.2.elim
  | cont => exact z.elim fun _ y => y.elim fun _ y => y.2.elim
  | next =>
    obtain ⟨_, H3, J, y⟩ := z
    exact ⟨V.non, H3, J.os, J.bare, J.base, J.hok, rfl, y⟩
  | ret b =>
    obtain ⟨c, _, H3, J, rc, y⟩ := z
    exact ⟨c, H3, J.os, J.bare, J.base, J.hok, rc, y⟩
end
end Own

namespace Own
open PySem PySem.Spec PyProof.Rows L2
section
variable {P : Program} {w : World} {K : PySem.W.Frag} {mg mb : Str → Option Value} {CX : CXT} {fa a : Addr} {fd : FuncData} {x : Str} {sp : Sp} {s : Shared} {vs : List Value} {ns : List Int}
/-- the script alone is held: by the module, or as a thing known to the object -/
theorem script_held (inH : K.In s.heap) (ea : s.heap.get? a = some { cls := .type "list", data := .seq vs.toArray }) (hi : IntsAre vs ns) (hl : ns.length ≤ sizeLine) :
    ∃ H : Hp, Only H ∧ SqL K H a (ns.map V.int) ∧ HOk P w H s.heap ∧ (∀ b, H b ≠ none → b = a ∧ K.lookup a = none) := by
  have rv := vals_ints hi
  have ln := hi.length
  cases c : K.lookup a with
  | some o =>
    have e := inH a o c
    rw [ea] at e
    obtain rfl := Option.some.inj e
    exact ⟨fun _ => none, fun _ => .inl rfl, .inr ⟨_, vs.toArray, _, c, rfl, rfl, rfl, by rw [List.size_toArray, ln]; exact hl, by simpa using rv⟩, (fun _ _ z => by cases z), fun _ z => (z rfl).elim⟩
  | none =>
    have at_a : ∀ {u : HO}, (if a = a then some u else none) = some u := if_pos rfl
    refine ⟨fun b => if b = a then some (.frz { cls := .type "list", data := .seq vs.toArray } (.lst (ns.map V.int))) else none, fun b => ?_, .inl (.inr ⟨_, at_a⟩), fun b u z => ?_, fun b z => ⟨?_, rfl⟩⟩
    · by_cases y : b = a
      · exact .inr ⟨_, _, if_pos y⟩
      · exact .inl (if_neg y)
    · by_cases y : b = a
      · subst y
        obtain rfl := Option.some.inj (at_a.symm.trans z)
        exact ⟨ea, by rw [List.length_map]; exact hl, vs, _, rv, ea⟩
      · exact nomatch (if_neg y).symm.trans z
    · exact Classical.byContradiction fun y => z (if_neg y)
/-- what a namespace says stays when the script is hidden -/
theorem ns_hid {H : Hp} (ea : s.heap.get? a = some { cls := .type "list", data := .seq vs.toArray }) (only : ∀ b, H b ≠ none → b = a ∧ K.lookup a = none) {b : Addr} {m : Str → Option Value} (h : s.heap.Ns b m) : (hidT s.heap H).Ns b m := by
  obtain ⟨o, es, ep, e, d, r⟩ := h
  refine ⟨o, es, ep, hidT_get e ?_, d, r⟩
  refine Classical.byContradiction fun z => ?_
  rw [(only b z).1, ea] at e
  obtain rfl := Option.some.inj e
  cases d
theorem law_top (inH : K.In s.heap) (gl : s.heap.Ns mainGlobals mg) (bl : s.heap.Ns builtinsNs mb) (boot : ∀ y : Str, y ≠ "__name__" → mb y = bootBuiltins y) (noL : s.heap.NoLimit) (gens : s.gens = #[])
    (ea : s.heap.get? a = some { cls := .type "list", data := .seq vs.toArray }) (hi : IntsAre vs ns) (hl : ns.length ≤ sizeLine)
    (top : ∀ base : Heap, K.In base → base.Ns mainGlobals mg → TopOk P w K mg base CX fa fd x sp) (bd : ∀ (s : Shared) (u : Value), BindsTo s fd ⟨[u], []⟩ [(x, u)])
    (want : ∀ H : Hp, Only H → SqL K H a (ns.map V.int) → sp [.ref a] H (fun v _ => v = .bl true) fun _ _ _ => False)
    (out : ∀ H e s', CX [] H s (fun _ _ _ => False) e s' → False) :
    codeAny (model P w) callerA (.call (.ref fa) ⟨[.ref a], []⟩) (fun r s' => r = .ok (.ret (.bool true)) ∧ OldK s.heap s'.heap ∧ s'.os = s.os ∧ AllBare s'.gens) s := by
  obtain ⟨H, hO, hS, hok, only⟩ := script_held (P := P) (w := w) inH ea hi hl
  have none_of : ∀ {b : Addr} {o : Obj}, K.lookup b = some o → H b = none := fun {b o} e => Classical.byContradiction fun z => by
    obtain ⟨z1, z2⟩ := only b z
    rw [z1, z2] at e
    cases e
  have md : Mod K mg (hidT s.heap H) := by
    refine ⟨fun b o e => hidT_get (inH b o e) (none_of e), ns_hid ea only gl, ⟨mb, ns_hid ea only bl, boot⟩, ?_⟩
    obtain ⟨mc, y1, y2⟩ := noL
    exact ⟨mc, ns_hid ea only y1, y2⟩
  have env : Env0 P w K mg (hidT s.heap H) callerA [] s H :=
    { frames := rfl, mod := md, bs := fun _ _ e => of_hidT e, bsz := Nat.le_of_eq (hidT_size _ _), funs := trivial, frf := fun b z => (List.not_mem_nil z).elim, hok := hok, bare := .of_eq gens }
  refine codeAny_mono (top _ md.kin md.glob s H (.ref a) (.ref a) _ _ env (bd s (.ref a)) rfl (want H hO hS)) fun r s' z => ?_
  match r, z with
  | .error e, z => exact (out H e s' z).elim
  | .ok (.ret u), z =>
    obtain ⟨v, H', sameOs, allB, un, ok', rv, ev⟩ := z
    have ev : v = .bl true := ev
    rw [ev] at rv
    have eu : u = Value.bool true := rv
    refine ⟨by rw [eu], OldK.of_keep fun b o e => ?_, sameOs, allB⟩
    rcases hO b with n | ⟨ob, zs, f⟩
    · exact un.keep b o e n (fun y => (List.not_mem_nil y).elim) (by simp)
    · obtain ⟨p1, _⟩ := hok b _ f
      obtain ⟨p2, _⟩ := ok' b _ (un.frzs b ob _ f)
      rw [p1] at e
      obtain rfl := Option.some.inj e
      exact p2
end
/-- a law's end, where its promise is asked at the top alone -/
theorem walk_top {l : PySem.W.OpenLaw} {n : Nat} {q : Program} {loose : List Str} {XP : (Str → Option Value) → Heap → Prop} {YP : World → Heap → Prop} {d : DefRec} {K : Params → PySem.W.Frag} {CX : World → CXT} {sp : World → Sp} {x : Str}
    (most : l.most = some n) (small : n ≤ sizeLine) (nodef : d.params.defaults = [])
    (inY : ∀ (w : World) (h : Heap), YP w h → (K w.params).In h)
    (F : ∀ (w : World) (mg : Str → Option Value) (fa : Addr) (h : Heap), (K w.params).In h → h.Ns mainGlobals mg → mg d.name = some (.ref fa) →
      ∃ fd : FuncData, (∀ (s : Shared) (v : Value), BindsTo s fd ⟨[v], []⟩ [(x, v)]) ∧ ∀ base : Heap, (K w.params).In base → base.Ns mainGlobals mg → TopOk l.prog w (K w.params) mg base (CX w) fa fd x (sp w))
    (want : ∀ (w : World) (H : Hp) (a : Addr) (ns : List Int), ns.length ≤ n → Only H → SqL (K w.params) H a (ns.map V.int) → sp w [.ref a] H (fun v _ => v = .bl true) fun _ _ _ => False)
    (out : ∀ (w : World) (H : Hp) (s : Shared) (e : Value) (s' : Shared), CX w [] H s (fun _ _ _ => False) e s' → False) :
    PySem.W.WalkO q loose XP YP l.row.toRowW d [] (fun f vs => PySem.call f vs) := by
  refine Att.attach_call most nodef fun w s₀ s₁ mg mb fa o pm cd doc a vs ns G Y ho hd hcd hmg ea hi hl gens => ?_
  obtain ⟨fd, bd, top⟩ := F w mg fa _ (inY w _ Y) G.T.g hmg
  exact law_top (inY w _ Y) G.T.g G.T.b G.T.builtins G.T.nolimit gens ea hi (Nat.le_trans hl small) top bd (fun H hO hS => want w H a ns hl hO hS) fun H e s' => out w H s₁ e s'
end Own

namespace Own
open PySem PySem.Spec PyProof.Rows L2
/-- the def at the top, by its body as a term of rules: no repr is under way in it -/
theorem topFun {P : Program} {w : World} {K : PySem.W.Frag} {mg : Str → Option Value} {base : Heap} {p x qual : Str} {st : Stmt} {f : Addr} {fd : FuncData} {N : List Str} {k : Nat} {sp : Sp} (F : Fun K x qual st f fd) (S : FnScope N [p] (defScope st)) (rm : Room (k + 1) callerA)
    (run : ∀ (cdv : Value) (s : Shared) (H : Hp) (v : V) (Q : VK) (E : XK), Room k (callerA.deeper (envOfC qual (defScope st) s.heap.objs.size f cdv)) → sp [v] H Q E →
      ∃ t, PSs (cxOf CX0 P w K mg base N qual (defScope st) f cdv callerA [] s H E).nox (defBody st) t ∧ t { nx := fun _ H' => Q .non H', rt := Q } (start N [v]) H) : TopOk P w K mg base CX0 f fd p sp := by
  obtain ⟨oc, od, kV, doc, pm, an, cdv, ct, osl, rfl, lk, hc⟩ := F.ex
  refine topOk_of lk hc S rm fun s H v Q E hr want => ?_
  obtain ⟨t, h, y⟩ := run cdv s H v Q E hr want
  exact ⟨t, h.nox, y⟩
/-- repr within such a def -/
theorem cr_reprTop {P : Program} {w : World} {K : PySem.W.Frag} {mg : Str → Option Value} {base : Heap} {N : List Str} {qual : Str} {sc : Scope} {f : Addr} {cdv : Value} {s : Shared} {H : Hp} {E : XK} {k : Nat} (hr : Room k (callerA.deeper (envOfC qual sc s.heap.objs.size f cdv))) :
    CallR (cxOf CX0 P w K mg base N qual sc f cdv callerA [] s H E).nox (.builtin "repr") (rRepr K) :=
  cr_repr rfl rfl (by have := hr.un; show (callerA.deeper (envOfC qual sc s.heap.objs.size f cdv)).units + 64 < cLine; omega)
end Own

namespace Own
open PySem PySem.Spec PyProof.Rows L2
/-! ### operators of an own class -/
section
variable {X : Cx} {CX : CXT} {k : Nat} {C g : Addr} {fd : FuncData} {ps : List Str} {sp : Sp} {E : XK}
def rOwnB (C : Addr) (sp : Sp) (E : XK) : R2 := fun x y H Q => ∃ a dx fs b dy gs, x = .ref a ∧ y = .ref b ∧ H a = some (.ins C dx fs) ∧ H b = some (.ins C dy gs) ∧ sp [.ref a, .ref b] H Q E
theorem op_ownB {op : Operator} (hc : PySem.W.selfFirst X.K C = true) (hs : PySem.W.findIn X.K (.ref C) (PySem.dunder op.info.2) = some (some (.ref g))) (hf : PySem.W.isFn X.K (.ref g) = true)
    (F : FnOk X.prog X.w X.K X.mg X.base CX k g fd ps sp) (hr : Room k X.A) (hb : Binds X.K fd ps []) (hx : Passes CX X E) : OpR X (binaryOp op) (rOwnB C sp E) := by
  intro pins s σ H x y v u Q I rx ry h
  obtain ⟨a, dx, fs, b, dy, gs, rfl, rfl, ha, hb', q⟩ := h
  cases (show v = Value.ref a from rx)
  cases (show u = Value.ref b from ry)
  obtain ⟨mA, O, _, _, _, _⟩ := ins_get I.hok ha
  obtain ⟨od, J, _⟩ := O.look
  obtain ⟨mB, O', _, _, _, _⟩ := ins_get I.hok hb'
  obtain ⟨od', J', _⟩ := O'.look
  obtain ⟨m, hF⟩ := I.fr
  refine PySem.W.binop_K hF I.ok.mod.kin J J'.type hc hs hf ?_
  refine wpAny_mono (run_fn (us := [.ref a, .ref b]) (vs := [.ref a, .ref b]) F hr hb .nil hx I (.cons rfl (.cons rfl .nil)) q) (fun w s' z => ?_) fun _ _ x => x
  obtain ⟨z', H', I', rz, qz⟩ := z
  exact SlX.cmpback rz ⟨z', H', I', rz, qz⟩
def rOwnI (C : Addr) (sp : Sp) (E : XK) : R2 := fun x y H Q => ∃ a dx fs i, x = .ref a ∧ y = .int i ∧ H a = some (.ins C dx fs) ∧ sp [.ref a, .int i] H Q E
theorem op_ownI {op : Operator} {fo ro rc : Option Value} (hc : PySem.W.selfFirst X.K C = true) (hs : PySem.W.findIn X.K (.ref C) (PySem.dunder op.info.2) = some (some (.ref g))) (hf : PySem.W.isFn X.K (.ref g) = true)
    (hR : PySem.W.findIn X.K (.ref C) (dunderR op.info.2) = some rc) (hp : rc = none ∨ ∃ g : Addr, rc = some (.ref g)) (h1 : PySem.W.findIn X.K (.type "int") (PySem.dunder op.info.2) = some fo) (h2 : PySem.W.findIn X.K (.type "int") (dunderR op.info.2) = some ro) (hsub : PySem.W.subIn X.K (.type "int") (.ref C) = some false)
    (F : FnOk X.prog X.w X.K X.mg X.base CX k g fd ps sp) (hr : Room k X.A) (hb : Binds X.K fd ps []) (hx : Passes CX X E) : OpR X (binaryOp op) (rOwnI C sp E) := by
  intro pins s σ H x y v u Q I rx ry h
  obtain ⟨a, dx, fs, i, rfl, rfl, ha, q⟩ := h
  cases (show v = Value.ref a from rx)
  obtain ⟨t, e⟩ := (show ∃ t, u = Value.int i t from ry)
  cases e
  obtain ⟨mA, O, _, _, _, _⟩ := ins_get I.hok ha
  obtain ⟨od, J, _⟩ := O.look
  obtain ⟨m, hF⟩ := I.fr
  refine PySem.W.ksp_binT (T := "int") hF I.ok.mod.kin J rfl hc hs hf hR hp h1 h2 hsub ?_
  refine wpAny_mono (run_fn (us := [.ref a, .int i t]) (vs := [.ref a, .int i]) F hr hb .nil hx I (.cons rfl (.cons ⟨t, rfl⟩ .nil)) q) (fun w s' z => ?_) fun _ _ x => x
  obtain ⟨z', H', I', rz, qz⟩ := z
  exact SlX.cmpback rz ⟨z', H', I', rz, qz⟩
end
end Own

namespace Own
open PySem PySem.Spec PyProof.Rows L2
/-! ### given letters as plain data -/
structure Sml (w : Nat) (d : PyData) : Prop where
  lay : d.canLay0 = true
  int : d.intsShort 13 = true
  shw : d.showable = true
  nod : d.hasDict = false
  wei : d.weight ≤ w
def lvD (d : Lt) : List PyData := [.str d.1, .int d.2]
theorem lvD_sml {d : Lt} (g : GoodR d) (d0 : 0 ≤ d.2) (d1 : d.2 ≤ 1000) : PyData.canLayAll0 (lvD d) = true ∧ PyData.intsShortAll 13 (lvD d) = true ∧ PyData.showableAll (lvD d) = true ∧ PyData.hasDictAll (lvD d) = false ∧ PyData.weightAll (lvD d) ≤ 40 ∧ PyData.depthAll (lvD d) ≤ 1 := by
  obtain ⟨w, i⟩ := d
  dsimp only at d0 d1
  have i13 : PyData.intsShort 13 (.int i) = true := by
    have h := intsShortAll_ints2 [i] fun n hn => by rw [List.mem_singleton.mp hn]; omega
    simp only [List.map_cons, List.map_nil, PyData.intsShortAll, Bool.and_true] at h
    exact h
  have lg : i.natAbs.log2 < 20 := by
    by_cases z : i.natAbs = 0
    · rw [z]
      decide
    · rw [Nat.log2_lt z]
      omega
  have wi : PyData.weight (.int i) ≤ 21 := by
    simp only [PyData.weight]
    split <;> omega
  have ww : w = "cross" ∨ w = "cup" ∨ w = "cap" := good_word g
  have h1 : PyData.canLay0 (.str w) = true ∧ PyData.weight (.str w) ≤ 5 := by
    rcases ww with rfl | rfl | rfl <;> decide +kernel
  unfold lvD
  dsimp only
  refine ⟨?_, ?_, ?_, ?_, ?_, ?_⟩
  · show (PyData.canLay0 (.str w) && (true && true)) = true
    rw [h1.1]
    rfl
  · show (true && (PyData.intsShort 13 (.int i) && true)) = true
    rw [i13]
    rfl
  · simp only [PyData.showableAll, PyData.showable, Bool.and_true, Bool.true_and]
    exact decide_eq_true (by omega)
  · simp only [PyData.hasDictAll, PyData.hasDict, Bool.or_false]
  · simp only [PyData.weightAll]
    have := h1.2
    omega
  · simp only [PyData.depthAll, PyData.depth]
    omega
/-- the letters' data, the same in every later heap -/
theorem lt_data {K : PySem.W.Frag} {H : Hp} : ∀ {ys : List V} {ds : List Lt}, LtH H ys ds → (∀ d ∈ ds, GoodR d ∧ 0 ≤ d.2 ∧ d.2 ≤ 1000) →
    ∃ D, (∀ H', Same H H' → DpAll K H' ys D) ∧ PyData.canLayAll0 D = true ∧ PyData.intsShortAll 13 D = true ∧ PyData.showableAll D = true ∧ PyData.hasDictAll D = false ∧ PyData.weightAll D ≤ 41 * ds.length ∧ PyData.depthAll D ≤ 2
  | [], ds, h, _ => by
    have e : ds = [] := List.length_eq_zero_iff.mp h.1.symm
    subst e
    exact ⟨[], fun _ _ => .nil, rfl, rfl, rfl, rfl, Nat.le_refl _, by decide⟩
  | y :: ys, [], h, _ => by cases h.1
  | y :: ys, d :: ds, h, g => by
    obtain ⟨D, h1, h2, h3, h4, h5, h6, h7⟩ := lt_data (K := K) (H := H) (ys := ys) (ds := ds) ⟨by have := h.1; simpa using this, fun i e he => h.2 (i + 1) e he⟩ fun e he => g e (List.mem_cons_of_mem _ he)
    obtain ⟨b, eb, sb⟩ := h.2 0 d rfl
    obtain rfl : y = .ref b := Option.some.inj eb
    have gd := g d List.mem_cons_self
    obtain ⟨k1, k2, k3, k4, k5, k6⟩ := lvD_sml gd.1 gd.2.1 gd.2.2
    have dv : ∀ H', DpAll K H' (lv d) (lvD d) := fun H' => .cons (.str _) (.cons (.int _) .nil)
    obtain ⟨e, he, ce, ie, se, ne, we, de⟩ : ∃ e : PyData, (∀ H', Same H H' → Dp K H' (.ref b) e) ∧ e.canLay0 = true ∧ e.intsShort 13 = true ∧ e.showable = true ∧ e.hasDict = false ∧ e.weight ≤ 40 ∧ e.depth ≤ 2 := by
      rcases sb with z | z
      · exact ⟨.list (lvD d), fun H' s => .lst (.inl (.inl (s _ _ z))) (dv H'), k1, k2, k3, k4, k5, by show PyData.depthAll (lvD d) + 1 ≤ 2; omega⟩
      · exact ⟨.tuple (lvD d), fun H' s => .tup (.inl (.inl (s _ _ z))) (dv H'), k1, k2, k3, k4, k5, by show PyData.depthAll (lvD d) + 1 ≤ 2; omega⟩
    refine ⟨e :: D, fun H' s => .cons (he H' s) (h1 H' s), ?_, ?_, ?_, ?_, ?_, ?_⟩
    · simp only [PyData.canLayAll0, ce, h2, Bool.and_true]
    · simp only [PyData.intsShortAll, ie, h3, Bool.and_true]
    · simp only [PyData.showableAll, se, h4, Bool.and_true]
    · simp only [PyData.hasDictAll, ne, h5, Bool.or_false]
    · simp only [PyData.weightAll, List.length_cons]
      omega
    · simp only [PyData.depthAll]
      omega
/-- repr of given letters: the same text in every later heap -/
theorem given_repr {K : PySem.W.Frag} {H : Hp} {c : Addr} {ys : List V} {ds : List Lt} (hc : SqH H c ys) (h : LtH H ys ds) (g : ∀ d ∈ ds, GoodR d ∧ 0 ≤ d.2 ∧ d.2 ≤ 1000) (hl : ds.length ≤ 900) :
    ∃ d : PyData, (∀ H', Same H H' → Dp K H' (.ref c) d) ∧ d.showable = true ∧ d.hasDict = false ∧ d.depth ≤ 60 ∧ d.shown.length ≤ sizeLine := by
  obtain ⟨D, h1, h2, h3, h4, h5, h6, h7⟩ := lt_data (K := K) h g
  have fin : ∀ d : PyData, d.canLay0 = true → d.intsShort 13 = true → d.weight ≤ 41 * ds.length → d.depth ≤ 3 → d.shown.length ≤ sizeLine := fun d c i w dp => by
    have lay : PyData.layable0 d = true := by
      unfold PyData.layable0
      rw [c, decide_eq_true (show d.depth ≤ 64 by omega), decide_eq_true (show d.weight ≤ 2 ^ 20 by omega)]
      rfl
    exact Nat.le_trans (shown_le13 lay i) (by decide)
  rcases hc with z | z
  · exact ⟨.list D, fun H' s => .lst (.inl (.inl (s _ _ z))) (h1 H' s), h4, h5, by show PyData.depthAll D + 1 ≤ 60; omega, fin _ h2 h3 h6 (by show PyData.depthAll D + 1 ≤ 3; omega)⟩
  · exact ⟨.tuple D, fun H' s => .tup (.inl (.inl (s _ _ z))) (h1 H' s), h4, h5, by show PyData.depthAll D + 1 ≤ 60; omega, fin _ h2 h3 h6 (by show PyData.depthAll D + 1 ≤ 3; omega)⟩
end Own

namespace Own
/-! ### mirrored cords, flipped rows -/
def mirE (n : Int) (cs : List Tr) : List Tr := cs.map fun t => (n - 1 - t.1, n - 1 - t.2.1, t.2.2)
def swpE (n : Int) (cs : List Tr) : List Tr := cs.map fun t => (n - 1 - t.2.1, n - 1 - t.1, t.2.2)
theorem ky_sw (a b m : Int) : ky (a, b, m) = ky (b, a, m) := by
  unfold ky
  dsimp only
  have h1 := lo_hi a b
  have h2 := lo_hi b a
  exact Prod.ext (by dsimp only; omega) (by dsimp only; omega)
theorem bk_mir (n : Int) (f : Int × Int → Bool) : ∀ cs : List Tr, bk f (mirE n cs) = bk f (swpE n cs)
  | [] => rfl
  | t :: r => by
    show bk f ((n - 1 - t.1, n - 1 - t.2.1, t.2.2) :: mirE n r) = bk f ((n - 1 - t.2.1, n - 1 - t.1, t.2.2) :: swpE n r)
    unfold bk
    rw [bk_mir n f r, ky_sw]
theorem swp_tab {n : Int} (i j : Int) (vi : Vg n i) (vj : Vg n j) : ∀ {cs : List Tr}, (∀ t ∈ cs, 0 ≤ t.1 ∧ t.1 < t.2.1 ∧ t.2.1 < n) → tabE (swpE n cs) i j = tabE cs (mirG n i) (mirG n j)
  | [], _ => rfl
  | t :: r, h => by
    have ht := h t List.mem_cons_self
    have e1 := tabE_cons (t := (n - 1 - t.2.1, n - 1 - t.1, t.2.2)) (by dsimp only; omega) (swpE n r) i j
    have e2 := tabE_cons (t := t) ht.2.1 r (mirG n i) (mirG n j)
    have ih := swp_tab i j vi vj fun e he => h e (List.mem_cons_of_mem _ he)
    have sd : ∀ k, Vg n k → ((n - 1 - t.2.1 ≤ k ∧ k < n - 1 - t.1) ↔ (t.1 ≤ mirG n k ∧ mirG n k < t.2.1)) := fun k vk => by
      have := lo_hi n 1
      unfold Vg at vk
      unfold mirG
      split <;> omega
    have dd : dc (n - 1 - t.2.1, n - 1 - t.1, t.2.2) i j = dc t (mirG n i) (mirG n j) := by
      unfold dc
      dsimp only
      have h1 := sd i vi
      have h2 := sd j vj
      by_cases c : (t.1 ≤ mirG n i ∧ mirG n i < t.2.1) ↔ (t.1 ≤ mirG n j ∧ mirG n j < t.2.1)
      · rw [if_pos c, if_pos (h1.trans (c.trans h2.symm))]
      · rw [if_neg c, if_neg fun z => c (h1.symm.trans (z.trans h2))]
    show tabE ((n - 1 - t.2.1, n - 1 - t.1, t.2.2) :: swpE n r) i j = _
    rw [e1, e2, ih, dd]
theorem mir_tab {n : Int} {cs r : List Tr} (g : Good n cs) (hN : IsNorm (mirE n cs) r) {i j : Int} (vi : Vg n i) (vj : Vg n j) : tabE r i j = tabE cs (mirG n i) (mirG n j) := by
  rw [← swp_tab i j vi vj fun t ht => let h := g.ord t ht; ⟨h.1, h.2.1, h.2.2.1⟩]
  unfold tabE
  rw [bs_norm _ hN, bk_mir, bk_bs]
  intro e he
  obtain ⟨t, ht, rfl⟩ := List.mem_map.mp he
  have := g.ord t ht
  dsimp only
  omega
theorem mirE_vld {n : Int} {cs : List Tr} (g : Good n cs) : ∀ t ∈ mirE n cs, Vld n t := fun e he => by
  obtain ⟨t, ht, rfl⟩ := List.mem_map.mp he
  have := g.ord t ht
  refine ⟨?_, ?_, ?_, ?_, ?_, ?_⟩ <;> (try dsimp only) <;> omega
theorem Wf.of {m : Int} : ∀ {ds : List Lt} {L : Int}, (∀ d ∈ ds, GoodR d) → AllR L ds → (∀ i, i ≤ ds.length → endR L (ds.take i) ≤ m) → Wf m L ds
  | [], L, _, _, b => b 0 (Nat.le_refl _)
  | d :: r, L, g, al, b => ⟨b 0 (Nat.zero_le _), g d List.mem_cons_self, al 0 d rfl, Wf.of (fun e he => g e (List.mem_cons_of_mem _ he)) (fun i e he => al (i + 1) e he) fun i hi => b (i + 1) (Nat.succ_le_succ hi)⟩
theorem Wf.flip {m t : Int} {ds : List Lt} (h : Wf m t ds) : Wf m (endR t ds) (flipD ds) := by
  obtain ⟨g, al⟩ := h.gd
  refine Wf.of (fun d hd => ?_) (all_flip g al) fun i hi => ?_
  · unfold flipD at hd
    obtain ⟨e, he, rfl⟩ := List.mem_map.mp hd
    exact flip_good (g e (List.mem_reverse.mp he))
  · rw [flip_len] at hi
    rw [end_flip g i hi]
    exact h.bd _ (Nat.sub_le _ _)
/-- the cords of the flipped row -/
theorem flip_cords {t m : Int} {ds : List Lt} {M N : Int → Int} {r : List Tr} (t0 : 0 ≤ t) (h : Wf m t ds) (hM : Mat (t + endR t ds) M) (eM : EqT (t + endR t ds) (RT t ds) (tM (t + endR t ds) M))
    (hN : Mat (t + endR t ds) N) (eN : EqT (t + endR t ds) (RT (endR t ds) (flipD ds)) (tM (t + endR t ds) N)) (hr : IsNorm (mirE (t + endR t ds) (mtE M (t + endR t ds).toNat)) r) : mtE N (t + endR t ds).toNat = r := by
  obtain ⟨g, al⟩ := h.gd
  have b0 := end_flip_all g t0 al
  have n0 : 0 ≤ t + endR t ds := by omega
  have hh := lo_hi (t + endR t ds) 1
  refine good_uniq n0 (mtE_good hN) (hr.good (mirE_vld (mtE_good hM))) fun i j i0 i1 j0 j1 => ?_
  have vi : Vg (t + endR t ds) i := ⟨i0, by omega⟩
  have vj : Vg (t + endR t ds) j := ⟨j0, by omega⟩
  have mi := mirG_in n0 vi
  have mj := mirG_in n0 vj
  rw [mt_tab, ← eN i j vi.1 vi.2 vj.1 vj.2, RT_flip t0 h h.flip vi vj, eM _ _ mi.1 mi.2 mj.1 mj.2, mir_tab (mtE_good hM) hr vi vj, mt_tab]
end Own

namespace Own
open PySem PySem.Spec PyProof.Rows L2
/-! ### the law -/
theorem atI_last {xs : List V} {n : Nat} {v : V} (h : xs.length = n + 1) (e : xs[n]? = some v) : atI xs (-1) = some v := by
  unfold atI ixN
  rw [h]
  rw [if_neg (by decide), if_pos (by omega)]
  show xs[((-1 : Int) + ((n + 1 : Nat) : Int)).toNat]? = _
  rw [show ((-1 : Int) + ((n + 1 : Nat) : Int)).toNat = n by omega]
  exact e
theorem LtT.take {H : Hp} {vs : List V} {ds : List Lt} (h : LtT H vs ds) (k : Nat) : LtT H (vs.take k) (ds.take k) := by
  refine ⟨by rw [List.length_take, List.length_take, h.1], fun i d e => ?_⟩
  rw [List.getElem?_take] at e ⊢
  split at e
  · rename_i c
    rw [if_pos c]
    exact h.2 i d e
  · cases e
theorem LtT.drop {H : Hp} {vs : List V} {ds : List Lt} (h : LtT H vs ds) (k : Nat) : LtT H (vs.drop k) (ds.drop k) := by
  refine ⟨by rw [List.length_drop, List.length_drop, h.1], fun i d e => ?_⟩
  rw [List.getElem?_drop] at e ⊢
  exact h.2 _ d e
theorem mt_uniq {n : Int} {M N : Int → Int} {T : Int → Int → Int} (n0 : 0 ≤ n) (hM : Mat n M) (hN : Mat n N) (eM : EqT n T (tM n M)) (eN : EqT n T (tM n N)) : mtE M n.toNat = mtE N n.toNat :=
  good_uniq n0 (mtE_good hM) (mtE_good hN) fun i j i0 i1 j0 j1 => by
    have := lo_hi n 1
    rw [mt_tab, mt_tab, ← eM i j i0 (by omega) j0 (by omega), ← eN i j i0 (by omega) j0 (by omega)]
theorem Wf.small {m : Int} : ∀ {ds : List Lt} {L : Int}, Wf m L ds → m ≤ 900 → ∀ d ∈ ds, GoodR d ∧ 0 ≤ d.2 ∧ d.2 ≤ 1000
  | [], _, _, _, d, hd => by cases hd
  | e :: r, L, h, m1, d, hd => by
    cases hd with
    | head =>
      have o := of_decide_eq_true h.2.2.1
      have l := h.1
      have o2 := o.2
      refine ⟨h.2.1, o.1, ?_⟩
      split at o2 <;> omega
    | tail _ hd => exact Wf.small h.2.2.2 m1 d hd
/-- what holds when the letters are there -/
structure LZ (H : Hp) (sz a : Addr) (t m s3 s4 : Int) (ds : List Lt) (H1 : Hp) : Prop where
  sm : Same H H1
  t0 : 0 ≤ t
  t1 : t ≤ 20
  m1 : t + m ≤ 44
  m2 : m ≤ 22
  ln : ds.length ≤ 200
  wf : Wf m t ds
  la : LtL H1 a ds
  sp4 : 0 ≤ s4
  hz : ∃ s0 s1 s2 s5 s6, H1 sz = some (.lst [.int s0, .int s1, .int s2, .int s3, .int s4, .int s5, .int s6])
section
variable {P : Program} {w : World} {K : PySem.W.Frag} {mg : Str → Option Value} {base : Heap} {C CL : Addr}
def spLaw (K : PySem.W.Frag) : Sp := fun vs H Q _ => ∃ (s : Addr) (ns : List Int), vs = [.ref s] ∧ SqL K H s (ns.map V.int) ∧ ns.length ≤ 1000 ∧ ∀ H', Q (.bl true) H'
set_option maxHeartbeats 0 in
theorem ok_lawZ {f : Addr} {fd : FuncData} (T : Bi mg) (TR : mg "repr" = none) (L : RowC K mg C) {f_i : Addr} {d_i : FuncData} (M : Mk K C f_i) (G_i : GRI P w K mg base C f_i d_i) (b_i : Binds K d_i ["self", "top", "letters"] []) {p_pa f_pa : Addr} {d_pa : FuncData} (P_pa : PropOf K C "pairing" p_pa f_pa) (G_pa : FnOk P w K mg base CX0 10 f_pa d_pa ["self"] (spRPair C CL)) (b_pa : Binds K d_pa ["self"] []) {f_f : Addr} {d_f : FuncData} (MF : Mt K C "flipped" "Row.flipped" s_Row_flipped ["self"] f_f d_f) (G_f : FnOk P w K mg base CX0 7 f_f d_f ["self"] (spFlip C)) (sf : PySem.W.selfFirst K C = true) {f_h : Addr} {d_h : FuncData} (i_h : PySem.W.findIn K (.ref C) "__rshift__" = some (some (.ref f_h))) (n_h : PySem.W.isFn K (.ref f_h) = true) (G_h : FnOk P w K mg base CX0 7 f_h d_h ["self", "other"] (spRsh C)) (b_h : Binds K d_h ["self", "other"] []) {f_eq : Addr} {d_eq : FuncData} (i_eq : PySem.W.findIn K (.ref CL) "__eq__" = some (some (.ref f_eq))) (n_eq : PySem.W.isFn K (.ref f_eq) = true) (G_eq : FnOk P w K mg base CX0 1 f_eq d_eq ["self", "other"] (spEqL K CL)) (b_eq : Binds K d_eq ["self", "other"] []) (nfC : PySem.W.notFirst K CL (.ref CL) = true) {f_c : Addr} {d_c : FuncData} (D_c : Df K mg "_law_cell" s__law_cell ["_law_script", "_law_k"] f_c d_c) (G_c : FnOk P w K mg base CX0 1 f_c d_c ["_law_script", "_law_k"] (spCell K)) {f_d : Addr} {d_d : FuncData} (D_d : Df K mg "_law_digits" s__law_digits ["_law_cell_here", "_law_sizes"] f_d d_d) (G_d : FnOk P w K mg base CX0 1 f_d d_d ["_law_cell_here", "_law_sizes"] (spDigs K)) {f_l : Addr} {d_l : FuncData} (D_l : Df K mg "_law_letters" s__law_letters ["_law_row", "_law_top", "_law_upto"] f_l d_l) (G_l : FnOk P w K mg base CX0 1 f_l d_l ["_law_row", "_law_top", "_law_upto"] spLetN) {f_e : Addr} {d_e : FuncData} (D_e : Df K mg "_law_bent" s__law_bent ["_law_top", "_law_letters_here", "_law_bend"] f_e d_e) (G_e : FnOk P w K mg base CX0 1 f_e d_e ["_law_top", "_law_letters_here", "_law_bend"] spBent) {f_o : Addr} {d_o : FuncData} (D_o : Df K mg "_law_bottom" s__law_bottom ["_law_top", "_law_letters_here"] f_o d_o) (G_o : FnOk P w K mg base CX0 1 f_o d_o ["_law_top", "_law_letters_here"] spBotL) {f_r : Addr} {d_r : FuncData} (D_r : Df K mg "_law_by_rules" s__law_by_rules ["_law_top", "_law_letters_here"] f_r d_r) (G_r : FnOk P w K mg base CX0 5 f_r d_r ["_law_top", "_law_letters_here"] spByR) {f_t : Addr} {d_t : FuncData} (D_t : Df K mg "_law_by_tables" s__law_by_tables ["_law_top", "_law_letters_here"] f_t d_t) (G_t : FnOk P w K mg base CX0 3 f_t d_t ["_law_top", "_law_letters_here"] spByT) {f_g : Addr} {d_g : FuncData} (D_g : Df K mg "_law_given" s__law_given ["_law_letters_here", "_law_form"] f_g d_g) (G_g : FnOk P w K mg base CX0 1 f_g d_g ["_law_letters_here", "_law_form"] spGiven) {f_u : Addr} {d_u : FuncData} (D_u : Df K mg "_law_due" s__law_due ["_law_told", "_law_ruled", "_law_costed"] f_u d_u) (G_u : FnOk P w K mg base CX0 5 f_u d_u ["_law_told", "_law_ruled", "_law_costed"] (spDue CL)) {f_i2 : Addr} {d_i2 : FuncData} (D_i2 : Df K mg "_law_is_lot" s__law_is_lot ["_law_told", "_law_pins", "_law_bunch"] f_i2 d_i2) (G_i2 : FnOk P w K mg base CX0 2 f_i2 d_i2 ["_law_told", "_law_pins", "_law_bunch"] (spIsLot CL)) {f_n : Addr} {d_n : FuncData} (D_n : Df K mg "_law_norm" s__law_norm ["_law_triples"] f_n d_n) (G_n : FnOk P w K mg base CX0 1 f_n d_n ["_law_triples"] (spNorm K)) (cdv : Value) (s : Shared) (H : Hp) (z : Addr) (Q : VK) (E : XK) (hr : Room 11 (callerA.deeper (envOfC "law" (defScope s_law) s.heap.objs.size f cdv))) (q : ∀ H', Q (.bl true) H') :
    ∃ tR, PSs (cxOf CX0 P w K mg base ["_law_script", "_law_size", "_law_top", "_law_many", "_law_upto", "_law_letters_here", "_law_ruled", "_law_costed", "_law_given_here", "_law_kept", "_law_row", "_law_told", "_law_place", "_law_front", "_law_pins", "_law_whole_here", "_law_over", "_law_model", "_law_letter", "_law_c"] "law" (defScope s_law) f cdv callerA [] s H E).nox ((defBody s_law).drop 8) tR ∧ ∀ (sz a : Addr) (t m s3 s4 : Int) (ds : List Lt) (H1 : Hp) (y3 y4 y6 y7 y8 y9 y10 y11 y12 y13 y14 y15 y16 y17 y18 y19 : Option V), LZ H sz a t m s3 s4 ds H1 → tR { nx := fun _ H' => Q .non H', rt := Q } [some (.ref z), some (.ref sz), some (.int t), y3, y4, some (.ref a), y6, y7, y8, y9, y10, y11, y12, y13, y14, y15, y16, y17, y18, y19] H1 := by
      refine ⟨_, (pss_cons (ps_set (i := 6) sc_law.nd rfl (.inl rfl) (pe_call G_r (hr.mono (by decide)) (by rfl) D_r.g D_r.F.kp D_r.b .nil pass0 (pa_cons (pv 2) (pa_cons (pv 5) pa_nil))))
        (pss_cons (ps_set (i := 7) sc_law.nd rfl (.inl rfl) (pe_call G_t (hr.mono (by decide)) (by rfl) D_t.g D_t.F.kp D_t.b .nil pass0 (pa_cons (pv 2) (pa_cons (pv 5) pa_nil))))
        (pss_cons (ps_set (i := 8) sc_law.nd rfl (.inl rfl) (pe_call G_g (hr.mono (by decide)) (by rfl) D_g.g D_g.F.kp D_g.b .nil pass0 (pa_cons (pv 5) (pa_cons (pe_ix (r := rIxB K) ix_seqB (pv 1) pe_int (fun _ _ => rfl)) pa_nil))))
        (pss_cons (ps_set (i := 9) sc_law.nd rfl (.inl rfl) (pe_callB (r := rRepr K) (cr_reprTop hr) (by rfl) TR (by decide +kernel) (pa_cons (pv 8) pa_nil)))
        (pss_cons (ps_set (i := 10) sc_law.nd rfl (.inl rfl) (pe_make M G_i (hr.mono (by decide)) (by rfl) L.g b_i .nil pass0 (pa_cons (pv 2) (pa_cons (pv 8) pa_nil))))
        (pss_cons (ps_set (i := 11) sc_law.nd rfl (.inl rfl) (pe_prop (pv 10) L.cl P_pa G_pa (hr.mono (by decide)) b_pa .nil pass0 (by rfl)))
        (pss_cons (ps_if (pt_not (pt_val (pe_call G_u (hr.mono (by decide)) (by rfl) D_u.g D_u.F.kp D_u.b .nil pass0 (pa_cons (pv 11) (pa_cons (pe_ix (r := rIxB K) ix_seqB (pv 6) (pe_un un_neg pe_int) (fun _ _ => rfl)) (pa_cons (pe_ix (r := rIxB K) ix_seqB (pv 7) (pe_un un_neg pe_int) (fun _ _ => rfl)) pa_nil)))))) (pss_one (ps_ret pe_bl)) pss_nil)
        (pss_cons (ps_set (i := 12) sc_law.nd rfl (.inl rfl) (pe_op op_modN (pe_callTy call_int1 (by rfl) T.b_int (by decide +kernel) (pa_cons (pe_ix (r := rIxB K) ix_seqB (pv 1) pe_int (fun _ _ => rfl)) pa_nil)) (pe_op op_add (pe_callB call_len_seq (by rfl) T.b_len PySem.boot_len (pa_cons (pv 5) pa_nil)) pe_int)))
        (pss_cons (ps_set (i := 13) sc_law.nd rfl (.inl rfl) (pe_make M G_i (hr.mono (by decide)) (by rfl) L.g b_i .nil pass0 (pa_cons (pv 2) (pa_cons (pe_slice sl_list (pv 5) po_none (po_some (pv 12))) pa_nil))))
        (pss_cons (ps_if (pt_not (pt_val (pe_call G_u (hr.mono (by decide)) (by rfl) D_u.g D_u.F.kp D_u.b .nil pass0 (pa_cons (pe_prop (pv 13) L.cl P_pa G_pa (hr.mono (by decide)) b_pa .nil pass0 (by rfl)) (pa_cons (pe_ix (r := rIxB K) ix_seqB (pv 6) (pv 12) (fun _ _ => rfl)) (pa_cons (pe_ix (r := rIxB K) ix_seqB (pv 7) (pv 12) (fun _ _ => rfl)) pa_nil)))))) (pss_one (ps_ret pe_bl)) pss_nil)
        (pss_cons (ps_set (i := 14) sc_law.nd rfl (.inr rfl) (pe_ix (r := rIxB K) ix_seqB (pe_ix (r := rIxB K) ix_seqB (pv 6) (pe_un un_neg pe_int) (fun _ _ => rfl)) pe_int (fun _ _ => rfl)))
        (pss_cons (ps_set (i := 15) sc_law.nd rfl (.inl rfl) (pe_op (op_ownB (op := .RShift) sf i_h n_h G_h (hr.mono (by decide)) b_h pass0) (pv 13) (pe_make M G_i (hr.mono (by decide)) (by rfl) L.g b_i .nil pass0 (pa_cons (pe_call G_o (hr.mono (by decide)) (by rfl) D_o.g D_o.F.kp D_o.b .nil pass0 (pa_cons (pv 2) (pa_cons (pe_slice sl_list (pv 5) po_none (po_some (pv 12))) pa_nil))) (pa_cons (pe_slice sl_list (pv 5) (po_some (pv 12)) po_none) pa_nil)))))
        (pss_cons (ps_if (pt_not (pt_val (pe_call G_i2 (hr.mono (by decide)) (by rfl) D_i2.g D_i2.F.kp D_i2.b .nil pass0 (pa_cons (pe_prop (pv 15) L.cl P_pa G_pa (hr.mono (by decide)) b_pa .nil pass0 (by rfl)) (pa_cons (pv 14) (pa_cons (pe_ix (r := rIxB K) ix_seqB (pe_ix (r := rIxB K) ix_seqB (pv 6) (pe_un un_neg pe_int) (fun _ _ => rfl)) pe_int (fun _ _ => rfl)) pa_nil)))))) (pss_one (ps_ret pe_bl)) pss_nil)
        (pss_cons (ps_set (i := 16) sc_law.nd rfl (.inl rfl) (pe_call G_n (hr.mono (by decide)) (by rfl) D_n.g D_n.F.kp D_n.b .nil pass0 (pa_cons (pe_lc (own := [("_law_c", 19)]) (g := gName 19) (tt := tYes) rfl sc_law.nd (pi_list (pe_ix (r := rIxB K) ix_seqB (pe_ix (r := rIxB K) ix_seqB (pv 6) (pe_un un_neg pe_int) (fun _ _ => rfl)) pe_int (fun _ _ => rfl))) (blkOk_by (own := [("_law_c", 19)]) (N := ["_law_script", "_law_size", "_law_top", "_law_many", "_law_upto", "_law_letters_here", "_law_ruled", "_law_costed", "_law_given_here", "_law_kept", "_law_row", "_law_told", "_law_place", "_law_front", "_law_pins", "_law_whole_here", "_law_over", "_law_model", "_law_letter", "_law_c"]) (sc := defScope s_law) (by decide +kernel)) (fun _ _ _ _ _ => (pg_name (i := 19) sc_law.nd rfl (.inl rfl))) (fun _ _ _ _ _ => pts_nil) (fun _ _ _ _ _ => (pe_tup (pa_cons (pe_op op_sub (pe_op op_sub (pv 14) pe_int) (pe_ix (r := rIxB K) ix_seqB (pv 19) pe_int (fun _ _ => rfl))) (pa_cons (pe_op op_sub (pe_op op_sub (pv 14) pe_int) (pe_ix (r := rIxB K) ix_seqB (pv 19) pe_int (fun _ _ => rfl))) (pa_cons (pe_ix (r := rIxB K) ix_seqB (pv 19) pe_int (fun _ _ => rfl)) pa_nil)))))) pa_nil)))
        (pss_cons (ps_if (PW.pt (pw_or (pt_not (pt_val (pe_call G_i2 (hr.mono (by decide)) (by rfl) D_i2.g D_i2.F.kp D_i2.b .nil pass0 (pa_cons (pe_prop (pe_meth0 (pv 10) L.cl MF.m G_f (hr.mono (by decide)) MF.b .nil pass0) L.cl P_pa G_pa (hr.mono (by decide)) b_pa .nil pass0 (by rfl)) (pa_cons (pv 14) (pa_cons (pv 16) pa_nil)))))) (pw_or1 (pt_cmpR op_ne (pe_callB (r := rRepr K) (cr_reprTop hr) (by rfl) TR (by decide +kernel) (pa_cons (pv 8) pa_nil)) (pv 9) (nomark _))))) (pss_one (ps_ret pe_bl)) pss_nil)
        (pss_one (ps_ret (pe_and (pe_call G_i2 (hr.mono (by decide)) (by rfl) D_i2.g D_i2.F.kp D_i2.b .nil pass0 (pa_cons (pe_prop (pv 10) L.cl P_pa G_pa (hr.mono (by decide)) b_pa .nil pass0 (by rfl)) (pa_cons (pv 14) (pa_cons (pe_ix (r := rIxB K) ix_seqB (pe_ix (r := rIxB K) ix_seqB (pv 6) (pe_un un_neg pe_int) (fun _ _ => rfl)) pe_int (fun _ _ => rfl)) pa_nil)))) (pe_one (pe_cmpR op_isBl (pe_cmpR (by exact op_ownEqK (K := K) rfl i_eq n_eq G_eq (hr.mono (by decide)) b_eq) (pe_prop (pv 10) L.cl P_pa G_pa (hr.mono (by decide)) b_pa .nil pass0 (by rfl)) (pv 11) (nomark _)) pe_bl (nomark _))))))))))))))))))))), ?_⟩
      intro sz a t m s3 s4 ds H1 y3 y4 y6 y7 y8 y9 y10 y11 y12 y13 y14 y15 y16 y17 y18 y19 W
      obtain ⟨s0, s1, s2, s5, s6, hz⟩ := W.hz
      have t0 := W.t0
      have t1 := W.t1
      have m1 := W.m1
      have ln := W.ln
      have m2 := W.m2
      have wf := W.wf
      have sp4 := W.sp4
      obtain ⟨xs, ea, tx⟩ := W.la
      have g := wf.good
      have al := wf.all
      have b44 : ∀ i, i ≤ ds.length → t + endR t (ds.take i) ≤ 44 := fun i hi => by have := wf.bd i hi; omega
      have nn : ∀ i, i ≤ ds.length → 0 ≤ endR t (ds.take i) := endR_nn t0 g al
      refine ⟨_, rfl, _, rfl, t, a, xs, ds, rfl, .inl ea, tx.h, g, al, t0, t1, by omega, b44, fun H2 cR vR x2 nR eR RV => ?_⟩
      refine ⟨_, rfl, _, rfl, t, a, xs, ds, rfl, .inl (x2 _ _ ea), tx.h.same x2, g, al, t0, t1, by omega, fun i hi => by have := b44 i hi; omega, fun H3 cT vT x3 nT eT TV => ?_⟩
      have x13 := x2.trans x3
      refine ⟨_, rfl, _, rfl, sz, _, _, _, rfl, rfl, .inl (.inl (.inl (x13 _ _ hz))), at_of (j := 3) rfl rfl, a, xs, ds, s3, rfl, .inl (x13 _ _ ea), tx.h.same x13, by omega, fun H4 cG vG x4 hG tG => ?_⟩
      obtain ⟨D, dD, d1, d2, d3, d4⟩ := given_repr (K := K) hG tG (wf.small (by omega)) (by omega)
      refine ⟨_, rfl, cG, D, rfl, dD H4 (Same.refl _), d1, d2, d3, d4, ?_⟩
      have okT : ∀ i, i ≤ ds.length → RowOk t (ds.take i) := fun i hi => Wf.ok (m := m) (Wf.left (b := ds.drop i) (by rw [List.take_append_drop]; exact wf)) t0 (by omega) (by rw [List.length_take]; omega)
      have okA : RowOk t ds := wf.ok t0 (by omega) (by omega)
      refine ⟨_, rfl, _, rfl, fun xr dxr nxr ndr ner => ⟨xr, dxr, t, cG, vG, ds, _, rfl, upd_same, nxr, new_same nxr ndr ner, t0, hG, tG, g, al, by omega, fun H5 x5 R5 => ⟨rfl, ?_⟩⟩⟩
      have RV5 := ((RV.same x3).same x4).same x5
      have TV5 := (TV.same x4).same x5
      have eR5 := x5 _ _ (x4 _ _ (x3 _ _ eR))
      have eT5 := x5 _ _ (x4 _ _ eT)
      have x15 := (x13.trans x4).trans x5
      obtain ⟨dr, ar, br, vr, er, _, _, _⟩ := id R5
      refine ⟨_, rfl, xr, dr, _, rfl, er, xr, t, ds, rfl, R5, okA, fun H6 xt Mt x6 rm LT => ?_⟩
      have RV6 := RV5.same x6
      have TV6 := TV5.same x6
      have eR6 := x6 _ _ eR5
      have eT6 := x6 _ _ eT5
      have tkA : ds.take ds.length = ds := List.take_length
      obtain ⟨bR, uR, NR, r1, r2, r3, r4, r5⟩ := RV6.2 ds.length (by omega)
      obtain ⟨bT, uT, q1, q2, q3⟩ := TV6.2 ds.length (by omega)
      rw [tkA] at r2 r3 r4 r5 q2 q3
      have n0 : 0 ≤ t + endR t ds := by have := nn ds.length (Nat.le_refl _); rw [tkA] at this; omega
      have n44 : t + endR t ds ≤ 44 := by have := b44 ds.length (Nat.le_refl _); rw [tkA] at this; exact this
      have eN : mtE Mt (t + endR t ds).toNat = mtE NR (t + endR t ds).toNat := mt_uniq n0 rm.mat r4 rm.tab r5
      have lenM : (mtE NR (t + endR t ds).toNat).length ≤ 1000 := Nat.le_trans (mtE_len _ _) (by omega)
      rw [eN] at LT
      have tabN : ∀ i j, 0 ≤ i → i < t + endR t ds → 0 ≤ j → j < t + endR t ds → RT t ds i j = tabE (mtE NR (t + endR t ds).toNat) i j := fun i j i0 i1 j0 j1 => by
        have := lo_hi (t + endR t ds) 1
        rw [mt_tab, r5 i j i0 (by omega) j0 (by omega)]
      refine ⟨_, rfl, _, rfl, _, rfl, cR, _, _, _, rfl, rfl, .inl (.inl (.inl eR6)), atI_last RV6.1 r1, _, rfl, _, rfl, cT, _, _, _, rfl, rfl, .inl (.inl (.inl eT6)), atI_last TV6.1 q1, xt, bR, bT, uR, uT, _, _, RT t ds, rfl, LT, mtE_good r4, lenM, r2, r3, q2, q3, tabN, n0, by omega, fun H7 x7 => ⟨_, rfl, ite2 (fun z => absurd z (by decide)) (fun _ => ?_)⟩⟩
      have x17 := (x15.trans x6).trans x7
      have ea7 := x17 _ _ ea
      have pf := fmod_in s4 (show 0 < (xs.length : Int) + 1 by omega)
      refine ⟨_, rfl, sz, _, _, _, rfl, rfl, .inl (.inl (.inl (x17 _ _ hz))), at_of (j := 4) rfl rfl, .inl ⟨_, rfl, _, rfl, a, _, rfl, .inl (.inl (.inl ea7)), _, _, rfl, rfl, _, _, rfl, rfl, by omega, ?_⟩⟩
      dsimp only
      generalize hp : s4.fmod ((xs.length : Int) + 1) = p at pf
      have lx := tx.1
      have pk : p = ((p.toNat : Nat) : Int) := by omega
      have kl : p.toNat ≤ ds.length := by omega
      generalize hk : p.toNat = k at pk kl
      have wk : Wf m t (ds.take k) := Wf.left (b := ds.drop k) (by rw [List.take_append_drop]; exact wf)
      have wd : Wf m (endR t (ds.take k)) (ds.drop k) := Wf.right (a := ds.take k) (by rw [List.take_append_drop]; exact wf)
      have tx7 := tx.same x17
      refine ⟨_, rfl, _, rfl, _, rfl, p, rfl, a, xs, rfl, .inl (.inl ea7), fun u1 m1_ => ?_⟩
      rw [cut_to xs (by omega) (by omega), hk]
      have v1 := same_upd (o := .lst (xs.take k)) m1_
      have txk := (tx7.take k)
      refine fun xf dxf nxf ndf nef => ⟨xf, dxf, t, u1, xs.take k, ds.take k, _, rfl, upd_same, nxf, new_same nxf ndf nef, t0, .inl upd_same, (txk.same v1).h, wk.good, wk.all, by rw [List.length_take]; omega, fun H8 x8 R8 => ⟨rfl, ?_⟩⟩
      have x78 := v1.trans x8
      have RV8 := (RV6.same x7).same x78
      have TV8 := (TV6.same x7).same x78
      have eR8 := x78 _ _ (x7 _ _ eR6)
      have eT8 := x78 _ _ (x7 _ _ eT6)
      obtain ⟨df, af, bf, vf, ef, _, _, _⟩ := id R8
      obtain ⟨bR2, uR2, NR2, w1, w2, w3, w4, w5⟩ := RV8.2 k (by omega)
      obtain ⟨bT2, uT2, z1, z2, z3⟩ := TV8.2 k (by omega)
      have nk0 : 0 ≤ t + endR t (ds.take k) := by have := nn k kl; omega
      have nk44 := b44 k kl
      refine ⟨_, rfl, xf, df, _, rfl, ef, xf, t, ds.take k, rfl, R8, okT k kl, fun H9 xg Mg x9 rg LG => ?_⟩
      rw [mt_uniq nk0 rg.mat w4 rg.tab w5] at LG
      have tab2 : ∀ i j, 0 ≤ i → i < t + endR t (ds.take k) → 0 ≤ j → j < t + endR t (ds.take k) → RT t (ds.take k) i j = tabE (mtE NR2 (t + endR t (ds.take k)).toNat) i j := fun i j i0 i1 j0 j1 => by
        have := lo_hi (t + endR t (ds.take k)) 1
        rw [mt_tab, w5 i j i0 (by omega) j0 (by omega)]
      refine ⟨_, rfl, _, rfl, cR, _, _, _, rfl, rfl, .inl (.inl (.inl (x9 _ _ eR8))), at_of pk w1, _, rfl, _, rfl, cT, _, _, _, rfl, rfl, .inl (.inl (.inl (x9 _ _ eT8))), at_of pk z1, xg, bR2, bT2, uR2, uT2, _, _, RT t (ds.take k), rfl, LG, mtE_good w4, Nat.le_trans (mtE_len _ _) (by omega), x9 _ _ w2, w3.same x9, x9 _ _ z2, z3.same x9, tab2, nk0, by omega, fun H10 x10 => ⟨_, rfl, ite2 (fun z => absurd z (by decide)) (fun _ => ?_)⟩⟩
      have xA := (x17.trans x78).trans (x9.trans x10)
      have xB := (x7.trans x78).trans (x9.trans x10)
      have eRA := xB _ _ eR6
      have RVA := RV6.same xB
      have r2A := xB _ _ r2
      have r3A := r3.same xB
      have b0 : atI [V.int (t + endR t ds), .ref uR] 0 = some (.int (t + endR t ds)) := at_of (j := 0) rfl rfl
      have b1 : atI [V.int (t + endR t ds), .ref uR] 1 = some (.ref uR) := at_of (j := 1) rfl rfl
      refine ⟨_, rfl, _, rfl, cR, _, _, _, rfl, rfl, .inl (.inl (.inl eRA)), atI_last RVA.1 r1, bR, _, _, _, rfl, rfl, .inl (.inl (.inl r2A)), b0, ?_⟩
      have nke : 0 ≤ endR t (ds.take k) := nn k kl
      have eaA := xA _ _ ea
      have R8A := (R8.same x9).same x10
      have txA := tx.same xA
      refine ⟨_, rfl, _, rfl, _, rfl, _, rfl, p, rfl, a, xs, rfl, .inl (.inl eaA), fun u2 m2_ => ?_⟩
      rw [cut_to xs (by omega) (by omega), hk]
      have v2 := same_upd (o := .lst (xs.take k)) m2_
      refine ⟨t, u2, xs.take k, ds.take k, rfl, .inl upd_same, ((txA.take k).same v2).h, wk.good, ?_⟩
      refine ⟨_, rfl, _, rfl, p, rfl, a, xs, rfl, .inl (.inl (v2 _ _ eaA)), fun u3 m3_ => ?_⟩
      rw [cut_from xs (by omega) (by omega), hk]
      have v3 := same_upd (o := .lst (xs.drop k)) m3_
      have v23 := v2.trans v3
      refine fun xw dxw nxw ndw new => ⟨xw, dxw, endR t (ds.take k), u3, xs.drop k, ds.drop k, _, rfl, upd_same, nxw, new_same nxw ndw new, nke, .inl upd_same, ((txA.drop k).same v23).h, wd.good, wd.all, by rw [List.length_drop]; omega, fun H11 x11 R11 => ⟨rfl, ?_⟩⟩
      have xC := v23.trans x11
      have R8C := R8A.same xC
      obtain ⟨dfC, afC, bfC, vfC, efC, _, _, _⟩ := id R8C
      obtain ⟨dwC, awC, bwC, vwC, ewC, _, _, _⟩ := id R11
      refine ⟨xf, dfC, _, xw, dwC, _, rfl, rfl, efC, ewC, xf, xw, t, ds.take k, ds.drop k, rfl, R8C, R11, t0, by rw [List.take_append_drop]; exact g, by rw [List.take_append_drop]; exact al, by rw [List.take_append_drop]; omega, fun H12 xh x12 R12 => ?_⟩
      rw [List.take_append_drop] at R12
      obtain ⟨dh, ah, bh, vh, eh, _, _, _⟩ := id R12
      refine ⟨_, rfl, xh, dh, _, rfl, eh, xh, t, ds, rfl, R12, okA, fun H13 xi Mi x13_ ri LI => ?_⟩
      rw [mt_uniq n0 ri.mat r4 ri.tab r5] at LI
      have xD := (xC.trans x12).trans x13_
      have r2D := xD _ _ r2A
      have r3D := r3A.same xD
      refine ⟨_, rfl, _, rfl, _, rfl, cR, _, _, _, rfl, rfl, .inl (.inl (.inl (xD _ _ eRA))), atI_last RVA.1 r1, bR, _, _, _, rfl, rfl, .inl (.inl (.inl r2D)), b1, xi, uR, _, _, rfl, LI, r3D, lenM, _, rfl, ite2 (fun z => absurd z (by decide)) (fun _ => ?_)⟩
      obtain ⟨us, eu, tu⟩ := id r3D
      refine ⟨_, rfl, _, rfl, cR, _, _, _, rfl, rfl, .inl (.inl (.inl (xD _ _ eRA))), atI_last RVA.1 r1, bR, _, _, _, rfl, rfl, .inl (.inl (.inl r2D)), b1, uR, rfl, ⟨us, .inl (.inl eu)⟩, fun D2 nD2 => ?_⟩
      generalize hcs : mtE NR (t + endR t ds).toNat = cs at *
      have gcs : Good (t + endR t ds) cs := by rw [← hcs]; exact mtE_good r4
      generalize hn : t + endR t ds = n at *
      refine lc_list (K := K) (a := uR) (xs := us) (fun i H' => ∃ vs, LcI H13 D2 vs H' ∧ TrV H' vs (mirE n (cs.take i))) ⟨[], LcI.start nD2, TrV.nil⟩ (fun i H' _ pv => by obtain ⟨vs, L, _⟩ := pv; exact .inl (.inl (L.same _ _ eu))) (fun i x H14 hx pv => ?_) (fun H14 pv => ?_)
      · obtain ⟨vs, L14, tW⟩ := pv
        obtain ⟨b, tt, rfl, ht, hb⟩ := (tu.same L14.same).at_ hx
        have hS : SqB K H14 b (tv tt) := .inr (.inl (.inl hb))
        have tk : cs.take (i + 1) = cs.take i ++ [tt] := by rw [List.take_add_one, ht]; rfl
        refine ⟨rfl, _, rfl, _, _, rfl, rfl, _, rfl, b, _, _, _, rfl, rfl, hS, at_of (j := 0) rfl rfl, _, _, rfl, rfl, _, rfl, _, _, rfl, rfl, _, rfl, b, _, _, _, rfl, rfl, hS, at_of (j := 1) rfl rfl, _, _, rfl, rfl, _, rfl, b, _, _, _, rfl, rfl, hS, at_of (j := 2) rfl rfl, by show 3 ≤ sizeLine; decide, fun p2 np2 => ?_⟩
        have s3 := same_upd (o := .tup [.int (n - 1 - tt.1), .int (n - 1 - tt.2.1), .int tt.2.2]) np2
        have nE : p2 ≠ D2 := L14.nn np2
        have il := (List.getElem?_eq_some_iff.mp hx).1
        have lu := tu.1
        refine ⟨vs, s3 _ _ L14.at_, ?_, vs ++ [.ref p2], L14.put nD2 s3, ?_⟩
        · rw [tW.1]
          unfold mirE
          rw [List.length_map, List.length_take]
          exact small1000 (by omega)
        · rw [tk]
          unfold mirE
          rw [List.map_append]
          refine (tW.sameT (sameT_put L14.at_ s3)).snoc (t := (n - 1 - tt.1, n - 1 - tt.2.1, tt.2.2)) ?_
          rw [upd_ne nE, upd_same]
      obtain ⟨vs, L14, tW⟩ := pv
      rw [tu.1, List.take_length] at tW
      refine ⟨D2, vs, mirE n cs, rfl, .inl (.inl (.inl L14.at_)), tW, ?_, by unfold mirE; rw [List.length_map]; exact lenM, fun H15 co ro x15_ to_ gn => ?_⟩
      · intro e he
        obtain ⟨tt, ht, rfl⟩ := List.mem_map.mp he
        have := gcs.ord tt ht
        dsimp only
        omega
      have hro : IsNorm (mirE n cs) ro := gn.norm fun e he => by
        have := (mirE_vld gcs e he).2.2.2.2.2
        exact this
      have xE := L14.same.trans x15_
      have R5E := (((((R5.same x6).same xB).same xD).same xE))
      obtain ⟨dE, aE, bE, vE, eE, _, _, _⟩ := id R5E
      refine ⟨_, rfl, xr, dE, _, rfl, eE, ?_, ?_⟩
      · unfold rowF
        rw [lookup_putF, if_neg (by decide +kernel), lookup_putF, if_neg (by decide +kernel), lookup_putF, if_neg (by decide +kernel)]
        rfl
      refine ⟨xr, t, ds, rfl, R5E, g, t0, al, by omega, fun H16 xl x16 R16 => ?_⟩
      obtain ⟨dl, al_, bl_, vl_, el, _, _, _⟩ := id R16
      have okF : RowOk (endR t ds) (flipD ds) := by
        have e0 := nn ds.length (Nat.le_refl _)
        rw [tkA] at e0
        have := wf.flip.hd
        exact wf.flip.ok e0 (by omega) (by rw [flip_len]; omega)
      have ee : endR (endR t ds) (flipD ds) = t := by
        have e := end_flip (t := t) g ds.length (Nat.le_refl _)
        rw [← flip_len ds, List.take_length, flip_len, Nat.sub_self, List.take_zero] at e
        exact e
      have en : endR t ds + t = n := by omega
      refine ⟨xl, dl, _, rfl, el, xl, endR t ds, flipD ds, rfl, R16, okF, fun H17 xm Mm x17_ rmm LM => ?_⟩
      have hMm := rmm.mat
      have hTm := rmm.tab
      rw [ee, en] at LM hMm hTm
      have efl : mtE Mm n.toNat = ro := by
        subst hn
        subst hcs
        exact flip_cords t0 wf r4 r5 hMm hTm hro
      rw [efl] at LM
      have xF := x16.trans x17_
      have lro : ro.length ≤ 1000 := by rw [← efl]; exact Nat.le_trans (mtE_len _ _) (by omega)
      refine ⟨_, rfl, _, rfl, xm, co, n, ro, rfl, LM, TripL.same xF to_, lro, _, rfl, ite2 (fun z => absurd z (by decide)) (fun _ => ?_)⟩
      have xG := ((((x5.trans x6).trans xB).trans xD).trans xE).trans xF
      refine ⟨_, rfl, cG, D, rfl, dD _ xG, d1, d2, d3, d4, _, rfl, rfl, _, rfl, ite2 (fun z => absurd z (by rw [decide_eq_true (show V.str D.shown = V.str D.shown from rfl)]; decide)) (fun _ => ?_)⟩
      have R5F := R5E.same xF
      obtain ⟨dF, aF, bF, vF, eF, _, _, _⟩ := id R5F
      have xH := xD.trans (xE.trans xF)
      have r2F := xH _ _ r2A
      have r3F := r3A.same xH
      have eRF := xH _ _ eRA
      refine ⟨_, rfl, xr, dF, _, rfl, eF, xr, t, ds, rfl, R5F, okA, fun H18 x1 M1 x18 rm1 L1 => ?_⟩
      have mM1 := rm1.mat
      have tM1 := rm1.tab
      rw [hn] at mM1 tM1 L1
      have nz : 0 ≤ n := n0
      have e1N : mtE M1 n.toNat = cs := by
        rw [← hcs]
        exact mt_uniq nz mM1 r4 tM1 r5
      rw [e1N] at L1
      refine ⟨_, rfl, _, rfl, _, rfl, cR, _, _, _, rfl, rfl, .inl (.inl (.inl (x18 _ _ eRF))), atI_last RVA.1 r1, bR, _, _, _, rfl, rfl, .inl (.inl (.inl (x18 _ _ r2F))), b1, x1, uR, n, cs, rfl, L1, r3F.same x18, lenM, ⟨true, rfl, ite2 (fun _ => ?_) (fun z => absurd rfl z)⟩⟩
      have R5G := R5F.same x18
      obtain ⟨dG, aG, bG, vG2, eG, _, _, _⟩ := id R5G
      refine ⟨_, rfl, xr, dG, _, rfl, eG, xr, t, ds, rfl, R5G, okA, fun H19 y1 M2 x19 rm2 L2_ => ?_⟩
      have mM2 := rm2.mat
      have tM2 := rm2.tab
      rw [hn] at mM2 tM2 L2_
      have e2N : mtE M2 n.toNat = cs := by
        rw [← hcs]
        exact mt_uniq nz mM2 r4 tM2 r5
      rw [e2N] at L2_
      have xJ := (xB.trans xH).trans (x18.trans x19)
      have LTJ := LT.same xJ
      obtain ⟨dy1, cy1, ey1, _⟩ := id L2_
      obtain ⟨dxt, cxt, ext_, _⟩ := id LTJ
      refine ⟨_, rfl, y1, dy1, _, .ref CL, rfl, ey1, .inr ⟨xt, dxt, _, rfl, ext_, rfl⟩, nfC, y1, .ref xt, n, cs, rfl, L2_, .inl ⟨xt, n, cs, rfl, LTJ, _, rfl, ?_⟩⟩
      rw [decide_eq_true (show n = n ∧ cs = cs from ⟨rfl, rfl⟩)]
      exact ⟨true, true, rfl, rfl, q _⟩
end
end Own

namespace Own
open PySem PySem.Spec PyProof.Rows L2
/-! ### letters that stand: shifted, bent, closed -/
theorem Wf.up {m k : Int} (mk : m ≤ k) : ∀ {ds : List Lt} {L : Int}, Wf m L ds → Wf k L ds
  | [], _, h => Int.le_trans h mk
  | _ :: _, _, h => ⟨Int.le_trans h.1 mk, h.2.1, h.2.2.1, Wf.up mk h.2.2.2⟩
theorem Wf.sh {m s e : Int} (s0 : 0 ≤ s) (se : s ≤ e) : ∀ {ds : List Lt} {L : Int}, Wf m L ds → Wf (m + e) (L + e) (shD s ds)
  | [], L, h => by
    have : L ≤ m := h
    show L + e ≤ m + e
    omega
  | d :: r, L, h => by
    have ih := Wf.sh s0 se h.2.2.2
    have o := of_decide_eq_true h.2.2.1
    have l := h.1
    refine ⟨by omega, h.2.1, decide_eq_true ?_, ?_⟩
    · show 0 ≤ d.2 + s ∧ d.2 + s < if d.1 = "cup" then L + e + 1 else L + e - 1
      have o2 := o.2
      refine ⟨by omega, ?_⟩
      split at o2 <;> rename_i c
      · rw [if_pos c]
        omega
      · rw [if_neg c]
        omega
    · rw [show L + e + chgR ((d.1, d.2 + s) : Lt).1 = L + chgR d.1 + e by show L + e + chgR d.1 = _; omega]
      exact ih
theorem cups_wf {L : Int} (L0 : 0 ≤ L) : ∀ k : Nat, Wf (L + 2 * k) L (cupsD k) ∧ endR L (cupsD k) = L + 2 * k
  | 0 => ⟨by show L ≤ L + 2 * ((0 : Nat) : Int); omega, by show L = L + 2 * ((0 : Nat) : Int); omega⟩
  | k + 1 => by
    obtain ⟨h, e⟩ := cups_wf L0 k
    rw [cupsD_succ]
    refine ⟨(h.up (by omega)).app ?_, ?_⟩
    · rw [e]
      exact ⟨by omega, g_u, o_u.mpr ⟨by omega, by omega⟩, by show L + 2 * (k : Int) + chgR "cup" ≤ L + 2 * ((k + 1 : Nat) : Int); rw [c_u]; omega⟩
    · rw [endR_snoc, e]
      show L + 2 * (k : Int) + chgR "cup" = _
      rw [c_u]
      omega
theorem bent_wf {m t b : Int} {ds : List Lt} (h : Wf m t ds) (b0 : 0 ≤ b) (b1 : b ≤ t) : Wf (m + b) (t - b) (bentD b ds) := by
  obtain ⟨c1, c2⟩ := cups_wf (L := t - b) (by omega) b.toNat
  have tm := h.hd
  refine (c1.up (by omega)).app ?_
  rw [c2, show t - b + 2 * ((b.toNat : Nat) : Int) = t + b by omega]
  exact h.sh b0 (Int.le_refl _)
theorem caps_wf {m : Int} : ∀ (k : Nat) {L : Int}, 2 * (k : Int) ≤ L → L ≤ m → Wf m L (List.replicate k ("cap", 0))
  | 0, L, _, h => h
  | k + 1, L, h1, h2 => by
    refine ⟨h2, g_a, o_a.mpr ⟨by omega, by omega⟩, ?_⟩
    show Wf m (L + chgR "cap") _
    rw [c_a]
    exact caps_wf k (by omega) (by omega)
theorem dig7 {ds : List Int} {a b c d e f g : Int} (h : Digs ds [a, b, c, d, e, f, g]) : ∃ s0 s1 s2 s3 s4 s5 s6, ds = [s0, s1, s2, s3, s4, s5, s6] ∧ (0 ≤ s0 ∧ s0 < a) ∧ (0 ≤ s1 ∧ s1 < b) ∧ (0 ≤ s2 ∧ s2 < c) ∧ (0 ≤ s4 ∧ s4 < e) ∧ (0 ≤ s5 ∧ s5 < f) ∧ (0 ≤ s6 ∧ s6 < g) := by
  obtain ⟨hl, hd⟩ := h
  match ds, hl with
  | [s0, s1, s2, s3, s4, s5, s6], _ =>
    exact ⟨s0, s1, s2, s3, s4, s5, s6, rfl, hd 0 s0 a rfl rfl, hd 1 s1 b rfl rfl, hd 2 s2 c rfl rfl, hd 4 s4 e rfl rfl, hd 5 s5 f rfl rfl, hd 6 s6 g rfl rfl⟩
theorem rep2 : ∀ (k i : Nat), i < k → (List.replicate k [(12 : Int), 60]).flatten[2 * i]? = some 12 ∧ (List.replicate k [(12 : Int), 60]).flatten[2 * i + 1]? = some 60
  | k + 1, 0, _ => ⟨rfl, rfl⟩
  | k + 1, i + 1, h => by
    have ih := rep2 k i (by omega)
    rw [List.replicate_succ, List.flatten_cons]
    rw [show 2 * (i + 1) = 2 * i + 2 by omega, show 2 * i + 2 + 1 = 2 * i + 1 + 2 by omega]
    exact ih
theorem rep2_len (k : Nat) : (List.replicate k [(12 : Int), 60]).flatten.length = 2 * k := by
  simp [List.length_flatten]
  omega
theorem rep2_map (k : Nat) : (List.replicate k [V.int 12, V.int 60]).flatten = ((List.replicate k [(12 : Int), 60]).flatten).map V.int := by
  induction k with
  | zero => rfl
  | succ k ih =>
    rw [List.replicate_succ, List.flatten_cons, ih, List.replicate_succ, List.flatten_cons, List.map_append]
    rfl
theorem rep2_mem {k : Nat} {x : Int} (h : x ∈ (List.replicate k [(12 : Int), 60]).flatten) : 0 < x ∧ x < 1073741824 := by
  obtain ⟨l, hl, hx⟩ := List.mem_flatten.mp h
  rw [(List.mem_replicate.mp hl).2] at hx
  simp at hx
  omega
theorem tops {s : Int} (h0 : 0 ≤ s) (h1 : s < 8) : ∃ t : Int, atI [V.int 0, .int 1, .int 2, .int 3, .int 4, .int 5, .int 4, .int 5] s = some (.int t) ∧ 0 ≤ t ∧ t ≤ 5 := by
  obtain rfl | rfl | rfl | rfl | rfl | rfl | rfl | rfl : s = 0 ∨ s = 1 ∨ s = 2 ∨ s = 3 ∨ s = 4 ∨ s = 5 ∨ s = 6 ∨ s = 7 := by omega
  all_goals exact ⟨_, rfl, by decide, by decide⟩
theorem rep_ltt {H : Hp} {q : Addr} {d : Lt} (e : H q = some (.tup (lv d))) : ∀ k : Nat, LtT H (List.replicate k [V.ref q]).flatten (List.replicate k d)
  | 0 => LtT.nil
  | k + 1 => by
    have ih := rep_ltt e k
    have one : LtT H [V.ref q] [d] := LtT.nil.snoc e
    rw [List.replicate_succ, List.flatten_cons, List.replicate_succ]
    exact one.app ih
theorem bends {t s6 s : Int} (t0 : 0 ≤ t) (h6 : 0 ≤ s6) (h0 : 2 ≤ s) (h1 : s < 8) : ∃ b : Int, atI [V.int t, .int t, .int t, .int t, .int (if s6 < t then s6 else t), .int (if 1 < t then 1 else t)] (s - 2) = some (.int b) ∧ 0 ≤ b ∧ b ≤ t := by
  obtain rfl | rfl | rfl | rfl | rfl | rfl : s = 2 ∨ s = 3 ∨ s = 4 ∨ s = 5 ∨ s = 6 ∨ s = 7 := by omega
  · exact ⟨t, rfl, by omega, by omega⟩
  · exact ⟨t, rfl, by omega, by omega⟩
  · exact ⟨t, rfl, by omega, by omega⟩
  · exact ⟨t, rfl, by omega, by omega⟩
  · exact ⟨_, rfl, by split <;> omega, by split <;> omega⟩
  · exact ⟨_, rfl, by split <;> omega, by split <;> omega⟩
end Own

namespace Own
open PySem PySem.Spec PyProof.Rows L2
section
variable {P : Program} {w : World} {K : PySem.W.Frag} {mg : Str → Option Value} {base : Heap} {C CL : Addr}
set_option maxHeartbeats 0 in
theorem ok_law {f : Addr} {fd : FuncData} (F : Fun K "law" "law" s_law f fd) (rm : Room 12 callerA) (T : Bi mg) (TR : mg "repr" = none) (L : RowC K mg C) {f_i : Addr} {d_i : FuncData} (M : Mk K C f_i) (G_i : GRI P w K mg base C f_i d_i) (b_i : Binds K d_i ["self", "top", "letters"] []) {p_pa f_pa : Addr} {d_pa : FuncData} (P_pa : PropOf K C "pairing" p_pa f_pa) (G_pa : FnOk P w K mg base CX0 10 f_pa d_pa ["self"] (spRPair C CL)) (b_pa : Binds K d_pa ["self"] []) {f_f : Addr} {d_f : FuncData} (MF : Mt K C "flipped" "Row.flipped" s_Row_flipped ["self"] f_f d_f) (G_f : FnOk P w K mg base CX0 7 f_f d_f ["self"] (spFlip C)) (sf : PySem.W.selfFirst K C = true) {f_h : Addr} {d_h : FuncData} (i_h : PySem.W.findIn K (.ref C) "__rshift__" = some (some (.ref f_h))) (n_h : PySem.W.isFn K (.ref f_h) = true) (G_h : FnOk P w K mg base CX0 7 f_h d_h ["self", "other"] (spRsh C)) (b_h : Binds K d_h ["self", "other"] []) {f_eq : Addr} {d_eq : FuncData} (i_eq : PySem.W.findIn K (.ref CL) "__eq__" = some (some (.ref f_eq))) (n_eq : PySem.W.isFn K (.ref f_eq) = true) (G_eq : FnOk P w K mg base CX0 1 f_eq d_eq ["self", "other"] (spEqL K CL)) (b_eq : Binds K d_eq ["self", "other"] []) (nfC : PySem.W.notFirst K CL (.ref CL) = true) {f_c : Addr} {d_c : FuncData} (D_c : Df K mg "_law_cell" s__law_cell ["_law_script", "_law_k"] f_c d_c) (G_c : FnOk P w K mg base CX0 1 f_c d_c ["_law_script", "_law_k"] (spCell K)) {f_d : Addr} {d_d : FuncData} (D_d : Df K mg "_law_digits" s__law_digits ["_law_cell_here", "_law_sizes"] f_d d_d) (G_d : FnOk P w K mg base CX0 1 f_d d_d ["_law_cell_here", "_law_sizes"] (spDigs K)) {f_l : Addr} {d_l : FuncData} (D_l : Df K mg "_law_letters" s__law_letters ["_law_row", "_law_top", "_law_upto"] f_l d_l) (G_l : FnOk P w K mg base CX0 1 f_l d_l ["_law_row", "_law_top", "_law_upto"] spLetN) {f_e : Addr} {d_e : FuncData} (D_e : Df K mg "_law_bent" s__law_bent ["_law_top", "_law_letters_here", "_law_bend"] f_e d_e) (G_e : FnOk P w K mg base CX0 1 f_e d_e ["_law_top", "_law_letters_here", "_law_bend"] spBent) {f_o : Addr} {d_o : FuncData} (D_o : Df K mg "_law_bottom" s__law_bottom ["_law_top", "_law_letters_here"] f_o d_o) (G_o : FnOk P w K mg base CX0 1 f_o d_o ["_law_top", "_law_letters_here"] spBotL) {f_r : Addr} {d_r : FuncData} (D_r : Df K mg "_law_by_rules" s__law_by_rules ["_law_top", "_law_letters_here"] f_r d_r) (G_r : FnOk P w K mg base CX0 5 f_r d_r ["_law_top", "_law_letters_here"] spByR) {f_t : Addr} {d_t : FuncData} (D_t : Df K mg "_law_by_tables" s__law_by_tables ["_law_top", "_law_letters_here"] f_t d_t) (G_t : FnOk P w K mg base CX0 3 f_t d_t ["_law_top", "_law_letters_here"] spByT) {f_g : Addr} {d_g : FuncData} (D_g : Df K mg "_law_given" s__law_given ["_law_letters_here", "_law_form"] f_g d_g) (G_g : FnOk P w K mg base CX0 1 f_g d_g ["_law_letters_here", "_law_form"] spGiven) {f_u : Addr} {d_u : FuncData} (D_u : Df K mg "_law_due" s__law_due ["_law_told", "_law_ruled", "_law_costed"] f_u d_u) (G_u : FnOk P w K mg base CX0 5 f_u d_u ["_law_told", "_law_ruled", "_law_costed"] (spDue CL)) {f_i2 : Addr} {d_i2 : FuncData} (D_i2 : Df K mg "_law_is_lot" s__law_is_lot ["_law_told", "_law_pins", "_law_bunch"] f_i2 d_i2) (G_i2 : FnOk P w K mg base CX0 2 f_i2 d_i2 ["_law_told", "_law_pins", "_law_bunch"] (spIsLot CL)) {f_n : Addr} {d_n : FuncData} (D_n : Df K mg "_law_norm" s__law_norm ["_law_triples"] f_n d_n) (G_n : FnOk P w K mg base CX0 1 f_n d_n ["_law_triples"] (spNorm K)) : TopOk P w K mg base CX0 f fd "_law_script" (spLaw K) := by
  refine topFun (k := 11) F sc_law rm (fun cdv s H v Q E hr h => ?_)
  obtain ⟨z, ns, hv, hs, hn, q⟩ := h
  obtain rfl : v = .ref z := by cases hv; rfl
  obtain ⟨tZ, hZ, qZ⟩ := ok_lawZ (fd := fd) T TR L M G_i b_i P_pa G_pa b_pa MF G_f sf i_h n_h G_h b_h i_eq n_eq G_eq b_eq nfC D_c G_c D_d G_d D_l G_l D_e G_e D_o G_o D_r G_r D_t G_t D_g G_g D_u G_u D_i2 G_i2 D_n G_n cdv s H z Q E hr q
  refine ⟨_, (pss_cons (ps_set (i := 1) sc_law.nd rfl (.inr rfl) (pe_call G_d (hr.mono (by decide)) (by rfl) D_d.g D_d.F.kp D_d.b .nil pass0 (pa_cons (pe_call G_c (hr.mono (by decide)) (by rfl) D_c.g D_c.F.kp D_c.b .nil pass0 (pa_cons (pv 0) (pa_cons pe_int pa_nil))) (pa_cons (pe_lst (pa_cons pe_int (pa_cons pe_int (pa_cons pe_int (pa_cons pe_int (pa_cons pe_int (pa_cons pe_int (pa_cons pe_int pa_nil)))))))) pa_nil))))
        (pss_cons (ps_set (i := 2) sc_law.nd rfl (.inl rfl) (pe_ix (r := rIxB K) ix_seqB (pe_lst (pa_cons pe_int (pa_cons pe_int (pa_cons pe_int (pa_cons pe_int (pa_cons pe_int (pa_cons pe_int (pa_cons pe_int (pa_cons pe_int pa_nil))))))))) (pe_ix (r := rIxB K) ix_seqB (pv 1) pe_int (fun _ _ => rfl)) (fun _ _ => rfl)))
        (pss_cons (ps_set (i := 3) sc_law.nd rfl (.inl rfl) (pe_ix (r := rIxB K) ix_seqB (pv 1) pe_int (fun _ _ => rfl)))
        (pss_cons (ps_set (i := 4) sc_law.nd rfl (.inl rfl) pe_int)
        (C8.pss_cut (ps_if (pt_cmpR op_in_seq (pe_ix (r := rIxB K) ix_seqB (pv 1) pe_int (fun _ _ => rfl)) (pe_lst (pa_cons pe_int (pa_cons pe_int pa_nil))) (by rfl)) (pss_cons (ps_set (i := 2) sc_law.nd rfl (.inl rfl) (pe_op op_add (pv 2) pe_int))
        (pss_cons (ps_set (i := 3) sc_law.nd rfl (.inl rfl) (pe_op op_mul pe_int (pv 3)))
        (pss_one (ps_set (i := 4) sc_law.nd rfl (.inl rfl) pe_int)))) pss_nil)
        (pss_cons (ps_set (i := 5) sc_law.nd rfl (.inl rfl) (pe_call G_l (hr.mono (by decide)) (by rfl) D_l.g D_l.F.kp D_l.b .nil pass0 (pa_cons (pe_call G_d (hr.mono (by decide)) (by rfl) D_d.g D_d.F.kp D_d.b .nil pass0 (pa_cons (pe_call G_c (hr.mono (by decide)) (by rfl) D_c.g D_c.F.kp D_c.b .nil pass0 (pa_cons (pv 0) (pa_cons pe_int pa_nil))) (pa_cons (pe_op op_rep (pe_lst (pa_cons pe_int (pa_cons pe_int pa_nil))) (pv 3)) pa_nil))) (pa_cons (pv 2) (pa_cons (pv 4) pa_nil)))))
        (C8.pss_cut (ps_if (pt_cmpR op_eq (pe_ix (r := rIxB K) ix_seqB (pv 1) pe_int (fun _ _ => rfl)) pe_int (nomark _)) (pss_cons (ps_set (i := 2) sc_law.nd rfl (.inl rfl) (pe_op op_add (pv 2) pe_int))
        (pss_one (ps_setLc (i := 5) (own := [("_law_letter", 18)]) (g := gName 18) (tt := tYes) rfl sc_law.nd rfl rfl (sw_true rfl rfl rfl (by decide +kernel)) (pi_list (pv 5)) (blkOk_by (own := [("_law_letter", 18)]) (N := ["_law_script", "_law_size", "_law_top", "_law_many", "_law_upto", "_law_letters_here", "_law_ruled", "_law_costed", "_law_given_here", "_law_kept", "_law_row", "_law_told", "_law_place", "_law_front", "_law_pins", "_law_whole_here", "_law_over", "_law_model", "_law_letter", "_law_c"]) (sc := defScope s_law) (by decide +kernel)) (fun _ _ _ _ _ => (pg_name (i := 18) sc_law.nd rfl (.inl rfl))) (fun _ _ _ _ _ => pts_nil) (fun _ _ _ _ _ => (pe_tup (pa_cons (pe_ix (r := rIxB K) ix_seqB (pv 18) pe_int (fun _ _ => rfl)) (pa_cons (pe_op op_add (pe_ix (r := rIxB K) ix_seqB (pv 18) pe_int (fun _ _ => rfl)) (pe_ix (r := rIxB K) ix_seqB (pv 1) pe_int (fun _ _ => rfl))) pa_nil))))))) (pss_one (ps_if (pt_cmpR op_gt (pe_ix (r := rIxB K) ix_seqB (pv 1) pe_int (fun _ _ => rfl)) pe_int (nomark _)) (pss_cons (ps_set (i := 17) sc_law.nd rfl (.inl rfl) (pe_call G_e (hr.mono (by decide)) (by rfl) D_e.g D_e.F.kp D_e.b .nil pass0 (pa_cons (pv 2) (pa_cons (pv 5) (pa_cons (pe_ix (r := rIxB K) ix_seqB (pe_lst (pa_cons (pv 2) (pa_cons (pv 2) (pa_cons (pv 2) (pa_cons (pv 2) (pa_cons (pe_callB (call_min2 rfl) (by rfl) T.b_min (by decide +kernel) (pa_cons (pv 2) (pa_cons (pe_ix (r := rIxB K) ix_seqB (pv 1) pe_int (fun _ _ => rfl)) pa_nil))) (pa_cons (pe_callB (call_min2 rfl) (by rfl) T.b_min (by decide +kernel) (pa_cons (pv 2) (pa_cons pe_int pa_nil))) pa_nil))))))) (pe_op op_sub (pe_ix (r := rIxB K) ix_seqB (pv 1) pe_int (fun _ _ => rfl)) pe_int) (fun _ _ => rfl)) pa_nil)))))
        (pss_cons (ps_set (i := 2) sc_law.nd rfl (.inl rfl) (pe_ix (r := rIxB K) ix_seqB (pv 17) pe_int (fun _ _ => rfl)))
        (pss_one (ps_set (i := 5) sc_law.nd rfl (.inl rfl) (pe_ix (r := rIxB K) ix_seqB (pv 17) pe_int (fun _ _ => rfl)))))) pss_nil)))
        (C8.pss_cut (ps_if (PW.pt (pw_and (pt_cmpR op_eq (pv 2) pe_int (nomark _)) (pw_and1 (pt_cmpR op_lt (pe_ix (r := rIxB K) ix_seqB (pv 1) pe_int (fun _ _ => rfl)) pe_int (nomark _))))) (pss_one (ps_set (i := 5) sc_law.nd rfl (.inl rfl) (pe_op op_cat (pv 5) (pe_op op_rep (pe_lst (pa_cons (pe_tup (pa_cons pe_str (pa_cons pe_int pa_nil))) pa_nil)) (pe_op op_fdiv (pe_call G_o (hr.mono (by decide)) (by rfl) D_o.g D_o.F.kp D_o.b .nil pass0 (pa_cons pe_int (pa_cons (pv 5) pa_nil))) pe_int))))) pss_nil)
        hZ)))))))), ?_⟩
  have hsK : ∀ {H' : Hp}, Same H H' → SqL K H' z (ns.map V.int) := fun s => s.seq hs
  have eq : ∀ {x y : Int}, decide (V.int x = V.int y) = true ↔ x = y := fun {x y} => ⟨fun z => V.int.inj (of_decide_eq_true z), fun z => decide_eq_true (congrArg V.int z)⟩
  refine ⟨_, rfl, z, ns, 0, rfl, hs, by omega, hn, fun c0 => ⟨by show 7 ≤ sizeLine; decide, fun p0 n0 => ⟨c0, p0, [16, 8, 19, 4, 61, 8, 11], rfl, .inl (.inl upd_same), by decide, by decide, fun H1 sz da x1 nsz esz gsz => ?_⟩⟩⟩
  obtain ⟨s0, s1, s2, s3, s4, s5, s6, rfl, b0, b1, b2, b4, b5, b6⟩ := dig7 gsz
  have esz : H1 sz = some (.lst [.int s0, .int s1, .int s2, .int s3, .int s4, .int s5, .int s6]) := esz
  have y1 := (same_upd (o := .lst [.int 16, .int 8, .int 19, .int 4, .int 61, .int 8, .int 11]) n0).trans x1
  obtain ⟨tp, etp, tp0, tp5⟩ := tops b1.1 b1.2
  refine ⟨by show 8 ≤ sizeLine; decide, fun p1 n1 => ⟨_, rfl, sz, _, _, _, rfl, rfl, .inl (.inl (.inl ((same_upd n1) _ _ esz))), at_of (j := 1) rfl rfl, p1, _, _, _, rfl, rfl, .inl (.inl (.inl upd_same)), etp, ?_⟩⟩
  have x2 := same_upd (o := .lst [.int 0, .int 1, .int 2, .int 3, .int 4, .int 5, .int 4, .int 5]) n1
  have esz2 := x2 _ _ esz
  have y2 := y1.trans x2
  generalize upd H1 p1 (.lst [.int 0, .int 1, .int 2, .int 3, .int 4, .int 5, .int 4, .int 5]) = H2 at *
  refine ⟨_, rfl, sz, _, _, _, rfl, rfl, .inl (.inl (.inl esz2)), at_of (j := 2) rfl rfl, ?_⟩
  refine ⟨fun σ H' => ∃ t kk m : Int, σ = [some (.ref z), some (.ref sz), some (.int t), some (.int kk), some (.int m), none, none, none, none, none, none, none, none, none, none, none, none, none, none, none] ∧ Same H2 H' ∧ 0 ≤ t ∧ t ≤ 9 ∧ t ≤ m ∧ 8 ≤ m ∧ m ≤ 12 ∧ 0 ≤ kk ∧ kk ≤ 36 ∧ (s0 = 15 → t ≤ 5 ∧ m = 8), ?_, fun σ H3 pv => ?_⟩
  · refine ⟨_, rfl, sz, _, _, _, rfl, rfl, .inl (.inl (.inl esz2)), at_of (j := 0) rfl rfl, by show 2 ≤ sizeLine; decide, fun g1 m1 => ⟨g1, _, rfl, .inl (.inl (.inl upd_same)), rfl, rfl, _, rfl, ite2 (fun c => ?_) (fun c => ?_)⟩⟩
    · have c1 := of_decide_eq_true ((inV_l s0 [13, 14]).symm.trans c)
      refine ⟨_, rfl, _, _, rfl, rfl, _, rfl, _, _, rfl, rfl, cm2 _, tp + 4, 2 * s2, 12, rfl, same_upd m1, by omega, by omega, by omega, by omega, by omega, by omega, by omega, fun z => ?_⟩
      rw [z] at c1
      exact absurd c1 (by decide)
    · exact ⟨tp, s2, 8, rfl, same_upd m1, tp0, by omega, by omega, by omega, by omega, b2.1, by omega, fun _ => ⟨tp5, rfl⟩⟩
  obtain ⟨t, kk, m, rfl, x3, t0, t9, tm, m8, m12, k0, k36, s15⟩ := pv
  have esz3 := x3 _ _ esz2
  have y3 := y2.trans x3
  refine ⟨_, rfl, z, ns, 1, rfl, hsK y3, by omega, hn, fun c1 => ⟨by show 2 ≤ sizeLine; decide, fun pa na => ?_⟩⟩
  refine ⟨_, rfl, pa, kk, _, rfl, rfl, upd_same, by omega, by omega, ?_, fun ra ma => ?_⟩
  · show 2 * kk.toNat ≤ sizeLine
    exact Nat.le_of_lt (small1000 (by omega))
  have x4 := (same_upd (o := .lst [.int 12, .int 60]) na).trans (same_upd (o := .lst (List.replicate kk.toNat [V.int 12, .int 60]).flatten) ma)
  refine ⟨c1, ra, (List.replicate kk.toNat [(12 : Int), 60]).flatten, rfl, .inl (.inl (by rw [upd_same, rep2_map])), by rw [rep2_len]; omega, fun x hx => rep2_mem hx, fun H4 la dl x5 nla ela gla => ?_⟩
  have y5 := (y3.trans x4).trans x5
  have esz5 := x5 _ _ (x4 _ _ esz3)
  have ldl : dl.length = 2 * kk.toNat := by rw [gla.1, rep2_len]
  refine ⟨_, rfl, _, rfl, la, t, m, kk.toNat, dl, rfl, .inl ela, ldl, by omega, fun i hi => ?_, t0, tm, by omega, fun H5 lc ds x6 nlc Lc wfc ldc => ?_⟩
  · have e1 := List.getElem?_eq_getElem (l := dl) (i := 2 * i) (by omega)
    have e2 := List.getElem?_eq_getElem (l := dl) (i := 2 * i + 1) (by omega)
    have r := rep2 kk.toNat i hi
    have g1 := gla.2 _ _ _ e1 r.1
    have g2 := gla.2 _ _ _ e2 r.2
    exact ⟨_, _, e1, e2, g1.1, g1.2, g2.1⟩
  have y6 := y5.trans x6
  have esz6 := x6 _ _ esz5
  refine ⟨fun σ H' => ∃ (t2 m2 : Int) (a2 : Addr) (es : List Lt) (u17 u18 : Option V), σ = [some (.ref z), some (.ref sz), some (.int t2), some (.int kk), some (.int m), some (.ref a2), none, none, none, none, none, none, none, none, none, none, none, u17, u18, none] ∧ Same H5 H' ∧ 0 ≤ t2 ∧ t2 ≤ 20 ∧ t2 + m2 ≤ 44 ∧ m2 ≤ 22 ∧ es.length ≤ 100 ∧ Wf m2 t2 es ∧ LtL H' a2 es, ?_, fun σ H6 pv => ?_⟩
  · refine ⟨_, rfl, sz, _, _, _, rfl, rfl, .inl (.inl (.inl esz6)), at_of (j := 0) rfl rfl, rfl, _, rfl, ite2 (fun c => ?_) (fun c => ?_)⟩
    · have c := eq.mp c
      obtain ⟨t5, m8'⟩ := s15 c
      obtain ⟨ws, ews, tws⟩ := Lc
      have lws := tws.1
      refine ⟨_, rfl, _, _, rfl, rfl, _, rfl, lc, rfl, ⟨_, .inl (.inl ews)⟩, fun D nD => ?_⟩
      refine lc_list (K := K) (a := lc) (xs := ws) (fun i H' => ∃ us, LcI H5 D us H' ∧ LtT H' us (shD s6 (ds.take i))) ⟨[], LcI.start nD, LtT.nil⟩ (fun i H' _ pv => by obtain ⟨us, L, _⟩ := pv; exact .inl (.inl (L.same _ _ ews))) (fun i x H6 hx pv => ?_) (fun H6 pv => ?_)
      · obtain ⟨us, L2, tu⟩ := pv
        obtain ⟨p, d, rfl, hd, hp⟩ := ((tws.same L2.same).h).at_ hx
        have u0 : atI (lv d) 0 = some (.str d.1) := at_of (j := 0) rfl rfl
        have u1 : atI (lv d) 1 = some (.int d.2) := at_of (j := 1) rfl rfl
        have es2 := L2.same _ _ esz6
        refine ⟨rfl, _, rfl, p, _, _, _, rfl, rfl, hp.b, u0, _, rfl, p, _, _, _, rfl, rfl, hp.b, u1, _, rfl, sz, _, _, _, rfl, rfl, .inl (.inl (.inl es2)), at_of (j := 6) rfl rfl, _, _, rfl, rfl, by show 2 ≤ sizeLine; decide, fun p2 np2 => ?_⟩
        have s2' := same_upd (o := .tup (lv (d.1, d.2 + s6))) np2
        have nE2 : p2 ≠ D := L2.nn np2
        have eE := s2' _ _ L2.at_
        have il := (List.getElem?_eq_some_iff.mp hx).1
        refine ⟨us, eE, ?_, us ++ [.ref p2], L2.put nD s2', ?_⟩
        · rw [tu.1]
          unfold shD
          rw [List.length_map, List.length_take]
          exact small1000 (by omega)
        · rw [List.take_add_one, hd]
          unfold shD
          rw [List.map_append]
          exact ((tu.same s2').upd eE).snoc (by rw [upd_ne nE2, upd_same])
      · obtain ⟨us, L2, tu⟩ := pv
        rw [lws, List.take_length] at tu
        exact ⟨t + 12, m + 12, D, shD s6 ds, _, _, rfl, L2.same, by omega, by omega, by omega, by omega, by unfold shD; rw [List.length_map]; omega, wfc.sh b6.1 (by omega), ⟨us, L2.at_, tu⟩⟩
    · refine ⟨_, rfl, sz, _, _, _, rfl, rfl, .inl (.inl (.inl esz6)), at_of (j := 5) rfl rfl, _, _, rfl, rfl, _, rfl, ite2 (fun c2 => ?_) (fun c2 => ?_)⟩
      · have c2 : 1 < s5 := of_decide_eq_true c2
        obtain ⟨b, eb, b0', b1'⟩ := bends t0 b6.1 (show 2 ≤ s5 by omega) b5.2
        refine ⟨_, rfl, _, rfl, _, rfl, _, rfl, _, rfl, _, rfl, _, rfl, _, rfl, sz, _, _, _, rfl, rfl, .inl (.inl (.inl esz6)), at_of (j := 6) rfl rfl, _, _, rfl, _, rfl, _, _, rfl, by show 6 ≤ sizeLine; decide, fun pm nm => ?_⟩
        have xm := same_upd (o := .lst [.int t, .int t, .int t, .int t, .int (if s6 < t then s6 else t), .int (if 1 < t then 1 else t)]) nm
        refine ⟨_, rfl, sz, _, _, _, rfl, rfl, .inl (.inl (.inl (xm _ _ esz6))), at_of (j := 5) rfl rfl, _, _, rfl, rfl, pm, _, _, _, rfl, rfl, .inl (.inl (.inl upd_same)), eb, ?_⟩
        obtain ⟨ws, ews, tws⟩ := Lc
        refine ⟨t, b, lc, ds, rfl, ⟨ws, xm _ _ ews, tws.same xm⟩, b0', by omega, by omega, fun H6 r l x er Ll => ?_⟩
        refine ⟨_, rfl, r, _, _, _, rfl, rfl, .inl (.inl (.inl er)), at_of (j := 0) rfl rfl, ?_⟩
        refine ⟨_, rfl, r, _, _, _, rfl, rfl, .inl (.inl (.inl er)), at_of (j := 1) rfl rfl, ?_⟩
        refine ⟨t - b, m + b, l, bentD b ds, _, _, rfl, xm.trans x, by omega, by omega, by omega, by omega, ?_, bent_wf wfc b0' b1', Ll⟩
        unfold bentD cupsD shD
        rw [List.length_append, List.length_map, List.length_range, List.length_map]
        omega
      · exact ⟨t, m, lc, ds, _, _, rfl, Same.refl _, t0, by omega, by omega, by omega, by omega, wfc, Lc⟩
  obtain ⟨t2, m2, a2, es, u17, u18, rfl, x7, t20, t21, tm2, m22, les, wf2, L2⟩ := pv
  have esz7 := x7 _ _ esz6
  have y7 := y6.trans x7
  refine ⟨fun σ H' => ∃ (a3 : Addr) (fs : List Lt), σ = [some (.ref z), some (.ref sz), some (.int t2), some (.int kk), some (.int m), some (.ref a3), none, none, none, none, none, none, none, none, none, none, none, u17, u18, none] ∧ Same H6 H' ∧ fs.length ≤ 200 ∧ Wf m2 t2 fs ∧ LtL H' a3 fs, ?_, fun σ H7 pv => ?_⟩
  · have keep : ∃ (a3 : Addr) (fs : List Lt), [some (V.ref z), some (.ref sz), some (.int t2), some (.int kk), some (.int m), some (.ref a2), none, none, none, none, none, none, none, none, none, none, none, u17, u18, none] = [some (.ref z), some (.ref sz), some (.int t2), some (.int kk), some (.int m), some (.ref a3), none, none, none, none, none, none, none, none, none, none, none, u17, u18, none] ∧ Same H6 H6 ∧ fs.length ≤ 200 ∧ Wf m2 t2 fs ∧ LtL H6 a3 fs := ⟨a2, es, rfl, Same.refl _, by omega, wf2, L2⟩
    refine ⟨_, rfl, rfl, _, rfl, ite2 (fun c => ?_) (fun c => ite2 (fun z => absurd z (by decide)) (fun _ => keep))⟩
    have c := eq.mp c
    subst c
    refine ⟨_, rfl, sz, _, _, _, rfl, rfl, .inl (.inl (.inl esz7)), at_of (j := 6) rfl rfl, _, _, rfl, rfl, _, rfl, ite2 (fun c2 => ?_) (fun c2 => keep)⟩
    obtain ⟨ws, ews, tws⟩ := L2
    have lws := tws.1
    have e0 := endR_nn t20 wf2.good wf2.all es.length (Nat.le_refl _)
    rw [List.take_length] at e0
    have em := wf2.bd es.length (Nat.le_refl _)
    rw [List.take_length] at em
    refine ⟨_, rfl, by show 2 ≤ sizeLine; decide, fun q1 k1 => ⟨by show 1 ≤ sizeLine; decide, fun q2 k2 => ?_⟩⟩
    have v1 := same_upd (o := .tup (lv ("cap", 0))) k1
    have v2 := same_upd (o := .lst [.ref q1]) k2
    have v12 := v1.trans v2
    refine ⟨_, rfl, 0, a2, ws, es, rfl, .inl (v12 _ _ ews), (tws.same v12).h, wf2.good, _, _, rfl, rfl, ⟨by show (0 : Int) < 2; decide, by show (2 : Int) < 1073741824; decide⟩, ?_⟩
    refine ⟨q2, endR 0 es / 2, _, rfl, rfl, upd_same, by omega, by omega, ?_, fun q3 k3 => ?_⟩
    · show 1 * (endR 0 es / 2).toNat ≤ sizeLine
      exact Nat.le_of_lt (small1000 (by omega))
    have v3 := same_upd (o := .lst (List.replicate (endR 0 es / 2).toNat [V.ref q1]).flatten) k3
    have v123 := v12.trans v3
    have tr := rep_ltt (H := upd (upd (upd H6 q1 (.tup (lv ("cap", 0)))) q2 (.lst [.ref q1])) q3 (.lst (List.replicate (endR 0 es / 2).toNat [V.ref q1]).flatten)) (q := q1) (d := ("cap", 0)) (v3 _ _ (v2 _ _ upd_same)) (endR 0 es / 2).toNat
    have ltr := tr.1
    rw [List.length_replicate] at ltr
    refine ⟨a2, q3, ws, _, rfl, rfl, v123 _ _ ews, upd_same, Nat.le_of_lt (small1000 (by omega)), fun q4 k4 => ?_⟩
    have v4 := same_upd (o := .lst (ws ++ (List.replicate (endR 0 es / 2).toNat [V.ref q1]).flatten)) k4
    refine ⟨q4, es ++ List.replicate (endR 0 es / 2).toNat (("cap", 0) : Lt), rfl, v123.trans v4, by rw [List.length_append, List.length_replicate]; omega, wf2.app (caps_wf _ (by omega) em), ⟨_, upd_same, ((tws.same v123).app tr).same v4⟩⟩
  obtain ⟨a3, fs, rfl, x8, lf, wf3, L3⟩ := pv
  exact qZ sz a3 t2 m2 s3 s4 fs H7 _ _ _ _ _ _ _ _ _ _ _ _ _ _ _ _ ⟨y7.trans x8, t20, t21, tm2, m22, by omega, wf3, L3, b4.1, ⟨s0, s1, s2, s5, s6, x8 _ _ esz7⟩⟩
end
end Own

namespace Own
open PySem PySem.Spec PyProof.Rows L2
/-! ### what the top has left -/
theorem df_mk {K : PySem.W.Frag} {mg : Str → Option Value} {x : Str} {st : Stmt} {ps : List Str} {h : Heap} {f : Addr} {oc : Value} {od an : Option Addr} {osl : Array (Option Value)} {kV doc pm cdv ct : Value} (X : K.In h) (G : h.Ns mainGlobals mg)
    (a : PySem.W.nsIn K mainGlobals x = some (some (.ref f))) (l : K.lookup f = some ⟨oc, od, .func (PySem.W.fnOf x x (defArgs st) (defBody st) (defScope st) .none kV doc pm an cdv ct), osl⟩) (c : PySem.W.codeIn K cdv x = true) (k : PySem.W.keepIn K (.ref f) = true)
    (b : ∀ (kV doc pm : Value) (an : Option Addr) (cdv ct : Value) (us : List Value), us.length = ps.length → bindArgs (PySem.W.fnOf x x (defArgs st) (defBody st) (defScope st) .none kV doc pm an cdv ct) ⟨us, []⟩ = pure (ps.zip us)) :
    Df K mg x st ps f (PySem.W.fnOf x x (defArgs st) (defBody st) (defScope st) .none kV doc pm an cdv ct) :=
  ⟨fun_mk l c k, PySem.W.mg_of X G a, (fun_mk l c k).binds b⟩
set_option maxHeartbeats 0 in
theorem all_mk {lw : PySem.W.OpenLaw} {w : World} {K : PySem.W.Frag} {h : Heap} {mg : Str → Option Value} {fa f1 f2 f3 f4 f5 f6 f7 f8 f9 f10 f11 f12 f13 f14 f15 f16 f17 f18 f19 f20 f21 f22 f23 f24 f25 f26 f27 f28 f29 f30 f31 f32 f33 f34 f35 f36 f37 f38 f39 f40 f41 f42 f43 f44 f45 f46 f47 f48 f49 f50 f51 f52 f53 CL CR f54 f55 f56 f57 zdCL TdCL f58 f59 f60 p_Row_bottom f61 p_Row_pairing f62 zdCR TdCR f63 dN dU : Addr} (X : K.In h) (G : h.Ns mainGlobals mg) (hfa : mg "law" = some (.ref fa))
    {od1 an1 : Option Addr} {sl1 : Array (Option Value)} {oc1 kV1 dc1 pm1 cd1 ct1 : Value} {od2 an2 : Option Addr} {sl2 : Array (Option Value)} {oc2 kV2 dc2 pm2 cd2 ct2 : Value} {od3 an3 : Option Addr} {sl3 : Array (Option Value)} {oc3 kV3 dc3 pm3 cd3 ct3 : Value} {od4 an4 : Option Addr} {sl4 : Array (Option Value)} {oc4 kV4 dc4 pm4 cd4 ct4 : Value} {od5 an5 : Option Addr} {sl5 : Array (Option Value)} {oc5 kV5 dc5 pm5 cd5 ct5 : Value} {od6 an6 : Option Addr} {sl6 : Array (Option Value)} {oc6 kV6 dc6 pm6 cd6 ct6 : Value} {od7 an7 : Option Addr} {sl7 : Array (Option Value)} {oc7 kV7 dc7 pm7 cd7 ct7 : Value} {od8 an8 : Option Addr} {sl8 : Array (Option Value)} {oc8 kV8 dc8 pm8 cd8 ct8 : Value} {od9 an9 : Option Addr} {sl9 : Array (Option Value)} {oc9 kV9 dc9 pm9 cd9 ct9 : Value} {od10 an10 : Option Addr} {sl10 : Array (Option Value)} {oc10 kV10 dc10 pm10 cd10 ct10 : Value} {od11 an11 : Option Addr} {sl11 : Array (Option Value)} {oc11 kV11 dc11 pm11 cd11 ct11 : Value} {od12 an12 : Option Addr} {sl12 : Array (Option Value)} {oc12 kV12 dc12 pm12 cd12 ct12 : Value} {od13 an13 : Option Addr} {sl13 : Array (Option Value)} {oc13 kV13 dc13 pm13 cd13 ct13 : Value} {od14 an14 : Option Addr} {sl14 : Array (Option Value)} {oc14 kV14 dc14 pm14 cd14 ct14 : Value} {od15 an15 : Option Addr} {sl15 : Array (Option Value)} {oc15 kV15 dc15 pm15 cd15 ct15 : Value} {od16 an16 : Option Addr} {sl16 : Array (Option Value)} {oc16 kV16 dc16 pm16 cd16 ct16 : Value} {od17 an17 : Option Addr} {sl17 : Array (Option Value)} {oc17 kV17 dc17 pm17 cd17 ct17 : Value} {od18 an18 : Option Addr} {sl18 : Array (Option Value)} {oc18 kV18 dc18 pm18 cd18 ct18 : Value} {od19 an19 : Option Addr} {sl19 : Array (Option Value)} {oc19 kV19 dc19 pm19 cd19 ct19 : Value} {od20 an20 : Option Addr} {sl20 : Array (Option Value)} {oc20 kV20 dc20 pm20 cd20 ct20 : Value} {od21 an21 : Option Addr} {sl21 : Array (Option Value)} {oc21 kV21 dc21 pm21 cd21 ct21 : Value} {od22 an22 : Option Addr} {sl22 : Array (Option Value)} {oc22 kV22 dc22 pm22 cd22 ct22 : Value} {od23 an23 : Option Addr} {sl23 : Array (Option Value)} {oc23 kV23 dc23 pm23 cd23 ct23 : Value} {od24 an24 : Option Addr} {sl24 : Array (Option Value)} {oc24 kV24 dc24 pm24 cd24 ct24 : Value} {od25 an25 : Option Addr} {sl25 : Array (Option Value)} {oc25 kV25 dc25 pm25 cd25 ct25 : Value} {od26 an26 : Option Addr} {sl26 : Array (Option Value)} {oc26 kV26 dc26 pm26 cd26 ct26 : Value} {od27 an27 : Option Addr} {sl27 : Array (Option Value)} {oc27 kV27 dc27 pm27 cd27 ct27 : Value} {od28 an28 : Option Addr} {sl28 : Array (Option Value)} {oc28 kV28 dc28 pm28 cd28 ct28 : Value} {od29 an29 : Option Addr} {sl29 : Array (Option Value)} {oc29 kV29 dc29 pm29 cd29 ct29 : Value} {od30 an30 : Option Addr} {sl30 : Array (Option Value)} {oc30 kV30 dc30 pm30 cd30 ct30 : Value} {od31 an31 : Option Addr} {sl31 : Array (Option Value)} {oc31 kV31 dc31 pm31 cd31 ct31 : Value} {od32 an32 : Option Addr} {sl32 : Array (Option Value)} {oc32 kV32 dc32 pm32 cd32 ct32 : Value} {od33 an33 : Option Addr} {sl33 : Array (Option Value)} {oc33 kV33 dc33 pm33 cd33 ct33 : Value} {od34 an34 : Option Addr} {sl34 : Array (Option Value)} {oc34 kV34 dc34 pm34 cd34 ct34 : Value} {od35 an35 : Option Addr} {sl35 : Array (Option Value)} {oc35 kV35 dc35 pm35 cd35 ct35 : Value} {od36 an36 : Option Addr} {sl36 : Array (Option Value)} {oc36 kV36 dc36 pm36 cd36 ct36 : Value} {od37 an37 : Option Addr} {sl37 : Array (Option Value)} {oc37 kV37 dc37 pm37 cd37 ct37 : Value} {od38 an38 : Option Addr} {sl38 : Array (Option Value)} {oc38 kV38 dc38 pm38 cd38 ct38 : Value} {od39 an39 : Option Addr} {sl39 : Array (Option Value)} {oc39 kV39 dc39 pm39 cd39 ct39 : Value} {od40 an40 : Option Addr} {sl40 : Array (Option Value)} {oc40 kV40 dc40 pm40 cd40 ct40 : Value} {od41 an41 : Option Addr} {sl41 : Array (Option Value)} {oc41 kV41 dc41 pm41 cd41 ct41 : Value} {od42 an42 : Option Addr} {sl42 : Array (Option Value)} {oc42 kV42 dc42 pm42 cd42 ct42 : Value} {od43 an43 : Option Addr} {sl43 : Array (Option Value)} {oc43 kV43 dc43 pm43 cd43 ct43 : Value} {od44 an44 : Option Addr} {sl44 : Array (Option Value)} {oc44 kV44 dc44 pm44 cd44 ct44 : Value} {od45 an45 : Option Addr} {sl45 : Array (Option Value)} {oc45 kV45 dc45 pm45 cd45 ct45 : Value} {od46 an46 : Option Addr} {sl46 : Array (Option Value)} {oc46 kV46 dc46 pm46 cd46 ct46 : Value} {od47 an47 : Option Addr} {sl47 : Array (Option Value)} {oc47 kV47 dc47 pm47 cd47 ct47 : Value} {od48 an48 : Option Addr} {sl48 : Array (Option Value)} {oc48 kV48 dc48 pm48 cd48 ct48 : Value} {od49 an49 : Option Addr} {sl49 : Array (Option Value)} {oc49 kV49 dc49 pm49 cd49 ct49 : Value} {od50 an50 : Option Addr} {sl50 : Array (Option Value)} {oc50 kV50 dc50 pm50 cd50 ct50 : Value} {od51 an51 : Option Addr} {sl51 : Array (Option Value)} {oc51 kV51 dc51 pm51 cd51 ct51 : Value} {od52 an52 : Option Addr} {sl52 : Array (Option Value)} {oc52 kV52 dc52 pm52 cd52 ct52 : Value} {od53 an53 : Option Addr} {sl53 : Array (Option Value)} {oc53 kV53 dc53 pm53 cd53 ct53 : Value} {od54 an54 : Option Addr} {sl54 : Array (Option Value)} {oc54 kV54 dc54 pm54 cd54 ct54 : Value} {od55 an55 : Option Addr} {sl55 : Array (Option Value)} {oc55 kV55 dc55 pm55 cd55 ct55 : Value} {od56 an56 : Option Addr} {sl56 : Array (Option Value)} {oc56 kV56 dc56 pm56 cd56 ct56 : Value} {od57 an57 : Option Addr} {sl57 : Array (Option Value)} {oc57 kV57 dc57 pm57 cd57 ct57 : Value} {odTCL : Option Addr} {slTCL : Array (Option Value)} {ocTCL : Value} {nTCL : Nat} {od58 an58 : Option Addr} {sl58 : Array (Option Value)} {oc58 kV58 dc58 pm58 cd58 ct58 : Value} {od59 an59 : Option Addr} {sl59 : Array (Option Value)} {oc59 kV59 dc59 pm59 cd59 ct59 : Value} {od60 an60 : Option Addr} {sl60 : Array (Option Value)} {oc60 kV60 dc60 pm60 cd60 ct60 : Value} {rest_Row_bottom : List Value} {od61 an61 : Option Addr} {sl61 : Array (Option Value)} {oc61 kV61 dc61 pm61 cd61 ct61 : Value} {rest_Row_pairing : List Value} {od62 an62 : Option Addr} {sl62 : Array (Option Value)} {oc62 kV62 dc62 pm62 cd62 ct62 : Value} {odTCR : Option Addr} {slTCR : Array (Option Value)} {ocTCR : Value} {nTCR : Nat} {od63 an63 : Option Addr} {sl63 : Array (Option Value)} {oc63 kV63 dc63 pm63 cd63 ct63 : Value} {esdN : Array DictEntry} {nndN : Nat} {odzz : Option Addr} {slzz : Array (Option Value)} {nzz : Nat}
    (iN : PySem.W.specialIn K (.builtin "object.__class__") "__get__" = some (some (.builtin "getset_descriptor.__get__")))
    (iT : PySem.W.takesIn K (.builtin "object.__class__") = some true)
    (a1 : PySem.W.nsIn K mainGlobals "is_whole" = some (some (.ref f1)))
    (l1 : K.lookup f1 = some ⟨oc1, od1, .func (PySem.W.fnOf "is_whole" "is_whole" (defArgs s_is_whole) (defBody s_is_whole) (defScope s_is_whole) .none kV1 dc1 pm1 an1 cd1 ct1), sl1⟩)
    (c1 : PySem.W.codeIn K cd1 "is_whole" = true)
    (k1 : PySem.W.keepIn K (.ref f1) = true)
    (a2 : PySem.W.nsIn K mainGlobals "is_sequence" = some (some (.ref f2)))
    (l2 : K.lookup f2 = some ⟨oc2, od2, .func (PySem.W.fnOf "is_sequence" "is_sequence" (defArgs s_is_sequence) (defBody s_is_sequence) (defScope s_is_sequence) .none kV2 dc2 pm2 an2 cd2 ct2), sl2⟩)
    (c2 : PySem.W.codeIn K cd2 "is_sequence" = true)
    (k2 : PySem.W.keepIn K (.ref f2) = true)
    (a3 : PySem.W.nsIn K mainGlobals "is_below" = some (some (.ref f3)))
    (l3 : K.lookup f3 = some ⟨oc3, od3, .func (PySem.W.fnOf "is_below" "is_below" (defArgs s_is_below) (defBody s_is_below) (defScope s_is_below) .none kV3 dc3 pm3 an3 cd3 ct3), sl3⟩)
    (c3 : PySem.W.codeIn K cd3 "is_below" = true)
    (k3 : PySem.W.keepIn K (.ref f3) = true)
    (a4 : PySem.W.nsIn K mainGlobals "check_pins" = some (some (.ref f4)))
    (l4 : K.lookup f4 = some ⟨oc4, od4, .func (PySem.W.fnOf "check_pins" "check_pins" (defArgs s_check_pins) (defBody s_check_pins) (defScope s_check_pins) .none kV4 dc4 pm4 an4 cd4 ct4), sl4⟩)
    (c4 : PySem.W.codeIn K cd4 "check_pins" = true)
    (k4 : PySem.W.keepIn K (.ref f4) = true)
    (a5 : PySem.W.nsIn K mainGlobals "check_pin" = some (some (.ref f5)))
    (l5 : K.lookup f5 = some ⟨oc5, od5, .func (PySem.W.fnOf "check_pin" "check_pin" (defArgs s_check_pin) (defBody s_check_pin) (defScope s_check_pin) .none kV5 dc5 pm5 an5 cd5 ct5), sl5⟩)
    (c5 : PySem.W.codeIn K cd5 "check_pin" = true)
    (k5 : PySem.W.keepIn K (.ref f5) = true)
    (a6 : PySem.W.nsIn K mainGlobals "is_entry" = some (some (.ref f6)))
    (l6 : K.lookup f6 = some ⟨oc6, od6, .func (PySem.W.fnOf "is_entry" "is_entry" (defArgs s_is_entry) (defBody s_is_entry) (defScope s_is_entry) .none kV6 dc6 pm6 an6 cd6 ct6), sl6⟩)
    (c6 : PySem.W.codeIn K cd6 "is_entry" = true)
    (k6 : PySem.W.keepIn K (.ref f6) = true)
    (a7 : PySem.W.nsIn K mainGlobals "gathered" = some (some (.ref f7)))
    (l7 : K.lookup f7 = some ⟨oc7, od7, .func (PySem.W.fnOf "gathered" "gathered" (defArgs s_gathered) (defBody s_gathered) (defScope s_gathered) .none kV7 dc7 pm7 an7 cd7 ct7), sl7⟩)
    (c7 : PySem.W.codeIn K cd7 "gathered" = true)
    (k7 : PySem.W.keepIn K (.ref f7) = true)
    (a8 : PySem.W.nsIn K mainGlobals "ends_at_pins" = some (some (.ref f8)))
    (l8 : K.lookup f8 = some ⟨oc8, od8, .func (PySem.W.fnOf "ends_at_pins" "ends_at_pins" (defArgs s_ends_at_pins) (defBody s_ends_at_pins) (defScope s_ends_at_pins) .none kV8 dc8 pm8 an8 cd8 ct8), sl8⟩)
    (c8 : PySem.W.codeIn K cd8 "ends_at_pins" = true)
    (k8 : PySem.W.keepIn K (.ref f8) = true)
    (a9 : PySem.W.nsIn K mainGlobals "gaps" = some (some (.ref f9)))
    (l9 : K.lookup f9 = some ⟨oc9, od9, .func (PySem.W.fnOf "gaps" "gaps" (defArgs s_gaps) (defBody s_gaps) (defScope s_gaps) .none kV9 dc9 pm9 an9 cd9 ct9), sl9⟩)
    (c9 : PySem.W.codeIn K cd9 "gaps" = true)
    (k9 : PySem.W.keepIn K (.ref f9) = true)
    (a10 : PySem.W.nsIn K mainGlobals "sums_before" = some (some (.ref f10)))
    (l10 : K.lookup f10 = some ⟨oc10, od10, .func (PySem.W.fnOf "sums_before" "sums_before" (defArgs s_sums_before) (defBody s_sums_before) (defScope s_sums_before) .none kV10 dc10 pm10 an10 cd10 ct10), sl10⟩)
    (c10 : PySem.W.codeIn K cd10 "sums_before" = true)
    (k10 : PySem.W.keepIn K (.ref f10) = true)
    (a11 : PySem.W.nsIn K mainGlobals "cord_grid" = some (some (.ref f11)))
    (l11 : K.lookup f11 = some ⟨oc11, od11, .func (PySem.W.fnOf "cord_grid" "cord_grid" (defArgs s_cord_grid) (defBody s_cord_grid) (defScope s_cord_grid) .none kV11 dc11 pm11 an11 cd11 ct11), sl11⟩)
    (c11 : PySem.W.codeIn K cd11 "cord_grid" = true)
    (k11 : PySem.W.keepIn K (.ref f11) = true)
    (a12 : PySem.W.nsIn K mainGlobals "table_rows" = some (some (.ref f12)))
    (l12 : K.lookup f12 = some ⟨oc12, od12, .func (PySem.W.fnOf "table_rows" "table_rows" (defArgs s_table_rows) (defBody s_table_rows) (defScope s_table_rows) .none kV12 dc12 pm12 an12 cd12 ct12), sl12⟩)
    (c12 : PySem.W.codeIn K cd12 "table_rows" = true)
    (k12 : PySem.W.keepIn K (.ref f12) = true)
    (a13 : PySem.W.nsIn K mainGlobals "twice_between" = some (some (.ref f13)))
    (l13 : K.lookup f13 = some ⟨oc13, od13, .func (PySem.W.fnOf "twice_between" "twice_between" (defArgs s_twice_between) (defBody s_twice_between) (defScope s_twice_between) .none kV13 dc13 pm13 an13 cd13 ct13), sl13⟩)
    (c13 : PySem.W.codeIn K cd13 "twice_between" = true)
    (k13 : PySem.W.keepIn K (.ref f13) = true)
    (a14 : PySem.W.nsIn K mainGlobals "cords_of_table" = some (some (.ref f14)))
    (l14 : K.lookup f14 = some ⟨oc14, od14, .func (PySem.W.fnOf "cords_of_table" "cords_of_table" (defArgs s_cords_of_table) (defBody s_cords_of_table) (defScope s_cords_of_table) .none kV14 dc14 pm14 an14 cd14 ct14), sl14⟩)
    (c14 : PySem.W.codeIn K cd14 "cords_of_table" = true)
    (k14 : PySem.W.keepIn K (.ref f14) = true)
    (a15 : PySem.W.nsIn K mainGlobals "crosses" = some (some (.ref f15)))
    (l15 : K.lookup f15 = some ⟨oc15, od15, .func (PySem.W.fnOf "crosses" "crosses" (defArgs s_crosses) (defBody s_crosses) (defScope s_crosses) .none kV15 dc15 pm15 an15 cd15 ct15), sl15⟩)
    (c15 : PySem.W.codeIn K cd15 "crosses" = true)
    (k15 : PySem.W.keepIn K (.ref f15) = true)
    (a16 : PySem.W.nsIn K mainGlobals "check_gap" = some (some (.ref f16)))
    (l16 : K.lookup f16 = some ⟨oc16, od16, .func (PySem.W.fnOf "check_gap" "check_gap" (defArgs s_check_gap) (defBody s_check_gap) (defScope s_check_gap) .none kV16 dc16 pm16 an16 cd16 ct16), sl16⟩)
    (c16 : PySem.W.codeIn K cd16 "check_gap" = true)
    (k16 : PySem.W.keepIn K (.ref f16) = true)
    (a17 : PySem.W.nsIn K mainGlobals "next_pin" = some (some (.ref f17)))
    (l17 : K.lookup f17 = some ⟨oc17, od17, .func (PySem.W.fnOf "next_pin" "next_pin" (defArgs s_next_pin) (defBody s_next_pin) (defScope s_next_pin) .none kV17 dc17 pm17 an17 cd17 ct17), sl17⟩)
    (c17 : PySem.W.codeIn K cd17 "next_pin" = true)
    (k17 : PySem.W.keepIn K (.ref f17) = true)
    (a18 : PySem.W.nsIn K mainGlobals "renamed" = some (some (.ref f18)))
    (l18 : K.lookup f18 = some ⟨oc18, od18, .func (PySem.W.fnOf "renamed" "renamed" (defArgs s_renamed) (defBody s_renamed) (defScope s_renamed) .none kV18 dc18 pm18 an18 cd18 ct18), sl18⟩)
    (c18 : PySem.W.codeIn K cd18 "renamed" = true)
    (k18 : PySem.W.keepIn K (.ref f18) = true)
    (a19 : PySem.W.nsIn K mainGlobals "row_without" = some (some (.ref f19)))
    (l19 : K.lookup f19 = some ⟨oc19, od19, .func (PySem.W.fnOf "row_without" "row_without" (defArgs s_row_without) (defBody s_row_without) (defScope s_row_without) .none kV19 dc19 pm19 an19 cd19 ct19), sl19⟩)
    (c19 : PySem.W.codeIn K cd19 "row_without" = true)
    (k19 : PySem.W.keepIn K (.ref f19) = true)
    (a20 : PySem.W.nsIn K mainGlobals "table_without" = some (some (.ref f20)))
    (l20 : K.lookup f20 = some ⟨oc20, od20, .func (PySem.W.fnOf "table_without" "table_without" (defArgs s_table_without) (defBody s_table_without) (defScope s_table_without) .none kV20 dc20 pm20 an20 cd20 ct20), sl20⟩)
    (c20 : PySem.W.codeIn K cd20 "table_without" = true)
    (k20 : PySem.W.keepIn K (.ref f20) = true)
    (a21 : PySem.W.nsIn K mainGlobals "lot_of_mates" = some (some (.ref f21)))
    (l21 : K.lookup f21 = some ⟨oc21, od21, .func (PySem.W.fnOf "lot_of_mates" "lot_of_mates" (defArgs s_lot_of_mates) (defBody s_lot_of_mates) (defScope s_lot_of_mates) .none kV21 dc21 pm21 an21 cd21 ct21), sl21⟩)
    (c21 : PySem.W.codeIn K cd21 "lot_of_mates" = true)
    (k21 : PySem.W.keepIn K (.ref f21) = true)
    (a22 : PySem.W.nsIn K mainGlobals "mates_of_lot" = some (some (.ref f22)))
    (l22 : K.lookup f22 = some ⟨oc22, od22, .func (PySem.W.fnOf "mates_of_lot" "mates_of_lot" (defArgs s_mates_of_lot) (defBody s_mates_of_lot) (defScope s_mates_of_lot) .none kV22 dc22 pm22 an22 cd22 ct22), sl22⟩)
    (c22 : PySem.W.codeIn K cd22 "mates_of_lot" = true)
    (k22 : PySem.W.keepIn K (.ref f22) = true)
    (a23 : PySem.W.nsIn K mainGlobals "mates_crossed" = some (some (.ref f23)))
    (l23 : K.lookup f23 = some ⟨oc23, od23, .func (PySem.W.fnOf "mates_crossed" "mates_crossed" (defArgs s_mates_crossed) (defBody s_mates_crossed) (defScope s_mates_crossed) .none kV23 dc23 pm23 an23 cd23 ct23), sl23⟩)
    (c23 : PySem.W.codeIn K cd23 "mates_crossed" = true)
    (k23 : PySem.W.keepIn K (.ref f23) = true)
    (a24 : PySem.W.nsIn K mainGlobals "mates_begun" = some (some (.ref f24)))
    (l24 : K.lookup f24 = some ⟨oc24, od24, .func (PySem.W.fnOf "mates_begun" "mates_begun" (defArgs s_mates_begun) (defBody s_mates_begun) (defScope s_mates_begun) .none kV24 dc24 pm24 an24 cd24 ct24), sl24⟩)
    (c24 : PySem.W.codeIn K cd24 "mates_begun" = true)
    (k24 : PySem.W.keepIn K (.ref f24) = true)
    (a25 : PySem.W.nsIn K mainGlobals "mates_joined" = some (some (.ref f25)))
    (l25 : K.lookup f25 = some ⟨oc25, od25, .func (PySem.W.fnOf "mates_joined" "mates_joined" (defArgs s_mates_joined) (defBody s_mates_joined) (defScope s_mates_joined) .none kV25 dc25 pm25 an25 cd25 ct25), sl25⟩)
    (c25 : PySem.W.codeIn K cd25 "mates_joined" = true)
    (k25 : PySem.W.keepIn K (.ref f25) = true)
    (a26 : PySem.W.nsIn K mainGlobals "is_letter" = some (some (.ref f26)))
    (l26 : K.lookup f26 = some ⟨oc26, od26, .func (PySem.W.fnOf "is_letter" "is_letter" (defArgs s_is_letter) (defBody s_is_letter) (defScope s_is_letter) .none kV26 dc26 pm26 an26 cd26 ct26), sl26⟩)
    (c26 : PySem.W.codeIn K cd26 "is_letter" = true)
    (k26 : PySem.W.keepIn K (.ref f26) = true)
    (a27 : PySem.W.nsIn K mainGlobals "lanes_along" = some (some (.ref f27)))
    (l27 : K.lookup f27 = some ⟨oc27, od27, .func (PySem.W.fnOf "lanes_along" "lanes_along" (defArgs s_lanes_along) (defBody s_lanes_along) (defScope s_lanes_along) .none kV27 dc27 pm27 an27 cd27 ct27), sl27⟩)
    (c27 : PySem.W.codeIn K cd27 "lanes_along" = true)
    (k27 : PySem.W.keepIn K (.ref f27) = true)
    (a28 : PySem.W.nsIn K mainGlobals "check_lanes" = some (some (.ref f28)))
    (l28 : K.lookup f28 = some ⟨oc28, od28, .func (PySem.W.fnOf "check_lanes" "check_lanes" (defArgs s_check_lanes) (defBody s_check_lanes) (defScope s_check_lanes) .none kV28 dc28 pm28 an28 cd28 ct28), sl28⟩)
    (c28 : PySem.W.codeIn K cd28 "check_lanes" = true)
    (k28 : PySem.W.keepIn K (.ref f28) = true)
    (a29 : PySem.W.nsIn K mainGlobals "pairing_of" = some (some (.ref f29)))
    (l29 : K.lookup f29 = some ⟨oc29, od29, .func (PySem.W.fnOf "pairing_of" "pairing_of" (defArgs s_pairing_of) (defBody s_pairing_of) (defScope s_pairing_of) .none kV29 dc29 pm29 an29 cd29 ct29), sl29⟩)
    (c29 : PySem.W.codeIn K cd29 "pairing_of" = true)
    (k29 : PySem.W.keepIn K (.ref f29) = true)
    (a30 : PySem.W.nsIn K mainGlobals "_law_whole" = some (some (.ref f30)))
    (l30 : K.lookup f30 = some ⟨oc30, od30, .func (PySem.W.fnOf "_law_whole" "_law_whole" (defArgs s__law_whole) (defBody s__law_whole) (defScope s__law_whole) .none kV30 dc30 pm30 an30 cd30 ct30), sl30⟩)
    (c30 : PySem.W.codeIn K cd30 "_law_whole" = true)
    (k30 : PySem.W.keepIn K (.ref f30) = true)
    (a31 : PySem.W.nsIn K mainGlobals "_law_cell" = some (some (.ref f31)))
    (l31 : K.lookup f31 = some ⟨oc31, od31, .func (PySem.W.fnOf "_law_cell" "_law_cell" (defArgs s__law_cell) (defBody s__law_cell) (defScope s__law_cell) .none kV31 dc31 pm31 an31 cd31 ct31), sl31⟩)
    (c31 : PySem.W.codeIn K cd31 "_law_cell" = true)
    (k31 : PySem.W.keepIn K (.ref f31) = true)
    (a32 : PySem.W.nsIn K mainGlobals "_law_digits" = some (some (.ref f32)))
    (l32 : K.lookup f32 = some ⟨oc32, od32, .func (PySem.W.fnOf "_law_digits" "_law_digits" (defArgs s__law_digits) (defBody s__law_digits) (defScope s__law_digits) .none kV32 dc32 pm32 an32 cd32 ct32), sl32⟩)
    (c32 : PySem.W.codeIn K cd32 "_law_digits" = true)
    (k32 : PySem.W.keepIn K (.ref f32) = true)
    (a33 : PySem.W.nsIn K mainGlobals "_law_gaps" = some (some (.ref f33)))
    (l33 : K.lookup f33 = some ⟨oc33, od33, .func (PySem.W.fnOf "_law_gaps" "_law_gaps" (defArgs s__law_gaps) (defBody s__law_gaps) (defScope s__law_gaps) .none kV33 dc33 pm33 an33 cd33 ct33), sl33⟩)
    (c33 : PySem.W.codeIn K cd33 "_law_gaps" = true)
    (k33 : PySem.W.keepIn K (.ref f33) = true)
    (a34 : PySem.W.nsIn K mainGlobals "_law_cross" = some (some (.ref f34)))
    (l34 : K.lookup f34 = some ⟨oc34, od34, .func (PySem.W.fnOf "_law_cross" "_law_cross" (defArgs s__law_cross) (defBody s__law_cross) (defScope s__law_cross) .none kV34 dc34 pm34 an34 cd34 ct34), sl34⟩)
    (c34 : PySem.W.codeIn K cd34 "_law_cross" = true)
    (k34 : PySem.W.keepIn K (.ref f34) = true)
    (a35 : PySem.W.nsIn K mainGlobals "_law_norm" = some (some (.ref f35)))
    (l35 : K.lookup f35 = some ⟨oc35, od35, .func (PySem.W.fnOf "_law_norm" "_law_norm" (defArgs s__law_norm) (defBody s__law_norm) (defScope s__law_norm) .none kV35 dc35 pm35 an35 cd35 ct35), sl35⟩)
    (c35 : PySem.W.codeIn K cd35 "_law_norm" = true)
    (k35 : PySem.W.keepIn K (.ref f35) = true)
    (a36 : PySem.W.nsIn K mainGlobals "_law_sides_table" = some (some (.ref f36)))
    (l36 : K.lookup f36 = some ⟨oc36, od36, .func (PySem.W.fnOf "_law_sides_table" "_law_sides_table" (defArgs s__law_sides_table) (defBody s__law_sides_table) (defScope s__law_sides_table) .none kV36 dc36 pm36 an36 cd36 ct36), sl36⟩)
    (c36 : PySem.W.codeIn K cd36 "_law_sides_table" = true)
    (k36 : PySem.W.keepIn K (.ref f36) = true)
    (a37 : PySem.W.nsIn K mainGlobals "_law_doubles" = some (some (.ref f37)))
    (l37 : K.lookup f37 = some ⟨oc37, od37, .func (PySem.W.fnOf "_law_doubles" "_law_doubles" (defArgs s__law_doubles) (defBody s__law_doubles) (defScope s__law_doubles) .none kV37 dc37 pm37 an37 cd37 ct37), sl37⟩)
    (c37 : PySem.W.codeIn K cd37 "_law_doubles" = true)
    (k37 : PySem.W.keepIn K (.ref f37) = true)
    (a38 : PySem.W.nsIn K mainGlobals "_law_cords" = some (some (.ref f38)))
    (l38 : K.lookup f38 = some ⟨oc38, od38, .func (PySem.W.fnOf "_law_cords" "_law_cords" (defArgs s__law_cords) (defBody s__law_cords) (defScope s__law_cords) .none kV38 dc38 pm38 an38 cd38 ct38), sl38⟩)
    (c38 : PySem.W.codeIn K cd38 "_law_cords" = true)
    (k38 : PySem.W.keepIn K (.ref f38) = true)
    (a39 : PySem.W.nsIn K mainGlobals "_law_dropped_table" = some (some (.ref f39)))
    (l39 : K.lookup f39 = some ⟨oc39, od39, .func (PySem.W.fnOf "_law_dropped_table" "_law_dropped_table" (defArgs s__law_dropped_table) (defBody s__law_dropped_table) (defScope s__law_dropped_table) .none kV39 dc39 pm39 an39 cd39 ct39), sl39⟩)
    (c39 : PySem.W.codeIn K cd39 "_law_dropped_table" = true)
    (k39 : PySem.W.keepIn K (.ref f39) = true)
    (a40 : PySem.W.nsIn K mainGlobals "_law_letters" = some (some (.ref f40)))
    (l40 : K.lookup f40 = some ⟨oc40, od40, .func (PySem.W.fnOf "_law_letters" "_law_letters" (defArgs s__law_letters) (defBody s__law_letters) (defScope s__law_letters) .none kV40 dc40 pm40 an40 cd40 ct40), sl40⟩)
    (c40 : PySem.W.codeIn K cd40 "_law_letters" = true)
    (k40 : PySem.W.keepIn K (.ref f40) = true)
    (a41 : PySem.W.nsIn K mainGlobals "_law_given" = some (some (.ref f41)))
    (l41 : K.lookup f41 = some ⟨oc41, od41, .func (PySem.W.fnOf "_law_given" "_law_given" (defArgs s__law_given) (defBody s__law_given) (defScope s__law_given) .none kV41 dc41 pm41 an41 cd41 ct41), sl41⟩)
    (c41 : PySem.W.codeIn K cd41 "_law_given" = true)
    (k41 : PySem.W.keepIn K (.ref f41) = true)
    (a42 : PySem.W.nsIn K mainGlobals "_law_is_lot" = some (some (.ref f42)))
    (l42 : K.lookup f42 = some ⟨oc42, od42, .func (PySem.W.fnOf "_law_is_lot" "_law_is_lot" (defArgs s__law_is_lot) (defBody s__law_is_lot) (defScope s__law_is_lot) .none kV42 dc42 pm42 an42 cd42 ct42), sl42⟩)
    (c42 : PySem.W.codeIn K cd42 "_law_is_lot" = true)
    (k42 : PySem.W.keepIn K (.ref f42) = true)
    (a43 : PySem.W.nsIn K mainGlobals "_law_straight_table" = some (some (.ref f43)))
    (l43 : K.lookup f43 = some ⟨oc43, od43, .func (PySem.W.fnOf "_law_straight_table" "_law_straight_table" (defArgs s__law_straight_table) (defBody s__law_straight_table) (defScope s__law_straight_table) .none kV43 dc43 pm43 an43 cd43 ct43), sl43⟩)
    (c43 : PySem.W.codeIn K cd43 "_law_straight_table" = true)
    (k43 : PySem.W.keepIn K (.ref f43) = true)
    (a44 : PySem.W.nsIn K mainGlobals "_law_table_letter" = some (some (.ref f44)))
    (l44 : K.lookup f44 = some ⟨oc44, od44, .func (PySem.W.fnOf "_law_table_letter" "_law_table_letter" (defArgs s__law_table_letter) (defBody s__law_table_letter) (defScope s__law_table_letter) .none kV44 dc44 pm44 an44 cd44 ct44), sl44⟩)
    (c44 : PySem.W.codeIn K cd44 "_law_table_letter" = true)
    (k44 : PySem.W.keepIn K (.ref f44) = true)
    (a45 : PySem.W.nsIn K mainGlobals "_law_joined_partners" = some (some (.ref f45)))
    (l45 : K.lookup f45 = some ⟨oc45, od45, .func (PySem.W.fnOf "_law_joined_partners" "_law_joined_partners" (defArgs s__law_joined_partners) (defBody s__law_joined_partners) (defScope s__law_joined_partners) .none kV45 dc45 pm45 an45 cd45 ct45), sl45⟩)
    (c45 : PySem.W.codeIn K cd45 "_law_joined_partners" = true)
    (k45 : PySem.W.keepIn K (.ref f45) = true)
    (a46 : PySem.W.nsIn K mainGlobals "_law_partners_letter" = some (some (.ref f46)))
    (l46 : K.lookup f46 = some ⟨oc46, od46, .func (PySem.W.fnOf "_law_partners_letter" "_law_partners_letter" (defArgs s__law_partners_letter) (defBody s__law_partners_letter) (defScope s__law_partners_letter) .none kV46 dc46 pm46 an46 cd46 ct46), sl46⟩)
    (c46 : PySem.W.codeIn K cd46 "_law_partners_letter" = true)
    (k46 : PySem.W.keepIn K (.ref f46) = true)
    (a47 : PySem.W.nsIn K mainGlobals "_law_of_partners" = some (some (.ref f47)))
    (l47 : K.lookup f47 = some ⟨oc47, od47, .func (PySem.W.fnOf "_law_of_partners" "_law_of_partners" (defArgs s__law_of_partners) (defBody s__law_of_partners) (defScope s__law_of_partners) .none kV47 dc47 pm47 an47 cd47 ct47), sl47⟩)
    (c47 : PySem.W.codeIn K cd47 "_law_of_partners" = true)
    (k47 : PySem.W.keepIn K (.ref f47) = true)
    (a48 : PySem.W.nsIn K mainGlobals "_law_bent" = some (some (.ref f48)))
    (l48 : K.lookup f48 = some ⟨oc48, od48, .func (PySem.W.fnOf "_law_bent" "_law_bent" (defArgs s__law_bent) (defBody s__law_bent) (defScope s__law_bent) .none kV48 dc48 pm48 an48 cd48 ct48), sl48⟩)
    (c48 : PySem.W.codeIn K cd48 "_law_bent" = true)
    (k48 : PySem.W.keepIn K (.ref f48) = true)
    (a49 : PySem.W.nsIn K mainGlobals "_law_bottom" = some (some (.ref f49)))
    (l49 : K.lookup f49 = some ⟨oc49, od49, .func (PySem.W.fnOf "_law_bottom" "_law_bottom" (defArgs s__law_bottom) (defBody s__law_bottom) (defScope s__law_bottom) .none kV49 dc49 pm49 an49 cd49 ct49), sl49⟩)
    (c49 : PySem.W.codeIn K cd49 "_law_bottom" = true)
    (k49 : PySem.W.keepIn K (.ref f49) = true)
    (a50 : PySem.W.nsIn K mainGlobals "_law_by_rules" = some (some (.ref f50)))
    (l50 : K.lookup f50 = some ⟨oc50, od50, .func (PySem.W.fnOf "_law_by_rules" "_law_by_rules" (defArgs s__law_by_rules) (defBody s__law_by_rules) (defScope s__law_by_rules) .none kV50 dc50 pm50 an50 cd50 ct50), sl50⟩)
    (c50 : PySem.W.codeIn K cd50 "_law_by_rules" = true)
    (k50 : PySem.W.keepIn K (.ref f50) = true)
    (a51 : PySem.W.nsIn K mainGlobals "_law_by_tables" = some (some (.ref f51)))
    (l51 : K.lookup f51 = some ⟨oc51, od51, .func (PySem.W.fnOf "_law_by_tables" "_law_by_tables" (defArgs s__law_by_tables) (defBody s__law_by_tables) (defScope s__law_by_tables) .none kV51 dc51 pm51 an51 cd51 ct51), sl51⟩)
    (c51 : PySem.W.codeIn K cd51 "_law_by_tables" = true)
    (k51 : PySem.W.keepIn K (.ref f51) = true)
    (a52 : PySem.W.nsIn K mainGlobals "_law_due" = some (some (.ref f52)))
    (l52 : K.lookup f52 = some ⟨oc52, od52, .func (PySem.W.fnOf "_law_due" "_law_due" (defArgs s__law_due) (defBody s__law_due) (defScope s__law_due) .none kV52 dc52 pm52 an52 cd52 ct52), sl52⟩)
    (c52 : PySem.W.codeIn K cd52 "_law_due" = true)
    (k52 : PySem.W.keepIn K (.ref f52) = true)
    (a53 : PySem.W.nsIn K mainGlobals "law" = some (some (.ref f53)))
    (l53 : K.lookup f53 = some ⟨oc53, od53, .func (PySem.W.fnOf "law" "law" (defArgs s_law) (defBody s_law) (defScope s_law) .none kV53 dc53 pm53 an53 cd53 ct53), sl53⟩)
    (c53 : PySem.W.codeIn K cd53 "law" = true)
    (k53 : PySem.W.keepIn K (.ref f53) = true)
    (z0 : PySem.W.nsIn K mainGlobals "max" = some none)
    (z1 : PySem.W.nsIn K mainGlobals "min" = some none)
    (z2 : PySem.W.nsIn K mainGlobals "tuple" = some none)
    (z3 : PySem.W.nsIn K mainGlobals "range" = some none)
    (z4 : PySem.W.nsIn K mainGlobals "isinstance" = some none)
    (z5 : PySem.W.nsIn K mainGlobals "int" = some none)
    (z6 : PySem.W.nsIn K mainGlobals "bool" = some none)
    (z7 : PySem.W.nsIn K mainGlobals "len" = some none)
    (z8 : PySem.W.nsIn K mainGlobals "list" = some none)
    (z9 : PySem.W.nsIn K mainGlobals "str" = some none)
    (z10 : PySem.W.nsIn K mainGlobals "sorted" = some none)
    (z11 : PySem.W.nsIn K mainGlobals "sum" = some none)
    (aCL : PySem.W.nsIn K mainGlobals "Lot" = some (some (.ref CL)))
    (aCR : PySem.W.nsIn K mainGlobals "Row" = some (some (.ref CR)))
    (pgCL : PySem.W.plainGet K CL Str.empty = true)
    (hdCL : PySem.W.hasDictIn K CL = true)
    (poCL : PySem.W.plainOver K CL = true)
    (saCL : PySem.W.findIn K (.ref CL) "__setattr__" = some (some (.builtin "object.__setattr__")))
    (mkCL : PySem.W.makesIn K CL = true)
    (kcCL : PySem.W.keepIn K (.ref CL) = true)
    (nfCL_pins : PySem.W.findIn K (.ref CL) "pins" = some none)
    (nfCL_cords : PySem.W.findIn K (.ref CL) "cords" = some none)
    (iACL : PySem.W.findIn K (.ref CL) "__class__" = some (some (.builtin "object.__class__")))
    (iMCL : PySem.W.mroIn K CL (.type "object") = some true)
    (i54 : PySem.W.findIn K (.ref CL) "ends" = some (some (.ref f54)))
    (n54 : PySem.W.isFn K (.ref f54) = true)
    (l54 : K.lookup f54 = some ⟨oc54, od54, .func (PySem.W.fnOf "ends" "Lot.ends" (defArgs s_Lot_ends) (defBody s_Lot_ends) (defScope s_Lot_ends) .none kV54 dc54 pm54 an54 cd54 ct54), sl54⟩)
    (c54 : PySem.W.codeIn K cd54 "Lot.ends" = true)
    (k54 : PySem.W.keepIn K (.ref f54) = true)
    (i55 : PySem.W.findIn K (.ref CL) "__eq__" = some (some (.ref f55)))
    (n55 : PySem.W.isFn K (.ref f55) = true)
    (l55 : K.lookup f55 = some ⟨oc55, od55, .func (PySem.W.fnOf "__eq__" "Lot.__eq__" (defArgs s_Lot_eq) (defBody s_Lot_eq) (defScope s_Lot_eq) .none kV55 dc55 pm55 an55 cd55 ct55), sl55⟩)
    (c55 : PySem.W.codeIn K cd55 "Lot.__eq__" = true)
    (k55 : PySem.W.keepIn K (.ref f55) = true)
    (i56 : PySem.W.findIn K (.ref CL) "merged" = some (some (.ref f56)))
    (n56 : PySem.W.isFn K (.ref f56) = true)
    (l56 : K.lookup f56 = some ⟨oc56, od56, .func (PySem.W.fnOf "merged" "Lot.merged" (defArgs s_Lot_merged) (defBody s_Lot_merged) (defScope s_Lot_merged) .none kV56 dc56 pm56 an56 cd56 ct56), sl56⟩)
    (c56 : PySem.W.codeIn K cd56 "Lot.merged" = true)
    (k56 : PySem.W.keepIn K (.ref f56) = true)
    (i57 : PySem.W.findIn K (.ref CL) "dropped" = some (some (.ref f57)))
    (n57 : PySem.W.isFn K (.ref f57) = true)
    (l57 : K.lookup f57 = some ⟨oc57, od57, .func (PySem.W.fnOf "dropped" "Lot.dropped" (defArgs s_Lot_dropped) (defBody s_Lot_dropped) (defScope s_Lot_dropped) .none kV57 dc57 pm57 an57 cd57 ct57), sl57⟩)
    (c57 : PySem.W.codeIn K cd57 "Lot.dropped" = true)
    (k57 : PySem.W.keepIn K (.ref f57) = true)
    (i58 : PySem.W.findIn K (.ref CL) "__init__" = some (some (.ref f58)))
    (n58 : PySem.W.isFn K (.ref f58) = true)
    (l58 : K.lookup f58 = some ⟨oc58, od58, .func (PySem.W.fnOf "__init__" "Lot.__init__" (defArgs s_Lot_init) (defBody s_Lot_init) (defScope s_Lot_init) (.ref TdCL) kV58 dc58 pm58 an58 cd58 ct58), sl58⟩)
    (c58 : PySem.W.codeIn K cd58 "Lot.__init__" = true)
    (k58 : PySem.W.keepIn K (.ref f58) = true)
    (lTCL : K.lookup TdCL = some ⟨ocTCL, odTCL, .seq #[.ref zdCL] nTCL, slTCL⟩)
    (pgCR : PySem.W.plainGet K CR Str.empty = true)
    (hdCR : PySem.W.hasDictIn K CR = true)
    (poCR : PySem.W.plainOver K CR = true)
    (saCR : PySem.W.findIn K (.ref CR) "__setattr__" = some (some (.builtin "object.__setattr__")))
    (mkCR : PySem.W.makesIn K CR = true)
    (kcCR : PySem.W.keepIn K (.ref CR) = true)
    (nfCR_top : PySem.W.findIn K (.ref CR) "top" = some none)
    (nfCR__lanes : PySem.W.findIn K (.ref CR) "_lanes" = some none)
    (nfCR_letters : PySem.W.findIn K (.ref CR) "letters" = some none)
    (sfCR : PySem.W.selfFirst K CR = true)
    (i59 : PySem.W.findIn K (.ref CR) "__rshift__" = some (some (.ref f59)))
    (n59 : PySem.W.isFn K (.ref f59) = true)
    (l59 : K.lookup f59 = some ⟨oc59, od59, .func (PySem.W.fnOf "__rshift__" "Row.__rshift__" (defArgs s_Row_rshift) (defBody s_Row_rshift) (defScope s_Row_rshift) .none kV59 dc59 pm59 an59 cd59 ct59), sl59⟩)
    (c59 : PySem.W.codeIn K cd59 "Row.__rshift__" = true)
    (k59 : PySem.W.keepIn K (.ref f59) = true)
    (i60 : PySem.W.findIn K (.ref CR) "flipped" = some (some (.ref f60)))
    (n60 : PySem.W.isFn K (.ref f60) = true)
    (l60 : K.lookup f60 = some ⟨oc60, od60, .func (PySem.W.fnOf "flipped" "Row.flipped" (defArgs s_Row_flipped) (defBody s_Row_flipped) (defScope s_Row_flipped) .none kV60 dc60 pm60 an60 cd60 ct60), sl60⟩)
    (c60 : PySem.W.codeIn K cd60 "Row.flipped" = true)
    (k60 : PySem.W.keepIn K (.ref f60) = true)
    (iP_Row_bottom : PySem.W.findIn K (.ref CR) "bottom" = some (some (.ref p_Row_bottom)))
    (rP_Row_bottom : PySem.W.recIn K p_Row_bottom "property" = some (.ref f61 :: rest_Row_bottom))
    (gP_Row_bottom : PySem.W.specialIn K (.ref p_Row_bottom) "__get__" = some (some (.builtin "property.__get__")))
    (tP_Row_bottom : PySem.W.takesIn K (.ref p_Row_bottom) = some true)
    (l61 : K.lookup f61 = some ⟨oc61, od61, .func (PySem.W.fnOf "bottom" "Row.bottom" (defArgs s_Row_bottom) (defBody s_Row_bottom) (defScope s_Row_bottom) .none kV61 dc61 pm61 an61 cd61 ct61), sl61⟩)
    (c61 : PySem.W.codeIn K cd61 "Row.bottom" = true)
    (k61 : PySem.W.keepIn K (.ref f61) = true)
    (iP_Row_pairing : PySem.W.findIn K (.ref CR) "pairing" = some (some (.ref p_Row_pairing)))
    (rP_Row_pairing : PySem.W.recIn K p_Row_pairing "property" = some (.ref f62 :: rest_Row_pairing))
    (gP_Row_pairing : PySem.W.specialIn K (.ref p_Row_pairing) "__get__" = some (some (.builtin "property.__get__")))
    (tP_Row_pairing : PySem.W.takesIn K (.ref p_Row_pairing) = some true)
    (l62 : K.lookup f62 = some ⟨oc62, od62, .func (PySem.W.fnOf "pairing" "Row.pairing" (defArgs s_Row_pairing) (defBody s_Row_pairing) (defScope s_Row_pairing) .none kV62 dc62 pm62 an62 cd62 ct62), sl62⟩)
    (c62 : PySem.W.codeIn K cd62 "Row.pairing" = true)
    (k62 : PySem.W.keepIn K (.ref f62) = true)
    (i63 : PySem.W.findIn K (.ref CR) "__init__" = some (some (.ref f63)))
    (n63 : PySem.W.isFn K (.ref f63) = true)
    (l63 : K.lookup f63 = some ⟨oc63, od63, .func (PySem.W.fnOf "__init__" "Row.__init__" (defArgs s_Row_init) (defBody s_Row_init) (defScope s_Row_init) (.ref TdCR) kV63 dc63 pm63 an63 cd63 ct63), sl63⟩)
    (c63 : PySem.W.codeIn K cd63 "Row.__init__" = true)
    (k63 : PySem.W.keepIn K (.ref f63) = true)
    (lTCR : K.lookup TdCR = some ⟨ocTCR, odTCR, .seq #[.ref zdCR] nTCR, slTCR⟩)
    (a_dN : PySem.W.nsIn K mainGlobals "CHANGES" = some (some (.ref dN)))
    (l_dN : K.lookup dN = some ⟨.type "dict", none, .dict esdN nndN, #[]⟩)
    (kl_dN : KLit w.params esdN.toList CHG)
    (lo_dN : (dN == sysModules) = false)
    (zRp : PySem.W.nsIn K mainGlobals "repr" = some none)
    (a_dU : PySem.W.nsIn K mainGlobals "UPSIDE_DOWN" = some (some (.ref dU)))
    (TU_dU : ∀ p ∈ UPS, KDct K w dU p.1 (.str p.2))
    (zZi : PySem.W.nsIn K mainGlobals "zip" = some none)
    (zEn : PySem.W.nsIn K mainGlobals "enumerate" = some none)
    (zAb : PySem.W.nsIn K mainGlobals "abs" = some none)
    (lzz : K.lookup zdCL = some ⟨.type "tuple", odzz, .seq #[] nzz, slzz⟩) :
    ∃ fd : FuncData, (∀ (s : Shared) (v : Value), BindsTo s fd ⟨[v], []⟩ [("_law_script", v)]) ∧ ∀ base : Heap, K.In base → base.Ns mainGlobals mg → TopOk lw.prog w K mg base CX0 fa fd "_law_script" (spLaw K) := by
  have e := hfa.symm.trans (PySem.W.mg_of X G a53)
  cases e
  have D_is_whole := df_mk (ps := ["value"]) (st := s_is_whole) X G a1 l1 c1 k1 fun _ _ _ _ _ _ us hl => match us, hl with | [_], _ => rfl
  have D_is_sequence := df_mk (ps := ["value"]) (st := s_is_sequence) X G a2 l2 c2 k2 fun _ _ _ _ _ _ us hl => match us, hl with | [_], _ => rfl
  have D_is_below := df_mk (ps := ["value", "bound"]) (st := s_is_below) X G a3 l3 c3 k3 fun _ _ _ _ _ _ us hl => match us, hl with | [_, _], _ => rfl
  have D_check_pins := df_mk (ps := ["pins"]) (st := s_check_pins) X G a4 l4 c4 k4 fun _ _ _ _ _ _ us hl => match us, hl with | [_], _ => rfl
  have D_check_pin := df_mk (ps := ["pins", "pin"]) (st := s_check_pin) X G a5 l5 c5 k5 fun _ _ _ _ _ _ us hl => match us, hl with | [_, _], _ => rfl
  have D_is_entry := df_mk (ps := ["pins", "entry"]) (st := s_is_entry) X G a6 l6 c6 k6 fun _ _ _ _ _ _ us hl => match us, hl with | [_, _], _ => rfl
  have D_gathered := df_mk (ps := ["pins", "entries"]) (st := s_gathered) X G a7 l7 c7 k7 fun _ _ _ _ _ _ us hl => match us, hl with | [_, _], _ => rfl
  have D_ends_at_pins := df_mk (ps := ["pins", "cords"]) (st := s_ends_at_pins) X G a8 l8 c8 k8 fun _ _ _ _ _ _ us hl => match us, hl with | [_, _], _ => rfl
  have D_gaps := df_mk (ps := ["pins"]) (st := s_gaps) X G a9 l9 c9 k9 fun _ _ _ _ _ _ us hl => match us, hl with | [_], _ => rfl
  have D_sums_before := df_mk (ps := ["row"]) (st := s_sums_before) X G a10 l10 c10 k10 fun _ _ _ _ _ _ us hl => match us, hl with | [_], _ => rfl
  have D_cord_grid := df_mk (ps := ["pins", "cords"]) (st := s_cord_grid) X G a11 l11 c11 k11 fun _ _ _ _ _ _ us hl => match us, hl with | [_, _], _ => rfl
  have D_table_rows := df_mk (ps := ["pins", "cords"]) (st := s_table_rows) X G a12 l12 c12 k12 fun _ _ _ _ _ _ us hl => match us, hl with | [_, _], _ => rfl
  have D_twice_between := df_mk (ps := ["pins", "table", "a", "b"]) (st := s_twice_between) X G a13 l13 c13 k13 fun _ _ _ _ _ _ us hl => match us, hl with | [_, _, _, _], _ => rfl
  have D_cords_of_table := df_mk (ps := ["pins", "table"]) (st := s_cords_of_table) X G a14 l14 c14 k14 fun _ _ _ _ _ _ us hl => match us, hl with | [_, _], _ => rfl
  have D_crosses := df_mk (ps := ["a", "b", "c", "d"]) (st := s_crosses) X G a15 l15 c15 k15 fun _ _ _ _ _ _ us hl => match us, hl with | [_, _, _, _], _ => rfl
  have D_check_gap := df_mk (ps := ["pins", "gap"]) (st := s_check_gap) X G a16 l16 c16 k16 fun _ _ _ _ _ _ us hl => match us, hl with | [_, _], _ => rfl
  have D_next_pin := df_mk (ps := ["pins", "gap"]) (st := s_next_pin) X G a17 l17 c17 k17 fun _ _ _ _ _ _ us hl => match us, hl with | [_, _], _ => rfl
  have D_renamed := df_mk (ps := ["cords", "names"]) (st := s_renamed) X G a18 l18 c18 k18 fun _ _ _ _ _ _ us hl => match us, hl with | [_, _], _ => rfl
  have D_row_without := df_mk (ps := ["row", "table", "left", "right"]) (st := s_row_without) X G a19 l19 c19 k19 fun _ _ _ _ _ _ us hl => match us, hl with | [_, _, _, _], _ => rfl
  have D_table_without := df_mk (ps := ["pins", "table", "pin"]) (st := s_table_without) X G a20 l20 c20 k20 fun _ _ _ _ _ _ us hl => match us, hl with | [_, _, _], _ => rfl
  have D_lot_of_mates := df_mk (ps := ["mates"]) (st := s_lot_of_mates) X G a21 l21 c21 k21 fun _ _ _ _ _ _ us hl => match us, hl with | [_], _ => rfl
  have D_mates_of_lot := df_mk (ps := ["lot"]) (st := s_mates_of_lot) X G a22 l22 c22 k22 fun _ _ _ _ _ _ us hl => match us, hl with | [_], _ => rfl
  have D_mates_crossed := df_mk (ps := ["mates", "left"]) (st := s_mates_crossed) X G a23 l23 c23 k23 fun _ _ _ _ _ _ us hl => match us, hl with | [_, _], _ => rfl
  have D_mates_begun := df_mk (ps := ["mates", "first"]) (st := s_mates_begun) X G a24 l24 c24 k24 fun _ _ _ _ _ _ us hl => match us, hl with | [_, _], _ => rfl
  have D_mates_joined := df_mk (ps := ["mates", "right"]) (st := s_mates_joined) X G a25 l25 c25 k25 fun _ _ _ _ _ _ us hl => match us, hl with | [_, _], _ => rfl
  have D_is_letter := df_mk (ps := ["letter", "lanes"]) (st := s_is_letter) X G a26 l26 c26 k26 fun _ _ _ _ _ _ us hl => match us, hl with | [_, _], _ => rfl
  have D_lanes_along := df_mk (ps := ["top", "letters"]) (st := s_lanes_along) X G a27 l27 c27 k27 fun _ _ _ _ _ _ us hl => match us, hl with | [_, _], _ => rfl
  have D_check_lanes := df_mk (ps := ["one", "other"]) (st := s_check_lanes) X G a28 l28 c28 k28 fun _ _ _ _ _ _ us hl => match us, hl with | [_, _], _ => rfl
  have D_pairing_of := df_mk (ps := ["top", "lanes", "letters"]) (st := s_pairing_of) X G a29 l29 c29 k29 fun _ _ _ _ _ _ us hl => match us, hl with | [_, _, _], _ => rfl
  have D__law_whole := df_mk (ps := ["_law_value"]) (st := s__law_whole) X G a30 l30 c30 k30 fun _ _ _ _ _ _ us hl => match us, hl with | [_], _ => rfl
  have D__law_cell := df_mk (ps := ["_law_script", "_law_k"]) (st := s__law_cell) X G a31 l31 c31 k31 fun _ _ _ _ _ _ us hl => match us, hl with | [_, _], _ => rfl
  have D__law_digits := df_mk (ps := ["_law_cell_here", "_law_sizes"]) (st := s__law_digits) X G a32 l32 c32 k32 fun _ _ _ _ _ _ us hl => match us, hl with | [_, _], _ => rfl
  have D__law_gaps := df_mk (ps := ["_law_pins"]) (st := s__law_gaps) X G a33 l33 c33 k33 fun _ _ _ _ _ _ us hl => match us, hl with | [_], _ => rfl
  have D__law_cross := df_mk (ps := ["_law_a", "_law_b", "_law_c", "_law_d"]) (st := s__law_cross) X G a34 l34 c34 k34 fun _ _ _ _ _ _ us hl => match us, hl with | [_, _, _, _], _ => rfl
  have D__law_norm := df_mk (ps := ["_law_triples"]) (st := s__law_norm) X G a35 l35 c35 k35 fun _ _ _ _ _ _ us hl => match us, hl with | [_], _ => rfl
  have D__law_sides_table := df_mk (ps := ["_law_pins", "_law_bunch"]) (st := s__law_sides_table) X G a36 l36 c36 k36 fun _ _ _ _ _ _ us hl => match us, hl with | [_, _], _ => rfl
  have D__law_doubles := df_mk (ps := ["_law_pins", "_law_table"]) (st := s__law_doubles) X G a37 l37 c37 k37 fun _ _ _ _ _ _ us hl => match us, hl with | [_, _], _ => rfl
  have D__law_cords := df_mk (ps := ["_law_pins", "_law_table"]) (st := s__law_cords) X G a38 l38 c38 k38 fun _ _ _ _ _ _ us hl => match us, hl with | [_, _], _ => rfl
  have D__law_dropped_table := df_mk (ps := ["_law_pins", "_law_table", "_law_pin"]) (st := s__law_dropped_table) X G a39 l39 c39 k39 fun _ _ _ _ _ _ us hl => match us, hl with | [_, _, _], _ => rfl
  have D__law_letters := df_mk (ps := ["_law_row", "_law_top", "_law_upto"]) (st := s__law_letters) X G a40 l40 c40 k40 fun _ _ _ _ _ _ us hl => match us, hl with | [_, _, _], _ => rfl
  have D__law_given := df_mk (ps := ["_law_letters_here", "_law_form"]) (st := s__law_given) X G a41 l41 c41 k41 fun _ _ _ _ _ _ us hl => match us, hl with | [_, _], _ => rfl
  have D__law_is_lot := df_mk (ps := ["_law_told", "_law_pins", "_law_bunch"]) (st := s__law_is_lot) X G a42 l42 c42 k42 fun _ _ _ _ _ _ us hl => match us, hl with | [_, _, _], _ => rfl
  have D__law_straight_table := df_mk (ps := ["_law_top"]) (st := s__law_straight_table) X G a43 l43 c43 k43 fun _ _ _ _ _ _ us hl => match us, hl with | [_], _ => rfl
  have D__law_table_letter := df_mk (ps := ["_law_pins", "_law_table", "_law_letter"]) (st := s__law_table_letter) X G a44 l44 c44 k44 fun _ _ _ _ _ _ us hl => match us, hl with | [_, _, _], _ => rfl
  have D__law_joined_partners := df_mk (ps := ["_law_partners", "_law_low"]) (st := s__law_joined_partners) X G a45 l45 c45 k45 fun _ _ _ _ _ _ us hl => match us, hl with | [_, _], _ => rfl
  have D__law_partners_letter := df_mk (ps := ["_law_partners", "_law_letter"]) (st := s__law_partners_letter) X G a46 l46 c46 k46 fun _ _ _ _ _ _ us hl => match us, hl with | [_, _], _ => rfl
  have D__law_of_partners := df_mk (ps := ["_law_partners"]) (st := s__law_of_partners) X G a47 l47 c47 k47 fun _ _ _ _ _ _ us hl => match us, hl with | [_], _ => rfl
  have D__law_bent := df_mk (ps := ["_law_top", "_law_letters_here", "_law_bend"]) (st := s__law_bent) X G a48 l48 c48 k48 fun _ _ _ _ _ _ us hl => match us, hl with | [_, _, _], _ => rfl
  have D__law_bottom := df_mk (ps := ["_law_top", "_law_letters_here"]) (st := s__law_bottom) X G a49 l49 c49 k49 fun _ _ _ _ _ _ us hl => match us, hl with | [_, _], _ => rfl
  have D__law_by_rules := df_mk (ps := ["_law_top", "_law_letters_here"]) (st := s__law_by_rules) X G a50 l50 c50 k50 fun _ _ _ _ _ _ us hl => match us, hl with | [_, _], _ => rfl
  have D__law_by_tables := df_mk (ps := ["_law_top", "_law_letters_here"]) (st := s__law_by_tables) X G a51 l51 c51 k51 fun _ _ _ _ _ _ us hl => match us, hl with | [_, _], _ => rfl
  have D__law_due := df_mk (ps := ["_law_told", "_law_ruled", "_law_costed"]) (st := s__law_due) X G a52 l52 c52 k52 fun _ _ _ _ _ _ us hl => match us, hl with | [_, _, _], _ => rfl
  have T : Bi mg := ⟨PySem.W.mg_none_of X G z0, PySem.W.mg_none_of X G z1, PySem.W.mg_none_of X G z2, PySem.W.mg_none_of X G z3, PySem.W.mg_none_of X G z4, PySem.W.mg_none_of X G z5, PySem.W.mg_none_of X G z6, PySem.W.mg_none_of X G z7, PySem.W.mg_none_of X G z8, PySem.W.mg_none_of X G z9, PySem.W.mg_none_of X G z10, PySem.W.mg_none_of X G z11⟩
  have clCL : Cls K CL := ⟨pgCL, hdCL, poCL, saCL⟩
  have ICL : C8.InsC K CL := ⟨clCL, iACL, iN, iT, iMCL, kitTrue⟩
  have F_Lot_ends : Fun K "ends" "Lot.ends" s_Lot_ends f54 _ := fun_mk l54 c54 k54
  have B_Lot_ends := F_Lot_ends.binds (ps := ["self", "pin"]) fun _ _ _ _ _ _ us hl => match us, hl with | [_, _], _ => rfl
  have MT_Lot_ends : Meth K CL "ends" f54 := ⟨i54, n54, k54⟩
  have F_Lot_eq : Fun K "__eq__" "Lot.__eq__" s_Lot_eq f55 _ := fun_mk l55 c55 k55
  have B_Lot_eq := F_Lot_eq.binds (ps := ["self", "other"]) fun _ _ _ _ _ _ us hl => match us, hl with | [_, _], _ => rfl
  have MT_Lot_eq : Meth K CL "__eq__" f55 := ⟨i55, n55, k55⟩
  have F_Lot_merged : Fun K "merged" "Lot.merged" s_Lot_merged f56 _ := fun_mk l56 c56 k56
  have B_Lot_merged := F_Lot_merged.binds (ps := ["self", "gap"]) fun _ _ _ _ _ _ us hl => match us, hl with | [_, _], _ => rfl
  have MT_Lot_merged : Meth K CL "merged" f56 := ⟨i56, n56, k56⟩
  have F_Lot_dropped : Fun K "dropped" "Lot.dropped" s_Lot_dropped f57 _ := fun_mk l57 c57 k57
  have B_Lot_dropped := F_Lot_dropped.binds (ps := ["self", "pin"]) fun _ _ _ _ _ _ us hl => match us, hl with | [_, _], _ => rfl
  have MT_Lot_dropped : Meth K CL "dropped" f57 := ⟨i57, n57, k57⟩
  have FICL : FunD K "__init__" "Lot.__init__" (defArgs s_Lot_init) (defBody s_Lot_init) (defScope s_Lot_init) [.ref zdCL] [] f58 _ := ⟨⟨_, _, _, _, _, _, _, _, _, _, rfl, l58, c58, .inr ⟨by simp, TdCL, _, [.ref zdCL], nTCL, rfl, lTCL, rfl, .cons rfl .nil⟩, .inl rfl⟩, k58⟩
  obtain ⟨dsCL, vdsCL, BICL⟩ := FICL.binds1 (ps := ["self", "pins", "cords"]) 3 1 (by simp) rfl fun T kV doc pm an cdv ct us its h1 h2 => match us, h1, its, h2 with | [_, _, _], _, [_], _ => ⟨_, rfl, rfl⟩
  have edsCL : dsCL = [] := by cases vdsCL; rfl
  subst edsCL
  have MICL : Mk K CL f58 := ⟨mkCL, i58, n58, kcCL⟩
  have clCR : Cls K CR := ⟨pgCR, hdCR, poCR, saCR⟩
  have F_Row_rshift : Fun K "__rshift__" "Row.__rshift__" s_Row_rshift f59 _ := fun_mk l59 c59 k59
  have B_Row_rshift := F_Row_rshift.binds (ps := ["self", "other"]) fun _ _ _ _ _ _ us hl => match us, hl with | [_, _], _ => rfl
  have MT_Row_rshift : Meth K CR "__rshift__" f59 := ⟨i59, n59, k59⟩
  have F_Row_flipped : Fun K "flipped" "Row.flipped" s_Row_flipped f60 _ := fun_mk l60 c60 k60
  have B_Row_flipped := F_Row_flipped.binds (ps := ["self"]) fun _ _ _ _ _ _ us hl => match us, hl with | [_], _ => rfl
  have MT_Row_flipped : Meth K CR "flipped" f60 := ⟨i60, n60, k60⟩
  have F_Row_bottom : Fun K "bottom" "Row.bottom" s_Row_bottom f61 _ := fun_mk l61 c61 k61
  have B_Row_bottom := F_Row_bottom.binds (ps := ["self"]) fun _ _ _ _ _ _ us hl => match us, hl with | [_], _ => rfl
  have PT_Row_bottom : PropOf K CR "bottom" p_Row_bottom f61 := ⟨iP_Row_bottom, gP_Row_bottom, tP_Row_bottom, ⟨_, rP_Row_bottom⟩⟩
  have F_Row_pairing : Fun K "pairing" "Row.pairing" s_Row_pairing f62 _ := fun_mk l62 c62 k62
  have B_Row_pairing := F_Row_pairing.binds (ps := ["self"]) fun _ _ _ _ _ _ us hl => match us, hl with | [_], _ => rfl
  have PT_Row_pairing : PropOf K CR "pairing" p_Row_pairing f62 := ⟨iP_Row_pairing, gP_Row_pairing, tP_Row_pairing, ⟨_, rP_Row_pairing⟩⟩
  have FICR : FunD K "__init__" "Row.__init__" (defArgs s_Row_init) (defBody s_Row_init) (defScope s_Row_init) [.ref zdCR] [] f63 _ := ⟨⟨_, _, _, _, _, _, _, _, _, _, rfl, l63, c63, .inr ⟨by simp, TdCR, _, [.ref zdCR], nTCR, rfl, lTCR, rfl, .cons rfl .nil⟩, .inl rfl⟩, k63⟩
  obtain ⟨dsCR, vdsCR, BICR⟩ := FICR.binds1 (ps := ["self", "top", "letters"]) 3 1 (by simp) rfl fun T kV doc pm an cdv ct us its h1 h2 => match us, h1, its, h2 with | [_, _, _], _, [_], _ => ⟨_, rfl, rfl⟩
  have edsCR : dsCR = [] := by cases vdsCR; rfl
  subst edsCR
  have MICR : Mk K CR f63 := ⟨mkCR, i63, n63, kcCR⟩
  have KT_dN : KTab K w dN CHG := ⟨⟨_, _, l_dN, kl_dN⟩, lo_dN, by decide +kernel, by decide⟩
  have L : LotC K mg CL := ⟨clCL, nfCL_pins, nfCL_cords, (PySem.W.mg_of X G aCL)⟩
  have RC : RowC K mg CR := ⟨clCR, nfCR_top, nfCR__lanes, nfCR_letters, (PySem.W.mg_of X G aCR)⟩
  have TE : BiX mg := ⟨(PySem.W.mg_none_of X G zZi), (PySem.W.mg_none_of X G zEn), (PySem.W.mg_none_of X G zAb)⟩
  have hz : ∀ H, SqT K H zdCL [] := fun H => .inr ⟨_, #[], nzz, lzz, rfl, rfl, by decide, .nil⟩
  obtain ⟨ds1, vds1, BD⟩ := FICL.binds1 (ps := ["self", "pins", "cords"]) 2 0 (by simp) rfl fun T kV doc pm an cdv ct us its h1 h2 => match us, h1, its, h2 with | [_, _], _, [_], _ => ⟨_, rfl, rfl⟩
  have eds1 : ds1 = [.ref zdCL] := by
    cases vds1 with
    | cons r t =>
      cases t
      cases r
      rfl
  subst eds1
  have ME : Mt K CL "ends" "Lot.ends" s_Lot_ends ["self", "pin"] _ _ := ⟨F_Lot_ends, MT_Lot_ends, B_Lot_ends⟩
  have MM : Mt K CL "merged" "Lot.merged" s_Lot_merged ["self", "gap"] _ _ := ⟨F_Lot_merged, MT_Lot_merged, B_Lot_merged⟩
  have MD : Mt K CL "dropped" "Lot.dropped" s_Lot_dropped ["self", "pin"] _ _ := ⟨F_Lot_dropped, MT_Lot_dropped, B_Lot_dropped⟩
  have rm12 : Room 12 callerA := ⟨rfl, by decide, by decide⟩
  have TU : UpD K w dU := ⟨TU_dU⟩
  have MF : Mt K CR "flipped" "Row.flipped" s_Row_flipped ["self"] _ _ := ⟨F_Row_flipped, MT_Row_flipped, B_Row_flipped⟩
  have nfC : PySem.W.notFirst K CL (.ref CL) = true := by
    unfold PySem.W.notFirst
    rw [beq_self_eq_true]
    rfl
  refine ⟨PySem.W.fnOf "law" "law" (defArgs s_law) (defBody s_law) (defScope s_law) .none kV53 dc53 pm53 an53 cd53 ct53, fun s v => .of_eq rfl, fun base _ _ => ?_⟩
  have Gwh := ok_whole (P := lw.prog) (w := w) (mg := mg) (base := base) D_is_whole.F T
  have Gsb := ok_seqB (P := lw.prog) (w := w) (mg := mg) (base := base) D_is_sequence.F T
  have Gbe := ok_below (P := lw.prog) (w := w) (mg := mg) (base := base) D_is_below.F T D_is_whole
  have Gckp := ok_ckpins (P := lw.prog) (w := w) (mg := mg) (base := base) D_check_pins.F T D_is_whole
  have Gck := ok_ckpin (P := lw.prog) (w := w) (mg := mg) (base := base) D_check_pin.F T D_is_whole D_is_below
  have Gen := ok_entry (P := lw.prog) (w := w) (mg := mg) (base := base) D_is_entry.F T D_is_whole D_is_below D_is_sequence
  have Gga := ok_gathered (P := lw.prog) (w := w) (mg := mg) (base := base) D_gathered.F T D_is_entry Gen
  have Gin := ok_init (P := lw.prog) (w := w) (mg := mg) (base := base) FICL T L D_check_pins Gckp D_gathered Gga
  have Geap := ok_eap (P := lw.prog) (w := w) (mg := mg) (base := base) D_ends_at_pins.F T
  have Gends := ok_ends (P := lw.prog) (w := w) (mg := mg) (base := base) F_Lot_ends T L D_check_pin Gck D_ends_at_pins Geap
  have Ggp := ok_gaps (P := lw.prog) (w := w) (mg := mg) (base := base) D_gaps.F T
  have Gsu := ok_sums (P := lw.prog) (w := w) (mg := mg) (base := base) D_sums_before.F T
  have Ggr := ok_grid (P := lw.prog) (w := w) (mg := mg) (base := base) D_cord_grid.F T
  have Gtb := ok_table (P := lw.prog) (w := w) (mg := mg) (base := base) D_table_rows.F T D_cord_grid Ggr D_gaps Ggp D_sums_before Gsu
  have Gtw := ok_twice (P := lw.prog) (w := w) (mg := mg) (base := base) D_twice_between.F
  have Gco := ok_cot (P := lw.prog) (w := w) (mg := mg) (base := base) D_cords_of_table.F T D_twice_between Gtw
  have Geq := ok_eqL (P := lw.prog) (w := w) (mg := mg) (base := base) F_Lot_eq T L ICL
  have Gcr := ok_crosses (P := lw.prog) (w := w) (mg := mg) (base := base) D_crosses.F T
  have Gcg := ok_ckgap (P := lw.prog) (w := w) (mg := mg) (base := base) D_check_gap.F D_gaps Ggp D_is_below Gbe
  have Gnx := ok_next (P := lw.prog) (w := w) (mg := mg) (base := base) D_next_pin.F D_check_gap Gcg
  have Gre := ok_renF (P := lw.prog) (w := w) (mg := mg) (base := base) D_renamed.F
  have Gro := ok_row (P := lw.prog) (w := w) (mg := mg) (base := base) D_row_without.F T TE
  have Gt2 := ok_two (P := lw.prog) (w := w) (mg := mg) (base := base) D_table_without.F T TE D_row_without Gro
  have Gme := ok_merged (P := lw.prog) (w := w) (mg := mg) (base := base) F_Lot_merged T L MICL BICL Gin D_next_pin Gnx D_renamed Gre
  have Gdr := ok_dropped (P := lw.prog) (w := w) (mg := mg) (base := base) F_Lot_dropped T L MICL BICL Gin BD hz D_check_pin Gck ME Gends D_table_rows Gtb D_table_without Gt2 D_cords_of_table Gco
  have Glom := ok_lom (P := lw.prog) (w := w) (mg := mg) (base := base) D_lot_of_mates.F T TE L MICL BICL Gin
  have Gmol := ok_mol (P := lw.prog) (w := w) (mg := mg) (base := base) D_mates_of_lot.F T L
  have Gmc := ok_crs (P := lw.prog) (w := w) (mg := mg) (base := base) D_mates_crossed.F T D_crosses Gcr
  have Gmb := ok_beg (P := lw.prog) (w := w) (mg := mg) (base := base) D_mates_begun.F T
  have Gmj := ok_joi (P := lw.prog) (w := w) (mg := mg) (base := base) D_mates_joined.F L D_lot_of_mates Glom MM Gme MD Gdr D_mates_of_lot Gmol
  have Glt := ok_letter (P := lw.prog) (w := w) (mg := mg) (base := base) D_is_letter.F T (PySem.W.mg_of X G a_dN) KT_dN D_is_sequence Gsb D_is_below Gbe
  have Gla := ok_lanes (P := lw.prog) (w := w) (mg := mg) (base := base) D_lanes_along.F T TE (PySem.W.mg_of X G a_dN) KT_dN D_is_letter Glt
  have Gri := ok_rinit (P := lw.prog) (w := w) (mg := mg) (base := base) FICR T RC D_is_whole Gwh D_lanes_along Gla
  have Gbo := ok_bottom (P := lw.prog) (w := w) (mg := mg) (base := base) F_Row_bottom RC
  have Gpo := ok_pair (P := lw.prog) (w := w) (mg := mg) (base := base) D_pairing_of.F T TE D_mates_crossed Gmc D_mates_begun Gmb D_mates_joined Gmj D_lot_of_mates Glom
  have Gpr := ok_rpair (P := lw.prog) (w := w) (mg := mg) (base := base) F_Row_pairing RC D_pairing_of Gpo
  have Gckl := ok_ckl (P := lw.prog) (w := w) (mg := mg) (base := base) D_check_lanes.F
  have Grs := ok_rsh (P := lw.prog) (w := w) (mg := mg) (base := base) F_Row_rshift RC MICR Gri BICR PT_Row_bottom Gbo B_Row_bottom D_check_lanes Gckl
  have Gfl := ok_flipped (P := lw.prog) (w := w) (mg := mg) (base := base) F_Row_flipped RC (PySem.W.mg_of X G a_dU) TU PT_Row_bottom Gbo B_Row_bottom MICR Gri BICR
  have Glw := ok_lwhole (P := lw.prog) (w := w) (mg := mg) (base := base) D__law_whole.F T
  have Gcell := ok_cell (P := lw.prog) (w := w) (mg := mg) (base := base) D__law_cell.F T
  have Gdig := ok_digits (P := lw.prog) (w := w) (mg := mg) (base := base) D__law_digits.F T
  have Glg := ok_lgaps (P := lw.prog) (w := w) (mg := mg) (base := base) D__law_gaps.F T
  have Gdb := ok_dbl (P := lw.prog) (w := w) (mg := mg) (base := base) D__law_doubles.F T
  have Glc := ok_lcords (P := lw.prog) (w := w) (mg := mg) (base := base) D__law_cords.F T D__law_doubles Gdb
  have Gle := ok_letn (P := lw.prog) (w := w) (mg := mg) (base := base) D__law_letters.F T
  have Ggv := ok_given (P := lw.prog) (w := w) (mg := mg) (base := base) D__law_given.F T
  have Gil := ok_islot (P := lw.prog) (w := w) (mg := mg) (base := base) D__law_is_lot.F T L ICL D__law_whole Glw
  have Gst := ok_str (P := lw.prog) (w := w) (mg := mg) (base := base) D__law_straight_table.F T TE
  have Gtl := ok_tlet (P := lw.prog) (w := w) (mg := mg) (base := base) D__law_table_letter.F T D__law_gaps Glg
  have Gcx := ok_lx (P := lw.prog) (w := w) (mg := mg) (base := base) D__law_cross.F T
  have Gnm := ok_norm (P := lw.prog) (w := w) (mg := mg) (base := base) D__law_norm.F T
  have Gsd := ok_sid (P := lw.prog) (w := w) (mg := mg) (base := base) D__law_sides_table.F T D__law_gaps Glg
  have Gdp := ok_dpt (P := lw.prog) (w := w) (mg := mg) (base := base) D__law_dropped_table.F T
  have Gjn := ok_ljn (P := lw.prog) (w := w) (mg := mg) (base := base) D__law_joined_partners.F T D__law_cross Gcx D__law_norm Gnm D__law_dropped_table Gdp D__law_sides_table Gsd D__law_cords Glc
  have Gpl := ok_plt (P := lw.prog) (w := w) (mg := mg) (base := base) D__law_partners_letter.F T D__law_cross Gcx D__law_joined_partners Gjn
  have Gop := ok_lop (P := lw.prog) (w := w) (mg := mg) (base := base) D__law_of_partners.F T
  have Gbt := ok_bent (P := lw.prog) (w := w) (mg := mg) (base := base) D__law_bent.F T
  have Gbl := ok_botl (P := lw.prog) (w := w) (mg := mg) (base := base) D__law_bottom.F T
  have Gbr := ok_byr (P := lw.prog) (w := w) (mg := mg) (base := base) D__law_by_rules.F T D__law_of_partners Gop D__law_partners_letter Gpl
  have Gby := ok_byt (P := lw.prog) (w := w) (mg := mg) (base := base) D__law_by_tables.F T D__law_straight_table Gst D__law_table_letter Gtl
  have Gdu := ok_due (P := lw.prog) (w := w) (mg := mg) (base := base) D__law_due.F D__law_is_lot Gil D__law_cords Glc
  exact ok_law (fun_mk l53 c53 k53) rm12 T (PySem.W.mg_none_of X G zRp) RC MICR Gri BICR PT_Row_pairing Gpr B_Row_pairing MF Gfl sfCR i59 n59 Grs B_Row_rshift i55 n55 Geq B_Lot_eq nfC D__law_cell Gcell D__law_digits Gdig D__law_letters Gle D__law_bent Gbt D__law_bottom Gbl D__law_by_rules Gbr D__law_by_tables Gby D__law_given Ggv D__law_due Gdu D__law_is_lot Gil D__law_norm Gnm
end Own

namespace Own
open PySem PySem.Spec PyProof.Rows L2
/-- a law's end where each start has its own frag, and the promise is asked at the top alone -/
theorem walk_topE {l : PySem.W.OpenLaw} {n : Nat} {q : Program} {loose : List Str} {XP : (Str → Option Value) → Heap → Prop} {YP : World → Heap → Prop} {d : DefRec} {CX : CXT} {x : Str}
    (most : l.most = some n) (small : n ≤ sizeLine) (nodef : d.params.defaults = [])
    (F : ∀ (w : World) (mg : Str → Option Value) (fa : Addr) (h : Heap), YP w h → h.Ns mainGlobals mg → mg d.name = some (.ref fa) →
      ∃ (K : PySem.W.Frag) (fd : FuncData) (sp : Sp), K.In h ∧ (∀ (s : Shared) (v : Value), BindsTo s fd ⟨[v], []⟩ [(x, v)]) ∧
        (∀ (H : Hp) (a : Addr) (ns : List Int), ns.length ≤ n → Only H → SqL K H a (ns.map V.int) → sp [.ref a] H (fun v _ => v = .bl true) fun _ _ _ => False) ∧
        ∀ base : Heap, K.In base → base.Ns mainGlobals mg → TopOk l.prog w K mg base CX fa fd x sp)
    (out : ∀ (H : Hp) (s : Shared) (e : Value) (s' : Shared), CX [] H s (fun _ _ _ => False) e s' → False) :
    PySem.W.WalkO q loose XP YP l.row.toRowW d [] (fun f vs => PySem.call f vs) := by
  refine Att.attach_call most nodef fun w s₀ s₁ mg mb fa o pm cd doc a vs ns G Y ho hd hcd hmg ea hi hl gens => ?_
  obtain ⟨K, fd, sp, KX, bd, want, top⟩ := F w mg fa _ Y G.T.g hmg
  exact law_top KX G.T.g G.T.b G.T.builtins G.T.nolimit gens ea hi (Nat.le_trans hl small) top bd (fun H hO hS => want H a ns hl hO hS) fun H e s' => out H s₁ e s'
end Own

namespace Own
open PySem PySem.Spec PyProof.Rows L2
theorem klit_of {P : Params} : ∀ {es : List DictEntry} {ps : List (Str × Int)}, Hx.FitAll P es ps → KLit P es ps
  | [], [], _ => trivial
  | [], _ :: _, h => h.elim
  | _ :: _, [], h => h.elim
  | _ :: _, _ :: _, h => ⟨h.1, klit_of h.2⟩
theorem facts {w : World} {K : PySem.W.Frag} {h : Heap} {mg : Str → Option Value} {fa : Addr} (X : K.In h) (G : h.Ns mainGlobals mg) (hfa : mg ("law" : Str) = some (.ref fa)) (c : lk.obs K = lk.due w) :
    ∃ fd : FuncData, (∀ (s : Shared) (v : Value), BindsTo s fd ⟨[v], []⟩ [("_law_script", v)]) ∧ ∀ base : Heap, K.In base → base.Ns mainGlobals mg → TopOk PySem.Challenge.rw_rimcords_k61_pairings_whole.prog w K mg base CX0 fa fd "_law_script" (spLaw K) := by
  obtain ⟨_, _, _, _, _, _, _, cd_0, _, l_0, c_0, k_0, e_0⟩ := Hx.Look.fn c 0 (d := fd_0) rfl
  obtain ⟨_, _, _, _, _, _, _, cd_1, _, l_1, c_1, k_1, e_1⟩ := Hx.Look.fn c 1 (d := fd_1) rfl
  obtain ⟨_, _, _, _, _, _, _, cd_2, _, l_2, c_2, k_2, e_2⟩ := Hx.Look.fn c 2 (d := fd_2) rfl
  obtain ⟨_, _, _, _, _, _, _, cd_3, _, l_3, c_3, k_3, e_3⟩ := Hx.Look.fn c 3 (d := fd_3) rfl
  obtain ⟨_, _, _, _, _, _, _, cd_4, _, l_4, c_4, k_4, e_4⟩ := Hx.Look.fn c 4 (d := fd_4) rfl
  obtain ⟨_, _, _, _, _, _, _, cd_5, _, l_5, c_5, k_5, e_5⟩ := Hx.Look.fn c 5 (d := fd_5) rfl
  obtain ⟨_, _, _, _, _, _, _, cd_6, _, l_6, c_6, k_6, e_6⟩ := Hx.Look.fn c 6 (d := fd_6) rfl
  obtain ⟨_, _, _, _, _, _, _, cd_7, _, l_7, c_7, k_7, e_7⟩ := Hx.Look.fn c 7 (d := fd_7) rfl
  obtain ⟨_, _, _, _, _, _, _, cd_8, _, l_8, c_8, k_8, e_8⟩ := Hx.Look.fn c 8 (d := fd_8) rfl
  obtain ⟨_, _, _, _, _, _, _, cd_9, _, l_9, c_9, k_9, e_9⟩ := Hx.Look.fn c 9 (d := fd_9) rfl
  obtain ⟨_, _, _, _, _, _, _, cd_10, _, l_10, c_10, k_10, e_10⟩ := Hx.Look.fn c 10 (d := fd_10) rfl
  obtain ⟨_, _, _, _, _, _, _, cd_11, _, l_11, c_11, k_11, e_11⟩ := Hx.Look.fn c 11 (d := fd_11) rfl
  obtain ⟨_, _, _, _, _, _, _, cd_12, _, l_12, c_12, k_12, e_12⟩ := Hx.Look.fn c 12 (d := fd_12) rfl
  obtain ⟨_, _, _, _, _, _, _, cd_13, _, l_13, c_13, k_13, e_13⟩ := Hx.Look.fn c 13 (d := fd_13) rfl
  obtain ⟨_, _, _, _, _, _, _, cd_14, _, l_14, c_14, k_14, e_14⟩ := Hx.Look.fn c 14 (d := fd_14) rfl
  obtain ⟨_, _, _, _, _, _, _, cd_15, _, l_15, c_15, k_15, e_15⟩ := Hx.Look.fn c 15 (d := fd_15) rfl
  obtain ⟨_, _, _, _, _, _, _, cd_16, _, l_16, c_16, k_16, e_16⟩ := Hx.Look.fn c 16 (d := fd_16) rfl
  obtain ⟨_, _, _, _, _, _, _, cd_17, _, l_17, c_17, k_17, e_17⟩ := Hx.Look.fn c 17 (d := fd_17) rfl
  obtain ⟨_, _, _, _, _, _, _, cd_18, _, l_18, c_18, k_18, e_18⟩ := Hx.Look.fn c 18 (d := fd_18) rfl
  obtain ⟨_, _, _, _, _, _, _, cd_19, _, l_19, c_19, k_19, e_19⟩ := Hx.Look.fn c 19 (d := fd_19) rfl
  obtain ⟨_, _, _, _, _, _, _, cd_20, _, l_20, c_20, k_20, e_20⟩ := Hx.Look.fn c 20 (d := fd_20) rfl
  obtain ⟨_, _, _, _, _, _, _, cd_21, _, l_21, c_21, k_21, e_21⟩ := Hx.Look.fn c 21 (d := fd_21) rfl
  obtain ⟨_, _, _, _, _, _, _, cd_22, _, l_22, c_22, k_22, e_22⟩ := Hx.Look.fn c 22 (d := fd_22) rfl
  obtain ⟨_, _, _, _, _, _, _, cd_23, _, l_23, c_23, k_23, e_23⟩ := Hx.Look.fn c 23 (d := fd_23) rfl
  obtain ⟨_, _, _, _, _, _, _, cd_24, _, l_24, c_24, k_24, e_24⟩ := Hx.Look.fn c 24 (d := fd_24) rfl
  obtain ⟨_, _, _, _, _, _, _, cd_25, _, l_25, c_25, k_25, e_25⟩ := Hx.Look.fn c 25 (d := fd_25) rfl
  obtain ⟨_, _, _, _, _, _, _, cd_26, _, l_26, c_26, k_26, e_26⟩ := Hx.Look.fn c 26 (d := fd_26) rfl
  obtain ⟨_, _, _, _, _, _, _, cd_27, _, l_27, c_27, k_27, e_27⟩ := Hx.Look.fn c 27 (d := fd_27) rfl
  obtain ⟨_, _, _, _, _, _, _, cd_28, _, l_28, c_28, k_28, e_28⟩ := Hx.Look.fn c 28 (d := fd_28) rfl
  obtain ⟨_, _, _, _, _, _, _, cd_29, _, l_29, c_29, k_29, e_29⟩ := Hx.Look.fn c 29 (d := fd_29) rfl
  obtain ⟨_, _, _, _, _, _, _, cd_30, _, l_30, c_30, k_30, e_30⟩ := Hx.Look.fn c 30 (d := fd_30) rfl
  obtain ⟨_, _, _, _, _, _, _, cd_31, _, l_31, c_31, k_31, e_31⟩ := Hx.Look.fn c 31 (d := fd_31) rfl
  obtain ⟨_, _, _, _, _, _, _, cd_32, _, l_32, c_32, k_32, e_32⟩ := Hx.Look.fn c 32 (d := fd_32) rfl
  obtain ⟨_, _, _, _, _, _, _, cd_33, _, l_33, c_33, k_33, e_33⟩ := Hx.Look.fn c 33 (d := fd_33) rfl
  obtain ⟨_, _, _, _, _, _, _, cd_34, _, l_34, c_34, k_34, e_34⟩ := Hx.Look.fn c 34 (d := fd_34) rfl
  obtain ⟨_, _, _, _, _, _, _, cd_35, _, l_35, c_35, k_35, e_35⟩ := Hx.Look.fn c 35 (d := fd_35) rfl
  obtain ⟨_, _, _, _, _, _, _, cd_36, _, l_36, c_36, k_36, e_36⟩ := Hx.Look.fn c 36 (d := fd_36) rfl
  obtain ⟨_, _, _, _, _, _, _, cd_37, _, l_37, c_37, k_37, e_37⟩ := Hx.Look.fn c 37 (d := fd_37) rfl
  obtain ⟨_, _, _, _, _, _, _, cd_38, _, l_38, c_38, k_38, e_38⟩ := Hx.Look.fn c 38 (d := fd_38) rfl
  obtain ⟨_, _, _, _, _, _, _, cd_39, _, l_39, c_39, k_39, e_39⟩ := Hx.Look.fn c 39 (d := fd_39) rfl
  obtain ⟨_, _, _, _, _, _, _, cd_40, _, l_40, c_40, k_40, e_40⟩ := Hx.Look.fn c 40 (d := fd_40) rfl
  obtain ⟨_, _, _, _, _, _, _, cd_41, _, l_41, c_41, k_41, e_41⟩ := Hx.Look.fn c 41 (d := fd_41) rfl
  obtain ⟨_, _, _, _, _, _, _, cd_42, _, l_42, c_42, k_42, e_42⟩ := Hx.Look.fn c 42 (d := fd_42) rfl
  obtain ⟨_, _, _, _, _, _, _, cd_43, _, l_43, c_43, k_43, e_43⟩ := Hx.Look.fn c 43 (d := fd_43) rfl
  obtain ⟨_, _, _, _, _, _, _, cd_44, _, l_44, c_44, k_44, e_44⟩ := Hx.Look.fn c 44 (d := fd_44) rfl
  obtain ⟨_, _, _, _, _, _, _, cd_45, _, l_45, c_45, k_45, e_45⟩ := Hx.Look.fn c 45 (d := fd_45) rfl
  obtain ⟨_, _, _, _, _, _, _, cd_46, _, l_46, c_46, k_46, e_46⟩ := Hx.Look.fn c 46 (d := fd_46) rfl
  obtain ⟨_, _, _, _, _, _, _, cd_47, _, l_47, c_47, k_47, e_47⟩ := Hx.Look.fn c 47 (d := fd_47) rfl
  obtain ⟨_, _, _, _, _, _, _, cd_48, _, l_48, c_48, k_48, e_48⟩ := Hx.Look.fn c 48 (d := fd_48) rfl
  obtain ⟨_, _, _, _, _, _, _, cd_49, _, l_49, c_49, k_49, e_49⟩ := Hx.Look.fn c 49 (d := fd_49) rfl
  obtain ⟨_, _, _, _, _, _, _, cd_50, _, l_50, c_50, k_50, e_50⟩ := Hx.Look.fn c 50 (d := fd_50) rfl
  obtain ⟨_, _, _, _, _, _, _, cd_51, _, l_51, c_51, k_51, e_51⟩ := Hx.Look.fn c 51 (d := fd_51) rfl
  obtain ⟨_, _, _, _, _, _, _, cd_52, _, l_52, c_52, k_52, e_52⟩ := Hx.Look.fn c 52 (d := fd_52) rfl
  obtain ⟨_, _, _, _, _, _, _, cd_53, _, l_53, c_53, k_53, e_53⟩ := Hx.Look.fn c 53 (d := fd_53) rfl
  obtain ⟨_, _, _, _, _, _, _, cd_54, _, l_54, c_54, k_54, e_54⟩ := Hx.Look.fn c 54 (d := fd_54) rfl
  obtain ⟨_, _, _, _, _, _, _, cd_55, _, l_55, c_55, k_55, e_55⟩ := Hx.Look.fn c 55 (d := fd_55) rfl
  obtain ⟨_, _, _, _, _, _, _, cd_56, _, l_56, c_56, k_56, e_56⟩ := Hx.Look.fn c 56 (d := fd_56) rfl
  obtain ⟨_, _, _, _, _, _, _, cd_57, _, l_57, c_57, k_57, e_57⟩ := Hx.Look.fn c 57 (d := fd_57) rfl
  obtain ⟨_, _, _, _, _, _, _, cd_58, _, l_58, c_58, k_58, e_58⟩ := Hx.Look.fn c 58 (d := fd_58) rfl
  obtain ⟨_, _, _, _, _, _, _, cd_59, _, l_59, c_59, k_59, e_59⟩ := Hx.Look.fn c 59 (d := fd_59) rfl
  obtain ⟨_, _, _, _, _, _, _, cd_60, _, l_60, c_60, k_60, e_60⟩ := Hx.Look.fn c 60 (d := fd_60) rfl
  obtain ⟨_, _, _, _, _, _, _, cd_61, _, l_61, c_61, k_61, e_61⟩ := Hx.Look.fn c 61 (d := fd_61) rfl
  obtain ⟨_, _, _, _, _, _, _, cd_62, _, l_62, c_62, k_62, e_62⟩ := Hx.Look.fn c 62 (d := fd_62) rfl
  obtain ⟨es_0, nn_0, tl_0, tf_0⟩ := Hx.Look.tab c 0 (t := (pa_dN, [("cross", 0), ("cup", 2), ("cap", -2)])) rfl
  obtain ⟨_, _, _, _, q_lTCL⟩ := Hx.seq_look (Hx.Look.fact c 89 (f := ex_89) rfl)
  obtain ⟨_, _, _, _, q_lTCR⟩ := Hx.seq_look (Hx.Look.fact c 114 (f := ex_114) rfl)
  have tx_dU := Hx.Look.tx c 0 119 (a := pa_dU) (kvs := kv_dU) rfl rfl
  obtain ⟨_, _, _, q_lzz⟩ := Hx.tup_look (Hx.Look.fact c 123 (f := ex_123) rfl)
  exact all_mk (lw := PySem.Challenge.rw_rimcords_k61_pairings_whole) (w := w) X G hfa
    (of_decide_eq_true (Hx.Look.fact c 0 (f := ex_0) rfl))
    (of_decide_eq_true (Hx.Look.fact c 1 (f := ex_1) rfl))
    (of_decide_eq_true (Hx.Look.fact c 2 (f := ex_2) rfl))
    l_0
    c_0
    k_0
    (of_decide_eq_true (Hx.Look.fact c 3 (f := ex_3) rfl))
    l_1
    c_1
    k_1
    (of_decide_eq_true (Hx.Look.fact c 4 (f := ex_4) rfl))
    l_2
    c_2
    k_2
    (of_decide_eq_true (Hx.Look.fact c 5 (f := ex_5) rfl))
    l_3
    c_3
    k_3
    (of_decide_eq_true (Hx.Look.fact c 6 (f := ex_6) rfl))
    l_4
    c_4
    k_4
    (of_decide_eq_true (Hx.Look.fact c 7 (f := ex_7) rfl))
    l_5
    c_5
    k_5
    (of_decide_eq_true (Hx.Look.fact c 8 (f := ex_8) rfl))
    l_6
    c_6
    k_6
    (of_decide_eq_true (Hx.Look.fact c 9 (f := ex_9) rfl))
    l_7
    c_7
    k_7
    (of_decide_eq_true (Hx.Look.fact c 10 (f := ex_10) rfl))
    l_8
    c_8
    k_8
    (of_decide_eq_true (Hx.Look.fact c 11 (f := ex_11) rfl))
    l_9
    c_9
    k_9
    (of_decide_eq_true (Hx.Look.fact c 12 (f := ex_12) rfl))
    l_10
    c_10
    k_10
    (of_decide_eq_true (Hx.Look.fact c 13 (f := ex_13) rfl))
    l_11
    c_11
    k_11
    (of_decide_eq_true (Hx.Look.fact c 14 (f := ex_14) rfl))
    l_12
    c_12
    k_12
    (of_decide_eq_true (Hx.Look.fact c 15 (f := ex_15) rfl))
    l_13
    c_13
    k_13
    (of_decide_eq_true (Hx.Look.fact c 16 (f := ex_16) rfl))
    l_14
    c_14
    k_14
    (of_decide_eq_true (Hx.Look.fact c 17 (f := ex_17) rfl))
    l_15
    c_15
    k_15
    (of_decide_eq_true (Hx.Look.fact c 18 (f := ex_18) rfl))
    l_16
    c_16
    k_16
    (of_decide_eq_true (Hx.Look.fact c 19 (f := ex_19) rfl))
    l_17
    c_17
    k_17
    (of_decide_eq_true (Hx.Look.fact c 20 (f := ex_20) rfl))
    l_18
    c_18
    k_18
    (of_decide_eq_true (Hx.Look.fact c 21 (f := ex_21) rfl))
    l_19
    c_19
    k_19
    (of_decide_eq_true (Hx.Look.fact c 22 (f := ex_22) rfl))
    l_20
    c_20
    k_20
    (of_decide_eq_true (Hx.Look.fact c 23 (f := ex_23) rfl))
    l_21
    c_21
    k_21
    (of_decide_eq_true (Hx.Look.fact c 24 (f := ex_24) rfl))
    l_22
    c_22
    k_22
    (of_decide_eq_true (Hx.Look.fact c 25 (f := ex_25) rfl))
    l_23
    c_23
    k_23
    (of_decide_eq_true (Hx.Look.fact c 26 (f := ex_26) rfl))
    l_24
    c_24
    k_24
    (of_decide_eq_true (Hx.Look.fact c 27 (f := ex_27) rfl))
    l_25
    c_25
    k_25
    (of_decide_eq_true (Hx.Look.fact c 28 (f := ex_28) rfl))
    l_26
    c_26
    k_26
    (of_decide_eq_true (Hx.Look.fact c 29 (f := ex_29) rfl))
    l_27
    c_27
    k_27
    (of_decide_eq_true (Hx.Look.fact c 30 (f := ex_30) rfl))
    l_28
    c_28
    k_28
    (of_decide_eq_true (Hx.Look.fact c 31 (f := ex_31) rfl))
    l_29
    c_29
    k_29
    (of_decide_eq_true (Hx.Look.fact c 32 (f := ex_32) rfl))
    l_30
    c_30
    k_30
    (of_decide_eq_true (Hx.Look.fact c 33 (f := ex_33) rfl))
    l_31
    c_31
    k_31
    (of_decide_eq_true (Hx.Look.fact c 34 (f := ex_34) rfl))
    l_32
    c_32
    k_32
    (of_decide_eq_true (Hx.Look.fact c 35 (f := ex_35) rfl))
    l_33
    c_33
    k_33
    (of_decide_eq_true (Hx.Look.fact c 36 (f := ex_36) rfl))
    l_34
    c_34
    k_34
    (of_decide_eq_true (Hx.Look.fact c 37 (f := ex_37) rfl))
    l_35
    c_35
    k_35
    (of_decide_eq_true (Hx.Look.fact c 38 (f := ex_38) rfl))
    l_36
    c_36
    k_36
    (of_decide_eq_true (Hx.Look.fact c 39 (f := ex_39) rfl))
    l_37
    c_37
    k_37
    (of_decide_eq_true (Hx.Look.fact c 40 (f := ex_40) rfl))
    l_38
    c_38
    k_38
    (of_decide_eq_true (Hx.Look.fact c 41 (f := ex_41) rfl))
    l_39
    c_39
    k_39
    (of_decide_eq_true (Hx.Look.fact c 42 (f := ex_42) rfl))
    l_40
    c_40
    k_40
    (of_decide_eq_true (Hx.Look.fact c 43 (f := ex_43) rfl))
    l_41
    c_41
    k_41
    (of_decide_eq_true (Hx.Look.fact c 44 (f := ex_44) rfl))
    l_42
    c_42
    k_42
    (of_decide_eq_true (Hx.Look.fact c 45 (f := ex_45) rfl))
    l_43
    c_43
    k_43
    (of_decide_eq_true (Hx.Look.fact c 46 (f := ex_46) rfl))
    l_44
    c_44
    k_44
    (of_decide_eq_true (Hx.Look.fact c 47 (f := ex_47) rfl))
    l_45
    c_45
    k_45
    (of_decide_eq_true (Hx.Look.fact c 48 (f := ex_48) rfl))
    l_46
    c_46
    k_46
    (of_decide_eq_true (Hx.Look.fact c 49 (f := ex_49) rfl))
    l_47
    c_47
    k_47
    (of_decide_eq_true (Hx.Look.fact c 50 (f := ex_50) rfl))
    l_48
    c_48
    k_48
    (of_decide_eq_true (Hx.Look.fact c 51 (f := ex_51) rfl))
    l_49
    c_49
    k_49
    (of_decide_eq_true (Hx.Look.fact c 52 (f := ex_52) rfl))
    l_50
    c_50
    k_50
    (of_decide_eq_true (Hx.Look.fact c 53 (f := ex_53) rfl))
    l_51
    c_51
    k_51
    (of_decide_eq_true (Hx.Look.fact c 54 (f := ex_54) rfl))
    l_52
    c_52
    k_52
    (of_decide_eq_true (Hx.Look.fact c 55 (f := ex_55) rfl))
    (of_decide_eq_true (Hx.Look.fact c 56 (f := ex_56) rfl))
    (of_decide_eq_true (Hx.Look.fact c 57 (f := ex_57) rfl))
    (of_decide_eq_true (Hx.Look.fact c 58 (f := ex_58) rfl))
    (of_decide_eq_true (Hx.Look.fact c 59 (f := ex_59) rfl))
    (of_decide_eq_true (Hx.Look.fact c 60 (f := ex_60) rfl))
    (of_decide_eq_true (Hx.Look.fact c 61 (f := ex_61) rfl))
    (of_decide_eq_true (Hx.Look.fact c 62 (f := ex_62) rfl))
    (of_decide_eq_true (Hx.Look.fact c 63 (f := ex_63) rfl))
    (of_decide_eq_true (Hx.Look.fact c 64 (f := ex_64) rfl))
    (of_decide_eq_true (Hx.Look.fact c 65 (f := ex_65) rfl))
    (of_decide_eq_true (Hx.Look.fact c 66 (f := ex_66) rfl))
    (of_decide_eq_true (Hx.Look.fact c 67 (f := ex_67) rfl))
    (of_decide_eq_true (Hx.Look.fact c 68 (f := ex_68) rfl))
    (Hx.Look.fact c 69 (f := ex_69) rfl)
    (Hx.Look.fact c 70 (f := ex_70) rfl)
    (Hx.Look.fact c 71 (f := ex_71) rfl)
    (of_decide_eq_true (Hx.Look.fact c 72 (f := ex_72) rfl))
    (Hx.Look.fact c 73 (f := ex_73) rfl)
    (Hx.Look.fact c 74 (f := ex_74) rfl)
    (of_decide_eq_true (Hx.Look.fact c 75 (f := ex_75) rfl))
    (of_decide_eq_true (Hx.Look.fact c 76 (f := ex_76) rfl))
    (of_decide_eq_true (Hx.Look.fact c 77 (f := ex_77) rfl))
    (of_decide_eq_true (Hx.Look.fact c 78 (f := ex_78) rfl))
    (of_decide_eq_true (Hx.Look.fact c 79 (f := ex_79) rfl))
    (Hx.Look.fact c 80 (f := ex_80) rfl)
    l_53
    c_53
    k_53
    (of_decide_eq_true (Hx.Look.fact c 81 (f := ex_81) rfl))
    (Hx.Look.fact c 82 (f := ex_82) rfl)
    l_54
    c_54
    k_54
    (of_decide_eq_true (Hx.Look.fact c 83 (f := ex_83) rfl))
    (Hx.Look.fact c 84 (f := ex_84) rfl)
    l_55
    c_55
    k_55
    (of_decide_eq_true (Hx.Look.fact c 85 (f := ex_85) rfl))
    (Hx.Look.fact c 86 (f := ex_86) rfl)
    l_56
    c_56
    k_56
    (of_decide_eq_true (Hx.Look.fact c 87 (f := ex_87) rfl))
    (Hx.Look.fact c 88 (f := ex_88) rfl)
    l_57
    c_57
    k_57
    q_lTCL
    (Hx.Look.fact c 90 (f := ex_90) rfl)
    (Hx.Look.fact c 91 (f := ex_91) rfl)
    (Hx.Look.fact c 92 (f := ex_92) rfl)
    (of_decide_eq_true (Hx.Look.fact c 93 (f := ex_93) rfl))
    (Hx.Look.fact c 94 (f := ex_94) rfl)
    (Hx.Look.fact c 95 (f := ex_95) rfl)
    (of_decide_eq_true (Hx.Look.fact c 96 (f := ex_96) rfl))
    (of_decide_eq_true (Hx.Look.fact c 97 (f := ex_97) rfl))
    (of_decide_eq_true (Hx.Look.fact c 98 (f := ex_98) rfl))
    (Hx.Look.fact c 99 (f := ex_99) rfl)
    (of_decide_eq_true (Hx.Look.fact c 100 (f := ex_100) rfl))
    (Hx.Look.fact c 101 (f := ex_101) rfl)
    l_58
    c_58
    k_58
    (of_decide_eq_true (Hx.Look.fact c 102 (f := ex_102) rfl))
    (Hx.Look.fact c 103 (f := ex_103) rfl)
    l_59
    c_59
    k_59
    (of_decide_eq_true (Hx.Look.fact c 104 (f := ex_104) rfl))
    (of_decide_eq_true (Hx.Look.fact c 105 (f := ex_105) rfl))
    (of_decide_eq_true (Hx.Look.fact c 106 (f := ex_106) rfl))
    (of_decide_eq_true (Hx.Look.fact c 107 (f := ex_107) rfl))
    l_60
    c_60
    k_60
    (of_decide_eq_true (Hx.Look.fact c 108 (f := ex_108) rfl))
    (of_decide_eq_true (Hx.Look.fact c 109 (f := ex_109) rfl))
    (of_decide_eq_true (Hx.Look.fact c 110 (f := ex_110) rfl))
    (of_decide_eq_true (Hx.Look.fact c 111 (f := ex_111) rfl))
    l_61
    c_61
    k_61
    (of_decide_eq_true (Hx.Look.fact c 112 (f := ex_112) rfl))
    (Hx.Look.fact c 113 (f := ex_113) rfl)
    l_62
    c_62
    k_62
    q_lTCR
    (of_decide_eq_true (Hx.Look.fact c 115 (f := ex_115) rfl))
    tl_0
    (klit_of tf_0)
    (of_decide_eq_true (Hx.Look.fact c 116 (f := ex_116) rfl))
    (of_decide_eq_true (Hx.Look.fact c 117 (f := ex_117) rfl))
    (of_decide_eq_true (Hx.Look.fact c 118 (f := ex_118) rfl))
    (fun p hp => tx_dU (p.1, .str p.2) (List.mem_map_of_mem (f := fun p : Str × Str => (p.1, He.Dv.str p.2)) hp))
    (of_decide_eq_true (Hx.Look.fact c 120 (f := ex_120) rfl))
    (of_decide_eq_true (Hx.Look.fact c 121 (f := ex_121) rfl))
    (of_decide_eq_true (Hx.Look.fact c 122 (f := ex_122) rfl))
    q_lzz
end Own
open PySem PySem.W PySem.Calls PyProof.Rows
theorem PySem.Challenge.cw_rimcords_k61_pairings_whole_holds : PySem.Challenge.rw_rimcords_k61_pairings_whole.Holds := by
  w_on; o_law
  refine HandSHeadRun.head_any (r := Own.RR) (q := view Own.RR.prog [84]) (H := Own.lk.hook) (ob := Own.lk.ob) (M := 20000) (loose := Own.nms) (d := HandSHeadRun.topDef Own.RR.prog 84) (kwd := []) Own.lk.ob_eq
    (by kernel_rfl) (fun s => by kernel_rfl) Own.run (by kernel_rfl) (by kernel_rfl) (by kernel_rfl) (by rfl) (by first | assumption | decide +kernel) (by decide +kernel) ⟨rfl, rfl, rfl, rfl, rfl, by decide +kernel⟩ ?hw ?hc
  case hw => w_witness2
  case hc =>
    refine Own.walk_topE (l := PySem.Challenge.rw_rimcords_k61_pairings_whole) (n := 63) (x := "_law_script") (CX := L2.CX0) rfl (by decide) (by kernel_rfl) ?F (fun _ _ _ _ z => z)
    intro w mg fa h Y G at_
    obtain ⟨K, KX, c⟩ := Y
    have at_ : mg ("law" : PySem.Str) = some (.ref fa) := by
      have e : (HandSHeadRun.topDef Own.RR.prog 84).name = ("law" : PySem.Str) := by kernel_rfl
      rw [← e]
      exact at_
    obtain ⟨fd, hb, hF⟩ := Own.facts KX G at_ c
    exact ⟨K, fd, Own.spLaw K, KX, hb, fun H a ns hl _ hS => ⟨a, ns, rfl, hS, Nat.le_trans hl (by decide), fun _ => rfl⟩, hF⟩
