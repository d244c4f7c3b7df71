import PyProof.Rows.All
import Wide.All
import OpenK.AllK
import Wide.FinOn
import PyProof.ReprRoads
import HandS.ForMost
import HandS.Wide
import PyProof.StrLawsRepr
import PyProof.ReprLen
import HandS.TupAny
import HandS.Gcd
import HandS.More
import HandS.IsInst
import HandS.Style
import HandS.Defaults
import Flt.RightSqrt
import HandS.Codes
import HandS.TryOnly
import HandS.Iter
import HandS.Walk
import HandS.WideBits
import KE.BitLaws
import HandS.SortInts
import HandS.SortRule
import HandS.List
import HandS.Deep
import HandS.Rev
import HandS.Star
import PySem.Challenge.RW_pointsum_k15_whole_falls_of_alike_curves
set_option Elab.async false
set_option linter.all false
set_option maxRecDepth 100000
/-! Promises that know that no repr is under way around the call; repr of plain data. -/
namespace Gd
open PySem PySem.Spec PyProof.Rows L2
/-- as the layer's FnOk, for calls around which nothing is being shown -/
structure FnG (P : Program) (w : World) (K : PySem.W.Frag) (mg : Str → Option Value) (base : Heap) (k : Nat) (f : Addr) (fd : FuncData) (ps : List Str) (sp : Sp) : Prop where
  many : ∀ vs H Q E, sp vs H Q E → vs.length = ps.length
  goes : ∀ (A : Around) (outer : List Env) (s : Shared) (H : Hp) (args : Args) (us : List Value) (vs : List V) (Q : VK) (E : XK), A.guards = some [] → Room k A → Env0 P w K mg base A outer s H →
    BindsTo s fd args (ps.zip us) → Vals vs us → sp vs H Q E → codeAny (model P w) A (.call (.ref f) args) (CR CX0 outer P w H s Q E) s
section
variable {P : Program} {w : World} {K : PySem.W.Frag} {mg : Str → Option Value} {base : Heap}
theorem FnG.of {k : Nat} {f : Addr} {fd : FuncData} {ps : List Str} {sp : Sp} (F : FnOk P w K mg base CX0 k f fd ps sp) : FnG P w K mg base k f fd ps sp :=
  ⟨F.len, fun A outer s H args us vs Q E _ => F.run A outer s H args us vs Q E⟩
theorem FnG.up {j k : Nat} {f : Addr} {fd : FuncData} {ps : List Str} {sp : Sp} (F : FnG P w K mg base j f fd ps sp) (h : j ≤ k) : FnG P w K mg base k f fd ps sp :=
  ⟨F.many, fun A outer s H args us vs Q E hg hr => F.goes A outer s H args us vs Q E hg (hr.mono h)⟩
/-- a def by its body -/
theorem FnG.by_body {x qual : Str} {st : Stmt} {f : Addr} {fd : FuncData} {N ps : List Str} {k : Nat} {sp : Sp} (F : Fun K x qual st f fd) (S : FnScope N ps (defScope st)) (len : ∀ vs H Q E, sp vs H Q E → vs.length = ps.length)
    (hb : ∀ (cdv : Value) (A : Around) (outer : List Env) (s : Shared) (H : Hp) (vs : List V) (Q : VK) (E : XK), A.guards = some [] → Room k (A.deeper (envOfC qual (defScope st) s.heap.objs.size f cdv)) → sp vs H Q E →
      ∃ t, PSs (cxOf CX0 P w K mg base N qual (defScope st) f cdv A outer s H E).nox (defBody st) t ∧ t { nx := fun _ H' => Q .non H', rt := Q } (start N vs) H) : FnG P w K mg base (k + 1) f fd ps sp := by
  obtain ⟨oc, od, kV, doc, pm, an, cdv, ct, osl, rfl, lk, hcd⟩ := F.ex
  constructor
  · exact len
  · intro A outer s H args us vs Q E hg hr e0 hbi rv hsp
    have hlen := len _ _ _ _ hsp
    have lim : s.heap.NoLimit := e0.mod.nolimit.keeps fun b o e => (e0.bs b o e).1
    have inK : K.In s.heap := e0.mod.kin.keeps fun b o e => (e0.bs b o e).1
    have kinds : ∀ y ∈ ps.zip us, (defScope st).names.lookup y.1 = some .local ∨ ((defScope st).names.lookup y.1 = some .cell ∧ ((cellsFrom (s.heap.objs.size + 1) (defScope st).names []).lookup y.1).isSome = true) := by
      rintro ⟨n, v⟩ hy
      have hp := S.par n (List.of_mem_zip hy).1
      cases hp with
      | inl q => exact Or.inl q
      | inr q => exact Or.inr ⟨q, PySem.W.cellsFrom_some _ _ _ (Or.inl q)⟩
    refine codeAny_call_function hr.depth (inK _ _ lk) rfl S.co S.gen rfl (PySem.W.codeRec_of inK hcd) (hbi _ _ _ _ ?_)
    refine wpAny_newFunctionEnv_cells S.kind kinds fun env he s1 x1 => ?_
    subst he
    refine ⟨lim.keeps x1.toInCall.keep, codeAny_func ?_⟩
    obtain ⟨t, ht, hq⟩ := hb cdv A outer s H vs Q E hg (hr.deeper _) hsp
    have I0 : Inv (cxOf CX0 P w K mg base N qual (defScope st) f cdv A outer s H E) [] (start N vs) H s1 := inv_start S hr.hd e0 hlen rv x1
    refine wpAny_mono (ht.nox.run [] s1 (start N vs) H _ I0 hq) (fun fl s' hs => ?_) fun e s' hs => hs
    match fl, hs with
    | .ret u, ⟨v, σ', H', J, r1, q1⟩ => exact ⟨v, H', J.os, J.bare, J.base, J.hok, r1, q1⟩
    | .next, ⟨σ', H', J, q1⟩ => exact ⟨V.non, H', J.os, J.bare, J.base, J.hok, rfl, q1⟩
    | .brk, ⟨_, _, _, q1⟩ => exact q1.elim
    | .cont, ⟨_, _, _, q1⟩ => exact q1.elim
end
/-- f(e, ..) where every parameter is given -/
def tKal (sp : Sp) (t : TA) : TE := fun σ H Q => t σ H fun vs H1 => sp vs H1 Q E0
/-- a def that may be called by its name -/
structure Kl (P : Program) (w : World) (K : PySem.W.Frag) (mg : Str → Option Value) (base : Heap) (k : Nat) (x : Str) (sp : Sp) : Prop where
  ex : ∃ (f : Addr) (fd : FuncData) (ps : List Str), FnOk P w K mg base CX0 k f fd ps sp ∧ mg x = some (.ref f) ∧ PySem.W.keepIn K (.ref f) = true ∧ Binds K fd ps []
structure Kg (P : Program) (w : World) (K : PySem.W.Frag) (mg : Str → Option Value) (base : Heap) (k : Nat) (x : Str) (sp : Sp) : Prop where
  ex : ∃ (f : Addr) (fd : FuncData) (ps : List Str), FnG P w K mg base k f fd ps sp ∧ mg x = some (.ref f) ∧ PySem.W.keepIn K (.ref f) = true ∧ Binds K fd ps []
section
variable {X : Cx} {j k : Nat} {f : Addr} {fd : FuncData} {ps : List Str} {sp : Sp} {x : Str} {p pos : Pos} {e : Expr} {es : List Expr} {t : TA}
theorem pe_k (c : Kl X.prog X.w X.K X.mg X.base k x sp) (hr : Room j X.A) (hk : k ≤ j) (hg : Gl X x) (ha : PA X (e :: es) t)
    (hdb : (x == ("__debug__" : Str)) = false := by decide) (he : starEach (e :: es) X.env = (false, eval e X.env) :: starEach es X.env := by rfl) (hpl : (backTo pos (starEach es X.env)).any (·.1) = false := by rfl) :
    PE X (.Call (.Name x p) (e :: es) [] pos) (tKal sp t) := by
  obtain ⟨f, fd, ps, F, hm, kp, b⟩ := c.ex
  have h := pe_call (sp := sp) (E := E0) (dvs := []) F (hr.mono hk) hg hm kp b .nil pass0 ha hdb he hpl (pos := pos) (p := p)
  constructor
  intro pins s σ H Q I q
  refine h.run pins s σ H Q I ?_
  have e2 : tCall sp [] E0 t = tKal sp t := by
    funext σ H Q
    show t σ H (fun vs H1 => sp (vs ++ []) H1 Q E0) = t σ H (fun vs H1 => sp vs H1 Q E0)
    congr 1
    funext vs H1
    rw [List.append_nil]
  rw [e2]
  exact q
end
/-! ### repr of plain data -/
mutual
/-- at most so many signs -/
def wt : PyData → Nat
  | .none | .bool _ => 5
  | .int _ => 1921
  | .str x => 10 * x.length + 2
  | .list xs | .tuple xs => wtAll xs + 3
  | .dict _ => 0
def wtAll : List PyData → Nat
  | [] => 0
  | x :: xs => wt x + 2 + wtAll xs
end
mutual
/-- data that can be shown: its ints below 1920 bits -/
def okD : PyData → Bool
  | .none | .bool _ => true
  | .int i => decide (i.natAbs.log2 < 1920)
  | .str x => x.cps.toList.all fun c => decide (c < 16 ^ 8)
  | .list xs | .tuple xs => okAll xs
  | .dict _ => false
def okAll : List PyData → Bool
  | [] => true
  | x :: xs => okD x && okAll xs
end
theorem one_br : (("[" : Str)).length = 1 := rfl
theorem one_br2 : (("]" : Str)).length = 1 := rfl
theorem one_pa : (("(" : Str)).length = 1 := rfl
theorem tup_wt (ts : List Str) : (tupleText ts).length ≤ piled ts + 3 := by
  have e3 : (((if ts.length == 1 then ",)" else ")" : String) : Str)).length ≤ 2 := by split <;> decide +kernel
  unfold tupleText
  rw [strLen_append, strLen_append, one_pa]
  cases ts with
  | nil =>
    have : (Str.join ", " []).length = 0 := by decide +kernel
    omega
  | cons x r =>
    have := join_length_add (x :: r) (List.cons_ne_nil _ _)
    omega
theorem sum_piled : ∀ ts : List Str, (ts.map (·.length)).sum + 2 * ts.length = piled ts
  | [] => rfl
  | t :: ts => by
    have ih := sum_piled ts
    rw [piled_cons, ← ih, List.map_cons, List.sum_cons, List.length_cons]
    omega
theorem lst_wt (ts : List Str) : (listText ts).length ≤ piled ts + 3 := by
  have h := textFrom_len_le ts 0 "["
  have h2 := sum_piled ts
  unfold listText
  rw [strLen_append, one_br2]
  rw [one_br] at h
  omega
mutual
theorem shown_wt : ∀ d : PyData, okD d = true → d.shown.length ≤ wt d ∧ d.showable = true ∧ d.hasDict = false
  | .none, _ => by
    refine ⟨?_, rfl, rfl⟩
    show (("None" : Str)).length ≤ 5
    decide +kernel
  | .bool b, _ => by
    refine ⟨?_, rfl, rfl⟩
    cases b <;> (show _ ≤ 5; decide +kernel)
  | .int i, h => by
    have h1 : i.natAbs.log2 < 1920 := of_decide_eq_true (by simpa only [okD] using h)
    refine ⟨?_, by simpa only [PyData.showable] using decide_eq_true h1, rfl⟩
    have e := int_text_length_le (k := 1920) (by decide) h1
    show (Str.ofString (toString i)).length ≤ 1921
    rw [PySem.ofString_length]
    exact e
  | .str x, h => by
    refine ⟨?_, rfl, rfl⟩
    have h1 : ∀ c ∈ x.cps.toList, c < 16 ^ 8 := fun c hc => of_decide_eq_true (List.all_eq_true.mp (by simpa only [okD] using h) c hc)
    exact StrLaws.reprText_len x h1
  | .list xs, h => by
    obtain ⟨h1, h2, h3⟩ := shown_wtAll xs (by simpa only [okD] using h)
    refine ⟨?_, by simpa only [PyData.showable] using h2, by simpa only [PyData.hasDict] using h3⟩
    simp only [PyData.shown, wt]
    exact Nat.le_trans (lst_wt _) (Nat.add_le_add_right h1 3)
  | .tuple xs, h => by
    obtain ⟨h1, h2, h3⟩ := shown_wtAll xs (by simpa only [okD] using h)
    refine ⟨?_, by simpa only [PyData.showable] using h2, by simpa only [PyData.hasDict] using h3⟩
    simp only [PyData.shown, wt]
    exact Nat.le_trans (tup_wt _) (Nat.add_le_add_right h1 3)
  | .dict _, h => by simp only [okD, Bool.false_eq_true] at h
theorem shown_wtAll : ∀ xs : List PyData, okAll xs = true → piled (PyData.shownAll xs) ≤ wtAll xs ∧ PyData.showableAll xs = true ∧ PyData.hasDictAll xs = false
  | [], _ => ⟨Nat.le_refl _, rfl, rfl⟩
  | x :: xs, h => by
    have h0 : (okD x && okAll xs) = true := by simpa only [okAll] using h
    rw [Bool.and_eq_true] at h0
    obtain ⟨a1, a2, a3⟩ := shown_wt x h0.1
    obtain ⟨b1, b2, b3⟩ := shown_wtAll xs h0.2
    refine ⟨?_, by simp only [PyData.showableAll, a2, b2, Bool.and_self], by simp only [PyData.hasDictAll, a3, b3, Bool.or_self]⟩
    simp only [PyData.shownAll, wtAll]
    rw [piled_cons]
    omega
end
/-- the text of data -/
def rRepr (K : PySem.W.Frag) : List V → Hp → VK → Prop := fun xs H Q => ∃ x d, xs = [x] ∧ Dp K H x d ∧ okD d = true ∧ d.depth ≤ 40 ∧ wt d ≤ 1000000 ∧ Q (.str d.shown) H
section
variable {X : Cx}
theorem call_reprD (hg : X.A.guards = some []) (hu : X.A.units + 64 < cLine) : CallR X (.builtin "repr") (rRepr X.K) := by
  intro pins s σ H xs us Q I r h
  obtain ⟨x, d, rfl, hd, h0, h3, hw, q⟩ := h
  obtain ⟨hz, h1, h2⟩ := shown_wt d h0
  have h4 : d.shown.length ≤ sizeLine := Nat.le_trans hz (Nat.le_trans hw (by decide))
  obtain ⟨u, rfl, hx⟩ := vals1 r
  obtain ⟨as, rd⟩ := Dp.reads I d x u hd hx
  cases hd with
  | non =>
    obtain rfl : u = Value.none := hx
    exact PySem.P.repr_of_none ⟨.str _, H, I.tok _, ⟨_, rfl⟩, q⟩
  | bl b =>
    obtain rfl : u = Value.bool b := hx
    exact PySem.P.repr_of_bool ⟨.str _, H, I.tok _, ⟨_, rfl⟩, q⟩
  | int i =>
    obtain ⟨t, rfl⟩ := hx
    exact PySem.P.repr_of_int (of_decide_eq_true h1) ⟨.str _, H, I.tok _, ⟨_, rfl⟩, q⟩
  | str z =>
    obtain ⟨t, rfl⟩ := hx
    exact PySem.P.repr_of_str ⟨.str _, H, I.tok _, ⟨_, rfl⟩, q⟩ h4
  | lst hs ha =>
    obtain rfl : u = Value.ref _ := hx
    refine repr_of_reads' rd h1 (PyData.noDict_hsm h2) hg (by omega) (fun _ _ z => z) (fun h' u tk hk => ?_) h4
    exact ⟨.str _, H, I.kept (t' := tk) hk, ⟨_, rfl⟩, q⟩
  | tup hs ha =>
    obtain rfl : u = Value.ref _ := hx
    refine repr_of_reads' rd h1 (PyData.noDict_hsm h2) hg (by omega) (fun _ _ z => z) (fun h' u tk hk => ?_) h4
    exact ⟨.str _, H, I.kept (t' := tk) hk, ⟨_, rfl⟩, q⟩
end
/-! ### the law's end -/
section
variable {P : Program} {w : World} {K : PySem.W.Frag} {mg mb : Str → Option Value} {k : Nat} {fa a : Addr} {fd : FuncData} {x : Str} {sp : Sp} {s1 : Shared} {vs : List Value} {ns : List Int}
/-- from a heap H in which at most the script is tracked -/
theorem law_from {H : Hp} (KX : K.In s1.heap) (hns : s1.heap.Ns mainGlobals mg) (hb : s1.heap.Ns builtinsNs mb) (hbb : ∀ x : Str, x ≠ "__name__" → mb x = bootBuiltins x) (hlim : s1.heap.NoLimit) (hg : s1.gens = #[])
    (ha : s1.heap.get? a = some { cls := .type "list", data := .seq vs.toArray }) (hr : Room k callerA) (F : ∀ base : Heap, K.In base → base.Ns mainGlobals mg → FnG P w K mg base k fa fd [x] sp)
    (hbind : ∀ (s : Shared) (u : Value), BindsTo s fd ⟨[u], []⟩ [(x, u)]) (hO : Only H) (hok : HOk P w H s1.heap) (hA : ∀ b, H b ≠ none → b = a) (hK : H a ≠ none → K.lookup a = none)
    (hsp : sp [.ref a] H (fun v _ => v = .bl true) fun _ _ _ => False) :
    codeAny (model P w) callerA (.call (.ref fa) ⟨[.ref a], []⟩) (fun r s' => r = .ok (.ret (.bool true)) ∧ OldK s1.heap s'.heap ∧ s'.os = s1.os ∧ AllBare s'.gens) s1 := by
  have untr : ∀ {b : Addr} {o : Obj} {es : Array DictEntry} {ep : Nat}, s1.heap.get? b = some o → o.data = .dict es ep → H b = none := by
    intro b o es ep e d
    cases q : H b with
    | none => rfl
    | some u =>
      obtain rfl : b = a := hA b (by rw [q]; exact Option.some_ne_none u)
      rw [ha] at e
      cases e
      exact absurd (show Data.seq vs.toArray _ = Data.dict es ep from d) (by intro z; cases z)
  have nsH : ∀ {b : Addr} {m : Str → Option Value}, s1.heap.Ns b m → (hidT s1.heap H).Ns b m := by
    rintro b m ⟨o, es, ep, e, d, r⟩
    exact ⟨o, es, ep, hidT_get e (untr e d), d, r⟩
  have inH : K.In (hidT s1.heap H) := by
    intro b o e
    refine hidT_get (KX b o e) ?_
    cases q : H b with
    | none => rfl
    | some u =>
      have hne : H b ≠ none := by rw [q]; exact Option.some_ne_none u
      obtain rfl : b = a := hA b hne
      rw [hK hne] at e
      cases e
  obtain ⟨mc, l1, l2⟩ := hlim
  have md : Mod K mg (hidT s1.heap H) := ⟨inH, nsH hns, ⟨mb, nsH hb, hbb⟩, ⟨mc, nsH l1, l2⟩⟩
  have e0 : Env0 P w K mg (hidT s1.heap H) callerA [] s1 H := by
    refine ⟨rfl, md, fun b o e => of_hidT e, Nat.le_of_eq (hidT_size _ _), trivial, ?_, hok, .of_eq hg⟩
    intro b hb
    cases (show b ∈ ([] : List Addr) from hb)
  have run := (F _ inH (nsH hns)).goes callerA [] s1 H ⟨[.ref a], []⟩ [.ref a] [.ref a] _ _ rfl hr e0 (hbind s1 (.ref a)) (.cons rfl .nil) hsp
  refine codeAny_mono run fun r s' h => ?_
  match r, h with
  | .error e, h => exact (show False from h).elim
  | .ok (.ret u), ⟨v, H', os, bare, un, hok', r', q⟩ =>
    obtain rfl : v = .bl true := q
    obtain rfl : u = Value.bool true := r'
    refine ⟨rfl, OldK.of_keep ?_, os, bare⟩
    intro b o e
    cases q : H b with
    | none => exact un.keep b o e q (fun z => by cases (show b ∈ ([] : List Addr) from z)) (fun z => by cases z)
    | some u =>
      rcases hO b with z | ⟨ob, xs, z⟩
      · rw [q] at z
        cases z
      · have k1 := (hok b _ z).1
        have k2 := (hok' b _ (un.frzs b ob _ z)).1
        rw [e] at k1
        cases k1
        exact k2
theorem law_g (KX : K.In s1.heap) (hns : s1.heap.Ns mainGlobals mg) (hb : s1.heap.Ns builtinsNs mb) (hbb : ∀ x : Str, x ≠ "__name__" → mb x = bootBuiltins x) (hlim : s1.heap.NoLimit) (hg : s1.gens = #[])
    (ha : s1.heap.get? a = some { cls := .type "list", data := .seq vs.toArray }) (hi : IntsAre vs ns) (hl : ns.length ≤ sizeLine) (hr : Room k callerA) (F : ∀ base : Heap, K.In base → base.Ns mainGlobals mg → FnG P w K mg base k fa fd [x] sp)
    (hbind : ∀ (s : Shared) (u : Value), BindsTo s fd ⟨[u], []⟩ [(x, u)]) (hsp : ∀ H : Hp, Only H → SqL K H a (ns.map V.int) → sp [.ref a] H (fun v _ => v = .bl true) fun _ _ _ => False) :
    codeAny (model P w) callerA (.call (.ref fa) ⟨[.ref a], []⟩) (fun r s' => r = .ok (.ret (.bool true)) ∧ OldK s1.heap s'.heap ∧ s'.os = s1.os ∧ AllBare s'.gens) s1 := by
  have rv := vals_ints hi
  have lv := hi.length
  cases hk : K.lookup a with
  | some o =>
    have e := KX a o hk
    rw [ha] at e
    cases e
    refine law_from (H := fun _ => none) KX hns hb hbb hlim hg ha hr F hbind (fun _ => Or.inl rfl) (fun b u z => ?_) (fun b z => absurd rfl z) (fun z => absurd rfl z) (hsp _ (fun _ => Or.inl rfl) (Or.inr ?_))
    · cases (show (none : Option HO) = some u from z)
    · exact ⟨_, vs.toArray, _, hk, rfl, rfl, rfl, by rw [List.size_toArray, lv]; exact hl, by simpa using rv⟩
  | none =>
    let ob : Obj := { cls := .type "list", data := .seq vs.toArray }
    have one : ∀ b, (if b = a then some (HO.frz ob (.lst (ns.map V.int))) else none) ≠ none → b = a := fun b z => by
      by_cases hb : b = a
      · exact hb
      · exact absurd (if_neg hb) z
    have only : Only (fun b => if b = a then some (HO.frz ob (.lst (ns.map V.int))) else none) := fun b => by
      by_cases hb : b = a
      · exact Or.inr ⟨_, _, if_pos hb⟩
      · exact Or.inl (if_neg hb)
    refine law_from (H := fun b => if b = a then some (HO.frz ob (.lst (ns.map V.int))) else none) KX hns hb hbb hlim hg ha hr F hbind only (fun b u z => ?_) one (fun _ => hk) (hsp _ only (Or.inl (Or.inr ⟨ob, if_pos rfl⟩)))
    by_cases hb : b = a
    · obtain rfl := Option.some.inj ((if_pos hb).symm.trans z)
      subst hb
      exact ⟨ha, by rw [List.length_map]; exact hl, vs, _, rv, ha⟩
    · cases (if_neg hb).symm.trans z
end
theorem walk_g {l : PySem.W.OpenLaw} {n k : Nat} {q : Program} {loose : List Str} {XP : (Str → Option Value) → Heap → Prop} {YP : World → Heap → Prop} {d : DefRec} {K : Params → PySem.W.Frag} {sp : PySem.W.Frag → Sp} {x : Str}
    (hn : l.most = some n) (hn2 : n ≤ sizeLine) (hdf : d.params.defaults = []) (hr : Room k callerA) (hY : ∀ (w : World) (h : Heap), YP w h → (K w.params).In h)
    (F : ∀ (w : World) (mg : Str → Option Value) (fa : Addr) (h : Heap), (K w.params).In h → h.Ns mainGlobals mg → mg d.name = some (.ref fa) → ∃ fd : FuncData, (∀ (s : Shared) (u : Value), BindsTo s fd ⟨[u], []⟩ [(x, u)]) ∧
        ∀ base : Heap, (K w.params).In base → base.Ns mainGlobals mg → FnG l.prog w (K w.params) mg base k fa fd [x] (sp (K w.params)))
    (hsp : ∀ (K : PySem.W.Frag) (H : Hp) (a : Addr) (ns : List Int), ns.length ≤ n → SqL K H a (ns.map V.int) → sp K [.ref a] H (fun v _ => v = .bl true) fun _ _ _ => False) :
    PySem.W.WalkO q loose XP YP l.row.toRowW d [] (fun f vs => PySem.call f vs) := by
  refine Att.attach_call hn hdf fun w s0 s1 mg mb fa o pm cd doc a vs ns G Y ho hd hcd hmg hobj hints hlen hg => ?_
  obtain ⟨fd, hb, hF⟩ := F w mg fa _ (hY w _ Y) G.T.g hmg
  exact law_g (hY w _ Y) G.T.g G.T.b G.T.builtins G.T.nolimit hg hobj hints (Nat.le_trans hlen hn2) hr hF hb fun H _ hS => hsp (K w.params) H a ns hlen hS
end Gd
set_option Elab.async false
set_option linter.all false
set_option maxRecDepth 100000
/-! Common words: sizes of ints, heaps that grow, defs of the text by their names. -/
namespace Gd
open PySem PySem.Spec PyProof.Rows L2
/-! ### sizes -/
def B (n : Nat) (x : Int) : Prop := x.natAbs < 2 ^ n
theorem B.up {m n : Nat} {x : Int} (h : B m x) (k : m ≤ n) : B n x := Nat.lt_of_lt_of_le h (Nat.pow_le_pow_right (by decide) k)
theorem B.add {m n : Nat} {x y : Int} (hx : B m x) (hy : B n y) : B (max m n + 1) (x + y) := by
  have h1 : x.natAbs < 2 ^ max m n := hx.up (Nat.le_max_left m n)
  have h2 : y.natAbs < 2 ^ max m n := hy.up (Nat.le_max_right m n)
  unfold B
  rw [Nat.pow_succ]
  omega
theorem B.neg {n : Nat} {x : Int} (hx : B n x) : B n (-x) := by
  unfold B at *
  omega
theorem B.sub {m n : Nat} {x y : Int} (hx : B m x) (hy : B n y) : B (max m n + 1) (x - y) := by
  rw [Int.sub_eq_add_neg]
  exact hx.add hy.neg
theorem B.mul {m n : Nat} {x y : Int} (hx : B m x) (hy : B n y) : B (m + n) (x * y) := wide_lt hx hy
theorem B.pow {m : Nat} {x : Int} (hx : B m x) : ∀ k : Nat, B (m * k + 1) (x ^ k)
  | 0 => by
    rw [Int.pow_zero]
    exact Nat.one_lt_two_pow (by omega)
  | k + 1 => by
    rw [Int.pow_succ]
    exact ((B.pow hx k).mul hx).up (by rw [Nat.mul_succ]; omega)
theorem B.lit {n : Nat} {x : Int} (h : x.natAbs < 2 ^ n) : B n x := h
theorem B.mulW {m n : Nat} {x y : Int} (hx : B m x) (hy : B n y) (h : m + n ≤ 900000) : CMulW x y :=
  wide_mul (hx.up (Nat.le_add_right m 1)) (hy.up (Nat.le_add_right n 1)) (by omega) (by omega) (by omega)
theorem B.mulR {n : Nat} {x y : Int} (hy : B n y) (h : n ≤ 64) : CMul x y := by
  have h1 := hy.up h
  unfold B at h1
  exact Or.inr ⟨by omega, by omega⟩
theorem B.log {n : Nat} {x : Int} (hx : B n x) (h : n ≤ 1900) : x.natAbs.log2 < 1920 := by
  have h1 : x.natAbs < 2 ^ 1901 := hx.up (by omega)
  exact PySem.Flt.log2_lt_of (by decide) (Nat.lt_of_lt_of_le h1 (Nat.pow_le_pow_right (by decide) (by decide)))
theorem B.between {n : Nat} {x : Int} (m : Int) (h0 : -m ≤ x) (h1 : x ≤ m) (h : m.natAbs < 2 ^ n) : B n x := by
  unfold B
  omega
theorem small {n : Nat} (h : n ≤ 1000) : n ≤ sizeLine := Nat.le_trans h (by decide)
/-! ### heaps -/
theorem Same.new {H : Hp} {p : Addr} {o : HO} (h : H p = none) : Same H (upd H p o) := fun b x e => by
  rw [upd_ne (ne_of_none e h)]
  exact e
theorem Same.put {H H1 : Hp} {p : Addr} {o : HO} (s : Same H H1) (h : H p = none) : Same H (upd H1 p o) := fun b x e => by
  rw [upd_ne (ne_of_none e h)]
  exact s b x e
theorem Same.rd {H H' : Hp} {a : Addr} {u : HO} (e : Same H H') (h : Rd H a u) : Rd H' a u := by
  rcases h with h | ⟨o, h⟩
  · exact Or.inl (e _ _ h)
  · exact Or.inr ⟨o, e _ _ h⟩
theorem Same.tup {K : PySem.W.Frag} {H H' : Hp} {a : Addr} {xs : List V} (e : Same H H') (h : SqT K H a xs) : SqT K H' a xs := by
  rcases h with h | h
  · exact Or.inl (Same.rd e h)
  · exact Or.inr h
theorem tup_of {K : PySem.W.Frag} {H : Hp} {a : Addr} {xs : List V} (h : H a = some (.tup xs)) : SqT K H a xs := Or.inl (Or.inl h)
theorem lst_of {K : PySem.W.Frag} {H : Hp} {a : Addr} {xs : List V} (h : H a = some (.lst xs)) : SqL K H a xs := Or.inl (Or.inl h)
/-- all but what stands at m is as it was -/
def But (m : Addr) (H H' : Hp) : Prop := ∀ b o, H b = some o → b ≠ m → H' b = some o
theorem But.refl (m : Addr) (H : Hp) : But m H H := fun _ _ e _ => e
theorem But.trans {m : Addr} {H H1 H2 : Hp} (a : But m H H1) (b : But m H1 H2) : But m H H2 := fun c o e n => b c o (a c o e n) n
theorem But.of {m : Addr} {H H' : Hp} (a : Same H H') : But m H H' := fun c o e _ => a c o e
theorem But.upd {m : Addr} {H : Hp} {o : HO} : But m H (upd H m o) := fun c x e n => by
  rw [upd_ne n]
  exact e
/-- the same where m was not known -/
theorem But.same {m : Addr} {H H1 H2 : Hp} (s : Same H H1) (b : But m H1 H2) (h : H m = none) : Same H H2 := fun c o e => b c o (s c o e) (ne_of_none e h)
/-- the slots said anew -/
theorem sig {nx : L2.St → Hp → Prop} {σ : L2.St} {H : Hp} (σ' : L2.St) (e : σ = σ') (h : nx σ' H) : nx σ H := e ▸ h
theorem sigN {nx : L2.St → Hp → Prop} {i : Nat} {v : V} {σ : L2.St} {H : Hp} (σ' : L2.St) (e : σ.set i (some v) = σ') (h : nx σ' H) : gName i v σ H nx := by
  subst e
  exact h
/-- a number of the module -/
theorem pe_kon {X : Cx} {x : Str} {pos : Pos} {v : V} (hg : Gl X x) (h : ∃ u, X.mg x = some u ∧ RelV v u) (hd : (x == ("__debug__" : Str)) = false := by decide) : PE X (.Name x pos) (tC v) := by
  obtain ⟨u, hm, r⟩ := h
  exact pe_glob hg hm r hd
/-- int(n) of a number -/
theorem call_intI {X : Cx} : CallR X (.type "int") (fun xs H Q => ∃ i, xs = [.int i] ∧ Q (.int i) H) := fun pins s σ H xs us Q I r h => call_int1 pins s σ H xs us Q I r (Or.inl h)
/-! ### the state of the draws: four entries -/
def mk4 (L s : Int) (c : Addr) (n : Int) : List (Key × V) := [(Sum.inr "left", .int L), (Sum.inr "seed", .int s), (Sum.inr "cells", .ref c), (Sum.inr "spot", .int n)]
theorem kn12 : ¬ (("left" : Str) = "seed") := by decide +kernel
theorem kn13 : ¬ (("left" : Str) = "cells") := by decide +kernel
theorem kn14 : ¬ (("left" : Str) = "spot") := by decide +kernel
theorem kn23 : ¬ (("seed" : Str) = "cells") := by decide +kernel
theorem kn24 : ¬ (("seed" : Str) = "spot") := by decide +kernel
theorem kn34 : ¬ (("cells" : Str) = "spot") := by decide +kernel
theorem kn21 : ¬ (("seed" : Str) = "left") := by decide +kernel
theorem kn31 : ¬ (("cells" : Str) = "left") := by decide +kernel
theorem kn41 : ¬ (("spot" : Str) = "left") := by decide +kernel
section
variable {L s n : Int} {c : Addr}
theorem m4_left : valV (mk4 L s c n) (Sum.inr "left") = some (.int L) := by simp [valV, mk4, List.find?_cons]
theorem m4_seed : valV (mk4 L s c n) (Sum.inr "seed") = some (.int s) := by simp [valV, mk4, List.find?_cons, kn12]
theorem m4_cells : valV (mk4 L s c n) (Sum.inr "cells") = some (.ref c) := by simp [valV, mk4, List.find?_cons, kn13, kn23]
theorem m4_spot : valV (mk4 L s c n) (Sum.inr "spot") = some (.int n) := by simp [valV, mk4, List.find?_cons, kn14, kn24, kn34]
theorem m4_putL (y : Int) : putK (mk4 L s c n) (Sum.inr "left") (.int y) = mk4 y s c n := by simp [putK, mk4, kn21, kn31, kn41]
theorem m4_merge : mergeK [] (mk4 L s c n) = mk4 L s c n := by simp [mergeK, putK, mk4, List.foldl, kn12, kn13, kn14, kn23, kn24, kn34]
theorem m4_putS (y : Int) : putK (mk4 L s c n) (Sum.inr "spot") (.int y) = mk4 L s c y := by simp [putK, mk4, kn14, kn24, kn34]
end
/-- the state stands at m, with at most n draws out of the cells behind it -/
def MAt (H : Hp) (m c : Addr) (n : Nat) : Prop := ∃ (L s : Int) (cs : List Int) (k : Nat), H m = some (.dK (mk4 L s c (k : Int))) ∧ k ≤ n ∧ H c = some (.lst (cs.map V.int)) ∧ 0 < cs.length
theorem MAt.up {H : Hp} {m cl : Addr} {n n' : Nat} (h : MAt H m cl n) (k : n ≤ n') : MAt H m cl n' := by
  obtain ⟨L, s, cs, j, h1, h2, h3, h4⟩ := h
  exact ⟨L, s, cs, j, h1, Nat.le_trans h2 k, h3, h4⟩
theorem MAt.same {H H' : Hp} {m cl : Addr} {n : Nat} (h : MAt H m cl n) (e : Same H H') : MAt H' m cl n := by
  obtain ⟨L, s, cs, j, h1, h2, h3, h4⟩ := h
  exact ⟨L, s, cs, j, e _ _ h1, h2, e _ _ h3, h4⟩
theorem MAt.some {H : Hp} {m cl : Addr} {n : Nat} (h : MAt H m cl n) : ∃ kvs, H m = some (.dK kvs) := by
  obtain ⟨L, s, cs, j, h1, _⟩ := h
  exact ⟨_, h1⟩
theorem MAt.ne {H : Hp} {m cl p : Addr} {n : Nat} (h : MAt H m cl n) (e : H p = none) : m ≠ p ∧ cl ≠ p := by
  obtain ⟨L, s, cs, j, h1, h2, h3, h4⟩ := h
  exact ⟨ne_of_none h1 e, ne_of_none h3 e⟩
theorem MAt.put {H : Hp} {m cl p : Addr} {n : Nat} {o : HO} (h : MAt H m cl n) (e : m ≠ p ∧ cl ≠ p) : MAt (upd H p o) m cl n := by
  obtain ⟨L, s, cs, j, h1, h2, h3, h4⟩ := h
  refine ⟨L, s, cs, j, ?_, h2, ?_, h4⟩
  · rw [upd_ne e.1]
    exact h1
  · rw [upd_ne e.2]
    exact h3
/-- what the draws leave: fresh stays fresh -/
theorem But.free {m p cl : Addr} {H H' : Hp} {n : Nat} (b : But m H H') (h : MAt H' m cl n) (e : H' p = none) : H p = none := by
  obtain ⟨kvs, hm⟩ := h.some
  cases q : H p with
  | none => rfl
  | some o =>
    by_cases hp : p = m
    · subst hp
      rw [hm] at e
      cases e
    · rw [b p o q hp] at e
      cases e
theorem But.tup {m p cl : Addr} {H H' : Hp} {n : Nat} {xs : List V} (b : But m H H') (h : MAt H m cl n) (e : H p = some (.tup xs)) : H' p = some (.tup xs) := by
  obtain ⟨kvs, hm⟩ := h.some
  exact b p _ e (ne_of e hm (by intro z; cases z))
theorem But.lst {m p cl : Addr} {H H' : Hp} {n : Nat} {xs : List V} (b : But m H H') (h : MAt H m cl n) (e : H p = some (.lst xs)) : H' p = some (.lst xs) := by
  obtain ⟨kvs, hm⟩ := h.some
  exact b p _ e (ne_of e hm (by intro z; cases z))
theorem But.seqL {K : PySem.W.Frag} {m p cl : Addr} {H H' : Hp} {n : Nat} {xs : List V} (b : But m H H') (h : MAt H m cl n) (e : SqL K H p xs) : SqL K H' p xs := by
  obtain ⟨kvs, hm⟩ := h.some
  rcases e with (e | ⟨o, e⟩) | e
  · exact Or.inl (Or.inl (b p _ e (ne_of e hm (by intro z; cases z))))
  · exact Or.inl (Or.inr ⟨o, b p _ e (ne_of e hm (by intro z; cases z))⟩)
  · exact Or.inr e
theorem But.seqT {K : PySem.W.Frag} {m p cl : Addr} {H H' : Hp} {n : Nat} {xs : List V} (b : But m H H') (h : MAt H m cl n) (e : SqT K H p xs) : SqT K H' p xs := by
  obtain ⟨kvs, hm⟩ := h.some
  rcases e with (e | ⟨o, e⟩) | e
  · exact Or.inl (Or.inl (b p _ e (ne_of e hm (by intro z; cases z))))
  · exact Or.inl (Or.inr ⟨o, b p _ e (ne_of e hm (by intro z; cases z))⟩)
  · exact Or.inr e
/-! ### tuples -/
theorem slA_any {K : PySem.W.Frag} {H : Hp} {Q : VK} {a : Addr} {xs : List V} {lo hi : Option Int} (ha : SqT K H a xs) (k : ∀ p H', Same H H' → SqT K H' p (cutV xs lo hi) → Q (.ref p) H') : rSlA K (.ref a) lo hi H Q := by
  refine ⟨a, xs, rfl, ha, fun e => ?_, fun _ p hp => k p _ (Same.new hp) (tup_of upd_same)⟩
  refine k a H (Same.refl H) ?_
  have e2 : cutV xs lo hi = xs := by
    unfold cutV
    rw [e.1, e.2, List.drop_zero, Nat.sub_zero, List.take_length]
  rw [e2]
  exact ha
/-! ### defs by their names -/
structure Df (K : PySem.W.Frag) (mg : Str → Option Value) (x : Str) (st : Stmt) (ps : List Str) : Prop where
  ex : ∃ (f : Addr) (fd : FuncData), Fun K x x st f fd ∧ mg x = some (.ref f) ∧ Binds K fd ps []
section
variable {P : Program} {w : World} {K : PySem.W.Frag} {mg : Str → Option Value} {base : Heap} {x : Str} {st : Stmt} {N ps : List Str} {k : Nat} {sp : Sp}
theorem Kl.by_body (D : Df K mg x st ps) (S : FnScope N ps (defScope st)) (len : ∀ vs H Q E, sp vs H Q E → vs.length = ps.length)
    (hb : ∀ (f : Addr) (cdv : Value) (A : Around) (outer : List Env) (s : Shared) (H : Hp) (vs : List V) (Q : VK) (E : XK), Room k (A.deeper (envOfC x (defScope st) s.heap.objs.size f cdv)) → sp vs H Q E →
      ∃ t, PSs (cxOf CX0 P w K mg base N x (defScope st) f cdv A outer s H E).nox (defBody st) t ∧ t { nx := fun _ H' => Q .non H', rt := Q } (start N vs) H) : Kl P w K mg base (k + 1) x sp := by
  obtain ⟨f, fd, F, hm, b⟩ := D.ex
  exact ⟨f, fd, ps, F.ok S len (hb f), hm, F.kp, b⟩
theorem Kg.by_body (D : Df K mg x st ps) (S : FnScope N ps (defScope st)) (len : ∀ vs H Q E, sp vs H Q E → vs.length = ps.length)
    (hb : ∀ (f : Addr) (cdv : Value) (A : Around) (outer : List Env) (s : Shared) (H : Hp) (vs : List V) (Q : VK) (E : XK), A.guards = some [] → Room k (A.deeper (envOfC x (defScope st) s.heap.objs.size f cdv)) → sp vs H Q E →
      ∃ t, PSs (cxOf CX0 P w K mg base N x (defScope st) f cdv A outer s H E).nox (defBody st) t ∧ t { nx := fun _ H' => Q .non H', rt := Q } (start N vs) H) : Kg P w K mg base (k + 1) x sp := by
  obtain ⟨f, fd, F, hm, b⟩ := D.ex
  exact ⟨f, fd, ps, FnG.by_body F S len (hb f), hm, F.kp, b⟩
theorem df_mk {h : Heap} {f : Addr} {oc : Value} {od an : Option Addr} {osl : Array (Option Value)} {kV doc pm cdv ct : Value} (X : K.In h) (G : h.Ns mainGlobals mg) (a : PySem.W.nsIn K mainGlobals x = some (some (.ref f)))
    (l : K.lookup f = some ⟨oc, od, .func (PySem.W.fnOf x x (defArgs st) (defBody st) (defScope st) .none kV doc pm an cdv ct), osl⟩) (c : PySem.W.codeIn K cdv x = true) (kp : PySem.W.keepIn K (.ref f) = true)
    (hb : ∀ (kV doc pm : Value) (an : Option Addr) (cdv ct : Value) (us : List Value), us.length = ps.length → bindArgs (PySem.W.fnOf x x (defArgs st) (defBody st) (defScope st) .none kV doc pm an cdv ct) ⟨us, []⟩ = pure (ps.zip us)) : Df K mg x st ps :=
  ⟨f, _, fun_mk l c kp, PySem.W.mg_of X G a, (fun_mk l c kp).binds hb⟩
theorem law_fd {h : Heap} {fa f : Addr} {j : Nat} {oc : Value} {od an : Option Addr} {osl : Array (Option Value)} {kV doc pm cdv ct : Value} (X : K.In h) (G : h.Ns mainGlobals mg) (hfa : mg "law" = some (.ref fa)) (a : PySem.W.nsIn K mainGlobals "law" = some (some (.ref f)))
    (l : K.lookup f = some ⟨oc, od, .func (PySem.W.fnOf "law" "law" (defArgs st) (defBody st) (defScope st) .none kV doc pm an cdv ct), osl⟩) (c : PySem.W.codeIn K cdv "law" = true) (kp : PySem.W.keepIn K (.ref f) = true)
    (hb : ∀ (kV doc pm : Value) (an : Option Addr) (cdv ct : Value) (us : List Value), us.length = 1 → bindArgs (PySem.W.fnOf "law" "law" (defArgs st) (defBody st) (defScope st) .none kV doc pm an cdv ct) ⟨us, []⟩ = pure ((["script"] : List Str).zip us))
    (go : ∀ fd, Fun K "law" "law" st fa fd → ∀ base : Heap, FnG P w K mg base j fa fd ["script"] sp) :
    ∃ fd : FuncData, (∀ (s : Shared) (u : Value), BindsTo s fd ⟨[u], []⟩ [("script", u)]) ∧ ∀ base : Heap, K.In base → base.Ns mainGlobals mg → FnG P w K mg base j fa fd ["script"] sp := by
  have e := hfa.symm.trans (PySem.W.mg_of X G a)
  cases e
  exact ⟨_, fun s u => .of_eq (hb kV doc pm an cdv ct [u] rfl), fun base _ _ => go _ (fun_mk l c kp) base⟩
end
end Gd
set_option linter.all false
/-! fractions: plain Lean -/
namespace QM
/-- n / d in lowest terms -/
def sg (n d : Int) : Int := if d < 0 then -((Nat.gcd n.natAbs d.natAbs : Nat) : Int) else ((Nat.gcd n.natAbs d.natAbs : Nat) : Int)
theorem sg_ne {n d : Int} (h : d ≠ 0) : sg n d ≠ 0 := by
  have hp : 0 < Nat.gcd n.natAbs d.natAbs := Nat.gcd_pos_of_pos_right _ (by omega)
  unfold sg
  split <;> omega
theorem fdiv_neg' (a b : Int) : (-a).fdiv (-b) = a.fdiv b := by
  exact Int.neg_fdiv_neg a b
theorem fr_num {n d : Int} (h : d ≠ 0) : n.fdiv (sg n d) = (Rat.divInt n d).num := by
  rw [Rat.num_divInt]
  unfold sg
  have g0 : ((Int.gcd d n : Nat) : Int) = ((Nat.gcd n.natAbs d.natAbs : Nat) : Int) := by rw [Int.gcd_comm]; rfl
  split
  · rename_i e
    rw [Int.sign_eq_neg_one_of_neg e, g0, Int.neg_mul, Int.one_mul]
    have e1 : n.fdiv (-((Nat.gcd n.natAbs d.natAbs : Nat) : Int)) = (-n).fdiv ((Nat.gcd n.natAbs d.natAbs : Nat) : Int) := by
      rw [← fdiv_neg' n, Int.neg_neg]
    rw [e1, Int.fdiv_eq_ediv_of_nonneg _ (by omega)]
  · rename_i e
    rw [Int.sign_eq_one_of_pos (by omega), g0, Int.one_mul, Int.fdiv_eq_ediv_of_nonneg _ (by omega)]
theorem fr_den {n d : Int} (h : d ≠ 0) : d.fdiv (sg n d) = ((Rat.divInt n d).den : Int) := by
  rw [Rat.den_divInt, if_neg h]
  have g0 : Int.gcd d n = Nat.gcd n.natAbs d.natAbs := by rw [Int.gcd_comm]; rfl
  rw [g0]
  unfold sg
  split
  · rename_i e
    have e1 : d.fdiv (-((Nat.gcd n.natAbs d.natAbs : Nat) : Int)) = (-d).fdiv ((Nat.gcd n.natAbs d.natAbs : Nat) : Int) := by
      rw [← fdiv_neg' d, Int.neg_neg]
    rw [e1, Int.fdiv_eq_ediv_of_nonneg _ (by omega), Int.natCast_ediv]
    congr 1
    omega
  · rename_i e
    rw [Int.fdiv_eq_ediv_of_nonneg _ (by omega), Int.natCast_ediv]
    congr 1
    omega
theorem den_ne (a : Rat) : (a.den : Int) ≠ 0 := by
  have := a.den_nz
  omega
theorem denR (a : Rat) : ((a.den : Int) : Rat) ≠ 0 := by
  intro h
  exact den_ne a (by exact_mod_cast h)
theorem as_div (a : Rat) : a = (a.num : Rat) / ((a.den : Int) : Rat) := by
  rw [← Rat.divInt_eq_div, Rat.num_divInt_den]
theorem fr_add (a b : Rat) : Rat.divInt (a.num * b.den + b.num * a.den) (a.den * b.den) = a + b := by
  have ha := denR a
  have hb := denR b
  have ea := as_div a
  have eb := as_div b
  rw [Rat.divInt_eq_div, Rat.intCast_add, Rat.intCast_mul, Rat.intCast_mul, Rat.intCast_mul]
  grind
theorem fr_mul (a b : Rat) : Rat.divInt (a.num * b.num) (a.den * b.den) = a * b := by
  have ha := denR a
  have hb := denR b
  have ea := as_div a
  have eb := as_div b
  rw [Rat.divInt_eq_div, Rat.intCast_mul, Rat.intCast_mul]
  grind
theorem num_ne {a : Rat} (h : a ≠ 0) : a.num ≠ 0 := fun e => h (Rat.num_eq_zero.mp e)
theorem mul_ne {a b : Int} (h : a ≠ 0) (k : b ≠ 0) : a * b ≠ 0 := Int.mul_ne_zero h k
/-! sizes -/
def RB (n : Nat) (q : Rat) : Prop := q.num.natAbs < 2 ^ n ∧ (q.den : Int).natAbs < 2 ^ n
theorem RB.up {m n : Nat} {q : Rat} (h : RB m q) (k : m ≤ n) : RB n q := ⟨Nat.lt_of_lt_of_le h.1 (Nat.pow_le_pow_right (by decide) k), Nat.lt_of_lt_of_le h.2 (Nat.pow_le_pow_right (by decide) k)⟩
theorem dv_le {x g : Int} (h : g ≠ 0) (d : g ∣ x) : (x.fdiv g).natAbs ≤ x.natAbs := by
  obtain ⟨k, rfl⟩ := d
  rw [Int.mul_fdiv_cancel_left k h, Int.natAbs_mul]
  have h1 : 1 ≤ g.natAbs := by omega
  have h2 : 1 * k.natAbs ≤ g.natAbs * k.natAbs := Nat.mul_le_mul_right _ h1
  omega
theorem sg_dvd (n d : Int) : sg n d ∣ n := by
  have h : ((Nat.gcd n.natAbs d.natAbs : Nat) : Int) ∣ n := Int.ofNat_dvd_left.mpr (Nat.gcd_dvd_left _ _)
  unfold sg
  split
  · exact Int.neg_dvd.mpr h
  · exact h
theorem sg_dvd2 (n d : Int) : sg n d ∣ d := by
  have h : ((Nat.gcd n.natAbs d.natAbs : Nat) : Int) ∣ d := Int.ofNat_dvd_left.mpr (Nat.gcd_dvd_right _ _)
  unfold sg
  split
  · exact Int.neg_dvd.mpr h
  · exact h
theorem RB.of {m : Nat} {n d : Int} (h : d ≠ 0) (hn : n.natAbs < 2 ^ m) (hd : d.natAbs < 2 ^ m) : RB m (Rat.divInt n d) := by
  unfold RB
  rw [← fr_num h, ← fr_den (n := n) h]
  exact ⟨Nat.lt_of_le_of_lt (dv_le (sg_ne h) (sg_dvd n d)) hn, Nat.lt_of_le_of_lt (dv_le (sg_ne h) (sg_dvd2 n d)) hd⟩
theorem pmul {m n a b : Nat} (ha : a < 2 ^ m) (hb : b < 2 ^ n) : a * b < 2 ^ (m + n) := by
  rw [Nat.pow_add]
  rcases Nat.eq_zero_or_pos b with h | h
  · subst h
    rw [Nat.mul_zero]
    exact Nat.mul_pos (Nat.two_pow_pos m) (Nat.two_pow_pos n)
  · exact Nat.mul_lt_mul_of_lt_of_le ha (Nat.le_of_lt hb) (Nat.two_pow_pos n)
theorem RB.add {m n : Nat} {a b : Rat} (ha : RB m a) (hb : RB n b) : RB (m + n + 1) (a + b) := by
  rw [← fr_add]
  have h1 := pmul ha.1 hb.2
  have h2 := pmul ha.2 hb.1
  have h3 := pmul ha.2 hb.2
  refine RB.of (mul_ne (den_ne a) (den_ne b)) ?_ ?_
  · rw [Nat.pow_succ]
    have h4 : (a.num * ↑b.den + b.num * ↑a.den).natAbs ≤ (a.num * ↑b.den).natAbs + (b.num * ↑a.den).natAbs := Int.natAbs_add_le _ _
    rw [Int.natAbs_mul, Int.natAbs_mul, Nat.mul_comm b.num.natAbs] at h4
    omega
  · rw [Nat.pow_succ, Int.natAbs_mul]
    omega
theorem RB.neg {m : Nat} {a : Rat} (ha : RB m a) : RB m (-a) := by
  unfold RB at *
  rw [Rat.neg_num, Rat.neg_den, Int.natAbs_neg]
  exact ha
theorem RB.sub {m n : Nat} {a b : Rat} (ha : RB m a) (hb : RB n b) : RB (m + n + 1) (a - b) := by
  rw [Rat.sub_eq_add_neg]
  exact ha.add hb.neg
theorem RB.mul {m n : Nat} {a b : Rat} (ha : RB m a) (hb : RB n b) : RB (m + n) (a * b) := by
  rw [← fr_mul]
  refine RB.of (mul_ne (den_ne a) (den_ne b)) ?_ ?_
  · rw [Int.natAbs_mul]
    exact pmul ha.1 hb.1
  · rw [Int.natAbs_mul]
    exact pmul ha.2 hb.2
theorem RB.int {m : Nat} {n : Int} (h : n.natAbs < 2 ^ m) (k : 1 ≤ m) : RB m (n : Rat) := by
  unfold RB
  rw [Rat.num_intCast, Rat.den_intCast]
  exact ⟨h, Nat.lt_of_lt_of_le (by decide : 1 < 2 ^ 1) (Nat.pow_le_pow_right (by decide) k)⟩
theorem RB.pow {m : Nat} {a : Rat} (ha : RB m a) : ∀ k : Nat, RB (m * k + 1) (a ^ k)
  | 0 => by
    rw [Rat.pow_zero]
    exact RB.int (n := 1) (by rw [Nat.mul_zero]; decide) (by omega)
  | k + 1 => by
    rw [Rat.pow_succ]
    exact (RB.mul (RB.pow ha k) ha).up (by rw [Nat.mul_succ]; omega)
/-! powers -/
theorem npow (a : Rat) (k : Nat) : (a ^ k).num = a.num ^ k := Rat.num_pow a k
theorem dpow (a : Rat) (k : Nat) : (a ^ k).den = a.den ^ k := Rat.den_pow a k
theorem le_npow (a : Nat) {k : Nat} (h : 1 ≤ k) : a ≤ a ^ k := by
  rcases Nat.eq_zero_or_pos a with e | e
  · omega
  · calc a = a ^ 1 := (Nat.pow_one a).symm
      _ ≤ a ^ k := Nat.pow_le_pow_right e h
theorem RB.root {m k : Nat} {a : Rat} (h : 1 ≤ k) (ha : RB m (a ^ k)) : RB m a := by
  unfold RB at *
  rw [npow, dpow, Int.natAbs_pow] at ha
  refine ⟨Nat.lt_of_le_of_lt (le_npow _ h) ha.1, ?_⟩
  have e : ((a.den ^ k : Nat) : Int).natAbs = a.den ^ k := Int.natAbs_natCast _
  rw [e] at ha
  rw [Int.natAbs_natCast]
  exact Nat.lt_of_le_of_lt (le_npow _ h) ha.2
theorem num_pos {a : Rat} (h : 0 < a) : 0 < a.num := by
  have h1 : 0 ≤ a.num := Rat.num_nonneg.mpr (Rat.le_of_lt h)
  have h2 : a.num ≠ 0 := num_ne (fun e => by rw [e] at h; exact absurd h (by decide))
  omega
end QM
set_option Elab.async false
set_option linter.all false
set_option maxRecDepth 100000
/-! fractions as pairs of ints; promises of the sums -/
namespace Gd
open PySem PySem.Spec PyProof.Rows L2 QM
/-- // by any divisor but 0, below 2 ^ 9000 -/
def CDivAny (_ j : Int) : Prop := j ≠ 0 ∧ j.natAbs.log2 < 9000
theorem op_fdivAny {X : Cx} : OpR X (binaryOp .FloorDiv) (rI CDivAny fun i j => .int (i.fdiv j)) := opI fun _ _ _ _ _ _ _ hc q => floordiv_int hc.1 q (.inl (PyProof.noPylong_of_log2 hc.2))
theorem B.log9 {n : Nat} {x : Int} (hx : B n x) (h : n ≤ 8900) : x.natAbs.log2 < 9000 := by
  have h1 : x.natAbs < 2 ^ 8901 := hx.up (by omega)
  exact PySem.Flt.log2_lt_of (by decide) (Nat.lt_of_lt_of_le h1 (Nat.pow_le_pow_right (by decide) (by decide)))
theorem div_any {m : Nat} {i j : Int} (h : j ≠ 0) (hb : B m j) (hm : m ≤ 8900) : CDivAny i j := ⟨h, hb.log9 hm⟩
theorem gcd_B {m : Nat} {n d : Int} (h : d ≠ 0) (hb : B m d) : B m ((Nat.gcd n.natAbs d.natAbs : Nat) : Int) := by
  unfold B at *
  have h1 : Nat.gcd n.natAbs d.natAbs ≤ d.natAbs := Nat.gcd_le_right _ (by omega)
  omega
theorem sg_B {m : Nat} {n d : Int} (h : d ≠ 0) (hb : B m d) : B m (sg n d) := by
  unfold sg
  split
  · exact (gcd_B h hb).neg
  · exact gcd_B h hb
/-- a fraction's pair -/
def fq (q : Rat) : List V := [.int q.num, .int (q.den : Int)]
theorem fq_div {n d : Int} (h : d ≠ 0) : [V.int (n.fdiv (sg n d)), V.int (d.fdiv (sg n d))] = fq (Rat.divInt n d) := by
  unfold fq
  rw [fr_num h, fr_den h]
theorem fq_int (n : Int) : fq (n : Rat) = [.int n, .int 1] := by
  unfold fq
  rw [Rat.num_intCast, Rat.den_intCast]
  rfl
def dq (q : Rat) : PyData := .tuple [.int q.num, .int (q.den : Int)]
theorem _root_.QM.RB.n {m : Nat} {q : Rat} (h : RB m q) : B m q.num := h.1
theorem _root_.QM.RB.d {m : Nat} {q : Rat} (h : RB m q) : B m (q.den : Int) := h.2
def spCut (K : PySem.W.Frag) : Sp := fun vs H Q _ => ∃ n d : Int, vs = [.int n, .int d] ∧ d ≠ 0 ∧ B 8200 n ∧ B 8200 d ∧ ∀ t, H t = none → Q (.ref t) (upd H t (.tup (fq (Rat.divInt n d))))
def spBin (ok : Rat → Rat → Prop) (op : Rat → Rat → Rat) (K : PySem.W.Frag) : Sp := fun vs H Q _ => ∃ (f g : Addr) (a b : Rat), vs = [.ref f, .ref g] ∧ SqT K H f (fq a) ∧ SqT K H g (fq b) ∧ RB 4000 a ∧ RB 4000 b ∧ ok a b ∧ ∀ t, H t = none → Q (.ref t) (upd H t (.tup (fq (op a b))))
/-- a list of fractions -/
def FrL (K : PySem.W.Frag) (H : Hp) (m : Nat) (ps : List (Addr × Rat)) : Prop := ∀ p ∈ ps, SqT K H p.1 (fq p.2) ∧ RB m p.2
def spSum (op : Rat → Rat → Rat) (e : Rat) (K : PySem.W.Frag) : Sp := fun vs H Q _ => ∃ (l : Addr) (ps : List (Addr × Rat)) (m : Nat), vs = [.ref l] ∧ SqL K H l (ps.map fun p => .ref p.1) ∧ FrL K H m ps ∧ ps.length * (m + 1) ≤ 3900 ∧ ∀ H' t, Same H H' → H t = none → H' t = some (.tup (fq (ps.foldl (fun x p => op x p.2) e))) → RB (ps.length * (m + 1) + 1) (ps.foldl (fun x p => op x p.2) e) → Q (.ref t) H'
/-- a list that is being made of the fractions of ints -/
def FrD (H : Hp) (D : Addr) (ns : List Int) (i : Nat) : Prop := ∃ L : List Addr, H D = some (.lst (L.map V.ref)) ∧ L.length = i ∧ ∀ (j : Nat) (p : Addr), L[j]? = some p → ∃ n : Int, ns[j]? = some n ∧ H p = some (.tup (fq (n : Rat)))
theorem FrD.new {H : Hp} {D : Addr} {ns : List Int} : FrD (upd H D (.lst [])) D ns 0 := ⟨[], upd_same, rfl, fun j p h => by simp at h⟩
theorem FrD.push {H : Hp} {D t : Addr} {ns : List Int} {i : Nat} {n : Int} (h : FrD H D ns i) (hi : ns[i]? = some n) (nt : H t = none) (hl : i < 1000) :
    ∃ acc, (upd H t (.tup (fq (n : Rat)))) D = some (.lst acc) ∧ acc.length < sizeLine ∧ FrD (upd (upd H t (.tup (fq (n : Rat)))) D (.lst (acc ++ [.ref t]))) D ns (i + 1) := by
  obtain ⟨L, h1, h2, h3⟩ := h
  have hDt : D ≠ t := ne_of_none h1 nt
  refine ⟨L.map V.ref, by rw [upd_ne hDt]; exact h1, by rw [List.length_map]; exact small1000 (by omega), L ++ [t], ?_, by rw [List.length_append, h2]; rfl, fun j p hj => ?_⟩
  · rw [upd_same, List.map_append]
    rfl
  · rcases Nat.lt_or_ge j L.length with z | z
    · rw [List.getElem?_append_left z] at hj
      obtain ⟨m, hm, hp⟩ := h3 j p hj
      refine ⟨m, hm, ?_⟩
      have hpD : p ≠ D := ne_of hp h1 (by intro z; cases z)
      rw [upd_ne hpD, upd_ne (ne_of_none hp nt)]
      exact hp
    · rw [List.getElem?_append_right z] at hj
      have e : j - L.length = 0 := by
        rcases Nat.eq_zero_or_pos (j - L.length) with q | q
        · exact q
        · rw [List.getElem?_eq_none (by simp; omega)] at hj
          cases hj
      rw [e] at hj
      obtain rfl := Option.some.inj hj
      have ej : j = i := by omega
      refine ⟨n, by rw [ej]; exact hi, ?_⟩
      rw [upd_ne (fun q => hDt q.symm), upd_same]
theorem FrD.five {H : Hp} {D : Addr} {a b c d e : Int} (h : FrD H D [a, b, c, d, e] 5) : ∃ p1 p2 p3 p4 p5, H D = some (.lst [.ref p1, .ref p2, .ref p3, .ref p4, .ref p5]) ∧ H p1 = some (.tup (fq (a : Rat))) ∧ H p2 = some (.tup (fq (b : Rat))) ∧ H p3 = some (.tup (fq (c : Rat))) ∧ H p4 = some (.tup (fq (d : Rat))) ∧ H p5 = some (.tup (fq (e : Rat))) := by
  obtain ⟨L, h1, h2, h3⟩ := h
  match L, h2 with
  | [p1, p2, p3, p4, p5], _ =>
    have g : ∀ (j : Nat) (p : Addr) (n : Int), [p1, p2, p3, p4, p5][j]? = some p → [a, b, c, d, e][j]? = some n → H p = some (.tup (fq (n : Rat))) := fun j p n x y => by
      obtain ⟨m, hm, hp⟩ := h3 j p x
      rw [y] at hm
      obtain rfl := Option.some.inj hm
      exact hp
    exact ⟨p1, p2, p3, p4, p5, h1, g 0 _ _ rfl rfl, g 1 _ _ rfl rfl, g 2 _ _ rfl rfl, g 3 _ _ rfl rfl, g 4 _ _ rfl rfl⟩
/-! what stands of fractions in the heap -/
def FrE (K : PySem.W.Frag) (H : Hp) (es : List (Addr × Rat × Nat)) : Prop := ∀ x ∈ es, SqT K H x.1 (fq x.2.1) ∧ RB x.2.2 x.2.1
section
variable {K : PySem.W.Frag} {H H' : Hp} {es : List (Addr × Rat × Nat)} {p r : Addr} {a b : Rat} {m n : Nat} {Q : VK} {Z : XK}
theorem FrE.nil : FrE K H [] := fun x h => by cases h
theorem FrE.same (h : FrE K H es) (s : Same H H') : FrE K H' es := fun x k => ⟨Same.tup s (h x k).1, (h x k).2⟩
theorem FrE.get (h : FrE K H es) (k : (p, a, m) ∈ es) : SqT K H p (fq a) := (h _ k).1
theorem FrE.rb (h : FrE K H es) (k : (p, a, m) ∈ es) : RB m a := (h _ k).2
theorem FrE.add (h : FrE K H es) (k : SqT K H p (fq a)) (b : RB m a) : FrE K H ((p, a, m) :: es) := fun x z => by
  rcases List.mem_cons.mp z with rfl | z
  · exact ⟨k, b⟩
  · exact h x z
theorem FrE.sub {fs : List (Addr × Rat × Nat)} (h : FrE K H es) (k : ∀ x ∈ fs, x ∈ es) : FrE K H fs := fun x z => h x (k x z)
theorem stepE (E : FrE K H es) {t : Addr} (n : H t = none) {c : Rat} {k : Nat} (hb : RB k c) : ∃ H', upd H t (.tup (fq c)) = H' ∧ Same H H' ∧ FrE K H' ((t, c, k) :: es) :=
  ⟨_, rfl, Same.new n, (E.same (Same.new n)).add (tup_of upd_same) hb⟩
theorem litE (E : FrE K H es) {t : Addr} (n : H t = none) {vs : List V} {c : Rat} {k : Nat} (e : vs = fq c) (hb : RB k c) : ∃ H', upd H t (.tup vs) = H' ∧ Same H H' ∧ FrE K H' ((t, c, k) :: es) := by
  subst e
  exact stepE E n hb
theorem FrL.nil {M : Nat} : FrL K H M [] := fun x h => by cases h
theorem FrL.cons {M : Nat} {ps : List (Addr × Rat)} (E : FrE K H es) (k : (p, a, m) ∈ es) (hm : m ≤ M) (h : FrL K H M ps) : FrL K H M ((p, a) :: ps) := fun x z => by
  rcases List.mem_cons.mp z with rfl | z
  · exact ⟨E.get k, (E.rb k).up hm⟩
  · exact h x z
end
mutual
theorem dp_same {K : PySem.W.Frag} {H H' : Hp} (s : Same H H') : ∀ (d : PyData) (v : V), Dp K H v d → Dp K H' v d
  | .none, _, h => by
    cases h
    exact .non
  | .bool _, _, h => by
    cases h
    exact .bl _
  | .int _, _, h => by
    cases h
    exact .int _
  | .str _, _, h => by
    cases h
    exact .str _
  | .list ds, _, h => by
    cases h with
    | lst h1 h2 => exact .lst (s.seq h1) (dp_sameAll s ds _ h2)
  | .tuple ds, _, h => by
    cases h with
    | tup h1 h2 => exact .tup (Same.tup s h1) (dp_sameAll s ds _ h2)
  | .dict _, _, h => by cases h
theorem dp_sameAll {K : PySem.W.Frag} {H H' : Hp} (s : Same H H') : ∀ (ds : List PyData) (vs : List V), DpAll K H vs ds → DpAll K H' vs ds
  | [], _, h => by
    cases h
    exact .nil
  | d :: ds, _, h => by
    cases h with
    | cons h1 h2 => exact .cons (dp_same s d _ h1) (dp_sameAll s ds _ h2)
end
/-- a list's cell is no tuple's -/
theorem tup_put {K : PySem.W.Frag} {H : Hp} {D p : Addr} {L xs : List V} {o : HO} (hD : H D = some (.lst L)) (e : SqT K H p xs) : SqT K (upd H D o) p xs := by
  rcases e with (e | ⟨z, e⟩) | e
  · refine Or.inl (Or.inl ?_)
    rw [upd_ne (ne_of e hD (by intro z; cases z))]
    exact e
  · refine Or.inl (Or.inr ⟨z, ?_⟩)
    rw [upd_ne (ne_of e hD (by intro z; cases z))]
    exact e
  · exact Or.inr e
mutual
def noL : PyData → Bool
  | .list _ => false
  | .tuple ds => noLAll ds
  | .dict _ => false
  | _ => true
def noLAll : List PyData → Bool
  | [] => true
  | d :: ds => noL d && noLAll ds
end
mutual
theorem dp_put {K : PySem.W.Frag} {H : Hp} {D : Addr} {L : List V} {o : HO} (hD : H D = some (.lst L)) : ∀ (d : PyData) (v : V), noL d = true → Dp K H v d → Dp K (upd H D o) v d
  | .none, _, _, h => by
    cases h
    exact .non
  | .bool _, _, _, h => by
    cases h
    exact .bl _
  | .int _, _, _, h => by
    cases h
    exact .int _
  | .str _, _, _, h => by
    cases h
    exact .str _
  | .list ds, _, n, h => by
    rw [noL] at n
    cases n
  | .tuple ds, _, n, h => by
    rw [noL] at n
    cases h with
    | tup h1 h2 => exact .tup (tup_put hD h1) (dp_putAll hD ds _ n h2)
  | .dict _, _, _, h => by cases h
theorem dp_putAll {K : PySem.W.Frag} {H : Hp} {D : Addr} {L : List V} {o : HO} (hD : H D = some (.lst L)) : ∀ (ds : List PyData) (vs : List V), noLAll ds = true → DpAll K H vs ds → DpAll K (upd H D o) vs ds
  | [], _, _, h => by
    cases h
    exact .nil
  | d :: ds, _, n, h => by
    rw [noLAll, Bool.and_eq_true] at n
    cases h with
    | cons h1 h2 => exact .cons (dp_put hD d _ n.1 h1) (dp_putAll hD ds _ n.2 h2)
end
end Gd
set_option linter.all false
/-! roots: plain Lean -/
namespace QM
theorem ipow_le {a b : Int} (ha : 0 ≤ a) (h : a ≤ b) (k : Nat) : a ^ k ≤ b ^ k := by
  have h1 : a.natAbs ^ k ≤ b.natAbs ^ k := Nat.pow_le_pow_left (by omega) k
  rw [← Int.natAbs_pow, ← Int.natAbs_pow] at h1
  have h2 : 0 ≤ a ^ k := Int.pow_nonneg ha
  have h3 : 0 ≤ b ^ k := Int.pow_nonneg (by omega)
  omega
theorem pow_inj {a b k : Nat} (h : k ≠ 0) (e : a ^ k = b ^ k) : a = b := by
  rcases Nat.lt_trichotomy a b with x | x | x
  · have := Nat.pow_lt_pow_left x h
    omega
  · exact x
  · have := Nat.pow_lt_pow_left x h
    omega
theorem ipow_inj {a b : Int} {k : Nat} (h : k ≠ 0) (ha : 0 ≤ a) (hb : 0 ≤ b) (e : a ^ k = b ^ k) : a = b := by
  have h1 : a.natAbs ^ k = b.natAbs ^ k := by rw [← Int.natAbs_pow, ← Int.natAbs_pow, e]
  have := pow_inj h h1
  omega
theorem qpow_inj {a b : Rat} {k : Nat} (h : k ≠ 0) (ha : 0 < a) (hb : 0 < b) (e : a ^ k = b ^ k) : a = b := by
  have h1 := num_pos ha
  have h2 := num_pos hb
  have e1 : a.num ^ k = b.num ^ k := by rw [← npow, ← npow, e]
  have e2 : a.den ^ k = b.den ^ k := by rw [← dpow, ← dpow, e]
  exact Rat.ext (ipow_inj h (by omega) (by omega) e1) (pow_inj h e2)
/-- Newton's step -/
theorem mono {r s : Int} (hr : 0 ≤ r) (hs : 0 ≤ s) (k : Nat) : r * s ^ k + s * r ^ k ≤ r * r ^ k + s * s ^ k := by
  have key : 0 ≤ (r ^ k - s ^ k) * (r - s) := by
    rcases Int.le_total r s with h | h
    · have h1 : r ^ k ≤ s ^ k := ipow_le hr h k
      have := Int.mul_nonneg (show 0 ≤ s ^ k - r ^ k by omega) (show 0 ≤ s - r by omega)
      grind
    · have h1 : s ^ k ≤ r ^ k := ipow_le hs h k
      exact Int.mul_nonneg (by omega) (by omega)
  grind
theorem amgm {r s : Int} (hr : 0 ≤ r) (hs : 0 ≤ s) : ∀ k : Nat, ((k : Int) + 1) * s * r ^ k ≤ (k : Int) * (r * r ^ k) + s * s ^ k
  | 0 => by simp
  | k + 1 => by
    have h1 := amgm hr hs k
    have h2 := mono hr hs (k + 1)
    have h3 := Int.mul_le_mul_of_nonneg_left h1 hr
    rw [Int.pow_succ, Int.pow_succ] at *
    push_cast
    grind
theorem newton_ge {n r s : Int} {k : Nat} (hr : 1 ≤ r) (hs : 0 ≤ s) (h : s ^ (k + 1) ≤ n) : s ≤ ((k : Int) * r + n.fdiv (r ^ k)).fdiv ((k : Int) + 1) := by
  have hp : 0 < r ^ k := Int.pow_pos (by omega)
  have h1 := amgm (show 0 ≤ r by omega) hs k
  rw [Int.pow_succ] at h
  rw [Int.fdiv_eq_ediv_of_nonneg _ (Int.le_of_lt hp), Int.fdiv_eq_ediv_of_nonneg _ (by omega)]
  rw [Int.le_ediv_iff_mul_le (by omega)]
  have h2 : ((k : Int) + 1) * s - k * r ≤ n / r ^ k := by
    rw [Int.le_ediv_iff_mul_le hp]
    grind
  grind
theorem newton_le {n r : Int} {k : Nat} (hr : 1 ≤ r) (h : r ≤ ((k : Int) * r + n.fdiv (r ^ k)).fdiv ((k : Int) + 1)) : r ^ (k + 1) ≤ n := by
  have hp : 0 < r ^ k := Int.pow_pos (by omega)
  rw [Int.fdiv_eq_ediv_of_nonneg _ (Int.le_of_lt hp), Int.fdiv_eq_ediv_of_nonneg _ (by omega)] at h
  rw [Int.le_ediv_iff_mul_le (by omega)] at h
  have h2 : r ≤ n / r ^ k := by grind
  rw [Int.le_ediv_iff_mul_le hp] at h2
  rw [Int.pow_succ]
  grind
theorem start_ge {n s : Int} {k b : Nat} (hs : 0 ≤ s) (hb : n.natAbs < 2 ^ b) (hk : 0 < k) (h : s ^ k ≤ n) : s ≤ 1 * 2 ^ (b / k + 1) := by
  rw [Int.one_mul]
  rcases Int.le_total s (2 ^ (b / k + 1)) with z | z
  · exact z
  · exfalso
    have h1 : ((2 : Int) ^ (b / k + 1)) ^ k ≤ s ^ k := ipow_le (Int.le_of_lt (Int.pow_pos (by decide))) z k
    rw [← Int.pow_mul] at h1
    have h2 : b ≤ (b / k + 1) * k := by
      have := Nat.lt_div_mul_add (a := b) hk
      rw [Nat.add_mul, Nat.one_mul]
      omega
    have h3 : (2 : Nat) ^ b ≤ 2 ^ ((b / k + 1) * k) := Nat.pow_le_pow_right (by decide) h2
    have h4 : ((2 ^ b : Nat) : Int) ≤ ((2 ^ ((b / k + 1) * k) : Nat) : Int) := Int.ofNat_le.mpr h3
    rw [Int.natCast_pow, Int.natCast_pow] at h4
    have h5 : ((n.natAbs : Nat) : Int) < ((2 ^ b : Nat) : Int) := Int.ofNat_lt.mpr hb
    rw [Int.natCast_pow] at h5
    have e2 : ((2 : Nat) : Int) = 2 := rfl
    rw [e2] at h4 h5
    omega
theorem small_root {n s : Int} {k : Nat} (hs : 0 ≤ s) (hk : 1 ≤ k) (h : s ^ k ≤ n) : s ≤ n := by
  have h1 := le_npow s.natAbs hk
  have h2 : (s ^ k).natAbs = s.natAbs ^ k := Int.natAbs_pow s k
  have h3 : 0 ≤ s ^ k := Int.pow_nonneg hs
  omega
theorem pow01 {n : Int} (h0 : 0 ≤ n) (h2 : n < 2) {k : Nat} (hk : 1 ≤ k) : n ^ k ≤ n := by
  obtain ⟨j, rfl⟩ : ∃ j, k = j + 1 := ⟨k - 1, by omega⟩
  have e : n = 0 ∨ n = 1 := by omega
  rcases e with rfl | rfl
  · rw [Int.pow_succ, Int.mul_zero]
    exact Int.le_refl _
  · rw [Int.one_pow]
    exact Int.le_refl _
/-- the scale between two pairs -/
def U (c4 c6 e4 e6 : Int) (u : Rat) : Prop := 0 < u ∧ u ^ 4 * (e4 : Rat) = (c4 : Rat) ∧ u ^ 6 * (e6 : Rat) = (c6 : Rat)
theorem cz {a : Int} : (a : Rat) = 0 ↔ a = 0 := by
  constructor
  · intro h
    exact_mod_cast h
  · rintro rfl
    rfl
theorem pp {u : Rat} (h : 0 < u) (k : Nat) : u ^ k ≠ 0 := fun e => by
  have h1 := Rat.pow_pos (n := k) h
  rw [e] at h1
  exact absurd h1 (by decide)
theorem U.z4 {c4 c6 e4 e6 : Int} {u : Rat} (h : U c4 c6 e4 e6 u) : c4 = 0 ↔ e4 = 0 := by
  obtain ⟨h0, h1, h2⟩ := h
  have := pp h0 4
  rw [← cz, ← cz (a := e4), ← h1]
  grind
theorem U.z6 {c4 c6 e4 e6 : Int} {u : Rat} (h : U c4 c6 e4 e6 u) : c6 = 0 ↔ e6 = 0 := by
  obtain ⟨h0, h1, h2⟩ := h
  have := pp h0 6
  rw [← cz, ← cz (a := e6), ← h2]
  grind
theorem U.uniq {c4 c6 e4 e6 : Int} {u v : Rat} (z : e4 ≠ 0 ∨ e6 ≠ 0) (h : U c4 c6 e4 e6 u) (k : U c4 c6 e4 e6 v) : u = v := by
  obtain ⟨h0, h1, h2⟩ := h
  obtain ⟨k0, k1, k2⟩ := k
  rcases z with z | z
  · have z' : (e4 : Rat) ≠ 0 := fun e => z (cz.mp e)
    exact qpow_inj (k := 4) (by decide) h0 k0 (by grind)
  · have z' : (e6 : Rat) ≠ 0 := fun e => z (cz.mp e)
    exact qpow_inj (k := 6) (by decide) h0 k0 (by grind)
theorem U.p4 {c4 c6 e4 e6 : Int} {u : Rat} (z : e4 ≠ 0) (h : U c4 c6 e4 e6 u) : u ^ 4 = Rat.divInt c4 e4 := by
  obtain ⟨h0, h1, h2⟩ := h
  have z' : (e4 : Rat) ≠ 0 := fun e => z (cz.mp e)
  rw [Rat.divInt_eq_div]
  grind
theorem U.p6 {c4 c6 e4 e6 : Int} {u : Rat} (z : e6 ≠ 0) (h : U c4 c6 e4 e6 u) : u ^ 6 = Rat.divInt c6 e6 := by
  obtain ⟨h0, h1, h2⟩ := h
  have z' : (e6 : Rat) ≠ 0 := fun e => z (cz.mp e)
  rw [Rat.divInt_eq_div]
  grind
theorem U.p2 {c4 c6 e4 e6 : Int} {u : Rat} (z4 : c4 ≠ 0) (z6 : e6 ≠ 0) (h : U c4 c6 e4 e6 u) : u ^ 2 = Rat.divInt (c6 * e4) (e6 * c4) := by
  obtain ⟨h0, h1, h2⟩ := h
  have z6' : (e6 : Rat) ≠ 0 := fun e => z6 (cz.mp e)
  have z4' : (c4 : Rat) ≠ 0 := fun e => z4 (cz.mp e)
  have := pp h0 4
  rw [Rat.divInt_eq_div, Rat.intCast_mul, Rat.intCast_mul]
  have e : (c6 : Rat) * e4 = u ^ 2 * (e6 * c4) := by
    rw [← h1, ← h2]
    grind
  grind
theorem qpos {u : Rat} (h : 0 < u) (k : Nat) : 0 < u ^ k := Rat.pow_pos h
theorem U.pos6 {c4 c6 e4 e6 : Int} {u : Rat} (z : e6 ≠ 0) (h : U c4 c6 e4 e6 u) : 0 < (Rat.divInt c6 e6).num := by
  rw [← U.p6 z h]
  exact num_pos (qpos h.1 6)
theorem U.pos4 {c4 c6 e4 e6 : Int} {u : Rat} (z : e4 ≠ 0) (h : U c4 c6 e4 e6 u) : 0 < c4 * e4 := by
  have h1 : 0 < (Rat.divInt c4 e4).num := by
    rw [← U.p4 z h]
    exact num_pos (qpos h.1 4)
  rw [Rat.num_divInt] at h1
  have h2 : 0 < e4.sign * c4 := by
    have hg : (0 : Int) < ((Int.gcd e4 c4 : Nat) : Int) := by
      have := Int.gcd_pos_of_ne_zero_left c4 z
      omega
    have h3 := (Int.le_ediv_iff_mul_le (a := 1) (b := e4.sign * c4) hg).mp (by omega)
    omega
  rcases Int.lt_trichotomy e4 0 with y | y | y
  · rw [Int.sign_eq_neg_one_of_neg y] at h2
    exact Int.mul_pos_of_neg_of_neg (by omega) y
  · exact absurd y z
  · rw [Int.sign_eq_one_of_pos y] at h2
    exact Int.mul_pos (by omega) y
end QM
set_option Elab.async false
set_option linter.all false
set_option maxRecDepth 100000
namespace L2
open PySem PySem.Spec PyProof.Rows
section
variable {X : Cx}
def rIsqrt : List V → Hp → VK → Prop := fun vs H Q => ∃ a : Int, vs = [.int a] ∧ 0 ≤ a ∧ a.natAbs < 2 ^ 4000 ∧ Q (.int ((Float64.isqrt a.toNat : Nat) : Int)) H
theorem isq_int1 {i : Int} {us : List Value} (r : Vals [V.int i] us) : ∃ t, us = [Value.int i t] := by
  obtain ⟨t, u, h⟩ := Vals.int2 (i := i) (j := i) (us := us ++ us) (by
    cases r with
    | cons a b => cases b; exact .cons a (.cons a .nil))
  match us, h with
  | [_], h => exact ⟨t, by simp at h; rw [h.1]⟩
  | [], h => simp at h
  | _ :: _ :: _, h => simp at h
theorem cr_isqrt : CallR X (.builtin "math.isqrt") rIsqrt := by
  intro pins s σ H vs us Q I r h
  obtain ⟨a, rfl, h0, h1, q⟩ := h
  obtain ⟨t, rfl⟩ := isq_int1 r
  have hl : a.toNat.log2 ≤ 3999 := PySem.W.mg_log (k := 3999) (by rw [show a.toNat = a.natAbs by omega]; exact h1)
  exact call_function_meets PySem.W.MGF.kind_isqrt PySem.W.MGF.plain_isqrt PySem.W.MGF.entry_isqrt (PySem.W.MGF.args_isqrt _) (PySem.W.mg_run_isqrt a t (by omega) (by omega) (by omega)).meets ⟨.int _, H, I.tok _, ⟨_, rfl⟩, q⟩
end
end L2
namespace QM
/-- the whole root of a number -/
theorem isqrt_is {n : Int} (h : 0 ≤ n) : ((PySem.Float64.isqrt n.toNat : Nat) : Int) * ((PySem.Float64.isqrt n.toNat : Nat) : Int) ≤ n ∧ ∀ s : Int, 0 ≤ s → s * s ≤ n → s ≤ ((PySem.Float64.isqrt n.toNat : Nat) : Int) := by
  obtain ⟨a, b⟩ := PySem.Float64.isqrt_spec n.toNat
  generalize PySem.Float64.isqrt n.toNat = q at a b
  have e : ((n.toNat : Nat) : Int) = n := Int.toNat_of_nonneg h
  have a' : (q : Int) * q ≤ n := by rw [← e]; exact_mod_cast a
  have b' : n < ((q : Int) + 1) * (q + 1) := by rw [← e]; exact_mod_cast b
  refine ⟨a', fun s hs h1 => ?_⟩
  rcases (show (q : Int) < s ∨ s ≤ q by omega) with z | z
  · exfalso
    have := Int.mul_le_mul (show (q : Int) + 1 ≤ s by omega) (show (q : Int) + 1 ≤ s by omega) (by omega) hs
    omega
  · exact z
end QM
set_option Elab.async false
set_option linter.all false
set_option maxRecDepth 100000
set_option maxHeartbeats 4000000
namespace K15
open PySem PySem.Spec PyProof.Rows L2 Gd QM
def topS (i : Nat) : Stmt := PySem.Challenge.pw_pointsum_k15_whole_falls_of_alike_curves.main.body.getD i (.Pass ⟨0, 0, 0, 0⟩)
/-- what the walk asks of the module's names -/
structure Tx (K : PySem.W.Frag) (mg : Str → Option Value) : Prop where
  gcd : mg "gcd" = some (.builtin "math.gcd")
  isqrt : mg "isqrt" = some (.builtin "math.isqrt")
  int : mg "int" = none
  len : mg "len" = none
  tuple : mg "tuple" = none
  sorted : mg "sorted" = none
  min : mg "min" = none
  abs : mg "abs" = none
  range : mg "range" = none
  enumerate : mg "enumerate" = none
  repr : mg "repr" = none
  list : mg "list" = none
  reversed : mg "reversed" = none
  sum : mg "sum" = none
  c_TRIED_modpoly : ∃ u, mg "TRIED_modpoly" = some u ∧ RelV (.int 500) u
  c_TRIED_shortening : ∃ u, mg "TRIED_shortening" = some u ∧ RelV (.int 10000) u
  c_REDUCED_B2 : ∃ a, (∃ u, mg "REDUCED_B2" = some u ∧ RelV (.ref a) u) ∧ ∀ H, SqT K H a [.int 0, .int 1, .int 4, .int 5, .int (-4), .int (-3)]
theorem iteN {c A B : Prop} [Decidable c] (h : ¬ c) (b : B) : if c then A else B := by
  rw [if_neg h]
  exact b
theorem iteY {c A B : Prop} [Decidable c] (h : c) (b : A) : if c then A else B := by
  rw [if_pos h]
  exact b
/-- the five numbers of a curve -/
structure Cv where
  a1 : Int
  a2 : Int
  a3 : Int
  a4 : Int
  a6 : Int
namespace Cv
variable (c : Cv)
def tup : List V := [.int c.a1, .int c.a2, .int c.a3, .int c.a4, .int c.a6]
def b2 : Int := c.a1 * c.a1 + 4 * c.a2
def b4 : Int := 2 * c.a4 + c.a1 * c.a3
def b6 : Int := c.a3 * c.a3 + 4 * c.a6
def b8 : Int := c.a1 * c.a1 * c.a6 + 4 * c.a2 * c.a6 - c.a1 * c.a3 * c.a4 + c.a2 * c.a3 * c.a3 - c.a4 * c.a4
def c4 : Int := c.b2 * c.b2 - 24 * c.b4
def c6 : Int := 36 * c.b2 * c.b4 - c.b2 * c.b2 * c.b2 - 216 * c.b6
def disc : Int := 9 * c.b2 * c.b4 * c.b6 - c.b2 * c.b2 * c.b8 - 8 * c.b4 * c.b4 * c.b4 - 27 * c.b6 * c.b6
def nums : List V := [.int c.b2, .int c.b4, .int c.b6, .int c.b8, .int c.c4, .int c.c6, .int c.disc]
/-- a drawn curve -/
structure Sm : Prop where
  h1 : B 10 c.a1
  h2 : B 10 c.a2
  h3 : B 10 c.a3
  h4 : B 30 c.a4
  h6 : B 30 c.a6
/-- a curve that is tried -/
structure Md : Prop where
  h1 : B 12 c.a1
  h2 : B 12 c.a2
  h3 : B 12 c.a3
  h4 : B 60 c.a4
  h6 : B 110 c.a6
end Cv
local macro_rules | `(tactic| walk_at "bd") => `(tactic| (repeat (first | assumption | apply B.add | apply B.sub | apply B.mul | apply B.neg | exact B.lit (n := 8) (by decide))))
local macro_rules | `(tactic| walk_at "bu") => `(tactic| (apply B.up; walk_at "bd"; decide))
local macro_rules | `(tactic| walk_at "bnd") => `(tactic| (apply B.mulW; walk_at "bd"; decide))
theorem Cv.Sm.md {c : Cv} (h : c.Sm) : c.Md := ⟨h.h1.up (by decide), h.h2.up (by decide), h.h3.up (by decide), h.h4.up (by decide), h.h6.up (by decide)⟩
theorem Cv.Md.b2 {c : Cv} (h : c.Md) : B 25 c.b2 := by
  obtain ⟨h1, h2, h3, h4, h6⟩ := h
  unfold Cv.b2
  walk_at "bu"
theorem Cv.Md.b4 {c : Cv} (h : c.Md) : B 62 c.b4 := by
  obtain ⟨h1, h2, h3, h4, h6⟩ := h
  have e := h1.mul h3
  unfold Cv.b4
  unfold B at *
  omega
theorem Cv.Md.b6 {c : Cv} (h : c.Md) : B 119 c.b6 := by
  obtain ⟨h1, h2, h3, h4, h6⟩ := h
  unfold Cv.b6
  walk_at "bu"
theorem Cv.Md.b8 {c : Cv} (h : c.Md) : B 140 c.b8 := by
  obtain ⟨h1, h2, h3, h4, h6⟩ := h
  unfold Cv.b8
  walk_at "bu"
theorem Cv.Sm.c4 {c : Cv} (h : c.Sm) : B 43 c.c4 := by
  obtain ⟨h1, h2, h3, h4, h6⟩ := h
  have e2 : B 21 c.b2 := by
    have e := h1.mul h1
    unfold Cv.b2
    unfold B at *
    omega
  have e4 : B 32 c.b4 := by
    have e := h1.mul h3
    unfold Cv.b4
    unfold B at *
    omega
  have e := e2.mul e2
  unfold Cv.c4
  unfold B at *
  omega
theorem Cv.Sm.c6 {c : Cv} (h : c.Sm) : B 80 c.c6 := by
  obtain ⟨h1, h2, h3, h4, h6⟩ := h
  unfold Cv.c6 Cv.b2 Cv.b4 Cv.b6
  walk_at "bu"
section
variable {P : Program} {w : World} {K : PySem.W.Frag} {mg : Str → Option Value} {base : Heap}
/-! ### five -/
def sp_five (K : PySem.W.Frag) : Sp := fun vs H Q _ => ∃ (p : Addr) (c : Cv), vs = [.ref p] ∧ SqT K H p c.tup ∧ Q (.ref p) H
abbrev s_five : Stmt := topS 31
theorem sc_five : FnScope ["curve", "a", "b", "c"] ["curve"] (defScope s_five) := ⟨rfl, rfl, rfl, by decide +kernel, rfl, by decide +kernel, by decide +kernel⟩
theorem k_five (T : Tx K mg) (D : Df K mg "five" s_five ["curve"])  : Kl P w K mg base 1 "five" (sp_five K) := by
  have nd := sc_five.nd
  refine Kl.by_body D sc_five (fun vs H Q E h => ?_) (fun f cdv A outer s H vs Q E hr h => ?_)
  · obtain ⟨_, _, rfl, _⟩ := h
    rfl
  · obtain ⟨p, c, rfl, hx, q⟩ := h
    have hu1 := hu_of hr
    refine ⟨_, (pss_cons (ps_if (pt_cmpR op_eq (pe_callB call_len_seq (by rfl) T.len (by decide +kernel) (pa_cons (pv 0) pa_nil)) pe_int (nomark _)) (pss_cons (ps_asg (pv 0) (pg_tup rfl (pgs_cons (pg_name (i := 1) nd rfl (by first | exact Or.inl rfl | exact Or.inr rfl)) (pgs_cons (pg_name (i := 2) nd rfl (by first | exact Or.inl rfl | exact Or.inr rfl)) (pgs_cons (pg_name (i := 3) nd rfl (by first | exact Or.inl rfl | exact Or.inr rfl)) pgs_nil)))))
      (pss_one (ps_ret (pe_tup (pa_cons pe_int (pa_cons (pv 1) (pa_cons pe_int (pa_cons (pv 2) (pa_cons (pv 3) pa_nil))))))))) pss_nil)
      (pss_one (ps_ret (pv 0)))), ?_⟩
    refine ⟨.ref p, rfl, p, _, rfl, .inr hx, rfl, _, rfl, ?_⟩
    refine iteN (by simp [Cv.tup]) ?_
    exact ⟨.ref p, rfl, q⟩
/-! ### lowest -/
def sp_lowest : PySem.W.Frag → Sp := spCut
/-! ### the sums -/
def sp_plus : PySem.W.Frag → Sp := spBin (fun a b => True) (fun a b => a + b)
def sp_times : PySem.W.Frag → Sp := spBin (fun a b => True) (fun a b => a * b)
def sp_over : PySem.W.Frag → Sp := spBin (fun a b => b ≠ 0) (fun a b => a / b)
/-! ### whole_fraction -/
def sp_whole_fraction (K : PySem.W.Frag) : Sp := fun vs H Q _ => ∃ n : Int, vs = [.int n] ∧ ∀ t, H t = none → Q (.ref t) (upd H t (.tup (fq (n : Rat))))
/-! ### total, product -/
def sp_total : PySem.W.Frag → Sp := spSum (· + ·) 0
theorem q0 : [V.int 0, V.int 1] = fq 0 := rfl
theorem q1 : [V.int 1, V.int 1] = fq 1 := rfl
theorem _root_.QM.RB.zero : RB 1 (0 : Rat) := ⟨by decide, by decide⟩
theorem _root_.QM.RB.one : RB 1 (1 : Rat) := ⟨by decide, by decide⟩
def sp_product : PySem.W.Frag → Sp := spSum (· * ·) 1
end
end K15
set_option Elab.async false
set_option linter.all false
set_option maxRecDepth 100000
set_option maxHeartbeats 4000000
namespace K15
open PySem PySem.Spec PyProof.Rows L2 Gd QM
local macro_rules | `(tactic| walk_at "bd") => `(tactic| (repeat (first | assumption | apply B.add | apply B.sub | apply B.mul | apply B.neg | exact B.lit (n := 8) (by decide))))
local macro_rules | `(tactic| walk_at "bu") => `(tactic| (apply B.up; walk_at "bd"; decide))
local macro_rules | `(tactic| walk_at "bnd") => `(tactic| (apply B.mulW; walk_at "bd"; decide))
local macro_rules | `(tactic| walk_at "pw") => `(tactic| exact B.up (n := 64) (by assumption) (by decide))
theorem abs_eq (i : Int) : (if i < 0 then -i else i) = (i.natAbs : Int) := by
  split <;> omega
section
variable {P : Program} {w : World} {K : PySem.W.Frag} {mg : Str → Option Value} {base : Heap}
/-! ### the law's common factor -/
def sp_law_common (K : PySem.W.Frag) : Sp := fun vs H Q _ => ∃ a b : Int, vs = [.int a, .int b] ∧ B 8200 a ∧ B 8200 b ∧ Q (.int ((Nat.gcd a.natAbs b.natAbs : Nat) : Int)) H
theorem gcd_turn {x y : Int} (h1 : 0 ≤ x) (h2 : 0 ≤ y) (h0 : y ≠ 0) : 0 ≤ x - x.fdiv y * y ∧ (x - x.fdiv y * y).natAbs < y.natAbs ∧ Nat.gcd y.natAbs (x - x.fdiv y * y).natAbs = Nat.gcd x.natAbs y.natAbs := by
  have e : x - x.fdiv y * y = x % y := by
    rw [Int.fdiv_eq_ediv_of_nonneg x h2, Int.emod_def, Int.mul_comm]
  have h3 : 0 ≤ x % y := Int.emod_nonneg x h0
  have h4 : x % y < y := Int.emod_lt_of_pos x (by omega)
  rw [e]
  refine ⟨h3, by omega, ?_⟩
  have e2 : (x % y).natAbs = x.natAbs % y.natAbs := by
    rw [Int.natAbs_emod_of_nonneg h1]
  rw [e2, Nat.gcd_comm y.natAbs, ← Nat.gcd_rec y.natAbs x.natAbs, Nat.gcd_comm]
abbrev s__law_common : Stmt := topS 77
theorem sc__law_common : FnScope ["a", "b"] ["a", "b"] (defScope s__law_common) := ⟨rfl, rfl, rfl, by decide +kernel, rfl, by decide +kernel, by decide +kernel⟩
theorem k_law_common (T : Tx K mg) (D : Df K mg "_law_common" s__law_common ["a", "b"])  : Kl P w K mg base 1 "_law_common" (sp_law_common K) := by
  have nd := sc__law_common.nd
  refine Kl.by_body D sc__law_common (fun vs H Q E h => ?_) (fun f cdv A outer s H vs Q E hr h => ?_)
  · obtain ⟨_, _, rfl, _⟩ := h
    rfl
  · obtain ⟨a, b, rfl, ha, hb, q⟩ := h
    have hu1 := hu_of hr
    refine ⟨_, (pss_cons (ps_par (i := 0) (j := 1) (by rfl) nd rfl rfl (by decide) rfl rfl (pa_cons (pe_callB call_abs (by rfl) T.abs (by decide +kernel) (pa_cons (pv 0) pa_nil)) (pa_cons (pe_callB call_abs (by rfl) T.abs (by decide +kernel) (pa_cons (pv 1) pa_nil)) pa_nil)) (by rfl))
      (pss_cons (ps_while PassesOwn.never (pt_cmpR op_ne (pv 1) pe_int (nomark _)) (pss_one (ps_par (i := 0) (j := 1) (by rfl) nd rfl rfl (by decide) rfl rfl (pa_cons (pv 1) (pa_cons (pe_op op_sub (pv 0) (pe_op op_mulW (pe_op op_fdivAny (pv 0) (pv 1)) (pv 1))) pa_nil)) (by rfl))))
      (pss_one (ps_ret (pv 0))))), ?_⟩
    refine ⟨_, rfl, a, rfl, _, rfl, b, rfl, _, _, rfl, ?_⟩
    rw [abs_eq, abs_eq]
    first | refine sigN [some (.int ((a.natAbs : Int))), some (.int ((b.natAbs : Int)))] (by rfl) ?_ | refine sig [some (.int ((a.natAbs : Int))), some (.int ((b.natAbs : Int)))] (by rfl) ?_
    have na : B 8200 (a.natAbs : Int) := by
      unfold B at *
      omega
    have nb : B 8200 (b.natAbs : Int) := by
      unfold B at *
      omega
    refine while_by (fun σ H2 => ∃ x y : Int, σ = [some (.int x), some (.int y)] ∧ H2 = H ∧ 0 ≤ x ∧ 0 ≤ y ∧ Nat.gcd x.natAbs y.natAbs = Nat.gcd a.natAbs b.natAbs ∧ B 8200 x ∧ B 8200 y)
      (fun σ _ => match σ with | [_, some (.int y)] => y.natAbs | _ => 0) ⟨_, _, rfl, rfl, by omega, by omega, by rw [Int.natAbs_natCast, Int.natAbs_natCast], na, nb⟩ ?_ ?_
    · rintro σ H2 ⟨x, y, rfl, rfl, h1, h2, h3, h4, h5⟩
      refine ⟨_, rfl, rfl, _, rfl, ?_⟩
      rw [dec_int]
      by_cases h0 : y = 0
      · subst h0
        refine iteN (by simp) ?_
        refine ⟨_, rfl, ?_⟩
        rw [← h3] at q
        have e : ((Nat.gcd x.natAbs (0 : Int).natAbs : Nat) : Int) = x := by
          rw [show (0 : Int).natAbs = 0 from rfl, Nat.gcd_zero_right]
          omega
        rw [e] at q
        exact q
      · refine iteY (by simp [h0]) ?_
        obtain ⟨g1, g2, g3⟩ := gcd_turn h1 h2 h0
        have d1 : B 8200 (x.fdiv y) := by
          rw [Int.fdiv_eq_ediv_of_nonneg x h2]
          have e1 : 0 ≤ x / y := Int.ediv_nonneg h1 h2
          have e2 : x / y ≤ x := Int.ediv_le_self y h1
          unfold B at *
          omega
        refine ⟨_, rfl, _, rfl, _, rfl, _, rfl, x, y, rfl, rfl, div_any h0 h5 (by decide), _, rfl, _, _, rfl, rfl, d1.mulW h5 (by decide), _, _, rfl, rfl, _, _, rfl, ?_⟩
        have g4 : B 8200 (x - x.fdiv y * y) := by
          unfold B at *
          omega
        exact ⟨⟨_, _, rfl, rfl, h2, g1, g3.trans h3, h5, g4⟩, g2⟩
    · rintro σ H2 Q1 Q2 i ⟨v, hv, hs, k, e, z⟩
      exact ⟨v, hv, hs, k, e, i _ _ z⟩
/-! ### cut -/
def sp_law_cut : PySem.W.Frag → Sp := spCut
abbrev s__law_cut : Stmt := topS 78
theorem sc__law_cut : FnScope ["n", "d", "part"] ["n", "d"] (defScope s__law_cut) := ⟨rfl, rfl, rfl, by decide +kernel, rfl, by decide +kernel, by decide +kernel⟩
theorem k_law_cut (T : Tx K mg) (D : Df K mg "_law_cut" s__law_cut ["n", "d"]) (c_law_common : Kl P w K mg base 1 "_law_common" (sp_law_common K)) : Kl P w K mg base 2 "_law_cut" (sp_law_cut K) := by
  have nd := sc__law_cut.nd
  refine Kl.by_body D sc__law_cut (fun vs H Q E h => ?_) (fun f cdv A outer s H vs Q E hr h => ?_)
  · obtain ⟨_, _, rfl, _⟩ := h
    rfl
  · obtain ⟨n, d, rfl, h0, hn, hd, q⟩ := h
    have hu1 := hu_of hr
    refine ⟨_, (pss_cons (ps_set (i := 2) nd rfl (by first | exact Or.inl rfl | exact Or.inr rfl) (pe_k c_law_common  hr (by decide) (by rfl) (pa_cons (pv 0) (pa_cons (pv 1) pa_nil))))
      (pss_cons (ps_set (i := 2) nd rfl (by first | exact Or.inl rfl | exact Or.inr rfl) (pe_ifExp (pt_cmpR op_gt (pv 1) pe_int (nomark _)) (pv 2) (pe_un un_neg (pv 2))))
      (pss_one (ps_ret (pe_tup (pa_cons (pe_op op_fdivAny (pv 0) (pv 2)) (pa_cons (pe_op op_fdivAny (pv 1) (pv 2)) pa_nil))))))), ?_⟩
    refine ⟨_, rfl, _, rfl, n, d, rfl, hn, hd, ?_⟩
    have hs : sg n d ≠ 0 := sg_ne h0
    have c1 : CDivAny n (sg n d) := div_any hs (sg_B h0 hd) (by decide)
    have c2 : CDivAny d (sg n d) := div_any hs (sg_B h0 hd) (by decide)
    rw [← fq_div h0] at q
    refine ⟨_, rfl, _, _, rfl, rfl, _, rfl, ite2 (fun e => ?_) (fun e => ?_)⟩
    · have e' : 0 < d := of_decide_eq_true e
      have es : sg n d = ((Nat.gcd n.natAbs d.natAbs : Nat) : Int) := if_neg (by omega)
      refine ⟨_, rfl, ?_⟩
      refine ⟨_, rfl, _, rfl, n, _, rfl, rfl, es ▸ c1, _, rfl, _, rfl, d, _, rfl, rfl, es ▸ c2, (by show 2 ≤ sizeLine; decide), fun t nt => ?_⟩
      rw [es] at q
      exact q t nt
    · have e' : ¬ 0 < d := fun z => e (decide_eq_true z)
      have es : sg n d = -((Nat.gcd n.natAbs d.natAbs : Nat) : Int) := if_pos (by omega)
      refine ⟨_, rfl, _, rfl, ?_⟩
      refine ⟨_, rfl, _, rfl, n, _, rfl, rfl, es ▸ c1, _, rfl, _, rfl, d, _, rfl, rfl, es ▸ c2, (by show 2 ≤ sizeLine; decide), fun t nt => ?_⟩
      rw [es] at q
      exact q t nt
/-! ### the law's sums, of pairs that need not be in lowest terms -/
end
/-- a pair that tells a fraction -/
def PrT (K : PySem.W.Frag) (H : Hp) (p : Addr) (q : Rat) (m : Nat) : Prop := ∃ n d : Int, SqT K H p [.int n, .int d] ∧ d ≠ 0 ∧ Rat.divInt n d = q ∧ B m n ∧ B m d
section
variable {K : PySem.W.Frag} {H H' : Hp} {es : List (Addr × Rat × Nat)} {p r : Addr} {a b : Rat} {m n : Nat}
theorem PrT.of (h : SqT K H p (fq a)) (b : RB m a) : PrT K H p a m := ⟨a.num, a.den, h, den_ne a, Rat.num_divInt_den a, b.n, b.d⟩
theorem PrT.same (h : PrT K H p a m) (s : Same H H') : PrT K H' p a m := by
  obtain ⟨n, d, h1, h2⟩ := h
  exact ⟨n, d, Same.tup s h1, h2⟩
theorem PrT.up (h : PrT K H p a m) (k : m ≤ n) : PrT K H p a n := by
  obtain ⟨x, d, h1, h2, h3, h4, h5⟩ := h
  exact ⟨x, d, h1, h2, h3, h4.up k, h5.up k⟩
theorem PrT.rb (h : PrT K H p a m) : RB m a := by
  obtain ⟨x, d, h1, h2, h3, h4, h5⟩ := h
  rw [← h3]
  exact RB.of h2 h4 h5
def FrG (K : PySem.W.Frag) (H : Hp) (es : List (Addr × Rat × Nat)) : Prop := ∀ x ∈ es, PrT K H x.1 x.2.1 x.2.2
theorem FrG.nil : FrG K H [] := fun x h => by cases h
theorem FrG.same (h : FrG K H es) (s : Same H H') : FrG K H' es := fun x k => (h x k).same s
theorem FrG.get (h : FrG K H es) (k : (p, a, m) ∈ es) : PrT K H p a m := h _ k
theorem FrG.rb (h : FrG K H es) (k : (p, a, m) ∈ es) : RB m a := (h _ k).rb
theorem FrG.addP (h : FrG K H es) (k : PrT K H p a m) : FrG K H ((p, a, m) :: es) := fun x z => by
  rcases List.mem_cons.mp z with rfl | z
  · exact k
  · exact h x z
theorem FrG.add (h : FrG K H es) (k : SqT K H p (fq a)) (b : RB m a) : FrG K H ((p, a, m) :: es) := h.addP (.of k b)
theorem FG.stepE (E : FrG K H es) {t : Addr} (n : H t = none) {c : Rat} {k : Nat} (hb : RB k c) : ∃ H', upd H t (.tup (fq c)) = H' ∧ Same H H' ∧ FrG K H' ((t, c, k) :: es) :=
  ⟨_, rfl, Same.new n, (E.same (Same.new n)).add (tup_of upd_same) hb⟩
theorem FG.litE (E : FrG K H es) {t : Addr} (n : H t = none) {vs : List V} {c : Rat} {k : Nat} (e : vs = fq c) (hb : RB k c) : ∃ H', upd H t (.tup vs) = H' ∧ Same H H' ∧ FrG K H' ((t, c, k) :: es) := by
  subst e
  exact FG.stepE E n hb
end
def spBinG (ok : Rat → Rat → Prop) (op : Rat → Rat → Rat) (K : PySem.W.Frag) : Sp := fun vs H Q _ => ∃ (f g : Addr) (a b : Rat) (m n : Nat), vs = [.ref f, .ref g] ∧ PrT K H f a m ∧ PrT K H g b n ∧ RB m a ∧ RB n b ∧ m + n ≤ 8100 ∧ ok a b ∧ ∀ t, H t = none → Q (.ref t) (upd H t (.tup (fq (op a b))))
theorem divInt_over {n1 d1 n2 d2 : Int} (z1 : d1 ≠ 0) (z2 : d2 ≠ 0) (z3 : n2 ≠ 0) : Rat.divInt n1 d1 / Rat.divInt n2 d2 = Rat.divInt (n1 * d2) (d1 * n2) := by
  have c1 : (d1 : Rat) ≠ 0 := fun z => z1 (by exact_mod_cast z)
  have c2 : (d2 : Rat) ≠ 0 := fun z => z2 (by exact_mod_cast z)
  have c3 : (n2 : Rat) ≠ 0 := fun z => z3 (by exact_mod_cast z)
  rw [Rat.divInt_eq_div, Rat.divInt_eq_div, Rat.divInt_eq_div, Rat.intCast_mul, Rat.intCast_mul]
  grind
section
variable {P : Program} {w : World} {K : PySem.W.Frag} {mg : Str → Option Value} {base : Heap}
def sp_law_plus : PySem.W.Frag → Sp := spBinG (fun a b => True) (fun a b => a + b)
abbrev s__law_plus : Stmt := topS 79
theorem sc__law_plus : FnScope ["f", "g"] ["f", "g"] (defScope s__law_plus) := ⟨rfl, rfl, rfl, by decide +kernel, rfl, by decide +kernel, by decide +kernel⟩
theorem k_law_plus (T : Tx K mg) (D : Df K mg "_law_plus" s__law_plus ["f", "g"]) (c_law_cut : Kl P w K mg base 2 "_law_cut" (sp_law_cut K)) : Kl P w K mg base 3 "_law_plus" (sp_law_plus K) := by
  have nd := sc__law_plus.nd
  refine Kl.by_body D sc__law_plus (fun vs H Q E h => ?_) (fun f cdv A outer s H vs Q E hr h => ?_)
  · obtain ⟨_, _, _, _, _, _, rfl, _⟩ := h
    rfl
  · obtain ⟨f, g, a, b, m, n, rfl, ⟨n1, d1, hf, z1, e1, bn1, bd1⟩, ⟨n2, d2, hg, z2, e2, bn2, bd2⟩, -, -, hmn, h0, q⟩ := h
    have hu1 := hu_of hr
    refine ⟨_, (pss_one (ps_ret (pe_k c_law_cut  hr (by decide) (by rfl) (pa_cons (pe_op op_add (pe_op op_mulW (pe_ix ix_tup (pv 0) pe_int (fun _ _ => rfl)) (pe_ix ix_tup (pv 1) pe_int (fun _ _ => rfl))) (pe_op op_mulW (pe_ix ix_tup (pv 1) pe_int (fun _ _ => rfl)) (pe_ix ix_tup (pv 0) pe_int (fun _ _ => rfl)))) (pa_cons (pe_op op_mulW (pe_ix ix_tup (pv 0) pe_int (fun _ _ => rfl)) (pe_ix ix_tup (pv 1) pe_int (fun _ _ => rfl))) pa_nil))))), ?_⟩
    have key : Rat.divInt (n1 * d2 + n2 * d1) (d1 * d2) = a + b := by
      rw [← e1, ← e2]
      exact (Rat.divInt_add_divInt n1 n2 z1 z2).symm
    refine ⟨.ref f, rfl, f, _, 0, .int n1, rfl, rfl, hf, rfl, .ref g, rfl, g, _, 1, .int d2, rfl, rfl, hg, rfl, _, _, rfl, rfl, (bn1.mulW bd2 (by omega)), .ref g, rfl, g, _, 0, .int n2, rfl, rfl, hg, rfl, .ref f, rfl, f, _, 1, .int d1, rfl, rfl, hf, rfl, _, _, rfl, rfl, (bn2.mulW bd1 (by omega)), _, _, rfl, rfl, .ref f, rfl, f, _, 1, .int d1, rfl, rfl, hf, rfl, .ref g, rfl, g, _, 1, .int d2, rfl, rfl, hg, rfl, _, _, rfl, rfl, (bd1.mulW bd2 (by omega)), _, _, rfl, (Int.mul_ne_zero z1 z2), ((B.mul bn1 bd2).add (B.mul bn2 bd1)).up (by omega), (B.mul bd1 bd2).up (by omega), fun t nt => ?_⟩
    rw [key]
    exact q t nt
def sp_law_less : PySem.W.Frag → Sp := spBinG (fun a b => True) (fun a b => a - b)
abbrev s__law_less : Stmt := topS 80
theorem sc__law_less : FnScope ["f", "g"] ["f", "g"] (defScope s__law_less) := ⟨rfl, rfl, rfl, by decide +kernel, rfl, by decide +kernel, by decide +kernel⟩
theorem k_law_less (T : Tx K mg) (D : Df K mg "_law_less" s__law_less ["f", "g"]) (c_law_cut : Kl P w K mg base 2 "_law_cut" (sp_law_cut K)) : Kl P w K mg base 3 "_law_less" (sp_law_less K) := by
  have nd := sc__law_less.nd
  refine Kl.by_body D sc__law_less (fun vs H Q E h => ?_) (fun f cdv A outer s H vs Q E hr h => ?_)
  · obtain ⟨_, _, _, _, _, _, rfl, _⟩ := h
    rfl
  · obtain ⟨f, g, a, b, m, n, rfl, ⟨n1, d1, hf, z1, e1, bn1, bd1⟩, ⟨n2, d2, hg, z2, e2, bn2, bd2⟩, -, -, hmn, h0, q⟩ := h
    have hu1 := hu_of hr
    refine ⟨_, (pss_one (ps_ret (pe_k c_law_cut  hr (by decide) (by rfl) (pa_cons (pe_op op_sub (pe_op op_mulW (pe_ix ix_tup (pv 0) pe_int (fun _ _ => rfl)) (pe_ix ix_tup (pv 1) pe_int (fun _ _ => rfl))) (pe_op op_mulW (pe_ix ix_tup (pv 1) pe_int (fun _ _ => rfl)) (pe_ix ix_tup (pv 0) pe_int (fun _ _ => rfl)))) (pa_cons (pe_op op_mulW (pe_ix ix_tup (pv 0) pe_int (fun _ _ => rfl)) (pe_ix ix_tup (pv 1) pe_int (fun _ _ => rfl))) pa_nil))))), ?_⟩
    have key : Rat.divInt (n1 * d2 - n2 * d1) (d1 * d2) = a - b := by
      rw [← e1, ← e2]
      exact (Rat.divInt_sub_divInt n1 n2 z1 z2).symm
    refine ⟨.ref f, rfl, f, _, 0, .int n1, rfl, rfl, hf, rfl, .ref g, rfl, g, _, 1, .int d2, rfl, rfl, hg, rfl, _, _, rfl, rfl, (bn1.mulW bd2 (by omega)), .ref g, rfl, g, _, 0, .int n2, rfl, rfl, hg, rfl, .ref f, rfl, f, _, 1, .int d1, rfl, rfl, hf, rfl, _, _, rfl, rfl, (bn2.mulW bd1 (by omega)), _, _, rfl, rfl, .ref f, rfl, f, _, 1, .int d1, rfl, rfl, hf, rfl, .ref g, rfl, g, _, 1, .int d2, rfl, rfl, hg, rfl, _, _, rfl, rfl, (bd1.mulW bd2 (by omega)), _, _, rfl, (Int.mul_ne_zero z1 z2), ((B.mul bn1 bd2).sub (B.mul bn2 bd1)).up (by omega), (B.mul bd1 bd2).up (by omega), fun t nt => ?_⟩
    rw [key]
    exact q t nt
def sp_law_by : PySem.W.Frag → Sp := spBinG (fun a b => True) (fun a b => a * b)
abbrev s__law_by : Stmt := topS 81
theorem sc__law_by : FnScope ["f", "g"] ["f", "g"] (defScope s__law_by) := ⟨rfl, rfl, rfl, by decide +kernel, rfl, by decide +kernel, by decide +kernel⟩
theorem k_law_by (T : Tx K mg) (D : Df K mg "_law_by" s__law_by ["f", "g"]) (c_law_cut : Kl P w K mg base 2 "_law_cut" (sp_law_cut K)) : Kl P w K mg base 3 "_law_by" (sp_law_by K) := by
  have nd := sc__law_by.nd
  refine Kl.by_body D sc__law_by (fun vs H Q E h => ?_) (fun f cdv A outer s H vs Q E hr h => ?_)
  · obtain ⟨_, _, _, _, _, _, rfl, _⟩ := h
    rfl
  · obtain ⟨f, g, a, b, m, n, rfl, ⟨n1, d1, hf, z1, e1, bn1, bd1⟩, ⟨n2, d2, hg, z2, e2, bn2, bd2⟩, -, -, hmn, h0, q⟩ := h
    have hu1 := hu_of hr
    refine ⟨_, (pss_one (ps_ret (pe_k c_law_cut  hr (by decide) (by rfl) (pa_cons (pe_op op_mulW (pe_ix ix_tup (pv 0) pe_int (fun _ _ => rfl)) (pe_ix ix_tup (pv 1) pe_int (fun _ _ => rfl))) (pa_cons (pe_op op_mulW (pe_ix ix_tup (pv 0) pe_int (fun _ _ => rfl)) (pe_ix ix_tup (pv 1) pe_int (fun _ _ => rfl))) pa_nil))))), ?_⟩
    have key : Rat.divInt (n1 * n2) (d1 * d2) = a * b := by
      rw [← e1, ← e2]
      exact (Rat.divInt_mul_divInt n1 n2 ).symm
    refine ⟨.ref f, rfl, f, _, 0, .int n1, rfl, rfl, hf, rfl, .ref g, rfl, g, _, 0, .int n2, rfl, rfl, hg, rfl, _, _, rfl, rfl, (bn1.mulW bn2 (by omega)), .ref f, rfl, f, _, 1, .int d1, rfl, rfl, hf, rfl, .ref g, rfl, g, _, 1, .int d2, rfl, rfl, hg, rfl, _, _, rfl, rfl, (bd1.mulW bd2 (by omega)), _, _, rfl, (Int.mul_ne_zero z1 z2), (B.mul bn1 bn2).up (by omega), (B.mul bd1 bd2).up (by omega), fun t nt => ?_⟩
    rw [key]
    exact q t nt
def sp_law_over : PySem.W.Frag → Sp := spBinG (fun a b => b ≠ 0) (fun a b => a / b)
abbrev s__law_over : Stmt := topS 82
theorem sc__law_over : FnScope ["f", "g"] ["f", "g"] (defScope s__law_over) := ⟨rfl, rfl, rfl, by decide +kernel, rfl, by decide +kernel, by decide +kernel⟩
theorem k_law_over (T : Tx K mg) (D : Df K mg "_law_over" s__law_over ["f", "g"]) (c_law_cut : Kl P w K mg base 2 "_law_cut" (sp_law_cut K)) : Kl P w K mg base 3 "_law_over" (sp_law_over K) := by
  have nd := sc__law_over.nd
  refine Kl.by_body D sc__law_over (fun vs H Q E h => ?_) (fun f cdv A outer s H vs Q E hr h => ?_)
  · obtain ⟨_, _, _, _, _, _, rfl, _⟩ := h
    rfl
  · obtain ⟨f, g, a, b, m, n, rfl, ⟨n1, d1, hf, z1, e1, bn1, bd1⟩, ⟨n2, d2, hg, z2, e2, bn2, bd2⟩, -, -, hmn, h0, q⟩ := h
    have hu1 := hu_of hr
    refine ⟨_, (pss_one (ps_ret (pe_k c_law_cut  hr (by decide) (by rfl) (pa_cons (pe_op op_mulW (pe_ix ix_tup (pv 0) pe_int (fun _ _ => rfl)) (pe_ix ix_tup (pv 1) pe_int (fun _ _ => rfl))) (pa_cons (pe_op op_mulW (pe_ix ix_tup (pv 0) pe_int (fun _ _ => rfl)) (pe_ix ix_tup (pv 1) pe_int (fun _ _ => rfl))) pa_nil))))), ?_⟩
    have key : Rat.divInt (n1 * d2) (d1 * n2) = a / b := by
      rw [← e1, ← e2]
      exact (divInt_over z1 z2 (fun z => h0 (by rw [← e2, z, Rat.zero_divInt]))).symm
    refine ⟨.ref f, rfl, f, _, 0, .int n1, rfl, rfl, hf, rfl, .ref g, rfl, g, _, 1, .int d2, rfl, rfl, hg, rfl, _, _, rfl, rfl, (bn1.mulW bd2 (by omega)), .ref f, rfl, f, _, 1, .int d1, rfl, rfl, hf, rfl, .ref g, rfl, g, _, 0, .int n2, rfl, rfl, hg, rfl, _, _, rfl, rfl, (bd1.mulW bn2 (by omega)), _, _, rfl, (Int.mul_ne_zero z1 (fun z => h0 (by rw [← e2, z, Rat.zero_divInt]))), (B.mul bn1 bd2).up (by omega), (B.mul bd1 bn2).up (by omega), fun t nt => ?_⟩
    rw [key]
    exact q t nt
/-! ### the numbers of a curve -/
theorem Cv.nums_c6 (c : Cv) : c.c6 = 36 * c.b2 * c.b4 - c.b2 ^ 3 - 216 * c.b6 := by
  unfold Cv.c6
  grind
theorem Cv.nums_d (c : Cv) : c.disc = 9 * c.b2 * c.b4 * c.b6 - c.b2 * c.b2 * c.b8 - 8 * c.b4 ^ 3 - 27 * c.b6 * c.b6 := by
  unfold Cv.disc
  grind
def sp_law_numbers (K : PySem.W.Frag) : Sp := fun vs H Q _ => ∃ (p : Addr) (c : Cv), vs = [.ref p] ∧ SqT K H p c.tup ∧ c.Md ∧ ∀ t, H t = none → Q (.ref t) (upd H t (.tup c.nums))
abbrev s__law_numbers : Stmt := topS 83
theorem sc__law_numbers : FnScope ["five_v", "a", "b", "c", "d", "e", "two", "four", "six", "eight", "c4", "c6", "disc"] ["five_v"] (defScope s__law_numbers) := ⟨rfl, rfl, rfl, by decide +kernel, rfl, by decide +kernel, by decide +kernel⟩
theorem k_law_numbers (T : Tx K mg) (D : Df K mg "_law_numbers" s__law_numbers ["five_v"])  : Kl P w K mg base 1 "_law_numbers" (sp_law_numbers K) := by
  have nd := sc__law_numbers.nd
  refine Kl.by_body D sc__law_numbers (fun vs H Q E h => ?_) (fun f cdv A outer s H vs Q E hr h => ?_)
  · obtain ⟨_, _, rfl, _⟩ := h
    rfl
  · obtain ⟨p, c, rfl, hx, hm, q⟩ := h
    have hu1 := hu_of hr
    refine ⟨_, (pss_cons (ps_asg (pv 0) (pg_tup rfl (pgs_cons (pg_name (i := 1) nd rfl (by first | exact Or.inl rfl | exact Or.inr rfl)) (pgs_cons (pg_name (i := 2) nd rfl (by first | exact Or.inl rfl | exact Or.inr rfl)) (pgs_cons (pg_name (i := 3) nd rfl (by first | exact Or.inl rfl | exact Or.inr rfl)) (pgs_cons (pg_name (i := 4) nd rfl (by first | exact Or.inl rfl | exact Or.inr rfl)) (pgs_cons (pg_name (i := 5) nd rfl (by first | exact Or.inl rfl | exact Or.inr rfl)) pgs_nil)))))))
      (pss_cons (ps_par (i := 6) (j := 7) (by rfl) nd rfl rfl (by decide) rfl rfl (pa_cons (pe_op op_add (pe_op op_mulW (pv 1) (pv 1)) (pe_op op_mul pe_int (pv 2))) (pa_cons (pe_op op_add (pe_op op_mul pe_int (pv 4)) (pe_op op_mulW (pv 1) (pv 3))) pa_nil)) (by rfl))
      (pss_cons (ps_set (i := 8) nd rfl (by first | exact Or.inl rfl | exact Or.inr rfl) (pe_op op_add (pe_op op_mulW (pv 3) (pv 3)) (pe_op op_mul pe_int (pv 5))))
      (pss_cons (ps_set (i := 9) nd rfl (by first | exact Or.inl rfl | exact Or.inr rfl) (pe_op op_sub (pe_op op_add (pe_op op_mulW (pe_op op_mulW (pv 1) (pv 1)) (pv 5)) (pe_op op_mulW (pe_op op_mul pe_int (pv 2)) (pv 5))) (pe_op op_mulW (pe_op op_mulW (pv 1) (pv 3)) (pv 4))))
      (pss_cons (ps_set (i := 9) nd rfl (by first | exact Or.inl rfl | exact Or.inr rfl) (pe_op op_sub (pe_op op_add (pv 9) (pe_op op_mulW (pe_op op_mulW (pv 2) (pv 3)) (pv 3))) (pe_op op_mulW (pv 4) (pv 4))))
      (pss_cons (ps_par (i := 10) (j := 11) (by rfl) nd rfl rfl (by decide) rfl rfl (pa_cons (pe_op op_sub (pe_op op_mulW (pv 6) (pv 6)) (pe_op op_mul pe_int (pv 7))) (pa_cons (pe_op op_sub (pe_op op_sub (pe_op op_mulW (pe_op op_mul pe_int (pv 6)) (pv 7)) (pe_op op_pow (pv 6) pe_int)) (pe_op op_mul pe_int (pv 8))) pa_nil)) (by rfl))
      (pss_cons (ps_set (i := 12) nd rfl (by first | exact Or.inl rfl | exact Or.inr rfl) (pe_op op_sub (pe_op op_mulW (pe_op op_mulW (pe_op op_mul pe_int (pv 6)) (pv 7)) (pv 8)) (pe_op op_mulW (pe_op op_mulW (pv 6) (pv 6)) (pv 9))))
      (pss_one (ps_ret (pe_tup (pa_cons (pv 6) (pa_cons (pv 7) (pa_cons (pv 8) (pa_cons (pv 9) (pa_cons (pv 10) (pa_cons (pv 11) (pa_cons (pe_op op_sub (pe_op op_sub (pv 12) (pe_op op_mul pe_int (pe_op op_pow (pv 7) pe_int))) (pe_op op_mulW (pe_op op_mul pe_int (pv 8)) (pv 8))) pa_nil))))))))))))))))), ?_⟩
    have e2 := hm.b2
    have e4 := hm.b4
    have e6 := hm.b6
    have e8 := hm.b8
    obtain ⟨h1, h2, h3, h4, h6⟩ := hm
    have p3 : B 133 (c.b2 ^ (3 : Int).toNat) := (e2.pow 3).up (by decide)
    have p4 : B 233 (c.b4 ^ (3 : Int).toNat) := (e4.pow 3).up (by decide)
    refine ⟨.ref p, rfl, p, _, rfl, hx, rfl, _, _, rfl, _, _, rfl, _, _, rfl, _, _, rfl, _, _, rfl, rfl, ?_⟩
    first | refine sigN [some (.ref p), some (.int (c.a1)), some (.int (c.a2)), some (.int (c.a3)), some (.int (c.a4)), some (.int (c.a6)), none, none, none, none, none, none, none] (by rfl) ?_ | refine sig [some (.ref p), some (.int (c.a1)), some (.int (c.a2)), some (.int (c.a3)), some (.int (c.a4)), some (.int (c.a6)), none, none, none, none, none, none, none] (by rfl) ?_
    refine ⟨_, rfl, _, rfl, _, _, rfl, rfl, (by walk_at "bnd"), _, rfl, _, _, rfl, rfl, (Or.inl ⟨by decide, by decide⟩), _, _, rfl, rfl, _, rfl, _, _, rfl, rfl, (Or.inl ⟨by decide, by decide⟩), _, rfl, _, rfl, _, _, rfl, rfl, (by walk_at "bnd"), _, _, rfl, rfl, _, _, rfl, ?_⟩
    first | refine sigN [some (.ref p), some (.int (c.a1)), some (.int (c.a2)), some (.int (c.a3)), some (.int (c.a4)), some (.int (c.a6)), some (.int (c.b2)), some (.int (c.b4)), none, none, none, none, none] (by rfl) ?_ | refine sig [some (.ref p), some (.int (c.a1)), some (.int (c.a2)), some (.int (c.a3)), some (.int (c.a4)), some (.int (c.a6)), some (.int (c.b2)), some (.int (c.b4)), none, none, none, none, none] (by rfl) ?_
    refine ⟨_, rfl, _, rfl, _, _, rfl, rfl, (by walk_at "bnd"), _, rfl, _, _, rfl, rfl, (Or.inl ⟨by decide, by decide⟩), _, _, rfl, rfl, ?_⟩
    first | refine sigN [some (.ref p), some (.int (c.a1)), some (.int (c.a2)), some (.int (c.a3)), some (.int (c.a4)), some (.int (c.a6)), some (.int (c.b2)), some (.int (c.b4)), some (.int (c.b6)), none, none, none, none] (by rfl) ?_ | refine sig [some (.ref p), some (.int (c.a1)), some (.int (c.a2)), some (.int (c.a3)), some (.int (c.a4)), some (.int (c.a6)), some (.int (c.b2)), some (.int (c.b4)), some (.int (c.b6)), none, none, none, none] (by rfl) ?_
    refine ⟨_, rfl, _, rfl, _, _, rfl, rfl, (by walk_at "bnd"), _, rfl, _, _, rfl, rfl, (by walk_at "bnd"), _, rfl, _, _, rfl, rfl, (Or.inl ⟨by decide, by decide⟩), _, rfl, _, _, rfl, rfl, (by walk_at "bnd"), _, _, rfl, rfl, _, rfl, _, rfl, _, _, rfl, rfl, (by walk_at "bnd"), _, rfl, _, _, rfl, rfl, (by walk_at "bnd"), _, _, rfl, rfl, ?_⟩
    first | refine sigN [some (.ref p), some (.int (c.a1)), some (.int (c.a2)), some (.int (c.a3)), some (.int (c.a4)), some (.int (c.a6)), some (.int (c.b2)), some (.int (c.b4)), some (.int (c.b6)), some (.int (c.a1 * c.a1 * c.a6 + 4 * c.a2 * c.a6 - c.a1 * c.a3 * c.a4)), none, none, none] (by rfl) ?_ | refine sig [some (.ref p), some (.int (c.a1)), some (.int (c.a2)), some (.int (c.a3)), some (.int (c.a4)), some (.int (c.a6)), some (.int (c.b2)), some (.int (c.b4)), some (.int (c.b6)), some (.int (c.a1 * c.a1 * c.a6 + 4 * c.a2 * c.a6 - c.a1 * c.a3 * c.a4)), none, none, none] (by rfl) ?_
    refine ⟨_, rfl, _, rfl, _, rfl, _, _, rfl, rfl, (by walk_at "bnd"), _, rfl, _, _, rfl, rfl, (by walk_at "bnd"), _, _, rfl, rfl, _, rfl, _, rfl, _, _, rfl, rfl, (by walk_at "bnd"), _, _, rfl, rfl, ?_⟩
    first | refine sigN [some (.ref p), some (.int (c.a1)), some (.int (c.a2)), some (.int (c.a3)), some (.int (c.a4)), some (.int (c.a6)), some (.int (c.b2)), some (.int (c.b4)), some (.int (c.b6)), some (.int (c.b8)), none, none, none] (by rfl) ?_ | refine sig [some (.ref p), some (.int (c.a1)), some (.int (c.a2)), some (.int (c.a3)), some (.int (c.a4)), some (.int (c.a6)), some (.int (c.b2)), some (.int (c.b4)), some (.int (c.b6)), some (.int (c.b8)), none, none, none] (by rfl) ?_
    refine ⟨_, rfl, _, rfl, _, _, rfl, rfl, (by walk_at "bnd"), _, rfl, _, _, rfl, rfl, (Or.inl ⟨by decide, by decide⟩), _, _, rfl, rfl, _, rfl, _, _, rfl, rfl, (Or.inl ⟨by decide, by decide⟩), _, rfl, _, _, rfl, rfl, (by walk_at "bnd"), _, rfl, _, _, rfl, rfl, ⟨by decide, by decide, by walk_at "pw"⟩, _, _, rfl, rfl, _, rfl, _, _, rfl, rfl, (Or.inl ⟨by decide, by decide⟩), _, _, rfl, rfl, _, _, rfl, ?_⟩
    first | refine sigN [some (.ref p), some (.int (c.a1)), some (.int (c.a2)), some (.int (c.a3)), some (.int (c.a4)), some (.int (c.a6)), some (.int (c.b2)), some (.int (c.b4)), some (.int (c.b6)), some (.int (c.b8)), some (.int (c.c4)), some (.int (36 * c.b2 * c.b4 - c.b2 ^ 3 - 216 * c.b6)), none] (by rfl) ?_ | refine sig [some (.ref p), some (.int (c.a1)), some (.int (c.a2)), some (.int (c.a3)), some (.int (c.a4)), some (.int (c.a6)), some (.int (c.b2)), some (.int (c.b4)), some (.int (c.b6)), some (.int (c.b8)), some (.int (c.c4)), some (.int (36 * c.b2 * c.b4 - c.b2 ^ 3 - 216 * c.b6)), none] (by rfl) ?_
    refine ⟨_, rfl, _, _, rfl, rfl, (Or.inl ⟨by decide, by decide⟩), _, rfl, _, _, rfl, rfl, (by walk_at "bnd"), _, rfl, _, _, rfl, rfl, (by walk_at "bnd"), _, rfl, _, rfl, _, _, rfl, rfl, (by walk_at "bnd"), _, rfl, _, _, rfl, rfl, (by walk_at "bnd"), _, _, rfl, rfl, ?_⟩
    first | refine sigN [some (.ref p), some (.int (c.a1)), some (.int (c.a2)), some (.int (c.a3)), some (.int (c.a4)), some (.int (c.a6)), some (.int (c.b2)), some (.int (c.b4)), some (.int (c.b6)), some (.int (c.b8)), some (.int (c.c4)), some (.int (36 * c.b2 * c.b4 - c.b2 ^ 3 - 216 * c.b6)), some (.int (9 * c.b2 * c.b4 * c.b6 - c.b2 * c.b2 * c.b8))] (by rfl) ?_ | refine sig [some (.ref p), some (.int (c.a1)), some (.int (c.a2)), some (.int (c.a3)), some (.int (c.a4)), some (.int (c.a6)), some (.int (c.b2)), some (.int (c.b4)), some (.int (c.b6)), some (.int (c.b8)), some (.int (c.c4)), some (.int (36 * c.b2 * c.b4 - c.b2 ^ 3 - 216 * c.b6)), some (.int (9 * c.b2 * c.b4 * c.b6 - c.b2 * c.b2 * c.b8))] (by rfl) ?_
    refine ⟨_, rfl, _, rfl, _, rfl, _, rfl, _, rfl, _, rfl, _, rfl, _, rfl, _, _, rfl, rfl, ⟨by decide, by decide, by walk_at "pw"⟩, _, _, rfl, rfl, (Or.inl ⟨by decide, by decide⟩), _, _, rfl, rfl, _, rfl, _, _, rfl, rfl, (Or.inl ⟨by decide, by decide⟩), _, rfl, _, _, rfl, rfl, (by walk_at "bnd"), _, _, rfl, rfl, (by show 7 ≤ sizeLine; decide), fun t nt => ?_⟩
    have e : c.nums = [V.int c.b2, V.int c.b4, V.int c.b6, V.int c.b8, V.int c.c4, V.int (36 * c.b2 * c.b4 - c.b2 ^ 3 - 216 * c.b6), V.int (9 * c.b2 * c.b4 * c.b6 - c.b2 * c.b2 * c.b8 - 8 * c.b4 ^ 3 - 27 * c.b6 * c.b6)] := by
      rw [← Cv.nums_c6, ← Cv.nums_d]
      rfl
    rw [e] at q
    exact q t nt
end
end K15
set_option Elab.async false
set_option linter.all false
set_option maxRecDepth 100000
set_option maxHeartbeats 4000000
namespace K15
open PySem PySem.Spec PyProof.Rows L2 Gd QM
section
variable {P : Program} {w : World} {K : PySem.W.Frag} {mg : Str → Option Value} {base : Heap}
/-! ### one draw -/
def sp_law_draw (K : PySem.W.Frag) : Sp := fun vs H Q _ => ∃ (m cl : Addr) (b : Int) (n : Nat), vs = [.ref m, .int b] ∧ 0 < b ∧ b < 4294967296 ∧ n ≤ 1000000 ∧ MAt H m cl n ∧ ∀ H' r, But m H H' → MAt H' m cl (n + 1) → 0 ≤ r → r < b → Q (.int r) H'
abbrev s__law_draw : Stmt := topS 74
theorem sc__law_draw : FnScope ["m", "below", "found", "spot", "cells", "extra", "cell", "blend"] ["m", "below"] (defScope s__law_draw) := ⟨rfl, rfl, rfl, by decide +kernel, rfl, by decide +kernel, by decide +kernel⟩
theorem k_law_draw (T : Tx K mg) (D : Df K mg "_law_draw" s__law_draw ["m", "below"])  : Kl P w K mg base 1 "_law_draw" (sp_law_draw K) := by
  have nd := sc__law_draw.nd
  refine Kl.by_body D sc__law_draw (fun vs H Q E h => ?_) (fun f cdv A outer s H vs Q E hr h => ?_)
  · obtain ⟨_, _, _, _, rfl, _⟩ := h
    rfl
  · obtain ⟨m, c, b, n, rfl, hb0, hb1, hn, ⟨L, s0, cs, k, hm, hk, hc, hl⟩, q⟩ := h
    have hu1 := hu_of hr
    refine ⟨_, (pss_cons (ps_if (pt_cmpR op_gt (pe_dget hu1 (pv 0) pe_str (fun _ _ => rfl)) pe_int (nomark _)) (pss_cons (ps_set (i := 2) nd rfl (by first | exact Or.inl rfl | exact Or.inr rfl) (pe_op op_mod (pe_callTy call_intI (by rfl) T.int (by decide +kernel) (pa_cons (pe_dget hu1 (pv 0) pe_str (fun _ _ => rfl)) pa_nil)) (pv 1)))
      (pss_cons (ps_dput hu1 (pv 0) pe_str (pe_op op_fdivAny (pe_dget hu1 (pv 0) pe_str (fun _ _ => rfl)) (pv 1)) rfl)
      (pss_one (ps_ret (pv 2))))) pss_nil)
      (pss_cons (ps_set (i := 3) nd rfl (by first | exact Or.inl rfl | exact Or.inr rfl) (pe_dget hu1 (pv 0) pe_str (fun _ _ => rfl)))
      (pss_cons (ps_dput hu1 (pv 0) pe_str (pe_op op_add (pv 3) pe_int) rfl)
      (pss_cons (ps_par (i := 4) (j := 5) (by rfl) nd rfl rfl (by decide) rfl rfl (pa_cons (pe_dget hu1 (pv 0) pe_str (fun _ _ => rfl)) (pa_cons (pe_op op_add (pe_dget hu1 (pv 0) pe_str (fun _ _ => rfl)) (pe_op op_mulW (pe_op op_mul pe_int (pv 3)) (pv 3))) pa_nil)) (by rfl))
      (pss_cons (ps_set (i := 6) nd rfl (by first | exact Or.inl rfl | exact Or.inr rfl) (pe_ix ix_list (pv 4) (pe_op op_mod (pe_callTy call_intI (by rfl) T.int (by decide +kernel) (pa_cons (pv 3) pa_nil)) (pe_callB call_len_seq (by rfl) T.len (by decide +kernel) (pa_cons (pv 4) pa_nil))) (fun _ _ => rfl)))
      (pss_cons (ps_set (i := 7) nd rfl (by first | exact Or.inl rfl | exact Or.inr rfl) (pe_op op_mod (pe_callTy call_intI (by rfl) T.int (by decide +kernel) (pa_cons (pe_op op_add (pe_op op_mul (pv 6) (pe_op op_add (pe_op op_mul pe_int (pv 3)) pe_int)) (pv 5)) pa_nil)) pe_int))
      (pss_cons (ps_set (i := 7) nd rfl (by first | exact Or.inl rfl | exact Or.inr rfl) (pe_op op_mod (pe_callTy call_intI (by rfl) T.int (by decide +kernel) (pa_cons (pe_op op_add (pe_op op_add (pe_op op_mul (pv 7) (pv 7)) (pe_op op_mul pe_int (pv 3))) (pe_dget hu1 (pv 0) pe_str (fun _ _ => rfl))) pa_nil)) pe_int))
      (pss_one (ps_ret (pe_op op_mod (pe_op op_fdiv (pe_op op_mod (pe_callTy call_intI (by rfl) T.int (by decide +kernel) (pa_cons (pe_op op_add (pe_op op_mul (pv 7) pe_int) (pv 3)) pa_nil)) pe_int) pe_int) (pv 1))))))))))), ?_⟩
    have gL : DGet H m (.str "left") (some (.int L)) := m4_left (L := L) ▸ DGet.k (k := Sum.inr "left") hm
    have ncm : c ≠ m := ne_of hc hm (by intro z; cases z)
    refine ⟨_, rfl, m, _, rfl, gL, _, _, rfl, rfl, _, rfl, ite2 (fun e => ?_) (fun e => ?_)⟩
    · refine ⟨_, rfl, m, _, rfl, gL, _, rfl, _, rfl, _, _, rfl, rfl, hb0, ?_⟩
      refine ⟨_, rfl, m, _, rfl, gL, _, rfl, _, _, rfl, rfl, div_any (m := 33) (by omega) (by unfold B; omega) (by decide), _, rfl, m, _, rfl, DPut.k (k := Sum.inr "left") hm (small1000 (by show 4 ≤ 1000; decide)), ?_⟩
      rw [m4_putL]
      refine ⟨_, rfl, ?_⟩
      refine q _ _ But.upd ⟨_, s0, cs, k, upd_same, by omega, ?_, hl⟩ (Int.emod_nonneg _ (by omega)) (Int.emod_lt_of_pos _ hb0)
      rw [upd_ne ncm]
      exact hc
    · have gS : DGet H m (.str "spot") (some (.int k)) := m4_spot (n := k) ▸ DGet.k (k := Sum.inr "spot") hm
      refine ⟨_, rfl, m, _, rfl, gS, ?_⟩
      refine ⟨_, rfl, _, _, rfl, rfl, _, rfl, m, _, rfl, DPut.k (k := Sum.inr "spot") hm (small1000 (by show 4 ≤ 1000; decide)), ?_⟩
      rw [m4_putS]
      have hm2 : (upd H m (HO.dK (mk4 L s0 c (k + 1)))) m = some (.dK (mk4 L s0 c (k + 1))) := upd_same
      have hc2 : (upd H m (HO.dK (mk4 L s0 c (k + 1)))) c = some (.lst (cs.map V.int)) := by
        rw [upd_ne ncm]
        exact hc
      have bt : But m H (upd H m (HO.dK (mk4 L s0 c (k + 1)))) := But.upd
      generalize upd H m (HO.dK (mk4 L s0 c (k + 1))) = H2 at hm2 hc2 bt ⊢
      have gC : DGet H2 m (.str "cells") (some (.ref c)) := m4_cells (c := c) ▸ DGet.k (k := Sum.inr "cells") hm2
      have gE : DGet H2 m (.str "seed") (some (.int s0)) := m4_seed (s := s0) ▸ DGet.k (k := Sum.inr "seed") hm2
      have bk : B 20 (k : Int) := by
        unfold B
        omega
      refine ⟨_, rfl, m, _, rfl, gC, _, rfl, m, _, rfl, gE, _, rfl, _, _, rfl, rfl, (Or.inl ⟨by decide, by decide⟩), _, rfl, _, _, rfl, rfl, ((B.lit (n := 20) (by decide)).mul bk).mulW bk (by decide), _, _, rfl, rfl, _, _, rfl, ?_⟩
      have hlz : (0 : Int) < ((cs.map V.int).length : Int) := by
        rw [List.length_map]
        omega
      have hix : ∃ z : Int, atI (cs.map V.int) ((k : Int) % ((cs.map V.int).length : Int)) = some (.int z) := by
        rw [List.length_map]
        have h1 : k % cs.length < cs.length := Nat.mod_lt _ hl
        refine ⟨cs[k % cs.length], ?_⟩
        rw [← Int.natCast_emod]
        refine atI_nat ?_
        rw [List.getElem?_map, List.getElem?_eq_getElem h1]
        rfl
      obtain ⟨z, hz⟩ := hix
      refine ⟨_, rfl, _, rfl, _, rfl, _, rfl, c, _, rfl, .inl (.inl (.inl hc2)), _, _, rfl, rfl, hlz, c, _, _, _, rfl, rfl, .inl (.inl hc2), hz, ?_⟩
      have bk2 : B 30 (2 * (k : Int) + 3) := by
        unfold B
        omega
      refine ⟨_, rfl, _, rfl, _, _, rfl, rfl, (Or.inl ⟨by decide, by decide⟩), _, _, rfl, rfl, _, _, rfl, rfl, bk2.mulR (by decide), _, rfl, _, _, rfl, rfl, _, rfl, _, _, rfl, rfl, (by show (0 : Int) < 2147483647; decide), ?_⟩
      have be : ∀ y : Int, B 32 (y % 2147483647) := fun y => by
        have h1 := Int.emod_nonneg y (show (2147483647 : Int) ≠ 0 by decide)
        have h2 := Int.emod_lt_of_pos y (show (0 : Int) < 2147483647 by decide)
        unfold B
        omega
      refine ⟨_, rfl, _, rfl, _, _, rfl, rfl, (be _).mulR (by decide), _, rfl, _, _, rfl, rfl, (Or.inl ⟨by decide, by decide⟩), _, _, rfl, rfl, _, rfl, m, _, rfl, gE, _, _, rfl, rfl, _, rfl, _, _, rfl, rfl, (by show (0 : Int) < 2147483629; decide), ?_⟩
      refine ⟨_, rfl, _, _, rfl, rfl, (Or.inr ⟨by decide, by decide⟩), _, rfl, _, _, rfl, rfl, _, rfl, _, _, rfl, rfl, (by show (0 : Int) < 2147483647; decide), _, _, rfl, rfl, ⟨by decide, by decide⟩, _, rfl, _, _, rfl, rfl, hb0, ?_⟩
      exact q _ _ bt ⟨L, s0, cs, k + 1, hm2, by omega, hc2, hl⟩ (Int.emod_nonneg _ (by omega)) (Int.emod_lt_of_pos _ hb0)
/-! ### one of some -/
def sp_law_of (K : PySem.W.Frag) : Sp := fun vs H Q _ => ∃ (m cl a : Addr) (xs : List V) (n : Nat), vs = [.ref m, .ref a] ∧ SqL K H a xs ∧ 0 < xs.length ∧ xs.length ≤ 1000 ∧ n ≤ 1000000 ∧ MAt H m cl n ∧ ∀ H' x, But m H H' → MAt H' m cl (n + 1) → x ∈ xs → Q x H'
abbrev s__law_of : Stmt := topS 75
theorem sc__law_of : FnScope ["m", "some"] ["m", "some"] (defScope s__law_of) := ⟨rfl, rfl, rfl, by decide +kernel, rfl, by decide +kernel, by decide +kernel⟩
theorem k_law_of (T : Tx K mg) (D : Df K mg "_law_of" s__law_of ["m", "some"]) (c_law_draw : Kl P w K mg base 1 "_law_draw" (sp_law_draw K)) : Kl P w K mg base 2 "_law_of" (sp_law_of K) := by
  have nd := sc__law_of.nd
  refine Kl.by_body D sc__law_of (fun vs H Q E h => ?_) (fun f cdv A outer s H vs Q E hr h => ?_)
  · obtain ⟨_, _, _, _, _, rfl, _⟩ := h
    rfl
  · obtain ⟨m, cl, a, xs, n, rfl, hx, h0, h1, hn, hM, q⟩ := h
    have hu1 := hu_of hr
    refine ⟨_, (pss_one (ps_ret (pe_ix ix_list (pv 1) (pe_k c_law_draw  hr (by decide) (by rfl) (pa_cons (pv 0) (pa_cons (pe_callB call_len_seq (by rfl) T.len (by decide +kernel) (pa_cons (pv 1) pa_nil)) pa_nil))) (fun _ _ => rfl)))), ?_⟩
    refine ⟨.ref a, rfl, _, rfl, .ref a, rfl, a, xs, rfl, .inl hx, m, cl, _, n, rfl, by omega, by omega, hn, hM, fun H1 r b1 m1 r0 r1 => ?_⟩
    have hr1 : r.toNat < xs.length := by omega
    refine ⟨a, xs, r, xs[r.toNat], rfl, rfl, b1.seqL hM hx, ?_, q _ _ b1 m1 (List.getElem_mem hr1)⟩
    have key : atI xs ((r.toNat : Nat) : Int) = some xs[r.toNat] := atI_nat (List.getElem?_eq_getElem hr1)
    rw [show ((r.toNat : Nat) : Int) = r by omega] at key
    exact key
/-! ### between -/
def sp_law_between (K : PySem.W.Frag) : Sp := fun vs H Q _ => ∃ (m cl : Addr) (z : Int) (n : Nat), vs = [.ref m, .int z] ∧ 0 ≤ z ∧ z ≤ 2000000000 ∧ n ≤ 1000000 ∧ MAt H m cl n ∧ ∀ H' r, But m H H' → MAt H' m cl (n + 1) → -z ≤ r → r ≤ z → Q (.int r) H'
abbrev s__law_between : Stmt := topS 76
theorem sc__law_between : FnScope ["m", "size"] ["m", "size"] (defScope s__law_between) := ⟨rfl, rfl, rfl, by decide +kernel, rfl, by decide +kernel, by decide +kernel⟩
theorem k_law_between (T : Tx K mg) (D : Df K mg "_law_between" s__law_between ["m", "size"]) (c_law_draw : Kl P w K mg base 1 "_law_draw" (sp_law_draw K)) : Kl P w K mg base 2 "_law_between" (sp_law_between K) := by
  have nd := sc__law_between.nd
  refine Kl.by_body D sc__law_between (fun vs H Q E h => ?_) (fun f cdv A outer s H vs Q E hr h => ?_)
  · obtain ⟨_, _, _, _, rfl, _⟩ := h
    rfl
  · obtain ⟨m, cl, z, n, rfl, h0, h1, hn, hM, q⟩ := h
    have hu1 := hu_of hr
    refine ⟨_, (pss_one (ps_ret (pe_op op_sub (pe_k c_law_draw  hr (by decide) (by rfl) (pa_cons (pv 0) (pa_cons (pe_op op_add (pe_op op_mul pe_int (pv 1)) pe_int) pa_nil))) (pv 1)))), ?_⟩
    refine ⟨_, rfl, _, rfl, _, _, rfl, rfl, (Or.inl ⟨by decide, by decide⟩), _, _, rfl, rfl, m, cl, _, n, rfl, by omega, by omega, hn, hM, fun H1 r b1 m1 r0 r1 => ?_⟩
    refine ⟨_, rfl, _, _, rfl, rfl, ?_⟩
    exact q _ _ b1 m1 (by omega) (by omega)
/-! ### the state of a turn -/
def sp_law_begun (K : PySem.W.Frag) : Sp := fun vs H Q _ => ∃ (a : Addr) (k : Int) (ns : List Int), vs = [.ref a, .int k] ∧ SqL K H a (ns.map V.int) ∧ ns.length ≤ 63 ∧ 0 ≤ k ∧ k ≤ 100 ∧ ∀ H' m cl, Same H H' → H m = none → H cl = none → MAt H' m cl 0 → Q (.ref m) H'
theorem cut_int {ns : List Int} (lo hi : Option Int) : ∃ ms : List Int, cutV (ns.map V.int) lo hi = ms.map V.int ∧ ms.length ≤ ns.length := by
  unfold cutV
  refine ⟨(ns.drop (HT.sIx (ns.map V.int).length 0 lo)).take (HT.sIx (ns.map V.int).length (ns.map V.int).length hi - HT.sIx (ns.map V.int).length 0 lo), ?_, ?_⟩
  · rw [List.map_take, List.map_drop]
  · rw [List.length_take, List.length_drop]
    omega
abbrev s__law_begun : Stmt := topS 73
theorem sc__law_begun : FnScope ["script", "k", "cells", "great", "cell", "begun", "left"] ["script", "k"] (defScope s__law_begun) := ⟨rfl, rfl, rfl, by decide +kernel, rfl, by decide +kernel, by decide +kernel⟩
theorem k_law_begun (T : Tx K mg) (D : Df K mg "_law_begun" s__law_begun ["script", "k"])  : Kl P w K mg base 1 "_law_begun" (sp_law_begun K) := by
  have nd := sc__law_begun.nd
  refine Kl.by_body D sc__law_begun (fun vs H Q E h => ?_) (fun f cdv A outer s H vs Q E hr h => ?_)
  · obtain ⟨_, _, _, rfl, _⟩ := h
    rfl
  · obtain ⟨a, k, ns, rfl, hx, hl, hk0, hk1, q⟩ := h
    have hu1 := hu_of hr
    refine ⟨_, (pss_cons (ps_set (i := 2) nd rfl (by first | exact Or.inl rfl | exact Or.inr rfl) (pe_op op_cat (pe_slice sl_list (pv 0) (po_some (pv 1)) po_none) (pe_slice sl_list (pv 0) po_none (po_some (pv 1)))))
      (pss_cons (ps_setLc (i := 3) (own := [("cell", 4)]) (g := gName 4) rfl nd rfl rfl (sw_true rfl rfl rfl (by decide +kernel)) (pi_list (pv 0)) (blkOk_by (N := ["script", "k", "cells", "great", "cell", "begun", "left"]) (sc := defScope s__law_begun) (by decide +kernel)) (fun _ _ _ _ _ => (pg_name (i := 4) nd rfl (by first | exact Or.inl rfl | exact Or.inr rfl))) (fun _ _ _ _ _ => (pts_one (pt_cmpR op_ge (pv 4) (pe_op op_pow pe_int pe_int) (nomark _)))) (fun _ _ _ _ _ => (pv 4)))
      (pss_cons (ps_set (i := 5) nd rfl (by first | exact Or.inl rfl | exact Or.inr rfl) (pe_op op_add pe_int (pe_op op_mul pe_int (pv 1))))
      (pss_cons (ps_for PassesOwn.never rfl (pi_list (pv 2)) (pg_name (i := 4) nd rfl (by first | exact Or.inl rfl | exact Or.inr rfl)) (pss_one (ps_set (i := 5) nd rfl (by first | exact Or.inl rfl | exact Or.inr rfl) (pe_op op_mod (pe_callTy call_intI (by rfl) T.int (by decide +kernel) (pa_cons (pe_op op_add (pe_op op_mul (pv 5) pe_int) (pv 4)) pa_nil)) pe_int))))
      (pss_cons (ps_set (i := 6) nd rfl (by first | exact Or.inl rfl | exact Or.inr rfl) (pe_ifExp (pt_cmpR op_lt (pv 1) (pe_callB call_len_seq (by rfl) T.len (by decide +kernel) (pa_cons (pv 3) pa_nil)) (nomark _)) (pe_ix ix_list (pv 3) (pv 1) (fun _ _ => rfl)) pe_int))
      (pss_one (ps_ret (pe_disp (pps_cons pe_str (pv 6) (pps_cons pe_str (pv 5) (pps_cons pe_str (pe_op op_cat (pv 2) (pe_lst (pa_cons (pe_op op_add (pe_op op_mul pe_int (pv 1)) pe_int) pa_nil))) (pps_cons pe_str pe_int pps_nil)))) (by rfl) (by rfl) (fun z => by cases z) (by decide))))))))), ?_⟩
    obtain ⟨m1, e1, l1⟩ := cut_int (ns := ns) (some k) none
    obtain ⟨m2, e2, l2⟩ := cut_int (ns := ns) none (some k)
    refine ⟨.ref a, rfl, _, rfl, k, rfl, a, _, rfl, hx, fun p1 n1 => ?_⟩
    rw [e1]
    have s1 : Same H (upd H p1 (.lst (m1.map V.int))) := Same.new n1
    have g1 : (upd H p1 (.lst (m1.map V.int))) p1 = some (.lst (m1.map V.int)) := upd_same
    generalize upd H p1 (.lst (m1.map V.int)) = H1 at s1 g1 ⊢
    refine ⟨.ref a, rfl, _, rfl, k, rfl, a, _, rfl, s1.seq hx, fun p2 n2 => ?_⟩
    rw [e2]
    have s2 : Same H1 (upd H1 p2 (.lst (m2.map V.int))) := Same.new n2
    have g2 : (upd H1 p2 (.lst (m2.map V.int))) p2 = some (.lst (m2.map V.int)) := upd_same
    generalize upd H1 p2 (.lst (m2.map V.int)) = H2 at s2 g2 ⊢
    refine ⟨p1, p2, _, _, rfl, rfl, s2 _ _ g1, g2, ?_, fun p3 n3 => ?_⟩
    · rw [List.length_map, List.length_map]
      exact small (by omega)
    rw [← List.map_append]
    have s3 : Same H2 (upd H2 p3 (.lst ((m1 ++ m2).map V.int))) := Same.new n3
    have g3 : (upd H2 p3 (.lst ((m1 ++ m2).map V.int))) p3 = some (.lst ((m1 ++ m2).map V.int)) := upd_same
    have hl3 : (m1 ++ m2).length ≤ 126 := by
      rw [List.length_append]
      omega
    generalize m1 ++ m2 = cs at s3 g3 hl3 ⊢
    generalize upd H2 p3 (.lst (cs.map V.int)) = H3 at s3 g3 ⊢
    have sA : Same H H3 := (s1.trans s2).trans s3
    clear s1 s2 s3 g1 g2
    first | refine sigN [some (.ref a), some (.int (k)), some (V.ref p3), none, none, none, none] (by rfl) ?_ | refine sig [some (.ref a), some (.int (k)), some (V.ref p3), none, none, none, none] (by rfl) ?_
    refine ⟨.ref a, rfl, a, rfl, ⟨_, sA.seq hx⟩, fun D hD => ?_⟩
    refine lc_list (K := K) (a := a) (xs := ns.map V.int) (fun i H4 => Same H3 H4 ∧ ∃ gs : List Int, H4 D = some (.lst (gs.map V.int)) ∧ gs.length ≤ i) ⟨Same.new hD, [], upd_same, Nat.le_refl _⟩ (fun i H4 _ z => (sA.trans z.1).seq hx) (fun i x H4 hi z => ?_) (fun H4 z => ?_)
    · obtain ⟨s4, gs, g4, l4⟩ := z
      obtain ⟨y, rfl⟩ : ∃ y : Int, x = .int y := by
        rw [List.getElem?_map] at hi
        cases e : ns[i]? with
        | none =>
          rw [e] at hi
          cases hi
        | some y =>
          rw [e] at hi
          exact ⟨y, (Option.some.inj hi).symm⟩
      have hi2 : i < ns.length := by
        have h1 := (List.getElem?_eq_some_iff.mp hi).1
        rw [List.length_map] at h1
        exact h1
      refine ⟨rfl, _, rfl, _, _, rfl, rfl, ⟨by decide, by decide, by decide⟩, _, _, rfl, rfl, _, rfl, ite2 (fun _ => ?_) (fun _ => ?_)⟩
      · refine ⟨_, rfl, _, g4, ?_, Same.put s4 hD, gs ++ [y], ?_, ?_⟩
        · rw [List.length_map]
          exact small1000 (by omega)
        · rw [upd_same, List.map_append]
          rfl
        · rw [List.length_append]
          exact Nat.add_le_add_right l4 1
      · exact ⟨s4, gs, g4, Nat.le_succ_of_le l4⟩
    · obtain ⟨s4, gs, g4, l4⟩ := z
      have sB : Same H H4 := sA.trans s4
      have g3' := s4 _ _ g3
      refine ⟨_, rfl, _, _, rfl, rfl, (Or.inl ⟨by decide, by decide⟩), _, _, rfl, rfl, ?_⟩
      first | refine sigN [some (.ref a), some (.int (k)), some (V.ref p3), some (V.ref D), none, some (.int (61 + 9 * k)), none] (by rfl) ?_ | refine sig [some (.ref a), some (.int (k)), some (V.ref p3), some (V.ref D), none, some (.int (61 + 9 * k)), none] (by rfl) ?_
      refine ⟨_, rfl, p3, rfl, ⟨_, .inl (.inl g3')⟩, for_list (K := K) (a := p3) (xs := cs.map V.int) (fun i σ H5 => H5 = H4 ∧ ∃ (y : Int) (v : Option V), σ = [some (.ref a), some (.int k), some (.ref p3), some (.ref D), v, some (.int y), none]) ⟨rfl, _, none, rfl⟩ (fun i σ H5 _ z => by rw [z.1]; exact .inl (.inl g3')) ?_ ?_⟩
      · rintro i x σ H5 hi ⟨rfl, y, v, rfl⟩
        obtain ⟨t, rfl⟩ : ∃ t : Int, x = .int t := by
          rw [List.getElem?_map] at hi
          cases e : cs[i]? with
          | none =>
            rw [e] at hi
            cases hi
          | some t =>
            rw [e] at hi
            exact ⟨t, (Option.some.inj hi).symm⟩
        refine ⟨_, rfl, _, _, rfl, rfl, (Or.inr ⟨by decide, by decide⟩), _, rfl, _, _, rfl, rfl, _, rfl, _, _, rfl, rfl, (by show (0 : Int) < 2147483647; decide), ?_⟩
        exact ⟨rfl, _, _, rfl⟩
      · rintro σ H5 ⟨rfl, y, v, rfl⟩
        refine ⟨_, rfl, _, rfl, D, _, rfl, .inl (.inl (.inl g4)), _, _, rfl, rfl, _, rfl, ite2 (fun e => ?A) (fun e => ?B)⟩
        case' A =>
          have e' : k < ((gs.map V.int).length : Int) := of_decide_eq_true e
          rw [List.length_map] at e'
          have hk2 : k.toNat < gs.length := by omega
          have hz : atI (gs.map V.int) k = some (.int gs[k.toNat]) := by
            have key : atI (gs.map V.int) ((k.toNat : Nat) : Int) = some (.int gs[k.toNat]) := atI_nat (by
              rw [List.getElem?_map, List.getElem?_eq_getElem hk2]
              rfl)
            rw [show ((k.toNat : Nat) : Int) = k by omega] at key
            exact key
          refine ⟨_, rfl, _, rfl, D, _, _, _, rfl, rfl, .inl (.inl g4), hz, ?_⟩
        all_goals
          intro m nm
          have h3m : p3 ≠ m := ne_of_none g3' nm
          refine ⟨_, rfl, _, rfl, _, rfl, _, rfl, _, _, rfl, rfl, (Or.inl ⟨by decide, by decide⟩), _, _, rfl, rfl, (by show 1 ≤ sizeLine; decide), fun l nl => ?_⟩
          have nml : m ≠ l := ne_of_none upd_same nl
          have nl0 : H5 l = none := Same.free (Same.new nm) nl
          refine ⟨p3, l, cs.map V.int, [V.int (47 * k + 19)], rfl, rfl, ?_, upd_same, ?_, fun u nu => ?_⟩
          · rw [upd_ne (ne_of_none g3' nl0), upd_ne h3m]
            exact g3'
          · rw [List.length_map]
            exact small (by show cs.length + 1 ≤ 1000; omega)
          have nmu : m ≠ u := ne_of_none (by rw [upd_ne nml]; exact upd_same) nu
          have nu0 : H5 u = none := Same.free (Same.put (Same.new nm) nl0) nu
          refine ⟨?_, mk4 _ y u 0, rfl, (by show 4 ≤ 15; decide), ?_⟩
          · rw [upd_ne nmu, upd_ne nml]
            exact upd_same
          rw [m4_merge]
          have hm0 : H m = none := Same.free sB nm
          have hl0 : H l = none := Same.free sB nl0
          have hu0 : H u = none := Same.free sB nu0
          refine q _ m u (Same.put (Same.put (Same.put (Same.put sB hm0) hl0) hu0) hm0) hm0 hu0 ⟨_, y, cs ++ [47 * k + 19], 0, upd_same, Nat.le_refl _, ?_, ?_⟩
          · rw [upd_ne (fun z => nmu z.symm), upd_same, List.map_append]
            rfl
          · rw [List.length_append]
            exact Nat.lt_of_lt_of_le (by decide : 0 < 1) (Nat.le_add_left _ _)
end
end K15
set_option Elab.async false
set_option linter.all false
set_option maxRecDepth 100000
set_option maxHeartbeats 400000
namespace K15
open PySem PySem.Spec PyProof.Rows L2 Gd QM
/-! ### changes -/
structure Ch where
  u : Rat
  r : Rat
  s : Rat
  t : Rat
structure ChB (m : Nat) (c : Ch) : Prop where
  u0 : c.u ≠ 0
  u : RB m c.u
  r : RB m c.r
  s : RB m c.s
  t : RB m c.t
/-- a change stands there -/
def ChAt (K : PySem.W.Frag) (H : Hp) (p : Addr) (c : Ch) : Prop := ∃ pu pr ps pt, SqT K H p [.ref pu, .ref pr, .ref ps, .ref pt] ∧ SqT K H pu (fq c.u) ∧ SqT K H pr (fq c.r) ∧ SqT K H ps (fq c.s) ∧ SqT K H pt (fq c.t)
theorem ChAt.same {K : PySem.W.Frag} {H H' : Hp} {p : Addr} {c : Ch} (s : Same H H') (h : ChAt K H p c) : ChAt K H' p c := by
  obtain ⟨a, b, d, e, h1, h2, h3, h4, h5⟩ := h
  exact ⟨a, b, d, e, Same.tup s h1, Same.tup s h2, Same.tup s h3, Same.tup s h4, Same.tup s h5⟩
theorem ChAt.but {K : PySem.W.Frag} {m cl : Addr} {n : Nat} {H H' : Hp} {p : Addr} {c : Ch} (s : But m H H') (hM : MAt H m cl n) (h : ChAt K H p c) : ChAt K H' p c := by
  obtain ⟨a, b, d, e, h1, h2, h3, h4, h5⟩ := h
  exact ⟨a, b, d, e, s.seqT hM h1, s.seqT hM h2, s.seqT hM h3, s.seqT hM h4, s.seqT hM h5⟩
def l1 (c : Ch) (a1 : Rat) : Rat := (a1 + 2 * c.s) / c.u
def l2 (c : Ch) (a1 a2 : Rat) : Rat := (a2 - c.s * a1 + 3 * c.r - c.s * c.s) / (c.u * c.u)
def l3 (c : Ch) (a1 a3 : Rat) : Rat := (a3 + c.r * a1 + 2 * c.t) / (c.u * c.u * c.u)
def l4 (c : Ch) (a1 a2 a3 a4 : Rat) : Rat := (a4 - c.s * a3 + 2 * c.r * a2 - (c.t + c.r * c.s) * a1 + 3 * c.r * c.r - 2 * c.s * c.t) / (c.u * c.u * (c.u * c.u))
def l6 (c : Ch) (a1 a2 a3 a4 a6 : Rat) : Rat := (a6 + c.r * a4 + c.r * c.r * a2 + c.r * c.r * c.r - c.t * a3 - c.t * c.t - c.r * c.t * a1) / (c.u * c.u * c.u * (c.u * c.u * c.u))
def Cv.ints (c : Cv) : List Int := [c.a1, c.a2, c.a3, c.a4, c.a6]
theorem Cv.tup_ints (c : Cv) : c.tup = c.ints.map V.int := rfl
structure CvB (m : Nat) (c : Cv) : Prop where
  h1 : B m c.a1
  h2 : B m c.a2
  h3 : B m c.a3
  h4 : B m c.a4
  h6 : B m c.a6
section
variable {P : Program} {w : World} {K : PySem.W.Frag} {mg : Str → Option Value} {base : Heap}
local macro_rules | `(tactic| walk_at "mm") => `(tactic| (repeat (first | exact List.mem_cons_self | apply List.mem_cons_of_mem)))
theorem rb_two : RB 2 (2 : Rat) := ⟨by decide, by decide⟩
theorem rb_three : RB 2 (3 : Rat) := ⟨by decide, by decide⟩
theorem fq_2 : [V.int 2, V.int 1] = fq 2 := rfl
theorem fq_3 : [V.int 3, V.int 1] = fq 3 := rfl
theorem qmul_ne {a b : Rat} (h : a ≠ 0) (k : b ≠ 0) : a * b ≠ 0 := fun e => by
  rcases Rat.mul_eq_zero.mp e with e | e
  · exact h e
  · exact k e
/-- five fractions that a change leads to -/
def LedAt (K : PySem.W.Frag) (H : Hp) (t : Addr) (c : Ch) (v : Cv) : Prop := ∃ p1 p2 p3 p4 p6, H t = some (.tup [.ref p1, .ref p2, .ref p3, .ref p4, .ref p6]) ∧ SqT K H p1 (fq (l1 c v.a1)) ∧ SqT K H p2 (fq (l2 c v.a1 v.a2)) ∧ SqT K H p3 (fq (l3 c v.a1 v.a3)) ∧ SqT K H p4 (fq (l4 c v.a1 v.a2 v.a3 v.a4)) ∧ SqT K H p6 (fq (l6 c v.a1 v.a2 v.a3 v.a4 v.a6))
theorem LedAt.same {H H' : Hp} {t : Addr} {c : Ch} {v : Cv} (s : Same H H') (h : LedAt K H t c v) : LedAt K H' t c v := by
  obtain ⟨a, b, d, e, f, h1, h2, h3, h4, h5, h6⟩ := h
  exact ⟨a, b, d, e, f, s _ _ h1, Same.tup s h2, Same.tup s h3, Same.tup s h4, Same.tup s h5, Same.tup s h6⟩
def sp_led (K : PySem.W.Frag) : Sp := fun vs H Q _ => ∃ (p o : Addr) (c : Cv) (d : Ch), vs = [.ref p, .ref o] ∧ SqT K H p c.tup ∧ CvB 97 c ∧ ChAt K H o d ∧ ChB 29 d ∧ ∀ H' t, Same H H' → LedAt K H' t d c → Q (.ref t) H'
end
end K15
set_option Elab.async false
set_option linter.all false
set_option maxRecDepth 100000
set_option maxHeartbeats 400000
namespace K15
open PySem PySem.Spec PyProof.Rows L2 Gd QM
theorem pg_tupK {X : Cx} {K : PySem.W.Frag} {es : List Expr} {k : Nat} {t : TGs} {n : Nat} {pos : Pos} (hK : X.K = K) (hc : X.calm = true) (h : PGs X es t)
    (hn : (assignEach es X.env).length = n := by rfl) (hst : (assignEach es X.env).findIdx? (·.1) = none := by rfl) : PG X (.Tuple es k pos) (gTup K n t) := by
  subst hK
  exact pg_tup hc h hn hst
/-! ### five fractions -/
def qsL (d : Ch) (c : Cv) : List Rat := [l1 d c.a1, l2 d c.a1 c.a2, l3 d c.a1 c.a3, l4 d c.a1 c.a2 c.a3 c.a4, l6 d c.a1 c.a2 c.a3 c.a4 c.a6]
/-- refs at fractions -/
def RfAt (K : PySem.W.Frag) (H : Hp) (xs : List V) (qs : List Rat) : Prop := xs.length = qs.length ∧ ∀ (i : Nat) (x : V), xs[i]? = some x → ∃ a q, x = .ref a ∧ qs[i]? = some q ∧ SqT K H a (fq q)
theorem RfAt.same {K : PySem.W.Frag} {H H' : Hp} {xs : List V} {qs : List Rat} (s : Same H H') (h : RfAt K H xs qs) : RfAt K H' xs qs :=
  ⟨h.1, fun i x e => (h.2 i x e).imp fun a z => z.imp fun q y => ⟨y.1, y.2.1, Same.tup s y.2.2⟩⟩
def AllW (qs : List Rat) : Prop := ∀ q ∈ qs, q.den = 1
theorem take_map {A B : Type} (f : A → B) {qs : List A} {i : Nat} {q : A} (h : qs[i]? = some q) : (qs.take (i + 1)).map f = (qs.take i).map f ++ [f q] := by
  rw [List.take_succ, List.map_append, h]
  rfl
section
variable {P : Program} {w : World} {K : PySem.W.Frag} {mg : Str → Option Value} {base : Heap}
def sp_whole_curve (K : PySem.W.Frag) : Sp := fun vs H Q _ => ∃ (p : Addr) (xs : List V) (qs : List Rat), vs = [.ref p] ∧ SqT K H p xs ∧ RfAt K H xs qs ∧ qs.length = 5 ∧ (AllW qs → ∀ H' t, Same H H' → H' t = some (.tup (qs.map fun q => .int q.num)) → Q (.ref t) H') ∧ (¬ AllW qs → ∀ H', Same H H' → Q .non H')
end
end K15
set_option linter.all false
set_option maxRecDepth 100000
namespace K15
open PySem PySem.Spec PyProof.Rows L2 Gd QM
/-! ### the reduced curve -/
def rS (c : Cv) : Int := -(c.a1 / 2)
def rR (c : Cv) : Int := -((c.a2 - rS c * c.a1 - rS c * rS c + 1) / 3)
def rT (c : Cv) : Int := -((c.a3 + rR c * c.a1) / 2)
def moved (c : Cv) (r s t : Int) : Cv := ⟨c.a1 + 2 * s, c.a2 - s * c.a1 + 3 * r - s * s, c.a3 + r * c.a1 + 2 * t, c.a4 - s * c.a3 + 2 * r * c.a2 - (t + r * s) * c.a1 + 3 * r * r - 2 * s * t, c.a6 + r * c.a4 + r * r * c.a2 + r * r * r - t * c.a3 - t * t - r * t * c.a1⟩
def red (c : Cv) : Cv := moved c (rR c) (rS c) (rT c)
structure Rc (c : Cv) : Prop where
  h1 : c.a1 = 0 ∨ c.a1 = 1
  h2 : c.a2 = -1 ∨ c.a2 = 0 ∨ c.a2 = 1
  h3 : c.a3 = 0 ∨ c.a3 = 1
theorem red_rc (c : Cv) : Rc (red c) := by
  refine ⟨?_, ?_, ?_⟩
  · show c.a1 + 2 * rS c = 0 ∨ c.a1 + 2 * rS c = 1
    unfold rS
    omega
  · show c.a2 - rS c * c.a1 + 3 * rR c - rS c * rS c = -1 ∨ c.a2 - rS c * c.a1 + 3 * rR c - rS c * rS c = 0 ∨ c.a2 - rS c * c.a1 + 3 * rR c - rS c * rS c = 1
    unfold rR
    generalize rS c * c.a1 = x
    generalize rS c * rS c = y
    omega
  · show c.a3 + rR c * c.a1 + 2 * rT c = 0 ∨ c.a3 + rR c * c.a1 + 2 * rT c = 1
    unfold rT
    generalize rR c * c.a1 = x
    omega
theorem mv2 (c : Cv) (r s t : Int) : (moved c r s t).b2 = c.b2 + 12 * r := by
  unfold moved Cv.b2
  grind
theorem mv4 (c : Cv) (r s t : Int) : (moved c r s t).b4 = c.b4 + r * c.b2 + 6 * r * r := by
  unfold moved Cv.b4 Cv.b2
  grind
theorem mv6 (c : Cv) (r s t : Int) : (moved c r s t).b6 = c.b6 + 2 * r * c.b4 + r * r * c.b2 + 4 * r * r * r := by
  unfold moved Cv.b6 Cv.b4 Cv.b2
  grind
theorem mvc4 (c : Cv) (r s t : Int) : (moved c r s t).c4 = c.c4 := by
  unfold Cv.c4
  rw [mv2, mv4]
  grind
theorem mvc6 (c : Cv) (r s t : Int) : (moved c r s t).c6 = c.c6 := by
  unfold Cv.c6
  rw [mv2, mv4, mv6]
  grind
theorem b8_eq (c : Cv) : 4 * c.b8 = c.b2 * c.b6 - c.b4 * c.b4 := by
  unfold Cv.b8 Cv.b2 Cv.b4 Cv.b6
  grind
theorem disc_eq (c : Cv) : 1728 * c.disc = c.c4 * c.c4 * c.c4 - c.c6 * c.c6 := by
  have h := b8_eq c
  unfold Cv.disc Cv.c4 Cv.c6
  generalize c.b2 = b2 at *
  generalize c.b4 = b4 at *
  generalize c.b6 = b6 at *
  generalize c.b8 = b8 at *
  have e : b2 * b2 * b8 * 4 = b2 * b2 * (b2 * b6 - b4 * b4) := by rw [← h]; grind
  grind
theorem disc0 (c : Cv) : c.disc = 0 ↔ c.c4 * c.c4 * c.c4 = c.c6 * c.c6 := by
  have := disc_eq c
  omega
theorem red_c4 (c : Cv) : (red c).c4 = c.c4 := mvc4 _ _ _ _
theorem red_c6 (c : Cv) : (red c).c6 = c.c6 := mvc6 _ _ _ _
theorem red_d {c : Cv} (h : c.disc ≠ 0) : (red c).disc ≠ 0 := fun e => h (by
  rw [disc0] at e ⊢
  rw [red_c4, red_c6] at e
  exact e)
theorem b2_of {c : Cv} (h : Rc c) : (c.a1 = 0 ∧ c.a2 = -1 ∧ c.b2 = -4) ∨ (c.a1 = 0 ∧ c.a2 = 0 ∧ c.b2 = 0) ∨ (c.a1 = 0 ∧ c.a2 = 1 ∧ c.b2 = 4) ∨ (c.a1 = 1 ∧ c.a2 = -1 ∧ c.b2 = -3) ∨ (c.a1 = 1 ∧ c.a2 = 0 ∧ c.b2 = 1) ∨ (c.a1 = 1 ∧ c.a2 = 1 ∧ c.b2 = 5) := by
  obtain ⟨h1, h2, h3⟩ := h
  unfold Cv.b2
  rcases h1 with e | e <;> rcases h2 with f | f | f <;> rw [e, f] <;> decide
theorem c4_of (c : Cv) : c.c4 = c.b2 * c.b2 - 24 * c.b4 := rfl
theorem c6_of (c : Cv) : c.c6 = 36 * c.b2 * c.b4 - c.b2 * c.b2 * c.b2 - 216 * c.b6 := rfl
theorem uniq {c d : Cv} (hc : Rc c) (hd : Rc d) (e4 : c.c4 = d.c4) (e6 : c.c6 = d.c6) : c = d := by
  have k1 := b2_of hc
  have k2 := b2_of hd
  rw [c4_of, c4_of] at e4
  rw [c6_of, c6_of] at e6
  have f4 : c.b4 = 2 * c.a4 + c.a1 * c.a3 := rfl
  have g4 : d.b4 = 2 * d.a4 + d.a1 * d.a3 := rfl
  have f6 : c.b6 = c.a3 * c.a3 + 4 * c.a6 := rfl
  have g6 : d.b6 = d.a3 * d.a3 + 4 * d.a6 := rfl
  have h3 := hc.h3
  have l3 := hd.h3
  obtain ⟨a1, a2, a3, a4, a6⟩ := c
  obtain ⟨b1, b2, b3, b4, b6⟩ := d
  simp only [] at *
  generalize Cv.b4 ⟨a1, a2, a3, a4, a6⟩ = u4 at *
  generalize Cv.b6 ⟨a1, a2, a3, a4, a6⟩ = u6 at *
  generalize Cv.b2 ⟨a1, a2, a3, a4, a6⟩ = u2 at *
  generalize Cv.b4 ⟨b1, b2, b3, b4, b6⟩ = v4 at *
  generalize Cv.b6 ⟨b1, b2, b3, b4, b6⟩ = v6 at *
  generalize Cv.b2 ⟨b1, b2, b3, b4, b6⟩ = v2 at *
  have same : a1 = b1 ∧ a2 = b2 ∧ u2 = v2 ∧ (a1 = 0 ∨ a1 = 1) ∧ (u2 = 0 ∨ u2 = 1 ∨ u2 = 4 ∨ u2 = 5 ∨ u2 = -4 ∨ u2 = -3) := by
    rcases k1 with ⟨rfl, rfl, rfl⟩ | ⟨rfl, rfl, rfl⟩ | ⟨rfl, rfl, rfl⟩ | ⟨rfl, rfl, rfl⟩ | ⟨rfl, rfl, rfl⟩ | ⟨rfl, rfl, rfl⟩ <;> rcases k2 with ⟨rfl, rfl, rfl⟩ | ⟨rfl, rfl, rfl⟩ | ⟨rfl, rfl, rfl⟩ | ⟨rfl, rfl, rfl⟩ | ⟨rfl, rfl, rfl⟩ | ⟨rfl, rfl, rfl⟩ <;> clear e4 f4 f6 g4 g6 h3 l3 hc hd <;> omega
  obtain ⟨rfl, rfl, rfl, ha, hb⟩ := same
  clear k1 k2 hc hd
  have e44 : u4 = v4 := by omega
  subst e44
  have e66 : u6 = v6 := by
    generalize 36 * u2 * u4 = z at e6
    omega
  subst e66
  have : a3 = b3 ∧ a4 = b4 ∧ a6 = b6 := by
    rcases ha with rfl | rfl <;> rcases h3 with rfl | rfl <;> rcases l3 with rfl | rfl <;> omega
  obtain ⟨rfl, rfl, rfl⟩ := this
  rfl
/-! ### the pair's curves by trying -/
def cand (c4 c6 : Int) (k : Nat) : Cv :=
  ⟨(k : Int) / 6, (k : Int) % 3 - 1, (k : Int) / 3 - (k : Int) / 6 * 2,
    ((((k : Int) / 6 + 4 * ((k : Int) % 3 - 1)) * ((k : Int) / 6 + 4 * ((k : Int) % 3 - 1)) - c4) / 24 - (k : Int) / 6 * ((k : Int) / 3 - (k : Int) / 6 * 2)) / 2,
    ((36 * ((k : Int) / 6 + 4 * ((k : Int) % 3 - 1)) * ((((k : Int) / 6 + 4 * ((k : Int) % 3 - 1)) * ((k : Int) / 6 + 4 * ((k : Int) % 3 - 1)) - c4) / 24) - ((k : Int) / 6 + 4 * ((k : Int) % 3 - 1)) ^ 3 - c6) / 216 - ((k : Int) / 3 - (k : Int) / 6 * 2)) / 4⟩
def Fits (c4 c6 : Int) (c : Cv) : Prop := c.c4 = c4 ∧ c.c6 = c6 ∧ c.disc ≠ 0
instance (c4 c6 : Int) (c : Cv) : Decidable (Fits c4 c6 c) := inferInstanceAs (Decidable (_ ∧ _ ∧ _))
def pairN (c4 c6 : Int) (n : Nat) : List Cv := ((List.range n).filter fun k => decide (Fits c4 c6 (cand c4 c6 k))).map (cand c4 c6)
theorem pairN_yes {c4 c6 : Int} {n : Nat} (h : Fits c4 c6 (cand c4 c6 n)) : pairN c4 c6 (n + 1) = pairN c4 c6 n ++ [cand c4 c6 n] := by
  unfold pairN
  rw [List.range_succ, List.filter_append, List.map_append, List.filter_cons_of_pos (by simpa using h)]
  rfl
theorem pairN_no {c4 c6 : Int} {n : Nat} (h : ¬ Fits c4 c6 (cand c4 c6 n)) : pairN c4 c6 (n + 1) = pairN c4 c6 n := by
  unfold pairN
  rw [List.range_succ, List.filter_append, List.filter_cons_of_neg (by simpa using h), List.filter_nil, List.append_nil]
theorem pairN_len (c4 c6 : Int) : ∀ n, (pairN c4 c6 n).length ≤ n
  | 0 => Nat.le_refl _
  | n + 1 => by
    by_cases h : Fits c4 c6 (cand c4 c6 n)
    · rw [pairN_yes h, List.length_append]
      exact Nat.add_le_add_right (pairN_len c4 c6 n) 1
    · rw [pairN_no h]
      exact Nat.le_succ_of_le (pairN_len c4 c6 n)
theorem cand_rc (c4 c6 : Int) {k : Nat} (h : k < 12) : Rc (cand c4 c6 k) := by
  refine ⟨?_, ?_, ?_⟩ <;> unfold cand <;> simp only [] <;> omega
theorem cand_self {c : Cv} (h : Rc c) : ∃ k, k < 12 ∧ cand c.c4 c.c6 k = c := by
  have k1 := b2_of h
  have e4 := c4_of c
  have e6 := c6_of c
  have f4 : c.b4 = 2 * c.a4 + c.a1 * c.a3 := rfl
  have f6 : c.b6 = c.a3 * c.a3 + 4 * c.a6 := rfl
  have h3 := h.h3
  obtain ⟨a1, a2, a3, a4, a6⟩ := c
  simp only [] at *
  generalize Cv.c4 ⟨a1, a2, a3, a4, a6⟩ = c4 at *
  generalize Cv.c6 ⟨a1, a2, a3, a4, a6⟩ = c6 at *
  generalize Cv.b4 ⟨a1, a2, a3, a4, a6⟩ = u4 at *
  generalize Cv.b6 ⟨a1, a2, a3, a4, a6⟩ = u6 at *
  generalize Cv.b2 ⟨a1, a2, a3, a4, a6⟩ = u2 at *
  refine ⟨(6 * a1 + 3 * a3 + a2 + 1).toNat, ?_, ?_⟩
  · rcases k1 with ⟨rfl, rfl, rfl⟩ | ⟨rfl, rfl, rfl⟩ | ⟨rfl, rfl, rfl⟩ | ⟨rfl, rfl, rfl⟩ | ⟨rfl, rfl, rfl⟩ | ⟨rfl, rfl, rfl⟩ <;> rcases h3 with rfl | rfl <;> decide
  · clear h
    subst e4 e6 f4 f6
    rcases k1 with ⟨rfl, rfl, rfl⟩ | ⟨rfl, rfl, rfl⟩ | ⟨rfl, rfl, rfl⟩ | ⟨rfl, rfl, rfl⟩ | ⟨rfl, rfl, rfl⟩ | ⟨rfl, rfl, rfl⟩ <;> rcases h3 with rfl | rfl <;> (unfold cand; simp <;> omega)
theorem filter_range {p : Nat → Bool} : ∀ {n k : Nat}, k < n → p k = true → (∀ j, j < n → p j = true → j = k) → (List.range n).filter p = [k]
  | 0, _, h, _, _ => absurd h (Nat.not_lt_zero _)
  | n + 1, k, h, hp, hu => by
    rw [List.range_succ, List.filter_append]
    rcases Nat.lt_or_ge k n with z | z
    · rw [filter_range z hp (fun j hj hq => hu j (by omega) hq), List.filter_cons_of_neg (fun e => by
        have := hu n (by omega) e
        omega)]
      rfl
    · obtain rfl : k = n := by omega
      rw [List.filter_cons_of_pos hp]
      have : (List.range k).filter p = [] := by
        rw [List.filter_eq_nil_iff]
        intro j hj e
        have h1 := List.mem_range.mp hj
        have := hu j (by omega) e
        omega
      rw [this]
      rfl
theorem cand_inj {c4 c6 : Int} {j k : Nat} (hj : j < 12) (hk : k < 12) (h : cand c4 c6 j = cand c4 c6 k) : j = k := by
  have h1 : (cand c4 c6 j).a1 = (cand c4 c6 k).a1 := by rw [h]
  have h2 : (cand c4 c6 j).a2 = (cand c4 c6 k).a2 := by rw [h]
  have h3 : (cand c4 c6 j).a3 = (cand c4 c6 k).a3 := by rw [h]
  clear h
  unfold cand at h1 h2 h3
  simp only [] at h1 h2 h3
  omega
theorem pair_one {c : Cv} (h : Rc c) (hd : c.disc ≠ 0) : pairN c.c4 c.c6 12 = [c] := by
  obtain ⟨k, hk, e⟩ := cand_self h
  unfold pairN
  rw [filter_range hk (by simp; rw [e]; exact ⟨rfl, rfl, hd⟩) (fun j hj hq => by
    simp at hq
    obtain ⟨h4, h6, _⟩ := hq
    refine cand_inj (c4 := c.c4) (c6 := c.c6) hj hk ?_
    rw [e]
    exact uniq (cand_rc _ _ hj) h h4 h6)]
  rw [List.map_cons, e]
  rfl
theorem pair_mem {c4 c6 : Int} {c : Cv} {n : Nat} (hn : n ≤ 12) (h : c ∈ pairN c4 c6 n) : Rc c ∧ Fits c4 c6 c := by
  unfold pairN at h
  obtain ⟨k, hk, rfl⟩ := List.mem_map.mp h
  obtain ⟨h1, h2⟩ := List.mem_filter.mp hk
  have := List.mem_range.mp h1
  exact ⟨cand_rc _ _ (by omega), of_decide_eq_true h2⟩
/-! ### what the program tells -/
def ow (n d : Int) : Option Int := if n % d = 0 then some (n / d) else none
def toldL (c4 c6 : Int) : List Int → Option (Int × Int × Int)
  | [] => none
  | b :: bs => if (b + c6) % 12 = 0 then
      match ow (b * b - c4) 24 with
      | none => none
      | some b4 => match ow (36 * b * b4 - b * b * b - c6) 216 with
        | none => none
        | some b6 => some (b, b4, b6)
    else toldL c4 c6 bs
def told (c4 c6 : Int) : Option (Int × Int × Int) := toldL c4 c6 [0, 1, 4, 5, -4, -3]
def curveOf (c4 c6 : Int) : Option Cv :=
  match told c4 c6 with
  | none => none
  | some (b2, b4, b6) => if c4 * c4 * c4 = c6 * c6 then none else
    match ow (b4 - b2 % 2 * (b6 % 2)) 2 with
    | none => none
    | some a4 => match ow (b6 - b6 % 2) 4 with
      | none => none
      | some a6 => some ⟨b2 % 2, (b2 - b2 % 2) / 4, b6 % 2, a4, a6⟩
theorem ow_some {n d k : Int} (h : ow n d = some k) : n = d * k := by
  unfold ow at h
  by_cases z : n % d = 0
  · rw [if_pos z] at h
    obtain rfl := Option.some.inj h
    have := Int.mul_ediv_add_emod n d
    omega
  · rw [if_neg z] at h
    cases h
theorem ow_mul {d k : Int} (hd : d ≠ 0) : ow (d * k) d = some k := by
  unfold ow
  rw [if_pos (Int.mul_emod_right d k), Int.mul_ediv_cancel_left k hd]
theorem ow_is {n d k : Int} (hd : d ≠ 0) (h : n = d * k) : ow n d = some k := by rw [h, ow_mul hd]
theorem toldL_some {c4 c6 : Int} : ∀ {bs : List Int} {b2 b4 b6 : Int}, toldL c4 c6 bs = some (b2, b4, b6) → b2 ∈ bs ∧ b2 * b2 - c4 = 24 * b4 ∧ 36 * b2 * b4 - b2 * b2 * b2 - c6 = 216 * b6
  | [], _, _, _, h => by cases h
  | b :: bs, b2, b4, b6, h => by
    unfold toldL at h
    by_cases z : (b + c6) % 12 = 0
    · rw [if_pos z] at h
      cases e : ow (b * b - c4) 24 with
      | none =>
        rw [e] at h
        cases h
      | some x =>
        rw [e] at h
        simp only [] at h
        cases f : ow (36 * b * x - b * b * b - c6) 216 with
        | none =>
          rw [f] at h
          cases h
        | some y =>
          rw [f] at h
          simp only [Option.some.injEq, Prod.mk.injEq] at h
          obtain ⟨rfl, rfl, rfl⟩ := h
          exact ⟨List.mem_cons_self, ow_some e, ow_some f⟩
    · rw [if_neg z] at h
      obtain ⟨h1, h2⟩ := toldL_some h
      exact ⟨List.mem_cons_of_mem _ h1, h2⟩
theorem curve_some {c4 c6 : Int} {c : Cv} (h : curveOf c4 c6 = some c) : Rc c ∧ Fits c4 c6 c := by
  unfold curveOf at h
  cases e : told c4 c6 with
  | none =>
    rw [e] at h
    cases h
  | some t =>
    obtain ⟨b2, b4, b6⟩ := t
    rw [e] at h
    simp only [] at h
    obtain ⟨hm, e4, e6⟩ := toldL_some e
    by_cases z : c4 * c4 * c4 = c6 * c6
    · rw [if_pos z] at h
      cases h
    · rw [if_neg z] at h
      cases f : ow (b4 - b2 % 2 * (b6 % 2)) 2 with
      | none =>
        rw [f] at h
        cases h
      | some a4 =>
        rw [f] at h
        simp only [] at h
        cases g : ow (b6 - b6 % 2) 4 with
        | none =>
          rw [g] at h
          cases h
        | some a6 =>
          rw [g] at h
          simp only [Option.some.injEq] at h
          subst h
          have f' := ow_some f
          have g' := ow_some g
          simp only [List.mem_cons, List.not_mem_nil, or_false] at hm
          have hb : Cv.b2 ⟨b2 % 2, (b2 - b2 % 2) / 4, b6 % 2, a4, a6⟩ = b2 := by
            unfold Cv.b2
            rcases hm with rfl | rfl | rfl | rfl | rfl | rfl <;> rfl
          have hb4 : Cv.b4 ⟨b2 % 2, (b2 - b2 % 2) / 4, b6 % 2, a4, a6⟩ = b4 := by
            unfold Cv.b4
            simp only []
            omega
          have hb6 : Cv.b6 ⟨b2 % 2, (b2 - b2 % 2) / 4, b6 % 2, a4, a6⟩ = b6 := by
            unfold Cv.b6
            simp only []
            rcases Int.emod_two_eq b6 with q | q <;> rw [q] at g' ⊢ <;> omega
          have hc4 : Cv.c4 ⟨b2 % 2, (b2 - b2 % 2) / 4, b6 % 2, a4, a6⟩ = c4 := by
            rw [c4_of, hb, hb4]
            omega
          have hc6 : Cv.c6 ⟨b2 % 2, (b2 - b2 % 2) / 4, b6 % 2, a4, a6⟩ = c6 := by
            rw [c6_of, hb, hb4, hb6]
            omega
          refine ⟨⟨?_, ?_, ?_⟩, hc4, hc6, fun d => z ?_⟩
          · show b2 % 2 = 0 ∨ b2 % 2 = 1
            omega
          · show (b2 - b2 % 2) / 4 = -1 ∨ (b2 - b2 % 2) / 4 = 0 ∨ (b2 - b2 % 2) / 4 = 1
            rcases hm with rfl | rfl | rfl | rfl | rfl | rfl <;> decide
          · show b6 % 2 = 0 ∨ b6 % 2 = 1
            omega
          · rw [disc0, hc4, hc6] at d
            exact d
theorem curve_rc {c : Cv} (h : Rc c) (hd : c.disc ≠ 0) : curveOf c.c4 c.c6 = some c := by
  have k1 := b2_of h
  have e4 := c4_of c
  have e6 := c6_of c
  have f4 : c.b4 = 2 * c.a4 + c.a1 * c.a3 := rfl
  have f6 : c.b6 = c.a3 * c.a3 + 4 * c.a6 := rfl
  have h3 := h.h3
  have hz : ¬ c.c4 * c.c4 * c.c4 = c.c6 * c.c6 := fun e => hd (disc0 c |>.mpr e)
  clear h hd
  obtain ⟨a1, a2, a3, a4, a6⟩ := c
  simp only [] at *
  generalize Cv.c4 ⟨a1, a2, a3, a4, a6⟩ = c4 at *
  generalize Cv.c6 ⟨a1, a2, a3, a4, a6⟩ = c6 at *
  generalize Cv.b4 ⟨a1, a2, a3, a4, a6⟩ = u4 at *
  generalize Cv.b6 ⟨a1, a2, a3, a4, a6⟩ = u6 at *
  generalize Cv.b2 ⟨a1, a2, a3, a4, a6⟩ = u2 at *
  have ht : told c4 c6 = some (u2, u4, u6) := by
    have s4 : ow (u2 * u2 - c4) 24 = some u4 := ow_is (by decide) (by omega)
    have s6 : ow (36 * u2 * u4 - u2 * u2 * u2 - c6) 216 = some u6 := ow_is (by decide) (by omega)
    have hh : ∀ bs : List Int, toldL c4 c6 (u2 :: bs) = some (u2, u4, u6) := fun bs => by
      unfold toldL
      rw [if_pos (by
        subst e6
        rcases k1 with ⟨_, _, rfl⟩ | ⟨_, _, rfl⟩ | ⟨_, _, rfl⟩ | ⟨_, _, rfl⟩ | ⟨_, _, rfl⟩ | ⟨_, _, rfl⟩ <;> omega), s4]
      simp only []
      rw [s6]
    have hs : ∀ (b : Int) (bs : List Int), ¬ (b + c6) % 12 = 0 → toldL c4 c6 (b :: bs) = toldL c4 c6 bs := fun b bs q => by
      rw [toldL, if_neg q]
    unfold told
    clear s4 s6 hz e4 f4 f6
    rcases k1 with ⟨_, _, rfl⟩ | ⟨_, _, rfl⟩ | ⟨_, _, rfl⟩ | ⟨_, _, rfl⟩ | ⟨_, _, rfl⟩ | ⟨_, _, rfl⟩
    · rw [hs 0 _ (by omega), hs 1 _ (by omega), hs 4 _ (by omega), hs 5 _ (by omega), hh]
    · rw [hh]
    · rw [hs 0 _ (by omega), hs 1 _ (by omega), hh]
    · rw [hs 0 _ (by omega), hs 1 _ (by omega), hs 4 _ (by omega), hs 5 _ (by omega), hs (-4) _ (by omega), hh]
    · rw [hs 0 _ (by omega), hh]
    · rw [hs 0 _ (by omega), hs 1 _ (by omega), hs 4 _ (by omega), hh]
  unfold curveOf
  rw [ht]
  simp only []
  rw [if_neg hz]
  have p1 : u2 % 2 = a1 := by rcases k1 with ⟨rfl, rfl, rfl⟩ | ⟨rfl, rfl, rfl⟩ | ⟨rfl, rfl, rfl⟩ | ⟨rfl, rfl, rfl⟩ | ⟨rfl, rfl, rfl⟩ | ⟨rfl, rfl, rfl⟩ <;> decide
  have p2 : (u2 - a1) / 4 = a2 := by rcases k1 with ⟨rfl, rfl, rfl⟩ | ⟨rfl, rfl, rfl⟩ | ⟨rfl, rfl, rfl⟩ | ⟨rfl, rfl, rfl⟩ | ⟨rfl, rfl, rfl⟩ | ⟨rfl, rfl, rfl⟩ <;> decide
  have p3 : u6 % 2 = a3 := by rcases h3 with rfl | rfl <;> omega
  rw [p1, p2, p3, ow_is (k := a4) (by decide) (by omega)]
  simp only []
  rw [ow_is (k := a6) (by decide) (by rcases h3 with rfl | rfl <;> omega)]
end K15
set_option Elab.async false
set_option linter.all false
set_option maxRecDepth 100000
set_option maxHeartbeats 400000
namespace K15
open PySem PySem.Spec PyProof.Rows L2 Gd QM
local macro_rules | `(tactic| walk_at "bd") => `(tactic| (repeat (first | assumption | apply B.add | apply B.sub | apply B.mul | apply B.neg | exact B.lit (n := 8) (by decide))))
local macro_rules | `(tactic| walk_at "bu") => `(tactic| (apply B.up; walk_at "bd"; decide))
local macro_rules | `(tactic| walk_at "bnd") => `(tactic| (apply B.mulW; walk_at "bd"; decide))
local macro_rules | `(tactic| walk_at "mm") => `(tactic| (repeat (first | exact List.mem_cons_self | apply List.mem_cons_of_mem)))
def chOf (c : Cv) : Ch := ⟨1, ((rR c : Int) : Rat), ((rS c : Int) : Rat), ((rT c : Int) : Rat)⟩
theorem num_ints (ns : List Int) : ((ns.map fun n : Int => (n : Rat)).map fun q => V.int q.num) = ns.map V.int := by
  rw [List.map_map]
  exact List.map_congr_left fun n _ => congrArg V.int (Rat.num_intCast n)
theorem Cv.Sm.s {c : Cv} (h : c.Sm) : B 10 (rS c) := by
  have := h.h1
  unfold rS
  unfold B at *
  omega
theorem Cv.Sm.r {c : Cv} (h : c.Sm) : B 19 (rR c) := by
  have hs : (rS c).natAbs ≤ 512 := by
    have := h.h1
    unfold rS
    unfold B at *
    omega
  have ha : c.a1.natAbs ≤ 1023 := by
    have := h.h1
    unfold B at *
    omega
  have h1 : (rS c * c.a1).natAbs ≤ 512 * 1023 := by
    rw [Int.natAbs_mul]
    exact Nat.mul_le_mul hs ha
  have h2 : (rS c * rS c).natAbs ≤ 512 * 512 := by
    rw [Int.natAbs_mul]
    exact Nat.mul_le_mul hs hs
  have h3 := h.h2
  unfold rR
  generalize rS c * c.a1 = x at *
  generalize rS c * rS c = y at *
  unfold B at *
  omega
theorem Cv.Sm.t {c : Cv} (h : c.Sm) : B 29 (rT c) := by
  have h1 : B 29 (rR c * c.a1) := h.r.mul h.h1
  have h3 := h.h3
  unfold rT
  generalize rR c * c.a1 = x at *
  unfold B at *
  omega
section
variable {P : Program} {w : World} {K : PySem.W.Frag} {mg : Str → Option Value} {base : Heap}
def sp_reduced (K : PySem.W.Frag) : Sp := fun vs H Q _ => ∃ (p : Addr) (c : Cv), vs = [.ref p] ∧ SqT K H p c.tup ∧ c.Sm ∧ ∀ H' t pd po, Same H H' → H' t = some (.tup [.ref pd, .ref po]) → H' pd = some (.tup (red c).tup) → ChAt K H' po (chOf c) → Q (.ref t) H'
/-! ### over_whole -/
def oV : Option Int → V
  | none => .non
  | some n => .int n
def sp_over_whole (K : PySem.W.Frag) : Sp := fun vs H Q _ => ∃ n d : Int, vs = [.int n, .int d] ∧ 0 < d ∧ d < 1000000 ∧ Q (oV (ow n d)) H
abbrev s_over_whole : Stmt := topS 44
theorem sc_over_whole : FnScope ["n", "d"] ["n", "d"] (defScope s_over_whole) := ⟨rfl, rfl, rfl, by decide +kernel, rfl, by decide +kernel, by decide +kernel⟩
theorem k_over_whole (T : Tx K mg) (D : Df K mg "over_whole" s_over_whole ["n", "d"])  : Kl P w K mg base 1 "over_whole" (sp_over_whole K) := by
  have nd := sc_over_whole.nd
  refine Kl.by_body D sc_over_whole (fun vs H Q E h => ?_) (fun f cdv A outer s H vs Q E hr h => ?_)
  · obtain ⟨_, _, rfl, _⟩ := h
    rfl
  · obtain ⟨n, d, rfl, hd, hb, q⟩ := h
    have hu1 := hu_of hr
    refine ⟨_, (pss_one (ps_ret (pe_ifExp (pt_cmpR op_eq (pe_op op_mod (pv 0) (pv 1)) pe_int (nomark _)) (pe_op op_fdivN (pv 0) (pv 1)) pe_non))), ?_⟩
    refine ⟨_, rfl, _, rfl, _, _, rfl, rfl, hd, rfl, _, rfl, ?_⟩
    rw [dec_int]
    by_cases hz : n % d = 0
    · refine iteY (by simp [hz]) ?_
      have e : ow n d = some (n.fdiv d) := by
        unfold ow
        rw [if_pos hz, Int.fdiv_eq_ediv_of_nonneg _ (by omega)]
      rw [e] at q
      exact ⟨_, rfl, _, rfl, n, d, rfl, rfl, ⟨by omega, by omega⟩, q⟩
    · refine iteN (by simp [hz]) ?_
      have e : ow n d = none := by
        unfold ow
        rw [if_neg hz]
      rw [e] at q
      exact q
end
end K15
set_option Elab.async false
set_option linter.all false
set_option maxRecDepth 100000
set_option maxHeartbeats 400000
namespace K15
open PySem PySem.Spec PyProof.Rows L2 Gd QM
local macro_rules | `(tactic| walk_at "bd") => `(tactic| (repeat (first | assumption | apply B.add | apply B.sub | apply B.mul | apply B.neg | exact B.lit (n := 8) (by decide))))
local macro_rules | `(tactic| walk_at "bu") => `(tactic| (apply B.up; walk_at "bd"; decide))
local macro_rules | `(tactic| walk_at "bnd") => `(tactic| (apply B.mulW; walk_at "bd"; decide))
def sixB : List Int := [0, 1, 4, 5, -4, -3]
theorem sixB_B {b : Int} (h : b ∈ sixB) : B 3 b := by
  unfold sixB at h
  simp only [List.mem_cons, List.not_mem_nil, or_false] at h
  rcases h with rfl | rfl | rfl | rfl | rfl | rfl <;> exact B.lit (by decide)
theorem toldL_yes {c4 c6 b : Int} {bs : List Int} (h : (b + c6) % 12 = 0) : toldL c4 c6 (b :: bs) = match ow (b * b - c4) 24 with
      | none => none
      | some b4 => match ow (36 * b * b4 - b * b * b - c6) 216 with
        | none => none
        | some b6 => some (b, b4, b6) := by
  rw [toldL, if_pos h] <;> rfl
theorem toldL_no {c4 c6 b : Int} {bs : List Int} (h : ¬ (b + c6) % 12 = 0) : toldL c4 c6 (b :: bs) = toldL c4 c6 bs := by
  rw [toldL, if_neg h]
theorem ow_B {m : Nat} {n d k : Int} (hn : B m n) (hd : 0 < d) (h : ow n d = some k) : B m k := by
  have e := ow_some h
  unfold B at *
  have h1 : n.natAbs = d.natAbs * k.natAbs := by rw [e, Int.natAbs_mul]
  have h2 : 1 * k.natAbs ≤ d.natAbs * k.natAbs := Nat.mul_le_mul_right _ (by omega)
  omega
section
variable {P : Program} {w : World} {K : PySem.W.Frag} {mg : Str → Option Value} {base : Heap}
def sp_told_numbers (K : PySem.W.Frag) : Sp := fun vs H Q _ => ∃ c4 c6 : Int, vs = [.int c4, .int c6] ∧ B 100 c4 ∧ B 120 c6 ∧ (told c4 c6 = none → Q .non H) ∧ ∀ b2 b4 b6 t, told c4 c6 = some (b2, b4, b6) → B 3 b2 → B 101 b4 → B 121 b6 → H t = none → Q (.ref t) (upd H t (.tup [.int b2, .int b4, .int b6]))
abbrev s_told_numbers : Stmt := topS 45
theorem sc_told_numbers : FnScope ["c4", "c6", "b2", "b4", "b6"] ["c4", "c6"] (defScope s_told_numbers) := ⟨rfl, rfl, rfl, by decide +kernel, rfl, by decide +kernel, by decide +kernel⟩
theorem k_told_numbers (T : Tx K mg) (D : Df K mg "told_numbers" s_told_numbers ["c4", "c6"]) (c_over_whole : Kl P w K mg base 1 "over_whole" (sp_over_whole K)) : Kl P w K mg base 2 "told_numbers" (sp_told_numbers K) := by
  have nd := sc_told_numbers.nd
  refine Kl.by_body D sc_told_numbers (fun vs H Q E h => ?_) (fun f cdv A outer s H vs Q E hr h => ?_)
  · obtain ⟨_, _, rfl, _⟩ := h
    rfl
  · obtain ⟨c4, c6, rfl, h4, h6, q1, q2⟩ := h
    obtain ⟨aR, hR, gR⟩ := T.c_REDUCED_B2
    have hu1 := hu_of hr
    refine ⟨_, (pss_cons (ps_for PassesOwn.never rfl (pi_tup (pe_kon (by rfl) hR)) (pg_name (i := 2) nd rfl (by first | exact Or.inl rfl | exact Or.inr rfl)) (pss_one (ps_if (pt_cmpR op_eq (pe_op op_mod (pe_op op_add (pv 2) (pv 1)) pe_int) pe_int (nomark _)) (pss_cons (ps_set (i := 3) nd rfl (by first | exact Or.inl rfl | exact Or.inr rfl) (pe_k c_over_whole  hr (by decide) (by rfl) (pa_cons (pe_op op_sub (pe_op op_mulW (pv 2) (pv 2)) (pv 0)) (pa_cons pe_int pa_nil))))
      (pss_cons (ps_if (pt_cmpR op_isN (pv 3) pe_non (nomark _)) (pss_one (ps_ret pe_non)) pss_nil)
      (pss_cons (ps_set (i := 4) nd rfl (by first | exact Or.inl rfl | exact Or.inr rfl) (pe_k c_over_whole  hr (by decide) (by rfl) (pa_cons (pe_op op_sub (pe_op op_sub (pe_op op_mulW (pe_op op_mul pe_int (pv 2)) (pv 3)) (pe_op op_mulW (pe_op op_mulW (pv 2) (pv 2)) (pv 2))) (pv 1)) (pa_cons pe_int pa_nil))))
      (pss_one (ps_ret (pe_ifExp (pt_cmpR op_isN (pv 4) pe_non (nomark _)) pe_non (pe_tup (pa_cons (pv 2) (pa_cons (pv 3) (pa_cons (pv 4) pa_nil)))))))))) pss_nil)))
      (pss_one (ps_ret pe_non))), ?_⟩
    have gR' : ∀ H', SqT K H' aR (sixB.map V.int) := gR
    refine ⟨aR, rfl, ⟨_, gR' H⟩, for_tup (K := K) (a := aR) (xs := sixB.map V.int) (fun i σ H2 => H2 = H ∧ told c4 c6 = toldL c4 c6 (sixB.drop i) ∧ ∃ v, σ = [some (.int c4), some (.int c6), v, none, none]) ⟨rfl, rfl, none, rfl⟩ (fun i σ H2 _ z => gR' H2) ?_ ?_⟩
    · rintro i x σ H2 hi ⟨rfl, ht, v, rfl⟩
      obtain ⟨b, rfl, hb⟩ : ∃ b, x = .int b ∧ sixB[i]? = some b := by
        rw [List.getElem?_map] at hi
        cases e : sixB[i]? with
        | none =>
          rw [e] at hi
          cases hi
        | some y =>
          rw [e] at hi
          exact ⟨y, (Option.some.inj hi).symm, rfl⟩
      have hbm := List.mem_of_getElem? hb
      have bB := sixB_B hbm
      have hdr : sixB.drop i = b :: sixB.drop (i + 1) := by
        obtain ⟨hl, he⟩ := List.getElem?_eq_some_iff.mp hb
        rw [List.drop_eq_getElem_cons hl, he]
      rw [hdr] at ht
      refine ⟨_, rfl, _, rfl, _, _, rfl, rfl, _, _, rfl, rfl, (by show (0 : Int) < 12; decide), rfl, _, rfl, ?_⟩
      rw [dec_int]
      by_cases hz : (b + c6) % 12 = 0
      · refine iteY (by simp [hz]) ?_
        rw [toldL_yes hz] at ht
        refine ⟨_, rfl, _, rfl, _, _, rfl, rfl, (by walk_at "bnd"), _, rfl, _, _, rfl, rfl, _, 24, rfl, by decide, by decide, ?_⟩
        cases e4 : ow (b * b - c4) 24 with
        | none =>
          rw [e4] at ht
          refine ⟨_, rfl, rfl, _, rfl, iteT ?_⟩
          exact q1 ht
        | some b4 =>
          rw [e4] at ht
          simp only [] at ht
          have B4 : B 101 b4 := ow_B (by walk_at "bu") (by decide) e4
          refine ⟨_, rfl, rfl, _, rfl, iteF ?_⟩
          first | refine sigN [some (.int (c4)), some (.int (c6)), some (.int (b)), some (.int (b4)), none] (by rfl) ?_ | refine sig [some (.int (c4)), some (.int (c6)), some (.int (b)), some (.int (b4)), none] (by rfl) ?_
          refine ⟨_, rfl, _, _, rfl, rfl, (Or.inl ⟨by decide, by decide⟩), _, rfl, _, _, rfl, rfl, (by walk_at "bnd"), _, rfl, _, rfl, _, _, rfl, rfl, (by walk_at "bnd"), _, rfl, _, _, rfl, rfl, (by walk_at "bnd"), _, _, rfl, rfl, _, rfl, _, _, rfl, rfl, _, 216, rfl, by decide, by decide, ?_⟩
          cases e6 : ow (36 * b * b4 - b * b * b - c6) 216 with
          | none =>
            rw [e6] at ht
            refine ⟨_, rfl, rfl, _, rfl, iteT ?_⟩
            exact q1 ht
          | some b6 =>
            rw [e6] at ht
            have B6 : B 121 b6 := ow_B (by walk_at "bu") (by decide) e6
            refine ⟨_, rfl, rfl, _, rfl, iteF ?_⟩
            refine ⟨_, rfl, _, rfl, _, rfl, (by show 3 ≤ sizeLine; decide), fun t nt => ?_⟩
            exact q2 b b4 b6 t ht bB B4 B6 nt
      · refine iteN (by simp [hz]) ?_
        rw [toldL_no hz] at ht
        exact ⟨rfl, ht, _, rfl⟩
    · rintro σ H2 ⟨rfl, ht, v, rfl⟩
      exact q1 ht
def sp_curve_of (K : PySem.W.Frag) : Sp := fun vs H Q _ => ∃ c4 c6 : Int, vs = [.int c4, .int c6] ∧ B 100 c4 ∧ B 120 c6 ∧ (curveOf c4 c6 = none → ∀ H', Same H H' → Q .non H') ∧ ∀ c t H', curveOf c4 c6 = some c → Same H H' → H' t = some (.tup c.tup) → Q (.ref t) H'
theorem curve_none_told {c4 c6 : Int} (h : told c4 c6 = none) : curveOf c4 c6 = none := by
  unfold curveOf
  rw [h]
theorem curve_told {c4 c6 b2 b4 b6 : Int} (h : told c4 c6 = some (b2, b4, b6)) : curveOf c4 c6 = if c4 * c4 * c4 = c6 * c6 then none else
    match ow (b4 - b2 % 2 * (b6 % 2)) 2 with
    | none => none
    | some a4 => match ow (b6 - b6 % 2) 4 with
      | none => none
      | some a6 => some ⟨b2 % 2, (b2 - b2 % 2) / 4, b6 % 2, a4, a6⟩ := by
  unfold curveOf
  rw [h] <;> rfl
theorem two_B (x : Int) : B 1 (x % 2) := by
  unfold B
  omega
abbrev s_curve_of : Stmt := topS 46
theorem sc_curve_of : FnScope ["c4", "c6", "told", "b2", "b4", "b6", "a1", "a3", "a4", "a6"] ["c4", "c6"] (defScope s_curve_of) := ⟨rfl, rfl, rfl, by decide +kernel, rfl, by decide +kernel, by decide +kernel⟩
theorem k_curve_of (T : Tx K mg) (D : Df K mg "curve_of" s_curve_of ["c4", "c6"]) (c_told_numbers : Kl P w K mg base 2 "told_numbers" (sp_told_numbers K)) (c_over_whole : Kl P w K mg base 1 "over_whole" (sp_over_whole K)) : Kl P w K mg base 3 "curve_of" (sp_curve_of K) := by
  have nd := sc_curve_of.nd
  refine Kl.by_body D sc_curve_of (fun vs H Q E h => ?_) (fun f cdv A outer s H vs Q E hr h => ?_)
  · obtain ⟨_, _, rfl, _⟩ := h
    rfl
  · obtain ⟨c4, c6, rfl, h4, h6, q1, q2⟩ := h
    have hu1 := hu_of hr
    refine ⟨_, (pss_cons (ps_set (i := 2) nd rfl (by first | exact Or.inl rfl | exact Or.inr rfl) (pe_k c_told_numbers  hr (by decide) (by rfl) (pa_cons (pv 0) (pa_cons (pv 1) pa_nil))))
      (pss_cons (ps_if (PW.pt (pw_or (pt_cmpR op_isN (pv 2) pe_non (nomark _)) (pw_or1 (pt_cmpR op_eq (pe_op op_mulW (pe_op op_mulW (pv 0) (pv 0)) (pv 0)) (pe_op op_mulW (pv 1) (pv 1)) (nomark _))))) (pss_one (ps_ret pe_non)) pss_nil)
      (pss_cons (ps_asg (pv 2) (pg_tup rfl (pgs_cons (pg_name (i := 3) nd rfl (by first | exact Or.inl rfl | exact Or.inr rfl)) (pgs_cons (pg_name (i := 4) nd rfl (by first | exact Or.inl rfl | exact Or.inr rfl)) (pgs_cons (pg_name (i := 5) nd rfl (by first | exact Or.inl rfl | exact Or.inr rfl)) pgs_nil)))))
      (pss_cons (ps_par (i := 6) (j := 7) (by rfl) nd rfl rfl (by decide) rfl rfl (pa_cons (pe_op op_mod (pv 3) pe_int) (pa_cons (pe_op op_mod (pv 5) pe_int) pa_nil)) (by rfl))
      (pss_cons (ps_par (i := 8) (j := 9) (by rfl) nd rfl rfl (by decide) rfl rfl (pa_cons (pe_k c_over_whole  hr (by decide) (by rfl) (pa_cons (pe_op op_sub (pv 4) (pe_op op_mulW (pv 6) (pv 7))) (pa_cons pe_int pa_nil))) (pa_cons (pe_k c_over_whole  hr (by decide) (by rfl) (pa_cons (pe_op op_sub (pv 5) (pv 7)) (pa_cons pe_int pa_nil))) pa_nil)) (by rfl))
      (pss_cons (ps_if (PW.pt (pw_or (pt_cmpR op_isN (pv 8) pe_non (nomark _)) (pw_or1 (pt_cmpR op_isN (pv 9) pe_non (nomark _))))) (pss_one (ps_ret pe_non)) pss_nil)
      (pss_one (ps_ret (pe_tup (pa_cons (pv 6) (pa_cons (pe_op op_fdiv (pe_op op_sub (pv 3) (pv 6)) pe_int) (pa_cons (pv 7) (pa_cons (pv 8) (pa_cons (pv 9) pa_nil)))))))))))))), ?_⟩
    refine ⟨_, rfl, _, rfl, c4, c6, rfl, h4, h6, fun hn => ?_, fun b2 b4 b6 t ht B2 B4 B6 nt => ?_⟩
    · refine ⟨_, rfl, rfl, _, rfl, iteT ?_⟩
      exact q1 (curve_none_told hn) _ (Same.refl H)
    · have hc := curve_told ht
      have s1 := Same.new (H := H) (p := t) (o := .tup [.int b2, .int b4, .int b6]) nt
      have g1 : upd H t (.tup [.int b2, .int b4, .int b6]) t = some (.tup [.int b2, .int b4, .int b6]) := upd_same
      generalize upd H t (.tup [.int b2, .int b4, .int b6]) = H1 at s1 g1 ⊢
      first | refine sigN [some (.int (c4)), some (.int (c6)), some (.ref t), none, none, none, none, none, none, none] (by rfl) ?_ | refine sig [some (.int (c4)), some (.int (c6)), some (.ref t), none, none, none, none, none, none, none] (by rfl) ?_
      refine ⟨_, rfl, rfl, _, rfl, iteF ?_⟩
      refine ⟨_, rfl, _, rfl, _, _, rfl, rfl, (by walk_at "bnd"), _, rfl, _, _, rfl, rfl, (by walk_at "bnd"), _, rfl, _, rfl, _, _, rfl, rfl, (by walk_at "bnd"), rfl, _, rfl, ?_⟩
      rw [dec_int]
      by_cases hz : c4 * c4 * c4 = c6 * c6
      · refine iteY (by simp [hz]) ?_
        rw [if_pos hz] at hc
        exact q1 hc _ s1
      · refine iteN (by simp [hz]) ?_
        rw [if_neg hz] at hc
        refine ⟨.ref t, rfl, t, _, rfl, tup_of g1, rfl, _, _, rfl, _, _, rfl, _, _, rfl, rfl, ?_⟩
        first | refine sigN [some (.int (c4)), some (.int (c6)), some (.ref t), some (.int (b2)), some (.int (b4)), some (.int (b6)), none, none, none, none] (by rfl) ?_ | refine sig [some (.int (c4)), some (.int (c6)), some (.ref t), some (.int (b2)), some (.int (b4)), some (.int (b6)), none, none, none, none] (by rfl) ?_
        refine ⟨_, rfl, _, _, rfl, rfl, (by show (0 : Int) < 2; decide), _, rfl, _, _, rfl, rfl, (by show (0 : Int) < 2; decide), _, _, rfl, ?_⟩
        have t2 := two_B b2
        have t6 := two_B b6
        first | refine sigN [some (.int (c4)), some (.int (c6)), some (.ref t), some (.int (b2)), some (.int (b4)), some (.int (b6)), some (.int (b2 % 2)), some (.int (b6 % 2)), none, none] (by rfl) ?_ | refine sig [some (.int (c4)), some (.int (c6)), some (.ref t), some (.int (b2)), some (.int (b4)), some (.int (b6)), some (.int (b2 % 2)), some (.int (b6 % 2)), none, none] (by rfl) ?_
        refine ⟨_, rfl, _, rfl, _, rfl, _, _, rfl, rfl, (by walk_at "bnd"), _, _, rfl, rfl, _, 2, rfl, by decide, by decide, ?_⟩
        refine ⟨_, rfl, _, rfl, _, _, rfl, rfl, _, 4, rfl, by decide, by decide, ?_⟩
        refine ⟨_, _, rfl, ?_⟩
        cases e4 : ow (b4 - b2 % 2 * (b6 % 2)) 2 with
        | none =>
          rw [e4] at hc
          refine ⟨_, rfl, rfl, _, rfl, iteT ?_⟩
          exact q1 hc _ s1
        | some a4 =>
          rw [e4] at hc
          simp only [] at hc
          refine ⟨_, rfl, rfl, _, rfl, iteF ?_⟩
          cases e6 : ow (b6 - b6 % 2) 4 with
          | none =>
            rw [e6] at hc
            refine ⟨_, rfl, rfl, _, rfl, iteT ?_⟩
            exact q1 hc _ s1
          | some a6 =>
            rw [e6] at hc
            refine ⟨_, rfl, rfl, _, rfl, iteF ?_⟩
            first | refine sigN [some (.int (c4)), some (.int (c6)), some (.ref t), some (.int (b2)), some (.int (b4)), some (.int (b6)), some (.int (b2 % 2)), some (.int (b6 % 2)), some (.int (a4)), some (.int (a6))] (by rfl) ?_ | refine sig [some (.int (c4)), some (.int (c6)), some (.ref t), some (.int (b2)), some (.int (b4)), some (.int (b6)), some (.int (b2 % 2)), some (.int (b6 % 2)), some (.int (a4)), some (.int (a6))] (by rfl) ?_
            refine ⟨_, rfl, _, rfl, _, rfl, _, _, rfl, rfl, _, _, rfl, rfl, ⟨by decide, by decide⟩, _, rfl, _, rfl, _, rfl, (by show 5 ≤ sizeLine; decide), fun z nz => ?_⟩
            exact q2 _ z _ hc (s1.trans (Same.new nz)) upd_same
end
end K15
set_option Elab.async false
set_option linter.all false
set_option maxRecDepth 100000
set_option maxHeartbeats 400000
namespace K15
open PySem PySem.Spec PyProof.Rows L2 Gd QM
local macro_rules | `(tactic| walk_at "mm") => `(tactic| (repeat (first | exact List.mem_cons_self | apply List.mem_cons_of_mem)))
/-- refs at fractions, or nothing -/
def PsAt (K : PySem.W.Frag) (H : Hp) (xs : List V) (ps : List (Option Rat)) : Prop := ∀ (i : Nat) (y : V), xs[i]? = some y → (∃ a q, y = .ref a ∧ ps[i]? = some (some q) ∧ PrT K H a q 2000) ∨ (y = .non ∧ ps[i]? = some none)
theorem PsAt.nil {K : PySem.W.Frag} {H : Hp} : PsAt K H [] [] := fun i y h => by cases h
theorem PsAt.some {K : PySem.W.Frag} {H : Hp} {xs : List V} {ps : List (Option Rat)} {a : Addr} {q : Rat} (h : PsAt K H xs ps) (g : PrT K H a q 2000) : PsAt K H (.ref a :: xs) (.some q :: ps) := fun i y e => by
  cases i with
  | zero =>
    obtain rfl := Option.some.inj e
    exact .inl ⟨a, q, rfl, rfl, g⟩
  | succ i => exact h i y e
theorem PsAt.none {K : PySem.W.Frag} {H : Hp} {xs : List V} {ps : List (Option Rat)} (h : PsAt K H xs ps) : PsAt K H (.non :: xs) (.none :: ps) := fun i y e => by
  cases i with
  | zero =>
    obtain rfl := Option.some.inj e
    exact .inr ⟨rfl, rfl⟩
  | succ i => exact h i y e
theorem PsAt.same {K : PySem.W.Frag} {H H' : Hp} {xs : List V} {ps : List (Option Rat)} (s : Same H H') (h : PsAt K H xs ps) : PsAt K H' xs ps := fun i y e => by
  rcases h i y e with ⟨a, q, h1, h2, h3⟩ | z
  · exact .inl ⟨a, q, h1, h2, h3.same s⟩
  · exact .inr z
/-- a list that is being made of fractions -/
def RfD (K : PySem.W.Frag) (H : Hp) (D : Addr) (qs : List Rat) : Prop := ∃ L : List Addr, H D = some (.lst (L.map V.ref)) ∧ RfAt K H (L.map V.ref) qs
theorem fm_some {ps : List (Option Rat)} {i : Nat} {q : Rat} (h : ps[i]? = some (some q)) : (ps.take (i + 1)).filterMap id = (ps.take i).filterMap id ++ [q] := by
  rw [List.take_succ, List.filterMap_append, h]
  rfl
theorem fm_none {ps : List (Option Rat)} {i : Nat} (h : ps[i]? = some none) : (ps.take (i + 1)).filterMap id = (ps.take i).filterMap id := by
  rw [List.take_succ, List.filterMap_append, h]
  exact List.append_nil _
theorem fm_len (ps : List (Option Rat)) (i : Nat) : ((ps.take i).filterMap id).length ≤ i :=
  Nat.le_trans (List.length_filterMap_le _ _) (by rw [List.length_take]; omega)
theorem RfAt.push {K : PySem.W.Frag} {H : Hp} {xs : List V} {qs : List Rat} {t : Addr} {q : Rat} (h : RfAt K H xs qs) (ht : SqT K H t (fq q)) : RfAt K H (xs ++ [.ref t]) (qs ++ [q]) := by
  refine ⟨by rw [List.length_append, List.length_append, h.1]; rfl, fun i x e => ?_⟩
  rcases Nat.lt_or_ge i xs.length with z | z
  · rw [List.getElem?_append_left z] at e
    obtain ⟨a, r, h1, h2, h3⟩ := h.2 i x e
    exact ⟨a, r, h1, by rw [List.getElem?_append_left (by rw [← h.1]; exact z)]; exact h2, h3⟩
  · rw [List.getElem?_append_right z] at e
    have e0 : i - xs.length = 0 := by
      rcases Nat.eq_zero_or_pos (i - xs.length) with y | y
      · exact y
      · rw [List.getElem?_eq_none (by simp; omega)] at e
        cases e
    rw [e0] at e
    obtain rfl := Option.some.inj e
    exact ⟨t, q, rfl, by rw [List.getElem?_append_right (by rw [← h.1]; exact z), ← h.1, e0]; rfl, ht⟩
theorem RfAt.put {K : PySem.W.Frag} {H : Hp} {D : Addr} {L xs : List V} {qs : List Rat} {o : HO} (hD : H D = some (.lst L)) (h : RfAt K H xs qs) : RfAt K (upd H D o) xs qs :=
  ⟨h.1, fun i x e => (h.2 i x e).imp fun a z => z.imp fun q y => ⟨y.1, y.2.1, tup_put hD y.2.2⟩⟩
theorem but_tup {K : PySem.W.Frag} {H H' : Hp} {D p : Addr} {L xs : List V} (b : But D H H') (hD : H D = some (.lst L)) (e : SqT K H p xs) : SqT K H' p xs := by
  rcases e with (e | ⟨z, e⟩) | e
  · exact Or.inl (Or.inl (b _ _ e (ne_of e hD (by intro z; cases z))))
  · exact Or.inl (Or.inr ⟨z, b _ _ e (ne_of e hD (by intro z; cases z))⟩)
  · exact Or.inr e
/-- the parts divided by the powers of a scale -/
def pdv (u : Rat) : Nat → List (Option Rat) → List (Option Rat)
  | _, [] => []
  | k, x :: xs => (x.map fun q => q / u ^ (k + 1)) :: pdv u (k + 1) xs
theorem pdv_at (u : Rat) : ∀ (l : List (Option Rat)) (k i : Nat), (pdv u k l)[i]? = (l[i]?).map fun x => x.map fun q => q / u ^ (k + i + 1)
  | [], _, _ => by simp [pdv]
  | x :: xs, k, 0 => rfl
  | x :: xs, k, i + 1 => by
    rw [pdv, List.getElem?_cons_succ, pdv_at u xs (k + 1) i, List.getElem?_cons_succ, show k + 1 + i + 1 = k + (i + 1) + 1 by omega]
theorem pdv_len (u : Rat) : ∀ (l : List (Option Rat)) (k : Nat), (pdv u k l).length = l.length
  | [], _ => rfl
  | x :: xs, k => by rw [pdv, List.length_cons, List.length_cons, pdv_len u xs (k + 1)]
/-- a change as it stands, its pairs not in lowest terms -/
def ChG (K : PySem.W.Frag) (H : Hp) (p : Addr) (c : Ch) : Prop := ∃ pu pr ps pt, SqT K H p [.ref pu, .ref pr, .ref ps, .ref pt] ∧ PrT K H pu c.u 16 ∧ PrT K H pr c.r 180 ∧ PrT K H ps c.s 45 ∧ PrT K H pt c.t 260
theorem ChG.same {K : PySem.W.Frag} {H H' : Hp} {p : Addr} {c : Ch} (s : Same H H') (h : ChG K H p c) : ChG K H' p c := by
  obtain ⟨a, b, d, e, h1, h2, h3, h4, h5⟩ := h
  exact ⟨a, b, d, e, Same.tup s h1, h2.same s, h3.same s, h4.same s, h5.same s⟩
theorem PrT.but {K : PySem.W.Frag} {H H' : Hp} {D p : Addr} {L : List V} {q : Rat} {m : Nat} (b : But D H H') (hD : H D = some (.lst L)) (h : PrT K H p q m) : PrT K H' p q m := by
  obtain ⟨n, d, h1, h2⟩ := h
  exact ⟨n, d, but_tup b hD h1, h2⟩
theorem PrT.put {K : PySem.W.Frag} {H : Hp} {D p : Addr} {L : List V} {o : HO} {q : Rat} {m : Nat} (hD : H D = some (.lst L)) (h : PrT K H p q m) : PrT K (upd H D o) p q m := by
  obtain ⟨n, d, h1, h2⟩ := h
  exact ⟨n, d, tup_put hD h1, h2⟩
theorem pow_nz {u : Rat} (h : u ≠ 0) : ∀ k : Nat, u ^ k ≠ 0
  | 0 => by rw [Rat.pow_zero]; decide
  | k + 1 => by
    rw [Rat.pow_succ]
    exact qmul_ne (pow_nz h k) h
theorem div_eq {a b c d : Rat} (h : a = b) (k : c = d) : a / c = b / d := by rw [h, k]
section
variable {P : Program} {w : World} {K : PySem.W.Frag} {mg : Str → Option Value} {base : Heap}
def sp_law_led (K : PySem.W.Frag) : Sp := fun vs H Q _ => ∃ (p o : Addr) (c : Cv) (d : Ch), vs = [.ref p, .ref o] ∧ SqT K H p c.tup ∧ CvB 40 c ∧ ChG K H o d ∧ d.u ≠ 0 ∧ ∀ H' t xs, Same H H' → H' t = some (.tup xs) → RfAt K H' xs (qsL d c) → Q (.ref t) H'
abbrev s__law_led : Stmt := topS 85
theorem sc__law_led : FnScope ["five_v", "change", "a1", "a2", "a3", "a4", "a6", "part", "u", "r", "s", "t", "second", "third", "fourth", "gone", "sixth", "found", "scale", "k"] ["five_v", "change"] (defScope s__law_led) := ⟨rfl, rfl, rfl, by decide +kernel, rfl, by decide +kernel, by decide +kernel⟩
theorem k_law_led (T : Tx K mg) (D : Df K mg "_law_led" s__law_led ["five_v", "change"]) (c_law_less : Kl P w K mg base 3 "_law_less" (sp_law_less K)) (c_law_plus : Kl P w K mg base 3 "_law_plus" (sp_law_plus K)) (c_law_by : Kl P w K mg base 3 "_law_by" (sp_law_by K)) (c_law_over : Kl P w K mg base 3 "_law_over" (sp_law_over K)) : Kl P w K mg base 4 "_law_led" (sp_law_led K) := by
  have nd := sc__law_led.nd
  refine Kl.by_body D sc__law_led (fun vs H Q E h => ?_) (fun f cdv A outer s H vs Q E hr h => ?_)
  · obtain ⟨_, _, _, _, rfl, _⟩ := h
    rfl
  · obtain ⟨p, o, c, d, rfl, hp, hc, hd, hu1', q⟩ := h
    have hu1 := hu_of hr
    refine ⟨_, (pss_cons (ps_asg (pe_lc (own := [("part", 7)]) (g := gName 7) rfl nd (pi_tup (pv 0)) (blkOk_by (N := ["five_v", "change", "a1", "a2", "a3", "a4", "a6", "part", "u", "r", "s", "t", "second", "third", "fourth", "gone", "sixth", "found", "scale", "k"]) (sc := defScope s__law_led) (by decide +kernel)) (fun _ _ _ _ _ => (pg_name (i := 7) nd rfl (by first | exact Or.inl rfl | exact Or.inr rfl))) (fun _ _ _ _ _ => pts_nil) (fun _ _ _ _ _ => (pe_tup (pa_cons (pv 7) (pa_cons pe_int pa_nil))))) (pg_lst rfl (pgs_cons (pg_name (i := 2) nd rfl (by first | exact Or.inl rfl | exact Or.inr rfl)) (pgs_cons (pg_name (i := 3) nd rfl (by first | exact Or.inl rfl | exact Or.inr rfl)) (pgs_cons (pg_name (i := 4) nd rfl (by first | exact Or.inl rfl | exact Or.inr rfl)) (pgs_cons (pg_name (i := 5) nd rfl (by first | exact Or.inl rfl | exact Or.inr rfl)) (pgs_cons (pg_name (i := 6) nd rfl (by first | exact Or.inl rfl | exact Or.inr rfl)) pgs_nil)))))))
      (pss_cons (ps_asg (pv 1) (pg_tup rfl (pgs_cons (pg_name (i := 8) nd rfl (by first | exact Or.inl rfl | exact Or.inr rfl)) (pgs_cons (pg_name (i := 9) nd rfl (by first | exact Or.inl rfl | exact Or.inr rfl)) (pgs_cons (pg_name (i := 10) nd rfl (by first | exact Or.inl rfl | exact Or.inr rfl)) (pgs_cons (pg_name (i := 11) nd rfl (by first | exact Or.inl rfl | exact Or.inr rfl)) pgs_nil))))))
      (pss_cons (ps_set (i := 12) nd rfl (by first | exact Or.inl rfl | exact Or.inr rfl) (pe_k c_law_less  hr (by decide) (by rfl) (pa_cons (pe_k c_law_less  hr (by decide) (by rfl) (pa_cons (pe_k c_law_plus  hr (by decide) (by rfl) (pa_cons (pv 3) (pa_cons (pe_k c_law_by  hr (by decide) (by rfl) (pa_cons (pe_tup (pa_cons pe_int (pa_cons pe_int pa_nil))) (pa_cons (pv 9) pa_nil))) pa_nil))) (pa_cons (pe_k c_law_by  hr (by decide) (by rfl) (pa_cons (pv 10) (pa_cons (pv 2) pa_nil))) pa_nil))) (pa_cons (pe_k c_law_by  hr (by decide) (by rfl) (pa_cons (pv 10) (pa_cons (pv 10) pa_nil))) pa_nil))))
      (pss_cons (ps_set (i := 13) nd rfl (by first | exact Or.inl rfl | exact Or.inr rfl) (pe_k c_law_plus  hr (by decide) (by rfl) (pa_cons (pe_k c_law_plus  hr (by decide) (by rfl) (pa_cons (pv 4) (pa_cons (pe_k c_law_by  hr (by decide) (by rfl) (pa_cons (pv 9) (pa_cons (pv 2) pa_nil))) pa_nil))) (pa_cons (pe_k c_law_by  hr (by decide) (by rfl) (pa_cons (pe_tup (pa_cons pe_int (pa_cons pe_int pa_nil))) (pa_cons (pv 11) pa_nil))) pa_nil))))
      (pss_cons (ps_set (i := 14) nd rfl (by first | exact Or.inl rfl | exact Or.inr rfl) (pe_k c_law_plus  hr (by decide) (by rfl) (pa_cons (pe_k c_law_plus  hr (by decide) (by rfl) (pa_cons (pv 5) (pa_cons (pe_k c_law_by  hr (by decide) (by rfl) (pa_cons (pe_tup (pa_cons pe_int (pa_cons pe_int pa_nil))) (pa_cons (pe_k c_law_by  hr (by decide) (by rfl) (pa_cons (pv 9) (pa_cons (pv 3) pa_nil))) pa_nil))) pa_nil))) (pa_cons (pe_k c_law_by  hr (by decide) (by rfl) (pa_cons (pe_tup (pa_cons pe_int (pa_cons pe_int pa_nil))) (pa_cons (pe_k c_law_by  hr (by decide) (by rfl) (pa_cons (pv 9) (pa_cons (pv 9) pa_nil))) pa_nil))) pa_nil))))
      (pss_cons (ps_set (i := 15) nd rfl (by first | exact Or.inl rfl | exact Or.inr rfl) (pe_k c_law_plus  hr (by decide) (by rfl) (pa_cons (pe_k c_law_by  hr (by decide) (by rfl) (pa_cons (pe_k c_law_plus  hr (by decide) (by rfl) (pa_cons (pv 11) (pa_cons (pe_k c_law_by  hr (by decide) (by rfl) (pa_cons (pv 9) (pa_cons (pv 10) pa_nil))) pa_nil))) (pa_cons (pv 2) pa_nil))) (pa_cons (pe_k c_law_by  hr (by decide) (by rfl) (pa_cons (pe_tup (pa_cons pe_int (pa_cons pe_int pa_nil))) (pa_cons (pe_k c_law_by  hr (by decide) (by rfl) (pa_cons (pv 10) (pa_cons (pv 11) pa_nil))) pa_nil))) pa_nil))))
      (pss_cons (ps_set (i := 14) nd rfl (by first | exact Or.inl rfl | exact Or.inr rfl) (pe_k c_law_less  hr (by decide) (by rfl) (pa_cons (pe_k c_law_less  hr (by decide) (by rfl) (pa_cons (pv 14) (pa_cons (pe_k c_law_by  hr (by decide) (by rfl) (pa_cons (pv 10) (pa_cons (pv 4) pa_nil))) pa_nil))) (pa_cons (pv 15) pa_nil))))
      (pss_cons (ps_set (i := 16) nd rfl (by first | exact Or.inl rfl | exact Or.inr rfl) (pe_k c_law_plus  hr (by decide) (by rfl) (pa_cons (pe_k c_law_plus  hr (by decide) (by rfl) (pa_cons (pv 6) (pa_cons (pe_k c_law_by  hr (by decide) (by rfl) (pa_cons (pv 9) (pa_cons (pv 5) pa_nil))) pa_nil))) (pa_cons (pe_k c_law_by  hr (by decide) (by rfl) (pa_cons (pe_k c_law_by  hr (by decide) (by rfl) (pa_cons (pv 9) (pa_cons (pv 9) pa_nil))) (pa_cons (pe_k c_law_plus  hr (by decide) (by rfl) (pa_cons (pv 3) (pa_cons (pv 9) pa_nil))) pa_nil))) pa_nil))))
      (pss_cons (ps_set (i := 16) nd rfl (by first | exact Or.inl rfl | exact Or.inr rfl) (pe_k c_law_less  hr (by decide) (by rfl) (pa_cons (pv 16) (pa_cons (pe_k c_law_by  hr (by decide) (by rfl) (pa_cons (pv 11) (pa_cons (pe_k c_law_plus  hr (by decide) (by rfl) (pa_cons (pe_k c_law_plus  hr (by decide) (by rfl) (pa_cons (pv 4) (pa_cons (pv 11) pa_nil))) (pa_cons (pe_k c_law_by  hr (by decide) (by rfl) (pa_cons (pv 9) (pa_cons (pv 2) pa_nil))) pa_nil))) pa_nil))) pa_nil))))
      (pss_cons (ps_par (i := 17) (j := 18) (by rfl) nd rfl rfl (by decide) rfl rfl (pa_cons (pe_lst pa_nil) (pa_cons (pv 8) pa_nil)) (by rfl))
      (pss_cons (ps_for PassesOwn.never rfl (pi_enum (by rfl) T.enumerate (pa_cons (pe_lst (pa_cons (pe_k c_law_plus  hr (by decide) (by rfl) (pa_cons (pv 2) (pa_cons (pe_k c_law_by  hr (by decide) (by rfl) (pa_cons (pe_tup (pa_cons pe_int (pa_cons pe_int pa_nil))) (pa_cons (pv 10) pa_nil))) pa_nil))) (pa_cons (pv 12) (pa_cons (pv 13) (pa_cons (pv 14) (pa_cons pe_non (pa_cons (pv 16) pa_nil))))))) pa_nil)) (pg_tup rfl (pgs_cons (pg_name (i := 19) nd rfl (by first | exact Or.inl rfl | exact Or.inr rfl)) (pgs_cons (pg_name (i := 7) nd rfl (by first | exact Or.inl rfl | exact Or.inr rfl)) pgs_nil))) (pss_cons (ps_if (pt_cmpR op_notN (pv 7) pe_non (nomark _)) (pss_one (ps_expr (pe_bm PySem.F.plainAttrs_list PySem.F.slot_list_append PySem.F.type_list_append mt_append (pv 17) (pa_cons (pe_k c_law_over  hr (by decide) (by rfl) (pa_cons (pv 7) (pa_cons (pv 18) pa_nil))) pa_nil)))) pss_nil)
      (pss_one (ps_set (i := 18) nd rfl (by first | exact Or.inl rfl | exact Or.inr rfl) (pe_k c_law_by  hr (by decide) (by rfl) (pa_cons (pv 18) (pa_cons (pv 8) pa_nil)))))))
      (pss_one (ps_ret (pe_callTy call_tuple_of (by rfl) T.tuple (by decide +kernel) (pa_cons (pv 17) pa_nil))))))))))))))), ?_⟩
    refine ⟨.ref p, rfl, p, rfl, ⟨_, hp⟩, fun D1 hD1 => ?_⟩
    refine lc_tup (K := K) (a := p) (xs := c.tup) (fun i H4 => Same H H4 ∧ FrD H4 D1 c.ints i) ⟨Same.new hD1, FrD.new⟩ (fun i H4 _ z => Same.tup z.1 hp) (fun i x H4 hi z => ?_) (fun H1 z => ?_)
    · obtain ⟨n, rfl, hn⟩ : ∃ n, x = .int n ∧ c.ints[i]? = some n := by
        rw [Cv.tup_ints, List.getElem?_map] at hi
        cases e : c.ints[i]? with
        | none =>
          rw [e] at hi
          cases hi
        | some y =>
          rw [e] at hi
          exact ⟨y, (Option.some.inj hi).symm, rfl⟩
      have hi5 : i < 5 := (List.getElem?_eq_some_iff.mp hn).1
      refine ⟨rfl, _, rfl, (by show 2 ≤ sizeLine; decide), fun t nt => ?_⟩
      rw [← fq_int n]
      obtain ⟨acc, h1, h2, h3⟩ := FrD.push z.2 hn nt (by omega)
      exact ⟨acc, h1, h2, Same.put (Same.put z.1 (z.1.free nt)) hD1, h3⟩
    obtain ⟨s1, hF1⟩ := z
    obtain ⟨pa1, pa2, pa3, pa4, pa6, gD1, hpa1, hpa2, hpa3, hpa4, hpa6⟩ := hF1.five
    refine ⟨D1, _, rfl, lst_of gD1, rfl, _, _, rfl, _, _, rfl, _, _, rfl, _, _, rfl, _, _, rfl, rfl, ?_⟩
    obtain ⟨pu, pr, ps, pt, ho, hu, hr', hs, ht⟩ := hd.same s1
    first | refine sigN [some (.ref p), some (.ref o), some (.ref pa1), some (.ref pa2), some (.ref pa3), some (.ref pa4), some (.ref pa6), none, none, none, none, none, none, none, none, none, none, none, none, none] (by rfl) ?_ | refine sig [some (.ref p), some (.ref o), some (.ref pa1), some (.ref pa2), some (.ref pa3), some (.ref pa4), some (.ref pa6), none, none, none, none, none, none, none, none, none, none, none, none, none] (by rfl) ?_
    refine ⟨.ref o, rfl, o, _, rfl, ho, rfl, _, _, rfl, _, _, rfl, _, _, rfl, _, _, rfl, rfl, ?_⟩
    first | refine sigN [some (.ref p), some (.ref o), some (.ref pa1), some (.ref pa2), some (.ref pa3), some (.ref pa4), some (.ref pa6), none, some (.ref pu), some (.ref pr), some (.ref ps), some (.ref pt), none, none, none, none, none, none, none, none] (by rfl) ?_ | refine sig [some (.ref p), some (.ref o), some (.ref pa1), some (.ref pa2), some (.ref pa3), some (.ref pa4), some (.ref pa6), none, some (.ref pu), some (.ref pr), some (.ref ps), some (.ref pt), none, none, none, none, none, none, none, none] (by rfl) ?_
    have E0 : FrG K H1 [(pu, d.u, 16), (pr, d.r, 180), (ps, d.s, 45), (pt, d.t, 260), (pa1, (c.a1 : Rat), 40), (pa2, (c.a2 : Rat), 40), (pa3, (c.a3 : Rat), 40), (pa4, (c.a4 : Rat), 40), (pa6, (c.a6 : Rat), 40)] :=
      FrG.addP (FrG.addP (FrG.addP (FrG.addP (FrG.add (FrG.add (FrG.add (FrG.add (FrG.add FrG.nil (tup_of hpa6) (RB.int hc.h6 (by decide))) (tup_of hpa4) (RB.int hc.h4 (by decide))) (tup_of hpa3) (RB.int hc.h3 (by decide))) (tup_of hpa2) (RB.int hc.h2 (by decide))) (tup_of hpa1) (RB.int hc.h1 (by decide))) ht) hs) hr') hu
    clear hpa1 hpa2 hpa3 hpa4 hpa6 gD1 hF1 hD1 ho hu hr' hs ht hd
    refine ⟨.ref pa2, rfl, ?_⟩
    refine ⟨(by show 2 ≤ sizeLine; decide), fun three nthree => ?_⟩
    obtain ⟨H2, eH_, s2, E1⟩ := FG.litE E0 nthree fq_3 rb_three
    rw [eH_]
    clear eH_
    refine ⟨.ref pr, rfl, ?_⟩
    refine ⟨three, pr, _, _, _, _, rfl, E1.get (by walk_at "mm"), E1.get (by walk_at "mm"), E1.rb (p := three) (by walk_at "mm"), E1.rb (p := pr) (by walk_at "mm"), (by first | decide | omega), trivial, fun x1 nx1 => ?_⟩
    obtain ⟨H3, eH_, s3, E2⟩ := FG.stepE E1 nx1 (RB.mul (E1.rb (p := three) (by walk_at "mm")) (E1.rb (p := pr) (by walk_at "mm")))
    rw [eH_]
    clear eH_
    refine ⟨pa2, x1, _, _, _, _, rfl, E2.get (by walk_at "mm"), E2.get (by walk_at "mm"), E2.rb (p := pa2) (by walk_at "mm"), E2.rb (p := x1) (by walk_at "mm"), (by first | decide | omega), trivial, fun x2 nx2 => ?_⟩
    obtain ⟨H4, eH_, s4, E3⟩ := FG.stepE E2 nx2 (RB.add (E2.rb (p := pa2) (by walk_at "mm")) (E2.rb (p := x1) (by walk_at "mm")))
    rw [eH_]
    clear eH_
    refine ⟨.ref ps, rfl, .ref pa1, rfl, ?_⟩
    refine ⟨ps, pa1, _, _, _, _, rfl, E3.get (by walk_at "mm"), E3.get (by walk_at "mm"), E3.rb (p := ps) (by walk_at "mm"), E3.rb (p := pa1) (by walk_at "mm"), (by first | decide | omega), trivial, fun x3 nx3 => ?_⟩
    obtain ⟨H5, eH_, s5, E4⟩ := FG.stepE E3 nx3 (RB.mul (E3.rb (p := ps) (by walk_at "mm")) (E3.rb (p := pa1) (by walk_at "mm")))
    rw [eH_]
    clear eH_
    refine ⟨x2, x3, _, _, _, _, rfl, E4.get (by walk_at "mm"), E4.get (by walk_at "mm"), E4.rb (p := x2) (by walk_at "mm"), E4.rb (p := x3) (by walk_at "mm"), (by first | decide | omega), trivial, fun x4 nx4 => ?_⟩
    obtain ⟨H6, eH_, s6, E5⟩ := FG.stepE E4 nx4 (RB.sub (E4.rb (p := x2) (by walk_at "mm")) (E4.rb (p := x3) (by walk_at "mm")))
    rw [eH_]
    clear eH_
    refine ⟨.ref ps, rfl, .ref ps, rfl, ?_⟩
    refine ⟨ps, ps, _, _, _, _, rfl, E5.get (by walk_at "mm"), E5.get (by walk_at "mm"), E5.rb (p := ps) (by walk_at "mm"), E5.rb (p := ps) (by walk_at "mm"), (by first | decide | omega), trivial, fun x5 nx5 => ?_⟩
    obtain ⟨H7, eH_, s7, E6⟩ := FG.stepE E5 nx5 (RB.mul (E5.rb (p := ps) (by walk_at "mm")) (E5.rb (p := ps) (by walk_at "mm")))
    rw [eH_]
    clear eH_
    refine ⟨x4, x5, _, _, _, _, rfl, E6.get (by walk_at "mm"), E6.get (by walk_at "mm"), E6.rb (p := x4) (by walk_at "mm"), E6.rb (p := x5) (by walk_at "mm"), (by first | decide | omega), trivial, fun second nsecond => ?_⟩
    obtain ⟨H8, eH_, s8, E7⟩ := FG.stepE E6 nsecond (RB.sub (E6.rb (p := x4) (by walk_at "mm")) (E6.rb (p := x5) (by walk_at "mm")))
    rw [eH_]
    clear eH_
    first | refine sigN [some (.ref p), some (.ref o), some (.ref pa1), some (.ref pa2), some (.ref pa3), some (.ref pa4), some (.ref pa6), none, some (.ref pu), some (.ref pr), some (.ref ps), some (.ref pt), some (.ref second), none, none, none, none, none, none, none] (by rfl) ?_ | refine sig [some (.ref p), some (.ref o), some (.ref pa1), some (.ref pa2), some (.ref pa3), some (.ref pa4), some (.ref pa6), none, some (.ref pu), some (.ref pr), some (.ref ps), some (.ref pt), some (.ref second), none, none, none, none, none, none, none] (by rfl) ?_
    have sA := s1.trans (s2.trans (s3.trans (s4.trans (s5.trans (s6.trans (s7.trans s8))))))
    clear s1 s2 s3 s4 s5 s6 s7 s8 E0 E1 E2 E3 E4 E5 E6
    refine ⟨.ref pa3, rfl, .ref pr, rfl, .ref pa1, rfl, ?_⟩
    refine ⟨pr, pa1, _, _, _, _, rfl, E7.get (by walk_at "mm"), E7.get (by walk_at "mm"), E7.rb (p := pr) (by walk_at "mm"), E7.rb (p := pa1) (by walk_at "mm"), (by first | decide | omega), trivial, fun y1 ny1 => ?_⟩
    obtain ⟨H9, eH_, t1, F1⟩ := FG.stepE E7 ny1 (RB.mul (E7.rb (p := pr) (by walk_at "mm")) (E7.rb (p := pa1) (by walk_at "mm")))
    rw [eH_]
    clear eH_
    refine ⟨pa3, y1, _, _, _, _, rfl, F1.get (by walk_at "mm"), F1.get (by walk_at "mm"), F1.rb (p := pa3) (by walk_at "mm"), F1.rb (p := y1) (by walk_at "mm"), (by first | decide | omega), trivial, fun y2 ny2 => ?_⟩
    obtain ⟨Ha, eH_, t2, F2⟩ := FG.stepE F1 ny2 (RB.add (F1.rb (p := pa3) (by walk_at "mm")) (F1.rb (p := y1) (by walk_at "mm")))
    rw [eH_]
    clear eH_
    refine ⟨(by show 2 ≤ sizeLine; decide), fun two ntwo => ?_⟩
    obtain ⟨Hb, eH_, t3, F3⟩ := FG.litE F2 ntwo fq_2 rb_two
    rw [eH_]
    clear eH_
    refine ⟨.ref pt, rfl, ?_⟩
    refine ⟨two, pt, _, _, _, _, rfl, F3.get (by walk_at "mm"), F3.get (by walk_at "mm"), F3.rb (p := two) (by walk_at "mm"), F3.rb (p := pt) (by walk_at "mm"), (by first | decide | omega), trivial, fun y3 ny3 => ?_⟩
    obtain ⟨Hc, eH_, t4, F4⟩ := FG.stepE F3 ny3 (RB.mul (F3.rb (p := two) (by walk_at "mm")) (F3.rb (p := pt) (by walk_at "mm")))
    rw [eH_]
    clear eH_
    refine ⟨y2, y3, _, _, _, _, rfl, F4.get (by walk_at "mm"), F4.get (by walk_at "mm"), F4.rb (p := y2) (by walk_at "mm"), F4.rb (p := y3) (by walk_at "mm"), (by first | decide | omega), trivial, fun third nthird => ?_⟩
    obtain ⟨Hd, eH_, t5, F5⟩ := FG.stepE F4 nthird (RB.add (F4.rb (p := y2) (by walk_at "mm")) (F4.rb (p := y3) (by walk_at "mm")))
    rw [eH_]
    clear eH_
    first | refine sigN [some (.ref p), some (.ref o), some (.ref pa1), some (.ref pa2), some (.ref pa3), some (.ref pa4), some (.ref pa6), none, some (.ref pu), some (.ref pr), some (.ref ps), some (.ref pt), some (.ref second), some (.ref third), none, none, none, none, none, none] (by rfl) ?_ | refine sig [some (.ref p), some (.ref o), some (.ref pa1), some (.ref pa2), some (.ref pa3), some (.ref pa4), some (.ref pa6), none, some (.ref pu), some (.ref pr), some (.ref ps), some (.ref pt), some (.ref second), some (.ref third), none, none, none, none, none, none] (by rfl) ?_
    have sB := sA.trans (t1.trans (t2.trans (t3.trans (t4.trans t5))))
    clear t1 t2 t3 t4 t5 E7 F1 F2 F3 F4 sA
    refine ⟨.ref pa4, rfl, ?_⟩
    refine ⟨(by show 2 ≤ sizeLine; decide), fun twob ntwob => ?_⟩
    obtain ⟨He, eH_, u1, G1⟩ := FG.litE F5 ntwob fq_2 rb_two
    rw [eH_]
    clear eH_
    refine ⟨.ref pr, rfl, .ref pa2, rfl, ?_⟩
    refine ⟨pr, pa2, _, _, _, _, rfl, G1.get (by walk_at "mm"), G1.get (by walk_at "mm"), G1.rb (p := pr) (by walk_at "mm"), G1.rb (p := pa2) (by walk_at "mm"), (by first | decide | omega), trivial, fun z1 nz1 => ?_⟩
    obtain ⟨Hf, eH_, u2, G2⟩ := FG.stepE G1 nz1 (RB.mul (G1.rb (p := pr) (by walk_at "mm")) (G1.rb (p := pa2) (by walk_at "mm")))
    rw [eH_]
    clear eH_
    refine ⟨twob, z1, _, _, _, _, rfl, G2.get (by walk_at "mm"), G2.get (by walk_at "mm"), G2.rb (p := twob) (by walk_at "mm"), G2.rb (p := z1) (by walk_at "mm"), (by first | decide | omega), trivial, fun z2 nz2 => ?_⟩
    obtain ⟨Hg, eH_, u3, G3⟩ := FG.stepE G2 nz2 (RB.mul (G2.rb (p := twob) (by walk_at "mm")) (G2.rb (p := z1) (by walk_at "mm")))
    rw [eH_]
    clear eH_
    refine ⟨pa4, z2, _, _, _, _, rfl, G3.get (by walk_at "mm"), G3.get (by walk_at "mm"), G3.rb (p := pa4) (by walk_at "mm"), G3.rb (p := z2) (by walk_at "mm"), (by first | decide | omega), trivial, fun z3 nz3 => ?_⟩
    obtain ⟨Hh, eH_, u4, G4⟩ := FG.stepE G3 nz3 (RB.add (G3.rb (p := pa4) (by walk_at "mm")) (G3.rb (p := z2) (by walk_at "mm")))
    rw [eH_]
    clear eH_
    refine ⟨(by show 2 ≤ sizeLine; decide), fun threeb nthreeb => ?_⟩
    obtain ⟨Hi, eH_, u5, G5⟩ := FG.litE G4 nthreeb fq_3 rb_three
    rw [eH_]
    clear eH_
    refine ⟨.ref pr, rfl, .ref pr, rfl, ?_⟩
    refine ⟨pr, pr, _, _, _, _, rfl, G5.get (by walk_at "mm"), G5.get (by walk_at "mm"), G5.rb (p := pr) (by walk_at "mm"), G5.rb (p := pr) (by walk_at "mm"), (by first | decide | omega), trivial, fun z4 nz4 => ?_⟩
    obtain ⟨Hj, eH_, u6, G6⟩ := FG.stepE G5 nz4 (RB.mul (G5.rb (p := pr) (by walk_at "mm")) (G5.rb (p := pr) (by walk_at "mm")))
    rw [eH_]
    clear eH_
    refine ⟨threeb, z4, _, _, _, _, rfl, G6.get (by walk_at "mm"), G6.get (by walk_at "mm"), G6.rb (p := threeb) (by walk_at "mm"), G6.rb (p := z4) (by walk_at "mm"), (by first | decide | omega), trivial, fun z5 nz5 => ?_⟩
    obtain ⟨Hk, eH_, u7, G7⟩ := FG.stepE G6 nz5 (RB.mul (G6.rb (p := threeb) (by walk_at "mm")) (G6.rb (p := z4) (by walk_at "mm")))
    rw [eH_]
    clear eH_
    refine ⟨z3, z5, _, _, _, _, rfl, G7.get (by walk_at "mm"), G7.get (by walk_at "mm"), G7.rb (p := z3) (by walk_at "mm"), G7.rb (p := z5) (by walk_at "mm"), (by first | decide | omega), trivial, fun fourtha nfourtha => ?_⟩
    obtain ⟨Hl, eH_, u8, G8⟩ := FG.stepE G7 nfourtha (RB.add (G7.rb (p := z3) (by walk_at "mm")) (G7.rb (p := z5) (by walk_at "mm")))
    rw [eH_]
    clear eH_
    first | refine sigN [some (.ref p), some (.ref o), some (.ref pa1), some (.ref pa2), some (.ref pa3), some (.ref pa4), some (.ref pa6), none, some (.ref pu), some (.ref pr), some (.ref ps), some (.ref pt), some (.ref second), some (.ref third), some (.ref fourtha), none, none, none, none, none] (by rfl) ?_ | refine sig [some (.ref p), some (.ref o), some (.ref pa1), some (.ref pa2), some (.ref pa3), some (.ref pa4), some (.ref pa6), none, some (.ref pu), some (.ref pr), some (.ref ps), some (.ref pt), some (.ref second), some (.ref third), some (.ref fourtha), none, none, none, none, none] (by rfl) ?_
    have sC := sB.trans (u1.trans (u2.trans (u3.trans (u4.trans (u5.trans (u6.trans (u7.trans u8)))))))
    clear u1 u2 u3 u4 u5 u6 u7 u8 F5 G1 G2 G3 G4 G5 G6 G7 sB
    refine ⟨.ref pt, rfl, .ref pr, rfl, .ref ps, rfl, ?_⟩
    refine ⟨pr, ps, _, _, _, _, rfl, G8.get (by walk_at "mm"), G8.get (by walk_at "mm"), G8.rb (p := pr) (by walk_at "mm"), G8.rb (p := ps) (by walk_at "mm"), (by first | decide | omega), trivial, fun w1 nw1 => ?_⟩
    obtain ⟨Hm, eH_, v1, J1⟩ := FG.stepE G8 nw1 (RB.mul (G8.rb (p := pr) (by walk_at "mm")) (G8.rb (p := ps) (by walk_at "mm")))
    rw [eH_]
    clear eH_
    refine ⟨pt, w1, _, _, _, _, rfl, J1.get (by walk_at "mm"), J1.get (by walk_at "mm"), J1.rb (p := pt) (by walk_at "mm"), J1.rb (p := w1) (by walk_at "mm"), (by first | decide | omega), trivial, fun w2 nw2 => ?_⟩
    obtain ⟨Hn, eH_, v2, J2⟩ := FG.stepE J1 nw2 (RB.add (J1.rb (p := pt) (by walk_at "mm")) (J1.rb (p := w1) (by walk_at "mm")))
    rw [eH_]
    clear eH_
    refine ⟨.ref pa1, rfl, ?_⟩
    refine ⟨w2, pa1, _, _, _, _, rfl, J2.get (by walk_at "mm"), J2.get (by walk_at "mm"), J2.rb (p := w2) (by walk_at "mm"), J2.rb (p := pa1) (by walk_at "mm"), (by first | decide | omega), trivial, fun w3 nw3 => ?_⟩
    obtain ⟨Ho, eH_, v3, J3⟩ := FG.stepE J2 nw3 (RB.mul (J2.rb (p := w2) (by walk_at "mm")) (J2.rb (p := pa1) (by walk_at "mm")))
    rw [eH_]
    clear eH_
    refine ⟨(by show 2 ≤ sizeLine; decide), fun twoc ntwoc => ?_⟩
    obtain ⟨Hp2, eH_, v4, J4⟩ := FG.litE J3 ntwoc fq_2 rb_two
    rw [eH_]
    clear eH_
    refine ⟨.ref ps, rfl, .ref pt, rfl, ?_⟩
    refine ⟨ps, pt, _, _, _, _, rfl, J4.get (by walk_at "mm"), J4.get (by walk_at "mm"), J4.rb (p := ps) (by walk_at "mm"), J4.rb (p := pt) (by walk_at "mm"), (by first | decide | omega), trivial, fun w4 nw4 => ?_⟩
    obtain ⟨Hq, eH_, v5, J5⟩ := FG.stepE J4 nw4 (RB.mul (J4.rb (p := ps) (by walk_at "mm")) (J4.rb (p := pt) (by walk_at "mm")))
    rw [eH_]
    clear eH_
    refine ⟨twoc, w4, _, _, _, _, rfl, J5.get (by walk_at "mm"), J5.get (by walk_at "mm"), J5.rb (p := twoc) (by walk_at "mm"), J5.rb (p := w4) (by walk_at "mm"), (by first | decide | omega), trivial, fun w5 nw5 => ?_⟩
    obtain ⟨Hr, eH_, v6, J6⟩ := FG.stepE J5 nw5 (RB.mul (J5.rb (p := twoc) (by walk_at "mm")) (J5.rb (p := w4) (by walk_at "mm")))
    rw [eH_]
    clear eH_
    refine ⟨w3, w5, _, _, _, _, rfl, J6.get (by walk_at "mm"), J6.get (by walk_at "mm"), J6.rb (p := w3) (by walk_at "mm"), J6.rb (p := w5) (by walk_at "mm"), (by first | decide | omega), trivial, fun gone ngone => ?_⟩
    obtain ⟨Hs, eH_, v7, J7⟩ := FG.stepE J6 ngone (RB.add (J6.rb (p := w3) (by walk_at "mm")) (J6.rb (p := w5) (by walk_at "mm")))
    rw [eH_]
    clear eH_
    first | refine sigN [some (.ref p), some (.ref o), some (.ref pa1), some (.ref pa2), some (.ref pa3), some (.ref pa4), some (.ref pa6), none, some (.ref pu), some (.ref pr), some (.ref ps), some (.ref pt), some (.ref second), some (.ref third), some (.ref fourtha), some (.ref gone), none, none, none, none] (by rfl) ?_ | refine sig [some (.ref p), some (.ref o), some (.ref pa1), some (.ref pa2), some (.ref pa3), some (.ref pa4), some (.ref pa6), none, some (.ref pu), some (.ref pr), some (.ref ps), some (.ref pt), some (.ref second), some (.ref third), some (.ref fourtha), some (.ref gone), none, none, none, none] (by rfl) ?_
    have sD := sC.trans (v1.trans (v2.trans (v3.trans (v4.trans (v5.trans (v6.trans v7))))))
    clear v1 v2 v3 v4 v5 v6 v7 G8 J1 J2 J3 J4 J5 J6 sC
    refine ⟨.ref fourtha, rfl, .ref ps, rfl, .ref pa3, rfl, ?_⟩
    refine ⟨ps, pa3, _, _, _, _, rfl, J7.get (by walk_at "mm"), J7.get (by walk_at "mm"), J7.rb (p := ps) (by walk_at "mm"), J7.rb (p := pa3) (by walk_at "mm"), (by first | decide | omega), trivial, fun m1 nm1 => ?_⟩
    obtain ⟨Ht, eH_, n1, N1⟩ := FG.stepE J7 nm1 (RB.mul (J7.rb (p := ps) (by walk_at "mm")) (J7.rb (p := pa3) (by walk_at "mm")))
    rw [eH_]
    clear eH_
    refine ⟨fourtha, m1, _, _, _, _, rfl, N1.get (by walk_at "mm"), N1.get (by walk_at "mm"), N1.rb (p := fourtha) (by walk_at "mm"), N1.rb (p := m1) (by walk_at "mm"), (by first | decide | omega), trivial, fun m2 nm2 => ?_⟩
    obtain ⟨Hu, eH_, n2, N2⟩ := FG.stepE N1 nm2 (RB.sub (N1.rb (p := fourtha) (by walk_at "mm")) (N1.rb (p := m1) (by walk_at "mm")))
    rw [eH_]
    clear eH_
    refine ⟨.ref gone, rfl, ?_⟩
    refine ⟨m2, gone, _, _, _, _, rfl, N2.get (by walk_at "mm"), N2.get (by walk_at "mm"), N2.rb (p := m2) (by walk_at "mm"), N2.rb (p := gone) (by walk_at "mm"), (by first | decide | omega), trivial, fun fourth nfourth => ?_⟩
    obtain ⟨Hv, eH_, n3, N3⟩ := FG.stepE N2 nfourth (RB.sub (N2.rb (p := m2) (by walk_at "mm")) (N2.rb (p := gone) (by walk_at "mm")))
    rw [eH_]
    clear eH_
    first | refine sigN [some (.ref p), some (.ref o), some (.ref pa1), some (.ref pa2), some (.ref pa3), some (.ref pa4), some (.ref pa6), none, some (.ref pu), some (.ref pr), some (.ref ps), some (.ref pt), some (.ref second), some (.ref third), some (.ref fourth), some (.ref gone), none, none, none, none] (by rfl) ?_ | refine sig [some (.ref p), some (.ref o), some (.ref pa1), some (.ref pa2), some (.ref pa3), some (.ref pa4), some (.ref pa6), none, some (.ref pu), some (.ref pr), some (.ref ps), some (.ref pt), some (.ref second), some (.ref third), some (.ref fourth), some (.ref gone), none, none, none, none] (by rfl) ?_
    have sE := sD.trans (n1.trans (n2.trans n3))
    clear n1 n2 n3 J7 N1 N2 sD
    refine ⟨.ref pa6, rfl, .ref pr, rfl, .ref pa4, rfl, ?_⟩
    refine ⟨pr, pa4, _, _, _, _, rfl, N3.get (by walk_at "mm"), N3.get (by walk_at "mm"), N3.rb (p := pr) (by walk_at "mm"), N3.rb (p := pa4) (by walk_at "mm"), (by first | decide | omega), trivial, fun o1 no1 => ?_⟩
    obtain ⟨Hw, eH_, p1, P1⟩ := FG.stepE N3 no1 (RB.mul (N3.rb (p := pr) (by walk_at "mm")) (N3.rb (p := pa4) (by walk_at "mm")))
    rw [eH_]
    clear eH_
    refine ⟨pa6, o1, _, _, _, _, rfl, P1.get (by walk_at "mm"), P1.get (by walk_at "mm"), P1.rb (p := pa6) (by walk_at "mm"), P1.rb (p := o1) (by walk_at "mm"), (by first | decide | omega), trivial, fun o2 no2 => ?_⟩
    obtain ⟨Hx, eH_, p2, P2⟩ := FG.stepE P1 no2 (RB.add (P1.rb (p := pa6) (by walk_at "mm")) (P1.rb (p := o1) (by walk_at "mm")))
    rw [eH_]
    clear eH_
    refine ⟨.ref pr, rfl, .ref pr, rfl, ?_⟩
    refine ⟨pr, pr, _, _, _, _, rfl, P2.get (by walk_at "mm"), P2.get (by walk_at "mm"), P2.rb (p := pr) (by walk_at "mm"), P2.rb (p := pr) (by walk_at "mm"), (by first | decide | omega), trivial, fun o3 no3 => ?_⟩
    obtain ⟨Hy, eH_, p3, P3⟩ := FG.stepE P2 no3 (RB.mul (P2.rb (p := pr) (by walk_at "mm")) (P2.rb (p := pr) (by walk_at "mm")))
    rw [eH_]
    clear eH_
    refine ⟨.ref pa2, rfl, .ref pr, rfl, ?_⟩
    refine ⟨pa2, pr, _, _, _, _, rfl, P3.get (by walk_at "mm"), P3.get (by walk_at "mm"), P3.rb (p := pa2) (by walk_at "mm"), P3.rb (p := pr) (by walk_at "mm"), (by first | decide | omega), trivial, fun o4 no4 => ?_⟩
    obtain ⟨Hz, eH_, p4, P4⟩ := FG.stepE P3 no4 (RB.add (P3.rb (p := pa2) (by walk_at "mm")) (P3.rb (p := pr) (by walk_at "mm")))
    rw [eH_]
    clear eH_
    refine ⟨o3, o4, _, _, _, _, rfl, P4.get (by walk_at "mm"), P4.get (by walk_at "mm"), P4.rb (p := o3) (by walk_at "mm"), P4.rb (p := o4) (by walk_at "mm"), (by first | decide | omega), trivial, fun o5 no5 => ?_⟩
    obtain ⟨I1, eH_, p5, P5⟩ := FG.stepE P4 no5 (RB.mul (P4.rb (p := o3) (by walk_at "mm")) (P4.rb (p := o4) (by walk_at "mm")))
    rw [eH_]
    clear eH_
    refine ⟨o2, o5, _, _, _, _, rfl, P5.get (by walk_at "mm"), P5.get (by walk_at "mm"), P5.rb (p := o2) (by walk_at "mm"), P5.rb (p := o5) (by walk_at "mm"), (by first | decide | omega), trivial, fun sixtha nsixtha => ?_⟩
    obtain ⟨I2, eH_, p6, P6⟩ := FG.stepE P5 nsixtha (RB.add (P5.rb (p := o2) (by walk_at "mm")) (P5.rb (p := o5) (by walk_at "mm")))
    rw [eH_]
    clear eH_
    first | refine sigN [some (.ref p), some (.ref o), some (.ref pa1), some (.ref pa2), some (.ref pa3), some (.ref pa4), some (.ref pa6), none, some (.ref pu), some (.ref pr), some (.ref ps), some (.ref pt), some (.ref second), some (.ref third), some (.ref fourth), some (.ref gone), some (.ref sixtha), none, none, none] (by rfl) ?_ | refine sig [some (.ref p), some (.ref o), some (.ref pa1), some (.ref pa2), some (.ref pa3), some (.ref pa4), some (.ref pa6), none, some (.ref pu), some (.ref pr), some (.ref ps), some (.ref pt), some (.ref second), some (.ref third), some (.ref fourth), some (.ref gone), some (.ref sixtha), none, none, none] (by rfl) ?_
    have sF := sE.trans (p1.trans (p2.trans (p3.trans (p4.trans (p5.trans p6)))))
    clear p1 p2 p3 p4 p5 p6 N3 P1 P2 P3 P4 P5 sE
    refine ⟨.ref sixtha, rfl, .ref pt, rfl, .ref pa3, rfl, .ref pt, rfl, ?_⟩
    refine ⟨pa3, pt, _, _, _, _, rfl, P6.get (by walk_at "mm"), P6.get (by walk_at "mm"), P6.rb (p := pa3) (by walk_at "mm"), P6.rb (p := pt) (by walk_at "mm"), (by first | decide | omega), trivial, fun r1 nr1 => ?_⟩
    obtain ⟨I3, eH_, k1, R1⟩ := FG.stepE P6 nr1 (RB.add (P6.rb (p := pa3) (by walk_at "mm")) (P6.rb (p := pt) (by walk_at "mm")))
    rw [eH_]
    clear eH_
    refine ⟨.ref pr, rfl, .ref pa1, rfl, ?_⟩
    refine ⟨pr, pa1, _, _, _, _, rfl, R1.get (by walk_at "mm"), R1.get (by walk_at "mm"), R1.rb (p := pr) (by walk_at "mm"), R1.rb (p := pa1) (by walk_at "mm"), (by first | decide | omega), trivial, fun r2 nr2 => ?_⟩
    obtain ⟨I4, eH_, k2, R2⟩ := FG.stepE R1 nr2 (RB.mul (R1.rb (p := pr) (by walk_at "mm")) (R1.rb (p := pa1) (by walk_at "mm")))
    rw [eH_]
    clear eH_
    refine ⟨r1, r2, _, _, _, _, rfl, R2.get (by walk_at "mm"), R2.get (by walk_at "mm"), R2.rb (p := r1) (by walk_at "mm"), R2.rb (p := r2) (by walk_at "mm"), (by first | decide | omega), trivial, fun r3 nr3 => ?_⟩
    obtain ⟨I5, eH_, k3, R3⟩ := FG.stepE R2 nr3 (RB.add (R2.rb (p := r1) (by walk_at "mm")) (R2.rb (p := r2) (by walk_at "mm")))
    rw [eH_]
    clear eH_
    refine ⟨pt, r3, _, _, _, _, rfl, R3.get (by walk_at "mm"), R3.get (by walk_at "mm"), R3.rb (p := pt) (by walk_at "mm"), R3.rb (p := r3) (by walk_at "mm"), (by first | decide | omega), trivial, fun r4 nr4 => ?_⟩
    obtain ⟨I6, eH_, k4, R4⟩ := FG.stepE R3 nr4 (RB.mul (R3.rb (p := pt) (by walk_at "mm")) (R3.rb (p := r3) (by walk_at "mm")))
    rw [eH_]
    clear eH_
    refine ⟨sixtha, r4, _, _, _, _, rfl, R4.get (by walk_at "mm"), R4.get (by walk_at "mm"), R4.rb (p := sixtha) (by walk_at "mm"), R4.rb (p := r4) (by walk_at "mm"), (by first | decide | omega), trivial, fun sixth nsixth => ?_⟩
    obtain ⟨I7, eH_, k5, R5⟩ := FG.stepE R4 nsixth (RB.sub (R4.rb (p := sixtha) (by walk_at "mm")) (R4.rb (p := r4) (by walk_at "mm")))
    rw [eH_]
    clear eH_
    first | refine sigN [some (.ref p), some (.ref o), some (.ref pa1), some (.ref pa2), some (.ref pa3), some (.ref pa4), some (.ref pa6), none, some (.ref pu), some (.ref pr), some (.ref ps), some (.ref pt), some (.ref second), some (.ref third), some (.ref fourth), some (.ref gone), some (.ref sixth), none, none, none] (by rfl) ?_ | refine sig [some (.ref p), some (.ref o), some (.ref pa1), some (.ref pa2), some (.ref pa3), some (.ref pa4), some (.ref pa6), none, some (.ref pu), some (.ref pr), some (.ref ps), some (.ref pt), some (.ref second), some (.ref third), some (.ref fourth), some (.ref gone), some (.ref sixth), none, none, none] (by rfl) ?_
    have sG := sF.trans (k1.trans (k2.trans (k3.trans (k4.trans k5))))
    clear k1 k2 k3 k4 k5 P6 R1 R2 R3 R4 sF
    refine ⟨(by show 0 ≤ sizeLine; decide), fun D hD => ?_⟩
    have S0 := R5.same (Same.new (o := .lst []) hD)
    have sH := sG.trans (Same.new (o := .lst []) hD)
    have gD : (upd I7 D (.lst [])) D = some (.lst []) := upd_same
    have nDH : H D = none := sG.free hD
    generalize upd I7 D (.lst []) = I8 at S0 sH gD ⊢
    refine ⟨.ref pu, rfl, _, _, rfl, ?_⟩
    first | refine sigN [some (.ref p), some (.ref o), some (.ref pa1), some (.ref pa2), some (.ref pa3), some (.ref pa4), some (.ref pa6), none, some (.ref pu), some (.ref pr), some (.ref ps), some (.ref pt), some (.ref second), some (.ref third), some (.ref fourth), some (.ref gone), some (.ref sixth), some (.ref D), some (.ref pu), none] (by rfl) ?_ | refine sig [some (.ref p), some (.ref o), some (.ref pa1), some (.ref pa2), some (.ref pa3), some (.ref pa4), some (.ref pa6), none, some (.ref pu), some (.ref pr), some (.ref ps), some (.ref pt), some (.ref second), some (.ref third), some (.ref fourth), some (.ref gone), some (.ref sixth), some (.ref D), some (.ref pu), none] (by rfl) ?_
    clear R5 sG hD
    refine ⟨.ref pa1, rfl, ?_⟩
    refine ⟨(by show 2 ≤ sizeLine; decide), fun twod ntwod => ?_⟩
    obtain ⟨Ia, eH_, a1, S1⟩ := FG.litE S0 ntwod fq_2 rb_two
    rw [eH_]
    clear eH_
    refine ⟨.ref ps, rfl, ?_⟩
    refine ⟨twod, ps, _, _, _, _, rfl, S1.get (by walk_at "mm"), S1.get (by walk_at "mm"), S1.rb (p := twod) (by walk_at "mm"), S1.rb (p := ps) (by walk_at "mm"), (by first | decide | omega), trivial, fun f1 nf1 => ?_⟩
    obtain ⟨Ib, eH_, a2, S2⟩ := FG.stepE S1 nf1 (RB.mul (S1.rb (p := twod) (by walk_at "mm")) (S1.rb (p := ps) (by walk_at "mm")))
    rw [eH_]
    clear eH_
    refine ⟨pa1, f1, _, _, _, _, rfl, S2.get (by walk_at "mm"), S2.get (by walk_at "mm"), S2.rb (p := pa1) (by walk_at "mm"), S2.rb (p := f1) (by walk_at "mm"), (by first | decide | omega), trivial, fun first nfirst => ?_⟩
    obtain ⟨Ic, eH_, a3, S3⟩ := FG.stepE S2 nfirst (RB.add (S2.rb (p := pa1) (by walk_at "mm")) (S2.rb (p := f1) (by walk_at "mm")))
    rw [eH_]
    clear eH_
    refine ⟨.ref second, rfl, .ref third, rfl, .ref fourth, rfl, .ref sixth, rfl, (by show 6 ≤ sizeLine; decide), fun la nla => ?_⟩
    have gD2 := a3 _ _ (a2 _ _ (a1 _ _ gD))
    have sI := sH.trans (a1.trans (a2.trans a3))
    have hps : PsAt K Ic [.ref first, .ref second, .ref third, .ref fourth, .non, .ref sixth] [some ((c.a1 : Rat) + 2 * d.s), some ((c.a2 : Rat) + 3 * d.r - d.s * (c.a1 : Rat) - d.s * d.s), some ((c.a3 : Rat) + d.r * (c.a1 : Rat) + 2 * d.t), some ((c.a4 : Rat) + 2 * (d.r * (c.a2 : Rat)) + 3 * (d.r * d.r) - d.s * (c.a3 : Rat) - ((d.t + d.r * d.s) * (c.a1 : Rat) + 2 * (d.s * d.t))), none, some ((c.a6 : Rat) + d.r * (c.a4 : Rat) + d.r * d.r * ((c.a2 : Rat) + d.r) - d.t * ((c.a3 : Rat) + d.t + d.r * (c.a1 : Rat)))] :=
      .some (.some (.some (.some (.none (.some .nil ((S3.get (p := sixth) (by walk_at "mm")).up (by decide)))) ((S3.get (p := fourth) (by walk_at "mm")).up (by decide))) ((S3.get (p := third) (by walk_at "mm")).up (by decide))) ((S3.get (p := second) (by walk_at "mm")).up (by decide))) ((S3.get (p := first) (by walk_at "mm")).up (by decide))
    have hpu : PrT K Ic pu d.u 16 := S3.get (p := pu) (by walk_at "mm")
    clear S0 S1 S2 S3 a1 a2 a3 gD sH
    have hq : qsL d c = (pdv d.u 0 ([some ((c.a1 : Rat) + 2 * d.s), some ((c.a2 : Rat) + 3 * d.r - d.s * (c.a1 : Rat) - d.s * d.s), some ((c.a3 : Rat) + d.r * (c.a1 : Rat) + 2 * d.t), some ((c.a4 : Rat) + 2 * (d.r * (c.a2 : Rat)) + 3 * (d.r * d.r) - d.s * (c.a3 : Rat) - ((d.t + d.r * d.s) * (c.a1 : Rat) + 2 * (d.s * d.t))), none, some ((c.a6 : Rat) + d.r * (c.a4 : Rat) + d.r * d.r * ((c.a2 : Rat) + d.r) - d.t * ((c.a3 : Rat) + d.t + d.r * (c.a1 : Rat)))] : List (Option Rat))).filterMap id := by
      show qsL d c = [((c.a1 : Rat) + 2 * d.s) / d.u ^ (0 + 1), ((c.a2 : Rat) + 3 * d.r - d.s * (c.a1 : Rat) - d.s * d.s) / d.u ^ (0 + 1 + 1), ((c.a3 : Rat) + d.r * (c.a1 : Rat) + 2 * d.t) / d.u ^ (0 + 1 + 1 + 1), ((c.a4 : Rat) + 2 * (d.r * (c.a2 : Rat)) + 3 * (d.r * d.r) - d.s * (c.a3 : Rat) - ((d.t + d.r * d.s) * (c.a1 : Rat) + 2 * (d.s * d.t))) / d.u ^ (0 + 1 + 1 + 1 + 1), ((c.a6 : Rat) + d.r * (c.a4 : Rat) + d.r * d.r * ((c.a2 : Rat) + d.r) - d.t * ((c.a3 : Rat) + d.t + d.r * (c.a1 : Rat))) / d.u ^ (0 + 1 + 1 + 1 + 1 + 1 + 1)]
      unfold qsL l1 l2 l3 l4 l6
      simp only [List.cons.injEq, and_true]
      refine ⟨div_eq ?_ ?_, div_eq ?_ ?_, div_eq ?_ ?_, div_eq ?_ ?_, div_eq ?_ ?_⟩ <;> grind
    rw [hq] at q
    clear hq
    have hPSl : ([some ((c.a1 : Rat) + 2 * d.s), some ((c.a2 : Rat) + 3 * d.r - d.s * (c.a1 : Rat) - d.s * d.s), some ((c.a3 : Rat) + d.r * (c.a1 : Rat) + 2 * d.t), some ((c.a4 : Rat) + 2 * (d.r * (c.a2 : Rat)) + 3 * (d.r * d.r) - d.s * (c.a3 : Rat) - ((d.t + d.r * d.s) * (c.a1 : Rat) + 2 * (d.s * d.t))), none, some ((c.a6 : Rat) + d.r * (c.a4 : Rat) + d.r * d.r * ((c.a2 : Rat) + d.r) - d.t * ((c.a3 : Rat) + d.t + d.r * (c.a1 : Rat)))] : List (Option Rat)).length = 6 := rfl
    generalize ([some ((c.a1 : Rat) + 2 * d.s), some ((c.a2 : Rat) + 3 * d.r - d.s * (c.a1 : Rat) - d.s * d.s), some ((c.a3 : Rat) + d.r * (c.a1 : Rat) + 2 * d.t), some ((c.a4 : Rat) + 2 * (d.r * (c.a2 : Rat)) + 3 * (d.r * d.r) - d.s * (c.a3 : Rat) - ((d.t + d.r * d.s) * (c.a1 : Rat) + 2 * (d.s * d.t))), none, some ((c.a6 : Rat) + d.r * (c.a4 : Rat) + d.r * d.r * ((c.a2 : Rat) + d.r) - d.t * ((c.a3 : Rat) + d.t + d.r * (c.a1 : Rat)))] : List (Option Rat)) = PS at hps q hPSl
    have sJ := sI.trans (Same.new (o := .lst [.ref first, .ref second, .ref third, .ref fourth, .non, .ref sixth]) nla)
    have hps2 := hps.same (Same.new (o := .lst [.ref first, .ref second, .ref third, .ref fourth, .non, .ref sixth]) nla)
    have hpu2 := hpu.same (Same.new (o := .lst [.ref first, .ref second, .ref third, .ref fourth, .non, .ref sixth]) nla)
    have gD3 := Same.new (o := .lst [.ref first, .ref second, .ref third, .ref fourth, .non, .ref sixth]) nla _ _ gD2
    have gla : (upd Ic la (.lst [.ref first, .ref second, .ref third, .ref fourth, .non, .ref sixth])) la = some (.lst [.ref first, .ref second, .ref third, .ref fourth, .non, .ref sixth]) := upd_same
    have nlaH : H la = none := sI.free nla
    have hDla : D ≠ la := fun e => by
      rw [e] at gD2
      rw [nla] at gD2
      cases gD2
    clear hps hpu gD2 sI nla
    generalize upd Ic la (.lst [.ref first, .ref second, .ref third, .ref fourth, .non, .ref sixth]) = Id at sJ hps2 hpu2 gD3 gla ⊢
    refine ⟨la, [.ref first, .ref second, .ref third, .ref fourth, .non, .ref sixth], rfl, lst_of gla, for_it walk_enum (fun i σ H2 => But D Id H2 ∧ RfD K H2 D (((pdv d.u 0 PS).take i).filterMap id) ∧ ∃ (sc : Addr) (v k : Option V), σ = [some (.ref p), some (.ref o), some (.ref pa1), some (.ref pa2), some (.ref pa3), some (.ref pa4), some (.ref pa6), v, some (.ref pu), some (.ref pr), some (.ref ps), some (.ref pt), some (.ref second), some (.ref third), some (.ref fourth), some (.ref gone), some (.ref sixth), some (.ref D), some (.ref sc), k] ∧ PrT K H2 sc (d.u ^ (i + 1)) (16 * (i + 1))) ⟨But.refl _ _, ⟨[], gD3, rfl, fun i x e => by cases e⟩, pu, none, none, rfl, by rw [show d.u ^ (0 + 1) = d.u by rw [Rat.pow_succ, Rat.pow_zero, Rat.one_mul]]; exact hpu2⟩ (fun i σ H2 _ z => lst_of (z.1 _ _ gla (fun e => hDla e.symm))) ?_ ?_⟩
    · rintro i x σ H2 H2' hi ⟨b2, ⟨L, gL, rL⟩, sc, v, k, rfl, hsc⟩ ⟨T0, x0, y, rfl, nT, rfl, hx0, hy⟩
      have hi6 : i < 6 := hi
      refine ⟨T0, _, rfl, tup_of upd_same, rfl, _, _, rfl, _, _, rfl, rfl, ?_⟩
      have sT := Same.new (o := .tup [x0, y]) nT
      have b3 := b2.trans (But.of (m := D) sT)
      have gL3 := sT _ _ gL
      have rL3 := rL.same sT
      have hsc3 := hsc.same sT
      have hlen : L.length ≤ i := by
        have h1 := rL.1
        rw [List.length_map] at h1
        rw [h1]
        exact fm_len _ _
      clear b2 gL rL hsc
      generalize upd H2 T0 (.tup [x0, y]) = H3 at sT b3 gL3 rL3 hsc3 ⊢
      have hpu3 := hpu2.but b3 gD3
      have unz := pow_nz hu1' (i + 1)
      have sc96 : 16 * (i + 1) ≤ 96 := by omega
      rcases hps2 i y hy with ⟨a, qq, rfl, hpi, hqa⟩ | ⟨rfl, hpi⟩
      · have hqa3 := hqa.but b3 gD3
        have hpd : (pdv d.u 0 PS)[i]? = some (some (qq / d.u ^ (i + 1))) := by
          rw [pdv_at, hpi, Nat.zero_add]
          rfl
        first | refine sigN [some (.ref p), some (.ref o), some (.ref pa1), some (.ref pa2), some (.ref pa3), some (.ref pa4), some (.ref pa6), some (.ref a), some (.ref pu), some (.ref pr), some (.ref ps), some (.ref pt), some (.ref second), some (.ref third), some (.ref fourth), some (.ref gone), some (.ref sixth), some (.ref D), some (.ref sc), some x0] (by rfl) ?_ | refine sig [some (.ref p), some (.ref o), some (.ref pa1), some (.ref pa2), some (.ref pa3), some (.ref pa4), some (.ref pa6), some (.ref a), some (.ref pu), some (.ref pr), some (.ref ps), some (.ref pt), some (.ref second), some (.ref third), some (.ref fourth), some (.ref gone), some (.ref sixth), some (.ref D), some (.ref sc), some x0] (by rfl) ?_
        refine ⟨_, rfl, rfl, _, rfl, iteT ?_⟩
        refine ⟨.ref D, rfl, .inl ⟨rfl, _, lst_of gL3⟩, .ref a, rfl, .ref sc, rfl, a, sc, qq, d.u ^ (i + 1), 2000, 16 * (i + 1), rfl, hqa3, hsc3, hqa3.rb, hsc3.rb, by omega, unz, fun t nt => ?_⟩
        have s4 := Same.new (o := .tup (fq (qq / d.u ^ (i + 1)))) nt
        have gt : (upd H3 t (.tup (fq (qq / d.u ^ (i + 1))))) t = some (.tup (fq (qq / d.u ^ (i + 1)))) := upd_same
        have gL4 := s4 _ _ gL3
        have rL4 := (rL3.same s4).push (tup_of gt)
        have hsc4 := hsc3.same s4
        have hpu4 := hpu3.same s4
        have b4 := b3.trans (But.of (m := D) s4)
        generalize upd H3 t (.tup (fq (qq / d.u ^ (i + 1)))) = H4 at s4 gt gL4 rL4 hsc4 hpu4 b4 ⊢
        refine ⟨D, _, _, rfl, rfl, gL4, small1000 (by rw [List.length_map]; omega), ?_⟩
        have hsc5 := hsc4.put (o := .lst (L.map V.ref ++ [.ref t])) gL4
        have hpu5 := hpu4.put (o := .lst (L.map V.ref ++ [.ref t])) gL4
        have rL5 := rL4.put (o := .lst (L.map V.ref ++ [.ref t])) gL4
        have b5 := b4.trans (But.upd (m := D) (o := .lst (L.map V.ref ++ [.ref t])))
        have gL5 : (upd H4 D (.lst (L.map V.ref ++ [.ref t]))) D = some (.lst (L.map V.ref ++ [.ref t])) := upd_same
        generalize upd H4 D (.lst (L.map V.ref ++ [.ref t])) = H5 at hsc5 hpu5 rL5 b5 gL5 ⊢
        refine ⟨.ref sc, rfl, .ref pu, rfl, sc, pu, d.u ^ (i + 1), d.u, 16 * (i + 1), 16, rfl, hsc5, hpu5, hsc5.rb, hpu5.rb, by omega, trivial, fun t2 nt2 => ?_⟩
        have s6 := Same.new (o := .tup (fq (d.u ^ (i + 1) * d.u))) nt2
        have gt2 : PrT K (upd H5 t2 (.tup (fq (d.u ^ (i + 1) * d.u)))) t2 (d.u ^ (i + 1 + 1)) (16 * (i + 1 + 1)) := by
          rw [Rat.pow_succ d.u (i + 1)]
          exact .of (tup_of upd_same) ((RB.mul hsc5.rb hpu5.rb).up (by omega))
        refine ⟨b5.trans (But.of s6), ⟨L ++ [t], by rw [List.map_append]; exact s6 _ _ gL5, ?_⟩, t2, _, _, rfl, gt2⟩
        rw [List.map_append, fm_some hpd]
        exact rL5.same s6
      · have hpd : (pdv d.u 0 PS)[i]? = some none := by
          rw [pdv_at, hpi]
          rfl
        first | refine sigN [some (.ref p), some (.ref o), some (.ref pa1), some (.ref pa2), some (.ref pa3), some (.ref pa4), some (.ref pa6), some V.non, some (.ref pu), some (.ref pr), some (.ref ps), some (.ref pt), some (.ref second), some (.ref third), some (.ref fourth), some (.ref gone), some (.ref sixth), some (.ref D), some (.ref sc), some x0] (by rfl) ?_ | refine sig [some (.ref p), some (.ref o), some (.ref pa1), some (.ref pa2), some (.ref pa3), some (.ref pa4), some (.ref pa6), some V.non, some (.ref pu), some (.ref pr), some (.ref ps), some (.ref pt), some (.ref second), some (.ref third), some (.ref fourth), some (.ref gone), some (.ref sixth), some (.ref D), some (.ref sc), some x0] (by rfl) ?_
        refine ⟨_, rfl, rfl, _, rfl, iteF ?_⟩
        refine ⟨.ref sc, rfl, .ref pu, rfl, sc, pu, d.u ^ (i + 1), d.u, 16 * (i + 1), 16, rfl, hsc3, hpu3, hsc3.rb, hpu3.rb, by omega, trivial, fun t2 nt2 => ?_⟩
        have s6 := Same.new (o := .tup (fq (d.u ^ (i + 1) * d.u))) nt2
        have gt2 : PrT K (upd H3 t2 (.tup (fq (d.u ^ (i + 1) * d.u)))) t2 (d.u ^ (i + 1 + 1)) (16 * (i + 1 + 1)) := by
          rw [Rat.pow_succ d.u (i + 1)]
          exact .of (tup_of upd_same) ((RB.mul hsc3.rb hpu3.rb).up (by omega))
        refine ⟨b3.trans (But.of s6), ⟨L, s6 _ _ gL3, ?_⟩, t2, _, _, rfl, gt2⟩
        rw [fm_none hpd]
        exact rL3.same s6
    · rintro σ H2 ⟨b2, ⟨L, gL, rL⟩, sc, v, k, rfl, hsc⟩
      have e6 : (pdv d.u 0 PS).take ([V.ref first, V.ref second, V.ref third, V.ref fourth, V.non, V.ref sixth] : List V).length = pdv d.u 0 PS := by
        rw [List.take_of_length_le]
        rw [pdv_len, hPSl]
        exact Nat.le_refl _
      rw [e6] at rL
      refine ⟨.ref D, rfl, D, _, rfl, .inl ⟨lst_of gL, fun t nt => ?_⟩⟩
      have sZ := Same.new (o := .tup (L.map V.ref)) nt
      exact q _ t _ ((But.same sJ b2 nDH).trans sZ) upd_same (rL.same sZ)
end
end K15
set_option Elab.async false
set_option linter.all false
set_option maxRecDepth 100000
set_option maxHeartbeats 400000
namespace K15
open PySem PySem.Spec PyProof.Rows L2 Gd QM
local macro_rules | `(tactic| walk_at "bd") => `(tactic| (repeat (first | assumption | apply B.add | apply B.sub | apply B.mul | apply B.neg | exact B.lit (n := 8) (by decide))))
local macro_rules | `(tactic| walk_at "pw") => `(tactic| exact B.up (n := 64) (by assumption) (by decide))
local macro_rules | `(tactic| walk_at "bnd") => `(tactic| (apply B.mulW; walk_at "bd"; decide))
theorem cand_md {c4 c6 : Int} (h4 : B 59 c4) (h6 : B 104 c6) {k : Nat} (hk : k < 12) : (cand c4 c6 k).Md := by
  have : k = 0 ∨ k = 1 ∨ k = 2 ∨ k = 3 ∨ k = 4 ∨ k = 5 ∨ k = 6 ∨ k = 7 ∨ k = 8 ∨ k = 9 ∨ k = 10 ∨ k = 11 := by omega
  unfold B at h4 h6
  rcases this with rfl | rfl | rfl | rfl | rfl | rfl | rfl | rfl | rfl | rfl | rfl | rfl <;> refine ⟨?_, ?_, ?_, ?_, ?_⟩ <;> unfold cand B <;> simp <;> omega
/-- triples that are tried -/
def TrD (H : Hp) (D : Addr) (i : Nat) : Prop := ∃ L : List Addr, H D = some (.lst (L.map V.ref)) ∧ L.length = i ∧ ∀ (j : Nat) (p : Addr), L[j]? = some p → H p = some (.tup [.int ((j : Int) / 6), .int ((j : Int) % 3 - 1), .int ((j : Int) / 3 - (j : Int) / 6 * 2)])
/-- curves in a list -/
def CvL (K : PySem.W.Frag) (H : Hp) (D : Addr) (cs : List Cv) : Prop := ∃ L : List Addr, H D = some (.lst (L.map V.ref)) ∧ L.length = cs.length ∧ ∀ (j : Nat) (p : Addr), L[j]? = some p → ∃ c, cs[j]? = some c ∧ SqT K H p c.tup
theorem get_snoc {A : Type} {L : List A} {t p : A} {j : Nat} (h : (L ++ [t])[j]? = some p) : L[j]? = some p ∨ (j = L.length ∧ p = t) := by
  rcases Nat.lt_or_ge j L.length with z | z
  · rw [List.getElem?_append_left z] at h
    exact .inl h
  · rw [List.getElem?_append_right z] at h
    have e0 : j - L.length = 0 := by
      rcases Nat.eq_zero_or_pos (j - L.length) with y | y
      · exact y
      · rw [List.getElem?_eq_none (by simp; omega)] at h
        cases h
    rw [e0] at h
    exact .inr ⟨by omega, (Option.some.inj h).symm⟩
theorem get_lt {A : Type} {L : List A} {p : A} {j : Nat} (h : L[j]? = some p) : j < L.length := (List.getElem?_eq_some_iff.mp h).1
theorem eqv_c (a b c d : Int) : PyData.eqv (.tuple [.int a, .int b]) (.tuple [.int c, .int d]) = (decide (a = c) && decide (b = d)) := by
  show (decide (a = c) && (decide (b = d) && true)) = _
  simp
section
variable {P : Program} {w : World} {K : PySem.W.Frag} {mg : Str → Option Value} {base : Heap}
def sp_law_pair (K : PySem.W.Frag) : Sp := fun vs H Q _ => ∃ c4 c6 : Int, vs = [.int c4, .int c6] ∧ B 59 c4 ∧ B 104 c6 ∧ ∀ H' D, Same H H' → CvL K H' D (pairN c4 c6 12) → Q (.ref D) H'
abbrev s__law_pair : Stmt := topS 86
theorem sc__law_pair : FnScope ["c4", "c6", "found", "a", "b", "c", "k", "two", "four", "six", "five_v", "numbers"] ["c4", "c6"] (defScope s__law_pair) := ⟨rfl, rfl, rfl, by decide +kernel, rfl, by decide +kernel, by decide +kernel⟩
theorem k_law_pair (T : Tx K mg) (D : Df K mg "_law_pair" s__law_pair ["c4", "c6"]) (c_law_numbers : Kl P w K mg base 1 "_law_numbers" (sp_law_numbers K)) : Kl P w K mg base 2 "_law_pair" (sp_law_pair K) := by
  have nd := sc__law_pair.nd
  refine Kl.by_body D sc__law_pair (fun vs H Q E h => ?_) (fun f cdv A outer s H vs Q E hr h => ?_)
  · obtain ⟨_, _, rfl, _⟩ := h
    rfl
  · obtain ⟨c4, c6, rfl, h4, h6, q⟩ := h
    have hu1 := hu_of hr
    refine ⟨_, (pss_cons (ps_set (i := 2) nd rfl (by first | exact Or.inl rfl | exact Or.inr rfl) (pe_lst pa_nil))
      (pss_cons (ps_for PassesOwn.never rfl (pi_list (pe_lc (own := [("k", 6)]) (g := gName 6) rfl nd (pi_range1 (by rfl) T.range (pa_cons pe_int pa_nil)) (blkOk_by (N := ["c4", "c6", "found", "a", "b", "c", "k", "two", "four", "six", "five_v", "numbers"]) (sc := defScope s__law_pair) (by decide +kernel)) (fun _ _ _ _ _ => (pg_name (i := 6) nd rfl (by first | exact Or.inl rfl | exact Or.inr rfl))) (fun _ _ _ _ _ => pts_nil) (fun _ _ _ _ _ => (pe_tup (pa_cons (pe_op op_fdiv (pv 6) pe_int) (pa_cons (pe_op op_sub (pe_op op_mod (pe_callTy call_intI (by rfl) T.int (by decide +kernel) (pa_cons (pv 6) pa_nil)) pe_int) pe_int) (pa_cons (pe_op op_sub (pe_op op_fdiv (pv 6) pe_int) (pe_op op_mul (pe_op op_fdiv (pv 6) pe_int) pe_int)) pa_nil))))))) (pg_tup rfl (pgs_cons (pg_name (i := 3) nd rfl (by first | exact Or.inl rfl | exact Or.inr rfl)) (pgs_cons (pg_name (i := 4) nd rfl (by first | exact Or.inl rfl | exact Or.inr rfl)) (pgs_cons (pg_name (i := 5) nd rfl (by first | exact Or.inl rfl | exact Or.inr rfl)) pgs_nil)))) (pss_cons (ps_set (i := 7) nd rfl (by first | exact Or.inl rfl | exact Or.inr rfl) (pe_op op_add (pv 3) (pe_op op_mul pe_int (pv 4))))
      (pss_cons (ps_set (i := 8) nd rfl (by first | exact Or.inl rfl | exact Or.inr rfl) (pe_op op_fdiv (pe_op op_sub (pe_op op_mulW (pv 7) (pv 7)) (pv 0)) pe_int))
      (pss_cons (ps_set (i := 9) nd rfl (by first | exact Or.inl rfl | exact Or.inr rfl) (pe_op op_fdiv (pe_op op_sub (pe_op op_sub (pe_op op_mulW (pe_op op_mul pe_int (pv 7)) (pv 8)) (pe_op op_pow (pv 7) pe_int)) (pv 1)) pe_int))
      (pss_cons (ps_set (i := 10) nd rfl (by first | exact Or.inl rfl | exact Or.inr rfl) (pe_tup (pa_cons (pv 3) (pa_cons (pv 4) (pa_cons (pv 5) (pa_cons (pe_op op_fdiv (pe_op op_sub (pv 8) (pe_op op_mulW (pv 3) (pv 5))) pe_int) (pa_cons (pe_op op_fdiv (pe_op op_sub (pv 9) (pv 5)) pe_int) pa_nil)))))))
      (pss_cons (ps_set (i := 11) nd rfl (by first | exact Or.inl rfl | exact Or.inr rfl) (pe_k c_law_numbers  hr (by decide) (by rfl) (pa_cons (pv 10) pa_nil)))
      (pss_one (ps_if (PW.pt (pw_and (pt_cmpR (op_eqD hr.units) (pe_slice sl_tup (pv 11) (po_some pe_int) (po_some pe_int)) (pe_tup (pa_cons (pv 0) (pa_cons (pv 1) pa_nil))) (nomark _)) (pw_and1 (pt_cmpR op_ne (pe_ix ix_tup (pv 11) pe_int (fun _ _ => rfl)) pe_int (nomark _))))) (pss_one (ps_expr (pe_bm PySem.F.plainAttrs_list PySem.F.slot_list_append PySem.F.type_list_append mt_append (pv 2) (pa_cons (pv 10) pa_nil)))) pss_nil))))))))
      (pss_one (ps_ret (pv 2))))), ?_⟩
    refine ⟨(by show 0 ≤ sizeLine; decide), fun F nF => ?_⟩
    have s1 := Same.new (H := H) (p := F) (o := .lst []) nF
    have gF : upd H F (.lst []) F = some (.lst []) := upd_same
    generalize upd H F (.lst []) = H1 at s1 gF ⊢
    first | refine sigN [some (.int (c4)), some (.int (c6)), some (.ref F), none, none, none, none, none, none, none, none, none] (by rfl) ?_ | refine sig [some (.int (c4)), some (.int (c6)), some (.ref F), none, none, none, none, none, none, none, none, none] (by rfl) ?_
    refine ⟨12, rfl, by decide, by decide, fun D hD => ?_⟩
    have hFD : F ≠ D := ne_of_none gF hD
    refine lc_range (lo := 0) (n := 12) (fun i H3 => Same H1 H3 ∧ TrD H3 D i) ⟨Same.new hD, [], upd_same, rfl, fun j p e => by cases e⟩ (fun i H3 hi z => ?_) (fun H3 z => ?_)
    · obtain ⟨s3, L, hL, el, hp⟩ := z
      refine ⟨rfl, _, rfl, _, _, rfl, rfl, ⟨by decide, by decide⟩, _, rfl, _, rfl, _, _, rfl, rfl, (by show (0 : Int) < 3; decide), _, _, rfl, rfl, _, rfl, _, _, rfl, rfl, ⟨by decide, by decide⟩, _, rfl, _, _, rfl, rfl, ⟨by decide, by decide⟩, _, _, rfl, rfl, (Or.inr ⟨by decide, by decide⟩), _, _, rfl, rfl, (by show 3 ≤ sizeLine; decide), fun t nt => ?_⟩
      rw [Int.zero_add]
      have hDt : D ≠ t := ne_of_none hL nt
      refine ⟨L.map V.ref, by rw [upd_ne hDt]; exact hL, small1000 (by rw [List.length_map]; omega), Same.put (Same.put s3 (s3.free nt)) hD, L ++ [t], by rw [upd_same, List.map_append]; rfl, by rw [List.length_append, el]; rfl, fun j p e => ?_⟩
      rcases get_snoc e with e | ⟨rfl, rfl⟩
      · have g := hp j p e
        rw [upd_ne (ne_of g hL (by intro z; cases z)), upd_ne (ne_of_none g nt)]
        exact g
      · rw [upd_ne hDt.symm, upd_same, el]
    obtain ⟨s3, L, hL, el, hp⟩ := z
    have gF3 := s3 _ _ gF
    have sA := s1.trans s3
    refine ⟨D, rfl, ⟨_, lst_of hL⟩, for_list (K := K) (a := D) (xs := L.map V.ref) (fun i σ H4 => But F H3 H4 ∧ CvL K H4 F (pairN c4 c6 i) ∧ ∃ va vb vc v7 v8 v9 v10 v11 : Option V, σ = [some (.int c4), some (.int c6), some (.ref F), va, vb, vc, none, v7, v8, v9, v10, v11]) ⟨But.refl _ _, ⟨[], gF3, rfl, fun j p e => by cases e⟩, none, none, none, none, none, none, none, none, rfl⟩ (fun i σ H4 _ z => lst_of (z.1 _ _ hL (fun e => hFD e.symm))) ?_ ?_⟩
    · rintro i x σ H4 hi ⟨b4, ⟨C, gC, eC, hC⟩, va, vb, vc, v7, v8, v9, v10, v11, rfl⟩
      obtain ⟨p, rfl, hpi⟩ : ∃ p, x = .ref p ∧ L[i]? = some p := by
        rw [List.getElem?_map] at hi
        cases e : L[i]? with
        | none =>
          rw [e] at hi
          cases hi
        | some y =>
          rw [e] at hi
          exact ⟨y, (Option.some.inj hi).symm, rfl⟩
      have hi12 : i < 12 := by
        have := get_lt hpi
        omega
      have gp3 := hp i p hpi
      have gp := b4 _ _ gp3 (ne_of gp3 gF3 (by intro z; cases z))
      have hmd := cand_md h4 h6 hi12
      have hlen : (pairN c4 c6 i).length ≤ i := pairN_len _ _ _
      have hcd : cand c4 c6 i = cand c4 c6 i := rfl
      conv at hcd => rhs; unfold cand
      have hA : B 2 ((i : Int) / 6) := by
        unfold B
        omega
      have hBb : B 2 ((i : Int) % 3 - 1) := by
        unfold B
        omega
      have hCc : B 2 ((i : Int) / 3 - (i : Int) / 6 * 2) := by
        unfold B
        omega
      have ht : B 8 ((i : Int) / 6 + 4 * ((i : Int) % 3 - 1)) := by
        unfold B
        omega
      generalize (i : Int) / 3 - (i : Int) / 6 * 2 = c at gp hcd hCc
      generalize (i : Int) / 6 = a at gp hcd hA ht
      generalize (i : Int) % 3 - 1 = b at gp hcd hBb ht
      clear gp3 hi hp
      refine ⟨p, _, rfl, tup_of gp, rfl, _, _, rfl, _, _, rfl, _, _, rfl, rfl, ?_⟩
      first | refine sigN [some (.int (c4)), some (.int (c6)), some (.ref F), some (.int (a)), some (.int (b)), some (.int (c)), none, v7, v8, v9, v10, v11] (by rfl) ?_ | refine sig [some (.int (c4)), some (.int (c6)), some (.ref F), some (.int (a)), some (.int (b)), some (.int (c)), none, v7, v8, v9, v10, v11] (by rfl) ?_
      refine ⟨_, rfl, _, rfl, _, _, rfl, rfl, (Or.inl ⟨by decide, by decide⟩), _, _, rfl, rfl, ?_⟩
      first | refine sigN [some (.int (c4)), some (.int (c6)), some (.ref F), some (.int (a)), some (.int (b)), some (.int (c)), none, some (.int (a + 4 * b)), v8, v9, v10, v11] (by rfl) ?_ | refine sig [some (.int (c4)), some (.int (c6)), some (.ref F), some (.int (a)), some (.int (b)), some (.int (c)), none, some (.int (a + 4 * b)), v8, v9, v10, v11] (by rfl) ?_
      generalize a + 4 * b = two at ht hcd ⊢
      refine ⟨_, rfl, _, rfl, _, _, rfl, rfl, (by walk_at "bnd"), _, rfl, _, _, rfl, rfl, _, _, rfl, rfl, ⟨by decide, by decide⟩, ?_⟩
      have hf : B 60 ((two * two - c4) / 24) := by
        have := ht.mul ht
        unfold B at *
        omega
      first | refine sigN [some (.int (c4)), some (.int (c6)), some (.ref F), some (.int (a)), some (.int (b)), some (.int (c)), none, some (.int (two)), some (.int ((two * two - c4) / 24)), v9, v10, v11] (by rfl) ?_ | refine sig [some (.int (c4)), some (.int (c6)), some (.ref F), some (.int (a)), some (.int (b)), some (.int (c)), none, some (.int (two)), some (.int ((two * two - c4) / 24)), v9, v10, v11] (by rfl) ?_
      generalize (two * two - c4) / 24 = four at hf hcd ⊢
      refine ⟨_, rfl, _, _, rfl, rfl, (Or.inl ⟨by decide, by decide⟩), _, rfl, _, _, rfl, rfl, (by walk_at "bnd"), _, rfl, _, _, rfl, rfl, ⟨by decide, by decide, by walk_at "pw"⟩, _, _, rfl, rfl, _, rfl, _, _, rfl, rfl, _, _, rfl, rfl, ⟨by decide, by decide⟩, ?_⟩
      first | refine sigN [some (.int (c4)), some (.int (c6)), some (.ref F), some (.int (a)), some (.int (b)), some (.int (c)), none, some (.int (two)), some (.int (four)), some (.int ((36 * two * four - two ^ 3 - c6) / 216)), v10, v11] (by rfl) ?_ | refine sig [some (.int (c4)), some (.int (c6)), some (.ref F), some (.int (a)), some (.int (b)), some (.int (c)), none, some (.int (two)), some (.int (four)), some (.int ((36 * two * four - two ^ 3 - c6) / 216)), v10, v11] (by rfl) ?_
      generalize (36 * two * four - two ^ 3 - c6) / 216 = six at hcd ⊢
      refine ⟨_, rfl, _, rfl, _, rfl, _, rfl, _, rfl, _, rfl, _, _, rfl, rfl, (by walk_at "bnd"), _, _, rfl, rfl, _, _, rfl, rfl, ⟨by decide, by decide⟩, _, rfl, _, rfl, _, _, rfl, rfl, _, _, rfl, rfl, ⟨by decide, by decide⟩, (by show 5 ≤ sizeLine; decide), fun t nt => ?_⟩
      have s5 := Same.new (H := H4) (p := t) (o := .tup [.int a, .int b, .int c, .int ((four - a * c) / 2), .int ((six - c) / 4)]) nt
      have gt : upd H4 t (.tup [.int a, .int b, .int c, .int ((four - a * c) / 2), .int ((six - c) / 4)]) t = some (.tup [.int a, .int b, .int c, .int ((four - a * c) / 2), .int ((six - c) / 4)]) := upd_same
      generalize upd H4 t (.tup [.int a, .int b, .int c, .int ((four - a * c) / 2), .int ((six - c) / 4)]) = H5 at s5 gt ⊢
      have gt' : H5 t = some (.tup (cand c4 c6 i).tup) := by
        rw [hcd]
        exact gt
      have b5 := b4.trans (But.of (m := F) s5)
      have gC5 := s5 _ _ gC
      have hC5 : ∀ (j : Nat) (p : Addr), C[j]? = some p → ∃ c, (pairN c4 c6 i)[j]? = some c ∧ SqT K H5 p c.tup := fun j p e => (hC j p e).imp fun c z => ⟨z.1, Same.tup s5 z.2⟩
      clear gC hC s5 gt hcd
      generalize hE : cand c4 c6 i = e at gt' hmd
      first | refine sigN [some (.int (c4)), some (.int (c6)), some (.ref F), some (.int (a)), some (.int (b)), some (.int (c)), none, some (.int (two)), some (.int (four)), some (.int (six)), some (.ref t), v11] (by rfl) ?_ | refine sig [some (.int (c4)), some (.int (c6)), some (.ref F), some (.int (a)), some (.int (b)), some (.int (c)), none, some (.int (two)), some (.int (four)), some (.int (six)), some (.ref t), v11] (by rfl) ?_
      refine ⟨.ref t, rfl, t, e, rfl, tup_of gt', hmd, fun u nu => ?_⟩
      have s6 := Same.new (H := H5) (p := u) (o := .tup e.nums) nu
      have gu : upd H5 u (.tup e.nums) u = some (.tup e.nums) := upd_same
      generalize upd H5 u (.tup e.nums) = H6 at s6 gu ⊢
      first | refine sigN [some (.int (c4)), some (.int (c6)), some (.ref F), some (.int (a)), some (.int (b)), some (.int (c)), none, some (.int (two)), some (.int (four)), some (.int (six)), some (.ref t), some (.ref u)] (by rfl) ?_ | refine sig [some (.int (c4)), some (.int (c6)), some (.ref F), some (.int (a)), some (.int (b)), some (.int (c)), none, some (.int (two)), some (.int (four)), some (.int (six)), some (.ref t), some (.ref u)] (by rfl) ?_
      refine ⟨.ref u, rfl, _, rfl, _, rfl, u, _, rfl, tup_of gu, (by show ¬ (HT.sIx 7 0 (some 4) = 0 ∧ HT.sIx 7 7 (some 6) = 7); decide), fun t2 n2 => ?_⟩
      have e2 : cutV e.nums (some 4) (some 6) = [.int e.c4, .int e.c6] := rfl
      rw [e2]
      have s7 := Same.new (H := H6) (p := t2) (o := .tup [.int e.c4, .int e.c6]) n2
      have g7 : upd H6 t2 (.tup [.int e.c4, .int e.c6]) t2 = some (.tup [.int e.c4, .int e.c6]) := upd_same
      generalize upd H6 t2 (.tup [.int e.c4, .int e.c6]) = H7 at s7 g7 ⊢
      refine ⟨_, rfl, _, rfl, (by show 2 ≤ sizeLine; decide), fun t3 n3 => ?_⟩
      have s8 := Same.new (H := H7) (p := t3) (o := .tup [.int c4, .int c6]) n3
      have g8 : upd H7 t3 (.tup [.int c4, .int c6]) t3 = some (.tup [.int c4, .int c6]) := upd_same
      generalize upd H7 t3 (.tup [.int c4, .int c6]) = H8 at s8 g8 ⊢
      refine ⟨.tuple [.int e.c4, .int e.c6], .tuple [.int c4, .int c6], .tup (tup_of (s8 _ _ g7)) (.cons (.int _) (.cons (.int _) .nil)), .tup (tup_of g8) (.cons (.int _) (.cons (.int _) .nil)), rfl, rfl, ?_⟩
      rw [eqv_c]
      have gu8 := s8 _ _ (s7 _ _ gu)
      have gC8 := s8 _ _ (s7 _ _ (s6 _ _ gC5))
      have gt8 := s8 _ _ (s7 _ _ (s6 _ _ gt'))
      have b8 := b5.trans (But.of (m := F) (s6.trans (s7.trans s8)))
      have hC8 : ∀ (j : Nat) (p : Addr), C[j]? = some p → ∃ c, (pairN c4 c6 i)[j]? = some c ∧ SqT K H8 p c.tup := fun j p e => (hC5 j p e).imp fun c z => ⟨z.1, Same.tup (s6.trans (s7.trans s8)) z.2⟩
      clear gC5 gu g7 g8 hC5 b5 s6 s7 s8 gt' b4 gp
      have no : ¬ Fits c4 c6 e → But F H3 H8 ∧ CvL K H8 F (pairN c4 c6 (i + 1)) ∧ ∃ va vb vc v7 v8 v9 v10 v11 : Option V, [some (V.int c4), some (.int c6), some (.ref F), some (.int a), some (.int b), some (.int c), none, some (.int two), some (.int four), some (.int six), some (.ref t), some (.ref u)] = [some (.int c4), some (.int c6), some (.ref F), va, vb, vc, none, v7, v8, v9, v10, v11] := fun hn => by
        refine ⟨b8, ⟨C, gC8, ?_, ?_⟩, _, _, _, _, _, _, _, _, rfl⟩
        · rw [pairN_no (by rw [hE]; exact hn)]
          exact eC
        · rw [pairN_no (by rw [hE]; exact hn)]
          exact hC8
      refine ⟨_, rfl, ?_⟩
      by_cases hz : e.c4 = c4 ∧ e.c6 = c6
      · refine iteY (by rw [hz.1, hz.2]; simp) ?_
        refine ⟨.ref u, rfl, u, _, 6, .int e.disc, rfl, rfl, tup_of gu8, rfl, ?_⟩
        refine ⟨rfl, _, rfl, ?_⟩
        rw [dec_int]
        by_cases hd : e.disc = 0
        · refine iteN (by simp [hd]) ?_
          exact no (fun z => z.2.2 hd)
        · refine iteY (by simp [hd]) ?_
          refine ⟨.ref F, rfl, .inl ⟨rfl, _, lst_of gC8⟩, .ref t, rfl, F, _, _, rfl, rfl, gC8, small1000 (by rw [List.length_map]; omega), ?_⟩
          have hy : Fits c4 c6 (cand c4 c6 i) := by
            rw [hE]
            exact ⟨hz.1, hz.2, hd⟩
          refine ⟨b8.trans But.upd, ⟨C ++ [t], by rw [upd_same, List.map_append]; rfl, ?_, fun j p e' => ?_⟩, _, _, _, _, _, _, _, _, rfl⟩
          · rw [pairN_yes hy, List.length_append, List.length_append, eC]
            rfl
          · rw [pairN_yes hy, hE]
            rcases get_snoc e' with e' | ⟨rfl, rfl⟩
            · obtain ⟨c', h1, h2⟩ := hC8 j p e'
              exact ⟨c', by rw [List.getElem?_append_left (get_lt h1)]; exact h1, tup_put gC8 h2⟩
            · refine ⟨e, by rw [List.getElem?_append_right (by omega), eC, Nat.sub_self]; rfl, ?_⟩
              exact tup_put gC8 (tup_of gt8)
      · refine iteN (by
          intro y
          rw [Bool.and_eq_true, decide_eq_true_iff, decide_eq_true_iff] at y
          exact hz y) ?_
        exact no (fun z => hz ⟨z.1, z.2.1⟩)
    · rintro σ H4 ⟨b4, hcv, va, vb, vc, v7, v8, v9, v10, v11, rfl⟩
      rw [List.length_map, el] at hcv
      refine ⟨.ref F, rfl, ?_⟩
      exact q _ F (But.same sA b4 nF) hcv
end
end K15
set_option Elab.async false
set_option linter.all false
set_option maxRecDepth 100000
set_option maxHeartbeats 4000000
namespace K15
open PySem PySem.Spec PyProof.Rows L2 Gd QM
section
variable {P : Program} {w : World} {K : PySem.W.Frag} {mg : Str → Option Value} {base : Heap}
/-! ### power -/
theorem pw_odd (y x : Int) {j : Nat} (h : j % 2 = 1) : y * x ^ j = y * x * (x * x) ^ (j / 2) := by
  have e : j = 2 * (j / 2) + 1 := by omega
  have e2 : x ^ j = x ^ (j / 2) * x ^ (j / 2) * x := by
    calc x ^ j = x ^ (2 * (j / 2) + 1) := by rw [← e]
      _ = _ := by rw [Int.pow_succ, Nat.two_mul, Int.pow_add]
  have e3 : (x * x) ^ (j / 2) = x ^ (j / 2) * x ^ (j / 2) := Int.mul_pow ..
  rw [e2, e3]
  grind
theorem pw_even (y x : Int) {j : Nat} (h : j % 2 = 0) : y * x ^ j = y * (x * x) ^ (j / 2) := by
  have e : j = 2 * (j / 2) := by omega
  have e2 : x ^ j = x ^ (j / 2) * x ^ (j / 2) := by
    calc x ^ j = x ^ (2 * (j / 2)) := by rw [← e]
      _ = _ := by rw [Nat.two_mul, Int.pow_add]
  have e3 : (x * x) ^ (j / 2) = x ^ (j / 2) * x ^ (j / 2) := Int.mul_pow ..
  rw [e2, e3]
def sp_power (K : PySem.W.Frag) : Sp := fun vs H Q _ => ∃ (a e : Int), vs = [.int a, .int e] ∧ 0 ≤ e ∧ e ≤ 8 ∧ B 400 a ∧ Q (.int (a ^ e.toNat)) H
abbrev s_power : Stmt := topS 7
theorem sc_power : FnScope ["a", "e", "result"] ["a", "e"] (defScope s_power) := ⟨rfl, rfl, rfl, by decide +kernel, rfl, by decide +kernel, by decide +kernel⟩
theorem k_power (T : Tx K mg) (D : Df K mg "power" s_power ["a", "e"])  : Kl P w K mg base 1 "power" (sp_power K) := by
  have nd := sc_power.nd
  refine Kl.by_body D sc_power (fun vs H Q E h => ?_) (fun f cdv A outer s H vs Q E hr h => ?_)
  · obtain ⟨_, _, rfl, _⟩ := h
    rfl
  · obtain ⟨a, e, rfl, h0, h8, ha, q⟩ := h
    have hu1 := hu_of hr
    refine ⟨_, (pss_cons (ps_set (i := 2) nd rfl (by first | exact Or.inl rfl | exact Or.inr rfl) pe_int)
      (pss_cons (ps_while PassesOwn.never (pt_cmpR op_gt (pv 1) pe_int (nomark _)) (C8.pss_cut (ps_if (pt_truth (pe_op op_and (pv 1) pe_int) (fun _ => rfl)) (pss_one (ps_set (i := 2) nd rfl (by first | exact Or.inl rfl | exact Or.inr rfl) (pe_op op_mulW (pv 2) (pv 0)))) pss_nil)
      (pss_cons (ps_set (i := 1) nd rfl (by first | exact Or.inl rfl | exact Or.inr rfl) (pe_op op_shr (pv 1) pe_int))
      (pss_one (ps_if (pt_cmpR op_gt (pv 1) pe_int (nomark _)) (pss_one (ps_set (i := 0) nd rfl (by first | exact Or.inl rfl | exact Or.inr rfl) (pe_op op_mulW (pv 0) (pv 0)))) pss_nil)))))
      (pss_one (ps_ret (pv 2))))), ?_⟩
    refine while_by (fun σ H2 => ∃ (x y : Int) (j i : Nat), σ = [some (.int x), some (.int (j : Int)), some (.int y)] ∧ H2 = H ∧ y * x ^ j = a ^ e.toNat ∧ j * 2 ^ i ≤ 8 ∧ (j ≠ 0 → B (400 * 2 ^ i) x) ∧ B (400 * 2 ^ i) y ∧ i ≤ 4)
      (fun σ _ => match σ with | [_, some (.int j), _] => j.toNat | _ => 0) ⟨a, 1, e.toNat, 0, ?_, rfl, Int.one_mul _, by omega, fun _ => ha, B.lit (by decide), by decide⟩ ?_ ?_
    · rw [show ((e.toNat : Nat) : Int) = e by omega]
      rfl
    · rintro σ H2 ⟨x, y, j, i, rfl, rfl, h1, h2, h3, h4, h5⟩
      refine ⟨_, rfl, _, _, rfl, rfl, _, rfl, ?_⟩
      by_cases hj : j = 0
      · subst hj
        refine iteN (by simp) ?_
        refine ⟨_, rfl, ?_⟩
        rw [Int.pow_zero, Int.mul_one] at h1
        rw [h1]
        exact q
      · refine iteY (by simp; omega) ?_
        have hx := h3 hj
        have hi : i ≤ 3 := by
          rcases Nat.lt_or_ge 3 i with z | z
          · have h6 : 1 * 2 ^ 4 ≤ j * 2 ^ i := Nat.mul_le_mul (by omega) (Nat.pow_le_pow_right (by decide) z)
            omega
          · exact z
        have e2 : 400 * 2 ^ (i + 1) = 400 * 2 ^ i + 400 * 2 ^ i := by rw [Nat.pow_succ]; omega
        have hw : 400 * 2 ^ i ≤ 3200 := by
          have h6 : 2 ^ i ≤ 2 ^ 3 := Nat.pow_le_pow_right (by decide) hi
          omega
        have hd : (j / 2) * 2 ^ (i + 1) ≤ 8 := by
          rw [Nat.pow_succ]
          have h6 : (j / 2) * 2 ≤ j := Nat.div_mul_le_self j 2
          have h7 : (j / 2) * 2 * 2 ^ i ≤ j * 2 ^ i := Nat.mul_le_mul_right _ h6
          calc j / 2 * (2 ^ i * 2) = (j / 2) * 2 * 2 ^ i := by rw [Nat.mul_comm (2 ^ i) 2, Nat.mul_assoc]
            _ ≤ _ := Nat.le_trans h7 h2
        refine ⟨fun σ H3 => H3 = H2 ∧ σ = [some (.int x), some (.int (j : Int)), some (.int (if j % 2 = 1 then y * x else y))], ?_, ?_⟩
        · refine ⟨_, rfl, (j : Int), 1, rfl, rfl, _, rfl, ?_⟩
          rw [bitAnd_m1]
          by_cases hp : j % 2 = 1
          · refine iteY (by simp; omega) ?_
            refine ⟨_, rfl, _, rfl, _, _, rfl, rfl, h4.mulW hx (by omega), rfl, ?_⟩
            rw [if_pos hp]
            rfl
          · refine iteN (by simp; omega) ?_
            refine ⟨rfl, ?_⟩
            rw [if_neg hp]
        · rintro σ H3 ⟨rfl, rfl⟩
          refine ⟨_, rfl, _, _, rfl, rfl, by omega, ?_⟩
          have hy : B (400 * 2 ^ (i + 1)) (if j % 2 = 1 then y * x else y) := by
            rw [e2]
            split
            · exact h4.mul hx
            · exact h4.up (by omega)
          have hj2 : (j : Int) / 2 ^ (1 : Int).toNat = ((j / 2 : Nat) : Int) := by
            show (j : Int) / 2 = _
            omega
          refine sigN [some (.int x), some (.int ((j / 2 : Nat) : Int)), some (.int (if j % 2 = 1 then y * x else y))] (by rw [← hj2]; rfl) ?_
          refine ⟨_, rfl, _, _, rfl, rfl, _, rfl, ?_⟩
          by_cases hk : j / 2 = 0
          · rw [hk]
            refine iteN (by simp) ?_
            have hj1 : j = 1 := by omega
            subst hj1
            rw [Int.pow_one] at h1
            exact ⟨⟨x, _, 0, i + 1, rfl, rfl, (by rw [Int.pow_zero, Int.mul_one]; exact h1), by omega, fun z => absurd rfl z, hy, by omega⟩, by show (0 : Int).toNat < ((1 : Nat) : Int).toNat; decide⟩
          · refine iteY (by simp; omega) ?_
            refine ⟨_, rfl, _, rfl, _, _, rfl, rfl, hx.mulW hx (by omega), ?_⟩
            refine ⟨⟨x * x, _, j / 2, i + 1, rfl, rfl, ?_, hd, fun _ => ?_, hy, by omega⟩, ?_⟩
            · rw [← h1]
              split
              · rename_i hp
                exact (pw_odd y x hp).symm
              · rename_i hp
                exact (pw_even y x (by omega)).symm
            · rw [e2]
              exact hx.mul hx
            · show ((j / 2 : Nat) : Int).toNat < ((j : Nat) : Int).toNat
              omega
    · rintro σ H2 Q1 Q2 i ⟨v, hv, x, y, e1, e2, k, e, z⟩
      exact ⟨v, hv, x, y, e1, e2, k, e, i _ _ z⟩
/-! ### root_of -/
def sp_root_of (K : PySem.W.Frag) : Sp := fun vs H Q _ => ∃ (n : Int) (m : Nat), vs = [.int n, .int ((m : Int) + 1)] ∧ 0 ≤ n ∧ B 200 n ∧ 1 ≤ m ∧ m ≤ 5 ∧ ∀ r, 0 ≤ r → B 400 r → r ^ (m + 1) ≤ n → (∀ s, 0 ≤ s → s ^ (m + 1) ≤ n → s ≤ r) → Q (.int r) H
abbrev s_root_of : Stmt := topS 8
theorem sc_root_of : FnScope ["n", "k", "r", "better"] ["n", "k"] (defScope s_root_of) := ⟨rfl, rfl, rfl, by decide +kernel, rfl, by decide +kernel, by decide +kernel⟩
theorem k_root_of (T : Tx K mg) (D : Df K mg "root_of" s_root_of ["n", "k"]) (c_power : Kl P w K mg base 1 "power" (sp_power K)) : Kl P w K mg base 2 "root_of" (sp_root_of K) := by
  have nd := sc_root_of.nd
  refine Kl.by_body D sc_root_of (fun vs H Q E h => ?_) (fun f cdv A outer s H vs Q E hr h => ?_)
  · obtain ⟨_, _, rfl, _⟩ := h
    rfl
  · obtain ⟨n, m, rfl, h0, hn, hm1, hm5, q⟩ := h
    have hu1 := hu_of hr
    refine ⟨_, (pss_cons (ps_if (PW.pt (pw_or (pt_cmpR op_lt (pv 0) pe_int (nomark _)) (pw_or1 (pt_cmpR op_eq (pv 1) pe_int (nomark _))))) (pss_one (ps_ret (pv 0))) pss_nil)
      (pss_cons (ps_if (pt_cmpR op_eq (pv 1) pe_int (nomark _)) (pss_one (ps_ret (pe_callBfun cr_isqrt (by rfl) T.isqrt (pa_cons (pv 0) pa_nil)))) pss_nil)
      (pss_cons (ps_set (i := 2) nd rfl (by first | exact Or.inl rfl | exact Or.inr rfl) (pe_op op_shlN pe_int (pe_op op_add (pe_op op_fdivAny (pe_bits (pv 0)) (pv 1)) pe_int)))
      (pss_one (ps_while PassesOwn.never (pt_val pe_bl) (pss_cons (ps_set (i := 3) nd rfl (by first | exact Or.inl rfl | exact Or.inr rfl) (pe_op op_fdivAny (pe_op op_add (pe_op op_mulW (pe_op op_sub (pv 1) pe_int) (pv 2)) (pe_op op_fdivAny (pv 0) (pe_k c_power  hr (by decide) (by rfl) (pa_cons (pv 2) (pa_cons (pe_op op_sub (pv 1) pe_int) pa_nil))))) (pv 1)))
      (pss_cons (ps_if (pt_cmpR op_ge (pv 3) (pv 2) (nomark _)) (pss_one (ps_ret (pv 2))) pss_nil)
      (pss_one (ps_set (i := 2) nd rfl (by first | exact Or.inl rfl | exact Or.inr rfl) (pv 3)))))))))), ?_⟩
    have bm : B 4 ((m : Int) + 1) := by
      unfold B
      omega
    refine ⟨_, rfl, n, 2, rfl, rfl, _, rfl, ?_⟩
    by_cases hn2 : n < 2
    · refine iteY (by simpa using hn2) ?_
      exact ⟨_, rfl, q n h0 (hn.up (by decide)) (pow01 h0 hn2 (by omega)) (fun s hs h => small_root hs (by omega) h)⟩
    · refine iteN (by simpa using hn2) ?_
      refine ⟨_, rfl, rfl, _, rfl, ?_⟩
      rw [dec_int]
      refine iteN (by simp; omega) ?_
      refine ⟨_, rfl, rfl, _, rfl, ?_⟩
      rw [dec_int]
      by_cases hk2 : (m : Int) + 1 = 2
      · refine iteY (by simpa using hk2) ?_
        obtain rfl : m = 1 := by omega
        obtain ⟨z1, z2⟩ := isqrt_is h0
        have hB4 : n.natAbs < 2 ^ 4000 := hn.up (n := 4000) (by decide)
        refine ⟨_, rfl, n, rfl, h0, hB4, ?_⟩
        generalize ((PySem.Float64.isqrt n.toNat : Nat) : Int) = y at z1 z2
        have hy0 : 0 ≤ y := by
          have := z2 0 (by decide) (by omega)
          omega
        have hyn : y ≤ n := by
          rcases (show y = 0 ∨ 1 ≤ y by omega) with e | e
          · omega
          · have := Int.mul_le_mul_of_nonneg_left e hy0
            omega
        have hyB : B 400 y := by
          refine B.up (m := 200) ?_ (by decide)
          unfold B at hn ⊢
          omega
        exact q y hy0 hyB (by rw [Int.pow_succ, Int.pow_succ, Int.pow_zero, Int.one_mul]; exact z1) (fun s hs h => z2 s hs (by rw [Int.pow_succ, Int.pow_succ, Int.pow_zero, Int.one_mul] at h; exact h))
      refine iteN (by simpa using hk2) ?_
      have hdv : ((Builtin.Int.intBits n : Nat) : Int).fdiv ((m : Int) + 1) + 1 = ((Builtin.Int.intBits n / (m + 1) + 1 : Nat) : Int) := by
        rw [Int.fdiv_eq_ediv_of_nonneg _ (by omega)]
        push_cast
        rfl
      have hbl : Builtin.Int.intBits n ≤ 200 := PyProof.Rows.intBits_le hn
      have hb2 : n.natAbs < 2 ^ Builtin.Int.intBits n := by
        unfold Builtin.Int.intBits
        rw [if_neg (by simp; omega)]
        exact Nat.lt_log2_self
      have hdl : Builtin.Int.intBits n / (m + 1) ≤ 100 := by
        have h1 : Builtin.Int.intBits n / (m + 1) ≤ Builtin.Int.intBits n / 2 := Nat.div_le_div_left (by omega) (by decide)
        omega
      refine ⟨_, rfl, n, rfl, _, rfl, _, _, rfl, rfl, div_any (by omega) bm (by decide), _, _, rfl, rfl, 1, Builtin.Int.intBits n / (m + 1) + 1, rfl, congrArg V.int hdv, shl_ok (n := 1) (by decide) (by omega), ?_⟩
      have hB : B 120 (1 * 2 ^ (Builtin.Int.intBits n / (m + 1) + 1) : Int) := by
        unfold B
        rw [Int.one_mul, Int.natAbs_pow]
        exact Nat.pow_lt_pow_right (by decide) (by omega)
      have hP : (1 : Int) ≤ 1 * 2 ^ (Builtin.Int.intBits n / (m + 1) + 1) := by
        have : (0 : Int) < 2 ^ (Builtin.Int.intBits n / (m + 1) + 1) := Int.pow_pos (by decide)
        omega
      refine while_by (fun σ H2 => ∃ (r : Int) (v : Option V), σ = [some (.int n), some (.int ((m : Int) + 1)), some (.int r), v] ∧ H2 = H ∧ 1 ≤ r ∧ B 120 r ∧ ∀ s, 0 ≤ s → s ^ (m + 1) ≤ n → s ≤ r)
        (fun σ _ => match σ with | [_, _, some (.int r), _] => r.toNat | _ => 0) ⟨_, none, rfl, rfl, hP, hB, fun s hs h => start_ge hs hb2 (by omega) h⟩ ?_ ?_
      · rintro σ H2 ⟨r, v, rfl, rfl, h1, hr2, hup⟩
        refine ⟨true, rfl, iteY rfl ?_⟩
        have e1 : (m : Int) + 1 - 1 = m := by omega
        have hpB : B 800 (r ^ m) := (hr2.pow m).up (by omega)
        have hp0 : 0 < r ^ m := Int.pow_pos (by omega)
        refine ⟨_, rfl, _, _, rfl, rfl, _, rfl, _, _, rfl, rfl, B.mulW (m := 4) (n := 120) (by unfold B; omega) hr2 (by decide), _, rfl, _, rfl, _, rfl, _, _, rfl, rfl, r, (m : Int), congrArg (fun z => [V.int r, V.int z]) e1, by omega, by omega, hr2.up (by decide), ?_⟩
        refine ⟨n, r ^ m, rfl, rfl, div_any (by omega) hpB (by decide), _, _, rfl, rfl, _, rfl, _, _, rfl, rfl, div_any (by omega) bm (by decide), ?_⟩
        refine sigN [some (.int n), some (.int ((m : Int) + 1)), some (.int r), some (.int (((m : Int) * r + n.fdiv (r ^ m)).fdiv ((m : Int) + 1)))] (by show [some (V.int n), some (V.int ((m : Int) + 1)), some (V.int r), some (V.int ((((m : Int) + 1 - 1) * r + n.fdiv (r ^ m)).fdiv ((m : Int) + 1)))] = _; rw [e1]) ?_
        have g1 := newton_ge (n := n) (r := r) (s := 1) (k := m) h1 (by decide) (by rw [Int.one_pow]; omega)
        refine ⟨_, rfl, _, rfl, _, _, rfl, rfl, _, rfl, ?_⟩
        by_cases hge : r ≤ ((m : Int) * r + n.fdiv (r ^ m)).fdiv ((m : Int) + 1)
        · refine iteY (by simpa using hge) ?_
          exact ⟨_, rfl, q r (by omega) (hr2.up (by decide)) (newton_le h1 hge) hup⟩
        · refine iteN (by simpa using hge) ?_
          refine ⟨_, rfl, ⟨_, _, rfl, rfl, g1, ?_, fun s hs h => newton_ge h1 hs h⟩, ?_⟩
          · unfold B at *
            omega
          · show Int.toNat _ < Int.toNat _
            omega
      · rintro σ H2 Q1 Q2 i ⟨c, hc, z⟩
        exact ⟨c, hc, i _ _ z⟩
/-! ### exact_root, where there is a root -/
def sp_exact_root (K : PySem.W.Frag) : Sp := fun vs H Q _ => ∃ (n r : Int) (m : Nat), vs = [.int n, .int ((m : Int) + 1)] ∧ B 200 n ∧ (1 ≤ m ∧ m ≤ 5) ∧ 0 ≤ r ∧ r ^ (m + 1) = n ∧ Q (.int r) H
abbrev s_exact_root : Stmt := topS 9
theorem sc_exact_root : FnScope ["n", "k", "r"] ["n", "k"] (defScope s_exact_root) := ⟨rfl, rfl, rfl, by decide +kernel, rfl, by decide +kernel, by decide +kernel⟩
theorem k_exact_root (T : Tx K mg) (D : Df K mg "exact_root" s_exact_root ["n", "k"]) (c_root_of : Kl P w K mg base 2 "root_of" (sp_root_of K)) (c_power : Kl P w K mg base 1 "power" (sp_power K)) : Kl P w K mg base 3 "exact_root" (sp_exact_root K) := by
  have nd := sc_exact_root.nd
  refine Kl.by_body D sc_exact_root (fun vs H Q E h => ?_) (fun f cdv A outer s H vs Q E hr h => ?_)
  · obtain ⟨_, _, _, rfl, _⟩ := h
    rfl
  · obtain ⟨n, r, m, rfl, hn, hm, r0, hr1, q⟩ := h
    have c_exact_root : Kl P w K mg base (0 + 1) "exact_root" (fun _ _ _ _ => False) := Kl.by_body D sc_exact_root (fun _ _ _ _ h => h.elim) (fun _ _ _ _ _ _ _ _ _ _ h => h.elim)
    have hu1 := hu_of hr
    refine ⟨_, (pss_cons (ps_if (pt_cmpR op_lt (pv 0) pe_int (nomark _)) (pss_cons (ps_if (pt_cmpR op_eq (pe_op op_mod (pv 1) pe_int) pe_int (nomark _)) (pss_one (ps_ret pe_non)) pss_nil)
      (pss_cons (ps_set (i := 2) nd rfl (by first | exact Or.inl rfl | exact Or.inr rfl) (pe_k c_exact_root  hr (by decide) (by rfl) (pa_cons (pe_un un_neg (pv 0)) (pa_cons (pv 1) pa_nil))))
      (pss_one (ps_ret (pe_ifExp (pt_cmpR op_isN (pv 2) pe_non (nomark _)) pe_non (pe_un un_neg (pv 2))))))) pss_nil)
      (pss_cons (ps_set (i := 2) nd rfl (by first | exact Or.inl rfl | exact Or.inr rfl) (pe_k c_root_of  hr (by decide) (by rfl) (pa_cons (pv 0) (pa_cons (pv 1) pa_nil))))
      (pss_one (ps_ret (pe_ifExp (pt_cmpR op_eq (pe_k c_power  hr (by decide) (by rfl) (pa_cons (pv 2) (pa_cons (pv 1) pa_nil))) (pv 0) (nomark _)) (pv 2) pe_non))))), ?_⟩
    have hn0 : ¬ n < 0 := by
      have : 0 ≤ r ^ (m + 1) := Int.pow_nonneg r0
      omega
    refine ⟨_, rfl, n, 0, rfl, rfl, _, rfl, ?_⟩
    refine iteN (by simpa using hn0) ?_
    refine ⟨_, rfl, _, rfl, n, m, rfl, by omega, hn, by omega, by omega, fun y y0 yB yle ymax => ?_⟩
    have hy : y = r := by
      have h1 := ymax r r0 (by omega)
      rcases (show r < y ∨ y ≤ r by omega) with z | z
      · exfalso
        have h2 := Nat.pow_lt_pow_left (show r.natAbs < y.natAbs by omega) (show m + 1 ≠ 0 by omega)
        rw [← Int.natAbs_pow, ← Int.natAbs_pow] at h2
        have h3 : 0 ≤ y ^ (m + 1) := Int.pow_nonneg y0
        have h4 : 0 ≤ r ^ (m + 1) := Int.pow_nonneg r0
        omega
      · omega
    subst hy
    refine ⟨_, rfl, _, rfl, y, (m : Int) + 1, rfl, by omega, by omega, yB, _, rfl, rfl, _, rfl, ?_⟩
    rw [dec_int]
    have e : ((m : Int) + 1).toNat = m + 1 := by omega
    rw [e]
    refine iteY (by simp [hr1]) ?_
    exact ⟨_, rfl, q⟩
end
end K15
set_option linter.all false
/-! short forms: plain Lean -/
namespace K08M
/-- nothing can be divided out -/
def Sh (a b : Int) : Prop := ∀ p : Nat, 2 ≤ p → p ^ 4 ∣ a.natAbs → ¬ p ^ 6 ∣ b.natAbs
theorem pow_cop {u v k m : Nat} (h : Nat.Coprime u v) : Nat.Coprime (u ^ k) (v ^ m) := Nat.Coprime.pow k m h
/-- from u ^ k A = v ^ k B with u, v without common factor: v ^ k divides A -/
theorem part_dvd {u v k A B : Nat} (h : Nat.Coprime u v) (e : u ^ k * A = v ^ k * B) : v ^ k ∣ A := by
  have h1 : v ^ k ∣ u ^ k * A := ⟨B, e⟩
  exact Nat.Coprime.dvd_of_dvd_mul_left (pow_cop h).symm h1
theorem uniqN {u v : Nat} {A B C D : Int} (hu : 0 < u) (hv : 0 < v) (h4 : u ^ 4 * A.natAbs = v ^ 4 * C.natAbs) (h6 : u ^ 6 * B.natAbs = v ^ 6 * D.natAbs) (s1 : Sh A B) (s2 : Sh C D) : u = v := by
  obtain ⟨g, x, y, hg, hc, rfl, rfl⟩ : ∃ g x y : Nat, 0 < g ∧ Nat.Coprime x y ∧ u = x * g ∧ v = y * g := by
    have hg : 0 < Nat.gcd u v := Nat.gcd_pos_of_pos_left _ hu
    refine ⟨Nat.gcd u v, u / Nat.gcd u v, v / Nat.gcd u v, hg, Nat.coprime_div_gcd_div_gcd hg, ?_, ?_⟩
    · exact (Nat.div_mul_cancel (Nat.gcd_dvd_left u v)).symm
    · exact (Nat.div_mul_cancel (Nat.gcd_dvd_right u v)).symm
  have g4 : 0 < g ^ 4 := Nat.pow_pos hg
  have g6 : 0 < g ^ 6 := Nat.pow_pos hg
  have k4 : x ^ 4 * A.natAbs = y ^ 4 * C.natAbs := by
    rw [Nat.mul_pow, Nat.mul_pow] at h4
    refine Nat.eq_of_mul_eq_mul_left g4 ?_
    calc g ^ 4 * (x ^ 4 * A.natAbs) = x ^ 4 * g ^ 4 * A.natAbs := by rw [← Nat.mul_assoc, Nat.mul_comm (g ^ 4)]
      _ = y ^ 4 * g ^ 4 * C.natAbs := h4
      _ = _ := by rw [Nat.mul_comm (y ^ 4), Nat.mul_assoc]
  have k6 : x ^ 6 * B.natAbs = y ^ 6 * D.natAbs := by
    rw [Nat.mul_pow, Nat.mul_pow] at h6
    refine Nat.eq_of_mul_eq_mul_left g6 ?_
    calc g ^ 6 * (x ^ 6 * B.natAbs) = x ^ 6 * g ^ 6 * B.natAbs := by rw [← Nat.mul_assoc, Nat.mul_comm (g ^ 6)]
      _ = y ^ 6 * g ^ 6 * D.natAbs := h6
      _ = _ := by rw [Nat.mul_comm (y ^ 6), Nat.mul_assoc]
  have hx : 0 < x := Nat.pos_of_ne_zero (fun z => by rw [z, Nat.zero_mul] at hu; exact absurd hu (Nat.lt_irrefl _))
  have hy : 0 < y := Nat.pos_of_ne_zero (fun z => by rw [z, Nat.zero_mul] at hv; exact absurd hv (Nat.lt_irrefl _))
  have y1 : y = 1 := by
    rcases Nat.lt_or_ge y 2 with z | z
    · omega
    · exact absurd (part_dvd hc k6) (s1 y z (part_dvd hc k4))
  have x1 : x = 1 := by
    rcases Nat.lt_or_ge x 2 with z | z
    · omega
    · exact absurd (part_dvd hc.symm k6.symm) (s2 x z (part_dvd hc.symm k4.symm))
  rw [x1, y1]
/-- one form alone: (a, b) = (u ^ 4 A, u ^ 6 B) = (v ^ 4 C, v ^ 6 D) -/
theorem uniq {u v : Nat} {a b A B C D : Int} (hu : 0 < u) (hv : 0 < v) (e1 : a = (u : Int) ^ 4 * A) (e2 : b = (u : Int) ^ 6 * B) (e3 : a = (v : Int) ^ 4 * C) (e4 : b = (v : Int) ^ 6 * D) (s1 : Sh A B) (s2 : Sh C D) : A = C ∧ B = D := by
  have n : ∀ (w : Nat) (k : Nat) (X : Int), ((w : Int) ^ k * X).natAbs = w ^ k * X.natAbs := fun w k X => by
    rw [Int.natAbs_mul, Int.natAbs_pow, Int.natAbs_natCast]
  have h4 : u ^ 4 * A.natAbs = v ^ 4 * C.natAbs := by
    rw [← n, ← n, ← e1, e3]
  have h6 : u ^ 6 * B.natAbs = v ^ 6 * D.natAbs := by
    rw [← n, ← n, ← e2, e4]
  have uv := uniqN hu hv h4 h6 s1 s2
  subst uv
  have p4 : (u : Int) ^ 4 ≠ 0 := Int.ne_of_gt (Int.pow_pos (by omega))
  have p6 : (u : Int) ^ 6 ≠ 0 := Int.ne_of_gt (Int.pow_pos (by omega))
  exact ⟨Int.eq_of_mul_eq_mul_left p4 (e1.symm.trans e3), Int.eq_of_mul_eq_mul_left p6 (e2.symm.trans e4)⟩
/-- the least divisor from 2 on -/
theorem least_div {q : Nat} (h : 2 ≤ q) : ∃ d, 2 ≤ d ∧ d ∣ q ∧ ∀ e, 2 ≤ e → e ∣ d → e = d := by
  induction q using Nat.strongRecOn with
  | ind q ih =>
    by_cases z : ∃ e, 2 ≤ e ∧ e ∣ q ∧ e ≠ q
    · obtain ⟨e, e2, eq, ne⟩ := z
      have hlt : e < q := Nat.lt_of_le_of_ne (Nat.le_of_dvd (by omega) eq) ne
      obtain ⟨d, d2, dd, hd⟩ := ih e hlt e2
      exact ⟨d, d2, Nat.dvd_trans dd eq, hd⟩
    · refine ⟨q, h, Nat.dvd_refl q, fun e e2 eq => ?_⟩
      rcases Nat.eq_or_lt_of_le (Nat.le_of_dvd (by omega) eq) with y | y
      · exact y
      · exact absurd ⟨e, e2, eq, by omega⟩ z
/-- such a one and a smaller number have no common factor -/
theorem irr_cop {d p : Nat} (h : ∀ e, 2 ≤ e → e ∣ d → e = d) (hd : 2 ≤ d) (hp : 0 < p) (hlt : p < d) : Nat.Coprime d p := by
  have h1 : Nat.gcd d p ∣ d := Nat.gcd_dvd_left d p
  have h2 : Nat.gcd d p ≤ p := Nat.gcd_le_right _ hp
  have h3 : 0 < Nat.gcd d p := Nat.gcd_pos_of_pos_right _ hp
  unfold Nat.Coprime
  rcases Nat.lt_or_ge (Nat.gcd d p) 2 with z | z
  · omega
  · have := h _ z h1
    omega
theorem sh_of_irr {a b : Int} (h : ∀ d, 2 ≤ d → (∀ e, 2 ≤ e → e ∣ d → e = d) → d ^ 4 ∣ a.natAbs → ¬ d ^ 6 ∣ b.natAbs) : Sh a b := by
  intro p hp h4 h6
  obtain ⟨d, d2, dp, hd⟩ := least_div hp
  exact h d d2 hd (Nat.dvd_trans (Nat.pow_dvd_pow_iff (by decide) |>.mpr dp) h4) (Nat.dvd_trans (Nat.pow_dvd_pow_iff (by decide) |>.mpr dp) h6)
end K08M
set_option linter.all false
/-! the short form by dividing: plain Lean -/
namespace K08M
/-- no divisor but 1 and itself -/
def Irr (d : Nat) : Prop := 2 ≤ d ∧ ∀ e, 2 ≤ e → e ∣ d → e = d
/-- d can be divided out -/
def Cut (d : Nat) (a b : Int) : Prop := d ^ 4 ∣ a.natAbs ∧ d ^ 6 ∣ b.natAbs
/-- (a, b) is (A, B) made greater -/
def Up (a b A B : Int) : Prop := ∃ u : Nat, 0 < u ∧ a = (u : Int) ^ 4 * A ∧ b = (u : Int) ^ 6 * B
theorem Up.refl (a b : Int) : Up a b a b := ⟨1, by decide, by simp, by simp⟩
theorem Up.trans {a b c d e f : Int} (h : Up a b c d) (h2 : Up c d e f) : Up a b e f := by
  obtain ⟨u, hu, rfl, rfl⟩ := h
  obtain ⟨v, hv, rfl, rfl⟩ := h2
  refine ⟨u * v, Nat.mul_pos hu hv, ?_, ?_⟩
  · rw [Int.natCast_mul, Int.mul_pow, Int.mul_assoc]
  · rw [Int.natCast_mul, Int.mul_pow, Int.mul_assoc]
theorem Up.one {a b A B : Int} {p : Nat} (hp : 0 < p) (h4 : a = (p : Int) ^ 4 * A) (h6 : b = (p : Int) ^ 6 * B) : Up a b A B := ⟨p, hp, h4, h6⟩
theorem Up.cut {a b A B : Int} (h : Up a b A B) {d : Nat} (c : Cut d A B) : Cut d a b := by
  obtain ⟨u, hu, rfl, rfl⟩ := h
  refine ⟨?_, ?_⟩
  · rw [Int.natAbs_mul]; exact Nat.dvd_mul_left_of_dvd c.1 _
  · rw [Int.natAbs_mul]; exact Nat.dvd_mul_left_of_dvd c.2 _
theorem Up.nz {a b A B : Int} (h : Up a b A B) (n : ¬ (a = 0 ∧ b = 0)) : ¬ (A = 0 ∧ B = 0) := by
  obtain ⟨u, hu, rfl, rfl⟩ := h
  rintro ⟨rfl, rfl⟩
  exact n ⟨Int.mul_zero _, Int.mul_zero _⟩
theorem Up.zero {a b A B : Int} (h : Up a b A B) : a = 0 ↔ A = 0 := by
  obtain ⟨u, hu, rfl, rfl⟩ := h
  have p4 : (u : Int) ^ 4 ≠ 0 := Int.ne_of_gt (Int.pow_pos (by omega))
  constructor
  · intro e
    rcases Int.mul_eq_zero.mp e with z | z
    · exact absurd z p4
    · exact z
  · rintro rfl
    exact Int.mul_zero _
theorem sh_of_cut {a b : Int} (h : ∀ d, Irr d → ¬ Cut d a b) : Sh a b :=
  sh_of_irr (fun d d2 hd c4 c6 => h d ⟨d2, hd⟩ ⟨c4, c6⟩)
/-- the program's end: the root of what is left is below p -/
theorem sh_prog {a b : Int} {p rest least most : Nat} (hr : 0 < rest) (h : ∀ d, Irr d → d < p → ¬ Cut d a b) (g : ∀ d, Irr d → p ≤ d → Cut d a b → d ^ least ∣ rest) (hm : rest < (most + 1) ^ least) (hp : most < p) : Sh a b := by
  refine sh_of_cut (fun d hd c => ?_)
  rcases Nat.lt_or_ge d p with z | z
  · exact h d hd z c
  · have h1 := Nat.le_of_dvd hr (g d hd z c)
    have h2 : (most + 1) ^ least ≤ d ^ least := Nat.pow_le_pow_left (by omega) least
    omega
/-- p is divided out of what is left -/
theorem strip {q p k r least : Nat} (hq : Irr q) (hp : 0 < p) (hlt : p < q) (h : q ^ least ∣ p ^ k * r) : q ^ least ∣ r :=
  Nat.Coprime.dvd_of_dvd_mul_left (pow_cop (irr_cop hq.2 hq.1 hp hlt)) h
/-- one turn of the program's loop where p divides nothing -/
theorem turn_no {a b : Int} {p rest least : Nat} (hl : 0 < least) (h : ∀ d, Irr d → d < p → ¬ Cut d a b) (g : ∀ d, Irr d → p ≤ d → Cut d a b → d ^ least ∣ rest) (hp : ¬ p ∣ rest) : (∀ d, Irr d → d < p + 1 → ¬ Cut d a b) ∧ ∀ d, Irr d → p + 1 ≤ d → Cut d a b → d ^ least ∣ rest := by
  refine ⟨fun d hd lt c => ?_, fun d hd le c => g d hd (by omega) c⟩
  rcases Nat.lt_or_ge d p with z | z
  · exact h d hd z c
  · have e : d = p := by omega
    subst e
    exact hp (Nat.dvd_trans (Nat.dvd_of_pow_dvd hl (Nat.dvd_refl _)) (g d hd z c))
/-- one turn where p divides: (a, b) becomes (A, B), what is left is p ^ k r -/
theorem turn_yes {a b A B : Int} {p k r least : Nat} (h0 : 0 < p) (u : Up a b A B) (n : ¬ Cut p A B) (h : ∀ d, Irr d → d < p → ¬ Cut d a b) (g : ∀ d, Irr d → p ≤ d → Cut d a b → d ^ least ∣ p ^ k * r) : (∀ d, Irr d → d < p + 1 → ¬ Cut d A B) ∧ ∀ d, Irr d → p + 1 ≤ d → Cut d A B → d ^ least ∣ r := by
  refine ⟨fun d hd lt c => ?_, fun d hd le c => strip hd h0 (by omega) (g d hd (by omega) (u.cut c))⟩
  rcases Nat.lt_or_ge d p with z | z
  · exact h d hd z (u.cut c)
  · have e : d = p := by omega
    subst e
    exact n c
/-- its beginning -/
theorem start_gcd (a b : Int) (d : Nat) (c : Cut d a b) : d ^ 4 ∣ Nat.gcd a.natAbs b.natAbs :=
  Nat.dvd_gcd c.1 (Nat.dvd_trans (Nat.pow_dvd_pow d (by decide)) c.2)
theorem start_zero (a b : Int) (d : Nat) (c : Cut d a b) : d ^ 6 ∣ b.natAbs := c.2
/-- dividing once by p, as Python divides -/
theorem up_div {a b : Int} {p : Nat} (hp : 0 < p) (c : Cut p a b) : Up a b (a.fdiv ((p : Int) ^ 4)) (b.fdiv ((p : Int) ^ 6)) := by
  have f : ∀ (x : Int) (k : Nat), p ^ k ∣ x.natAbs → x = (p : Int) ^ k * x.fdiv ((p : Int) ^ k) := by
    intro x k h
    have h1 : (p : Int) ^ k ∣ x := by
      rw [← Int.natCast_pow]
      exact Int.ofNat_dvd_left.mpr h
    rw [Int.fdiv_eq_ediv_of_dvd h1]
    exact (Int.mul_ediv_cancel' h1).symm
  exact ⟨p, hp, f a 4 c.1, f b 6 c.2⟩
theorem cut_iff {a b : Int} {p : Nat} : Cut p a b ↔ a.fmod ((p : Int) ^ 4) = 0 ∧ b.fmod ((p : Int) ^ 6) = 0 := by
  have f : ∀ (x : Int) (k : Nat), p ^ k ∣ x.natAbs ↔ x.fmod ((p : Int) ^ k) = 0 := by
    intro x k
    rw [← Int.natCast_pow, ← Int.dvd_iff_fmod_eq_zero]
    exact Int.ofNat_dvd_left.symm
  unfold Cut
  rw [f, f]
end K08M
set_option Elab.async false
set_option linter.all false
set_option maxRecDepth 100000
set_option maxHeartbeats 4000000
namespace K15
open PySem PySem.Spec PyProof.Rows L2 Gd QM
local macro_rules | `(tactic| walk_at "bd") => `(tactic| (repeat (first | assumption | apply B.add | apply B.sub | apply B.mul | apply B.neg | exact B.lit (n := 8) (by decide))))
local macro_rules | `(tactic| walk_at "bu") => `(tactic| (apply B.up; walk_at "bd"; decide))
local macro_rules | `(tactic| walk_at "bnd") => `(tactic| (apply B.mulW; walk_at "bd"; decide))
local macro_rules | `(tactic| walk_at "pw") => `(tactic| exact B.up (n := 64) (by assumption) (by decide))
/-- x //= y -/
def ipIc (c : Int → Int → Prop) (f : Int → Int → Int) : TIp := fun x y H Q => ∃ i j, x = .int i ∧ y = .int j ∧ c i j ∧ Q (.int (f i j)) H
theorem ip_fdivAny {X : Cx} : PIp X .FloorDiv (ipIc CDivAny fun i j => i.fdiv j) := by
  intro pins s σ H x y v u Q I r1 r2 h
  obtain ⟨i, j, e1, e2, c, q⟩ := h
  subst e1; subst e2
  obtain ⟨t, rfl⟩ := r1
  obtain ⟨t', rfl⟩ := r2
  exact ifloordiv_int c.1 ⟨.int _, H, I.tok _, ⟨_, rfl⟩, q⟩ (.inl (PyProof.noPylong_of_log2 c.2))
section
variable {P : Program} {w : World} {K : PySem.W.Frag} {mg : Str → Option Value} {base : Heap}
/-- the limits of a pair -/
def PB (a b : Int) : Prop := ¬ (a = 0 ∧ b = 0) ∧ a.natAbs < 10 ^ 16 ∧ b.natAbs < 10 ^ 24
theorem PB.a {a b : Int} (h : PB a b) : B 54 a := by
  unfold B
  exact Nat.lt_of_lt_of_le h.2.1 (by decide)
theorem PB.b {a b : Int} (h : PB a b) : B 80 b := by
  unfold B
  exact Nat.lt_of_lt_of_le h.2.2 (by decide)
theorem PB.up {a b A C : Int} (h : PB a b) (u : K08M.Up a b A C) : PB A C ∧ A.natAbs ≤ a.natAbs ∧ C.natAbs ≤ b.natAbs := by
  have n := u.nz h.1
  obtain ⟨p, hp, rfl, rfl⟩ := u
  have f : ∀ (k : Nat) (X : Int), X.natAbs ≤ ((p : Int) ^ k * X).natAbs := by
    intro k X
    rw [Int.natAbs_mul, Int.natAbs_pow, Int.natAbs_natCast]
    exact Nat.le_mul_of_pos_left _ (Nat.pow_pos hp)
  exact ⟨⟨n, Nat.lt_of_le_of_lt (f 4 A) h.2.1, Nat.lt_of_le_of_lt (f 6 C) h.2.2⟩, f 4 A, f 6 C⟩
theorem up_less {a b : Int} {p : Nat} (hp : 2 ≤ p) (h : PB a b) (c : K08M.Cut p a b) : (a.fdiv ((p : Int) ^ 4)).natAbs + (b.fdiv ((p : Int) ^ 6)).natAbs < a.natAbs + b.natAbs := by
  have u := K08M.up_div (by omega) c
  have f : ∀ (k : Nat) (x X : Int), 1 ≤ k → x = (p : Int) ^ k * X → X.natAbs + X.natAbs ≤ x.natAbs := by
    rintro k x X hk rfl
    rw [Int.natAbs_mul, Int.natAbs_pow, Int.natAbs_natCast]
    have h1 : 2 ^ 1 ≤ p ^ k := Nat.le_trans (Nat.pow_le_pow_left hp 1) (Nat.pow_le_pow_right (by omega) hk)
    have h2 := Nat.mul_le_mul_right X.natAbs h1
    omega
  have g : ∀ (x : Int) (k : Nat), p ^ k ∣ x.natAbs → x = (p : Int) ^ k * x.fdiv ((p : Int) ^ k) := by
    intro x k h
    have h1 : (p : Int) ^ k ∣ x := by
      rw [← Int.natCast_pow]
      exact Int.ofNat_dvd_left.mpr h
    rw [Int.fdiv_eq_ediv_of_dvd h1]
    exact (Int.mul_ediv_cancel' h1).symm
  have h4 := f 4 a _ (by decide) (g a 4 c.1)
  have h6 := f 6 b _ (by decide) (g b 6 c.2)
  have n := h.1
  omega
/-! ### divided_by -/
def sp_divided_by (K : PySem.W.Frag) : Sp := fun vs H Q _ => ∃ (a b : Int) (p : Nat), vs = [.int a, .int b, .int (p : Int)] ∧ 2 ≤ p ∧ p ≤ 10000 ∧ PB a b ∧ ∀ A C t, K08M.Up a b A C → ¬ K08M.Cut p A C → H t = none → Q (.ref t) (upd H t (.tup [.int A, .int C]))
abbrev s_divided_by : Stmt := topS 26
theorem sc_divided_by : FnScope ["a", "b", "u", "fourth", "sixth"] ["a", "b", "u"] (defScope s_divided_by) := ⟨rfl, rfl, rfl, by decide +kernel, rfl, by decide +kernel, by decide +kernel⟩
theorem k_divided_by (T : Tx K mg) (D : Df K mg "divided_by" s_divided_by ["a", "b", "u"])  : Kl P w K mg base 1 "divided_by" (sp_divided_by K) := by
  have nd := sc_divided_by.nd
  refine Kl.by_body D sc_divided_by (fun vs H Q E h => ?_) (fun f cdv A outer s H vs Q E hr h => ?_)
  · obtain ⟨_, _, _, rfl, _⟩ := h
    rfl
  · obtain ⟨a, b, p, rfl, h2, h4, hb, q⟩ := h
    have hu1 := hu_of hr
    refine ⟨_, (pss_cons (ps_set (i := 3) nd rfl (by first | exact Or.inl rfl | exact Or.inr rfl) (pe_op op_mulW (pe_op op_mulW (pe_op op_mulW (pv 2) (pv 2)) (pv 2)) (pv 2)))
      (pss_cons (ps_set (i := 4) nd rfl (by first | exact Or.inl rfl | exact Or.inr rfl) (pe_op op_mulW (pe_op op_mulW (pv 3) (pv 2)) (pv 2)))
      (pss_cons (ps_while PassesOwn.never (PW.pt (pw_and (pt_cmpR op_eq (pe_op op_mod (pv 0) (pv 3)) pe_int (nomark _)) (pw_and1 (pt_cmpR op_eq (pe_op op_mod (pv 1) (pv 4)) pe_int (nomark _))))) (pss_cons (ps_aug (i := 0) nd rfl (by first | exact Or.inl rfl | exact Or.inr rfl) (pv 3) ip_fdivAny)
      (pss_one (ps_aug (i := 1) nd rfl (by first | exact Or.inl rfl | exact Or.inr rfl) (pv 4) ip_fdivAny))))
      (pss_one (ps_ret (pe_tup (pa_cons (pv 0) (pa_cons (pv 1) pa_nil)))))))), ?_⟩
    have bp : B 14 (p : Int) := by
      unfold B
      omega
    have p4 : (p : Int) * p * p * p = (p : Int) ^ 4 := by
      rw [Int.pow_succ, Int.pow_succ, Int.pow_succ, Int.pow_succ, Int.pow_zero, Int.one_mul]
    have p6 : (p : Int) ^ 4 * p * p = (p : Int) ^ 6 := by
      rw [Int.pow_succ (p : Int) 5, Int.pow_succ (p : Int) 4]
    have b4 : B 57 ((p : Int) ^ 4) := (bp.pow 4).up (by decide)
    have b6 : B 85 ((p : Int) ^ 6) := (bp.pow 6).up (by decide)
    have g4 : 0 < (p : Int) ^ 4 := Int.pow_pos (by omega)
    have g6 : 0 < (p : Int) ^ 6 := Int.pow_pos (by omega)
    refine ⟨_, rfl, _, rfl, _, _, rfl, rfl, (by walk_at "bnd"), _, rfl, _, _, rfl, rfl, (by walk_at "bnd"), _, rfl, _, _, rfl, rfl, (by walk_at "bnd"), ?_⟩
    refine sigN [some (.int a), some (.int b), some (.int (p : Int)), some (.int ((p : Int) ^ 4)), none] (by rw [← p4]; rfl) ?_
    refine ⟨_, rfl, _, rfl, _, _, rfl, rfl, (by walk_at "bnd"), _, rfl, _, _, rfl, rfl, (by walk_at "bnd"), ?_⟩
    refine sigN [some (.int a), some (.int b), some (.int (p : Int)), some (.int ((p : Int) ^ 4)), some (.int ((p : Int) ^ 6))] (by rw [← p6]; rfl) ?_
    refine while_by (fun σ H2 => ∃ x y : Int, σ = [some (.int x), some (.int y), some (.int (p : Int)), some (.int ((p : Int) ^ 4)), some (.int ((p : Int) ^ 6))] ∧ H2 = H ∧ K08M.Up a b x y)
      (fun σ _ => match σ with | [some (.int x), some (.int y), _, _, _] => x.natAbs + y.natAbs | _ => 0) ⟨a, b, rfl, rfl, K08M.Up.refl a b⟩ ?_ ?_
    · rintro σ H2 ⟨x, y, rfl, rfl, u⟩
      obtain ⟨hx, -, -⟩ := hb.up u
      have ec : K08M.Cut p x y ↔ x % (p : Int) ^ 4 = 0 ∧ y % (p : Int) ^ 6 = 0 := by
        rw [K08M.cut_iff, Int.fmod_eq_emod_of_nonneg x (by omega), Int.fmod_eq_emod_of_nonneg y (by omega)]
      have no : ¬ K08M.Cut p x y → ∀ t, H2 t = none → Q (.ref t) (upd H2 t (.tup [.int x, .int y])) := fun n t nt => q x y t u n nt
      refine ⟨_, rfl, _, rfl, x, _, rfl, rfl, g4, rfl, _, rfl, ?_⟩
      rw [dec_int]
      by_cases h0 : x % (p : Int) ^ 4 = 0
      · refine iteY (by simp [h0]) ?_
        refine ⟨_, rfl, _, rfl, y, _, rfl, rfl, g6, rfl, _, rfl, ?_⟩
        rw [dec_int]
        by_cases h1 : y % (p : Int) ^ 6 = 0
        · refine iteY (by simp [h1]) ?_
          have c : K08M.Cut p x y := ec.mpr ⟨h0, h1⟩
          refine ⟨_, rfl, _, rfl, x, _, rfl, rfl, div_any (by omega) b4 (by decide), ?_⟩
          refine ⟨_, rfl, _, rfl, y, _, rfl, rfl, div_any (by omega) b6 (by decide), ?_⟩
          exact ⟨⟨_, _, rfl, rfl, u.trans (K08M.up_div (by omega) c)⟩, up_less h2 hx c⟩
        · refine iteN (by simp [h1]) ?_
          refine ⟨_, rfl, _, rfl, (by show 2 ≤ sizeLine; decide), fun t nt => ?_⟩
          exact no (fun z => h1 (ec.mp z).2) t nt
      · refine iteN (by simp [h0]) ?_
        refine iteN (by simp) ?_
        refine ⟨_, rfl, _, rfl, (by show 2 ≤ sizeLine; decide), fun t nt => ?_⟩
        exact no (fun z => h0 (ec.mp z).1) t nt
    · rintro σ H2 Q1 Q2 i ⟨v1, e1, v2, e2, x, y, e3, e4, e5, e6, c, e7, z⟩
      refine ⟨v1, e1, v2, e2, x, y, e3, e4, e5, e6, c, e7, ?_⟩
      by_cases hc : c = true
      · refine iteY hc ?_
        obtain ⟨w1, d1, w2, d2, x', y', d3, d4, d5, d6, c', d7, z⟩ := (if_pos hc).mp z
        exact ⟨w1, d1, w2, d2, x', y', d3, d4, d5, d6, c', d7, i _ _ z⟩
      · exact iteN hc (i _ _ ((if_neg hc).mp z))
end
end K15
set_option linter.all false
namespace K15
open PySem PySem.Spec PyProof.Rows L2 Gd QM
/-! what is read asks no more of what follows than it gives -/
def MoE (t : TE) : Prop := ∀ σ H (Q Q' : VK), (∀ v H1, Q v H1 → Q' v H1) → t σ H Q → t σ H Q'
def MoA (t : TA) : Prop := ∀ σ H (Q Q' : List V → Hp → Prop), (∀ v H1, Q v H1 → Q' v H1) → t σ H Q → t σ H Q'
def MoT (t : TT) : Prop := ∀ σ H (Q Q' : Bool → Hp → Prop), (∀ b H1, Q b H1 → Q' b H1) → t σ H Q → t σ H Q'
def MoR (r : R2) : Prop := ∀ x y H (Q Q' : VK), (∀ v H1, Q v H1 → Q' v H1) → r x y H Q → r x y H Q'
def MoB (r : List V → Hp → VK → Prop) : Prop := ∀ x H (Q Q' : VK), (∀ v H1, Q v H1 → Q' v H1) → r x H Q → r x H Q'
theorem MoE.var {i : Nat} : MoE (tVar i) := fun _ _ _ _ k ⟨v, e, z⟩ => ⟨v, e, k _ _ z⟩
theorem MoE.c {v : V} : MoE (tC v) := fun _ _ _ _ k z => k _ _ z
theorem MoE.op {r : R2} {t u : TE} (h : MoR r) (h1 : MoE t) (h2 : MoE u) : MoE (tOp r t u) := fun _ _ _ _ k z => h1 _ _ _ _ (fun _ _ y => h2 _ _ _ _ (fun _ _ x => h _ _ _ _ _ k x) y) z
theorem MoE.cb {r : List V → Hp → VK → Prop} {t : TA} (h : MoB r) (h1 : MoA t) : MoE (tCB r t) := fun _ _ _ _ k z => h1 _ _ _ _ (fun _ _ y => h _ _ _ _ k y) z
theorem MoA.nil : MoA tNil := fun _ _ _ _ k z => k _ _ z
theorem MoA.cons {t : TE} {u : TA} (h1 : MoE t) (h2 : MoA u) : MoA (tCons t u) := fun _ _ _ _ k z => h1 _ _ _ _ (fun _ _ y => h2 _ _ _ _ (fun _ _ x => k _ _ x) y) z
theorem MoR.i {C : Int → Int → Prop} {g : Int → Int → V} : MoR (rI C g) := fun _ _ _ _ _ k ⟨i, j, e1, e2, c, z⟩ => ⟨i, j, e1, e2, c, k _ _ z⟩
theorem MoR.i0 {g : Int → Int → V} : MoR (rI0 g) := fun _ _ _ _ _ k ⟨i, j, e1, e2, z⟩ => ⟨i, j, e1, e2, k _ _ z⟩
theorem MoR.eq : MoR rEq := fun _ _ _ _ _ k ⟨e, z⟩ => ⟨e, k _ _ z⟩
theorem MoR.ne : MoR rNe := fun _ _ _ _ _ k ⟨e, z⟩ => ⟨e, k _ _ z⟩
theorem MoB.i {g : Int → V} : MoB (fun xs H Q => ∃ i, xs = [V.int i] ∧ Q (g i) H) := fun _ _ _ _ k ⟨i, e, z⟩ => ⟨i, e, k _ _ z⟩
theorem MoT.test {t : TE} (h : MoE t) : MoT (tTest t) := fun _ _ _ _ k z => h _ _ _ _ (fun _ _ ⟨c, e, y⟩ => ⟨c, e, k _ _ y⟩) z
theorem MoT.and {t u : TT} (h : MoT t) (h' : MoT u) : MoT (tAnd t u) := fun σ H Q Q' i z => h _ _ _ _ (fun b H1 y => by
  by_cases hb : b = true
  · rw [if_pos hb] at y ⊢
    exact h' _ _ _ _ i y
  · rw [if_neg hb] at y ⊢
    exact i _ _ y) z
theorem MoT.or {t u : TT} (h : MoT t) (h' : MoT u) : MoT (tOr t u) := fun σ H Q Q' i z => h _ _ _ _ (fun b H1 y => by
  by_cases hb : b = true
  · rw [if_pos hb] at y ⊢
    exact i _ _ y
  · rw [if_neg hb] at y ⊢
    exact h' _ _ _ _ i y) z
theorem MoE.tup {t : TA} (h : MoA t) : MoE (tTup t) := fun _ _ _ _ k z => h _ _ _ _ (fun _ _ ⟨l, y⟩ => ⟨l, fun p n => k _ _ (y p n)⟩) z
theorem MoE.ifx {c : TT} {t u : TE} (h : MoT c) (h1 : MoE t) (h2 : MoE u) : MoE (tIf c t u) := fun _ _ _ _ k z => h _ _ _ _ (fun b _ y => by
  by_cases hb : b = true
  · rw [if_pos hb] at y ⊢
    exact h1 _ _ _ _ k y
  · rw [if_neg hb] at y ⊢
    exact h2 _ _ _ _ k y) z
theorem MoB.i2 {g : Int → Int → V} : MoB (fun xs H Q => ∃ i j, xs = [V.int i, V.int j] ∧ Q (g i j) H) := fun _ _ _ _ k ⟨i, j, e, z⟩ => ⟨i, j, e, k _ _ z⟩
theorem MoB.gcd : MoB rGcd := fun _ _ _ _ k ⟨i, j, e, z⟩ => ⟨i, j, e, k _ _ z⟩
local macro_rules | `(tactic| walk_at "mo") => `(tactic| (repeat (first | with_reducible apply MoT.or | with_reducible apply MoT.and | with_reducible apply MoT.test | with_reducible apply MoE.op | with_reducible apply MoE.cb | with_reducible exact MoE.var | with_reducible exact MoE.c | with_reducible exact MoA.nil | with_reducible apply MoA.cons | exact MoR.eq | exact MoR.ne | exact MoR.i | exact MoR.i0 | exact MoB.i | exact MoB.i2 (g := fun i j => V.int (if j < i then j else i)) | exact MoB.i2 | exact MoB.gcd | with_reducible apply MoE.tup | with_reducible apply MoE.ifx)))
end K15
set_option Elab.async false
set_option linter.all false
set_option maxRecDepth 100000
set_option maxHeartbeats 4000000
namespace K15
open PySem PySem.Spec PyProof.Rows L2 Gd QM
local macro_rules | `(tactic| walk_at "mo") => `(tactic| (repeat (first | with_reducible apply MoT.or | with_reducible apply MoT.and | with_reducible apply MoT.test | with_reducible apply MoE.op | with_reducible apply MoE.cb | with_reducible exact MoE.var | with_reducible exact MoE.c | with_reducible exact MoA.nil | with_reducible apply MoA.cons | exact MoR.eq | exact MoR.ne | exact MoR.i | exact MoR.i0 | exact MoB.i | exact MoB.i2 (g := fun i j => V.int (if j < i then j else i)) | exact MoB.i2 | exact MoB.gcd | with_reducible apply MoE.tup | with_reducible apply MoE.ifx)))
local macro_rules | `(tactic| walk_at "bd") => `(tactic| (repeat (first | assumption | apply B.add | apply B.sub | apply B.mul | apply B.neg | exact B.lit (n := 8) (by decide))))
local macro_rules | `(tactic| walk_at "bu") => `(tactic| (apply B.up; walk_at "bd"; decide))
local macro_rules | `(tactic| walk_at "bnd") => `(tactic| (apply B.mulW; walk_at "bd"; decide))
local macro_rules | `(tactic| walk_at "pw") => `(tactic| exact B.up (n := 64) (by assumption) (by decide))
section
variable {P : Program} {w : World} {K : PySem.W.Frag} {mg : Str → Option Value} {base : Heap}
/-! ### the law's short form -/
def sp_law_short (K : PySem.W.Frag) : Sp := fun vs H Q _ => ∃ (a b : Int), vs = [.int a, .int b] ∧ PB a b ∧ ∀ A C t, K08M.Up a b A C → K08M.Sh A C → H t = none → Q (.ref t) (upd H t (.tup [.int A, .int C]))
end
end K15
set_option Elab.async false
set_option linter.all false
set_option maxRecDepth 100000
set_option maxHeartbeats 4000000
namespace K15
open PySem PySem.Spec PyProof.Rows L2 Gd QM
local macro_rules | `(tactic| walk_at "mo") => `(tactic| (repeat (first | with_reducible apply MoT.or | with_reducible apply MoT.and | with_reducible apply MoT.test | with_reducible apply MoE.op | with_reducible apply MoE.cb | with_reducible exact MoE.var | with_reducible exact MoE.c | with_reducible exact MoA.nil | with_reducible apply MoA.cons | exact MoR.eq | exact MoR.ne | exact MoR.i | exact MoR.i0 | exact MoB.i | exact MoB.i2 (g := fun i j => V.int (if j < i then j else i)) | exact MoB.i2 | exact MoB.gcd | with_reducible apply MoE.tup | with_reducible apply MoE.ifx)))
local macro_rules | `(tactic| walk_at "bd") => `(tactic| (repeat (first | assumption | apply B.add | apply B.sub | apply B.mul | apply B.neg | exact B.lit (n := 8) (by decide))))
local macro_rules | `(tactic| walk_at "bu") => `(tactic| (apply B.up; walk_at "bd"; decide))
local macro_rules | `(tactic| walk_at "bnd") => `(tactic| (apply B.mulW; walk_at "bd"; decide))
local macro_rules | `(tactic| walk_at "pw") => `(tactic| exact B.up (n := 64) (by assumption) (by decide))
section
variable {P : Program} {w : World} {K : PySem.W.Frag} {mg : Str → Option Value} {base : Heap}
/-! ### without_powers -/
def sp_without_great_powers (K : PySem.W.Frag) : Sp := fun _ _ _ _ => False
def sp_without_powers (K : PySem.W.Frag) : Sp := fun vs H Q _ => ∃ (a b : Int), vs = [.int a, .int b] ∧ PB a b ∧ ∀ A C t H', K08M.Up a b A C → K08M.Sh A C → Same H H' → H t = none → H' t = some (.tup [.int A, .int C]) → Q (.ref t) H'
abbrev s_without_powers : Stmt := topS 27
theorem sc_without_powers : FnScope ["a", "b", "rest", "least", "p", "most"] ["a", "b"] (defScope s_without_powers) := ⟨rfl, rfl, rfl, by decide +kernel, rfl, by decide +kernel, by decide +kernel⟩
theorem k_without_powers (T : Tx K mg) (D : Df K mg "without_powers" s_without_powers ["a", "b"]) (c_root_of : Kl P w K mg base 2 "root_of" (sp_root_of K)) (c_without_great_powers : Kl P w K mg base 6 "without_great_powers" (sp_without_great_powers K)) (c_divided_by : Kl P w K mg base 1 "divided_by" (sp_divided_by K)) : Kl P w K mg base 7 "without_powers" (sp_without_powers K) := by
  have nd := sc_without_powers.nd
  refine Kl.by_body D sc_without_powers (fun vs H Q E h => ?_) (fun f cdv A outer s H vs Q E hr h => ?_)
  · obtain ⟨_, _, rfl, _⟩ := h
    rfl
  · obtain ⟨a, b, rfl, hb, q⟩ := h
    have hu1 := hu_of hr
    refine ⟨_, (pss_cons (ps_asg (pe_ifExp (pt_cmpR op_eq (pv 0) pe_int (nomark _)) (pe_tup (pa_cons (pe_callB call_abs (by rfl) T.abs (by decide +kernel) (pa_cons (pv 1) pa_nil)) (pa_cons pe_int pa_nil))) (pe_tup (pa_cons (pe_callBfun cr_gcd (by rfl) T.gcd (pa_cons (pv 0) (pa_cons (pv 1) pa_nil))) (pa_cons pe_int pa_nil)))) (pg_tup rfl (pgs_cons (pg_name (i := 2) nd rfl (by first | exact Or.inl rfl | exact Or.inr rfl)) (pgs_cons (pg_name (i := 3) nd rfl (by first | exact Or.inl rfl | exact Or.inr rfl)) pgs_nil))))
      (pss_cons (ps_set (i := 4) nd rfl (by first | exact Or.inl rfl | exact Or.inr rfl) pe_int)
      (pss_cons (ps_set (i := 5) nd rfl (by first | exact Or.inl rfl | exact Or.inr rfl) (pe_k c_root_of  hr (by decide) (by rfl) (pa_cons (pv 2) (pa_cons (pv 3) pa_nil))))
      (pss_cons (ps_while PassesOwn.never (pt_cmpR op_le (pv 4) (pe_callB (call_min2 rfl) (by rfl) T.min (by decide +kernel) (pa_cons (pv 5) (pa_cons (pe_kon (by rfl) T.c_TRIED_shortening) pa_nil))) (nomark _)) (pss_cons (ps_if (pt_cmpR op_eq (pe_op op_mod (pv 2) (pv 4)) pe_int (nomark _)) (pss_cons (ps_asg (pe_k c_divided_by  hr (by decide) (by rfl) (pa_cons (pv 0) (pa_cons (pv 1) (pa_cons (pv 4) pa_nil)))) (pg_tup rfl (pgs_cons (pg_name (i := 0) nd rfl (by first | exact Or.inl rfl | exact Or.inr rfl)) (pgs_cons (pg_name (i := 1) nd rfl (by first | exact Or.inl rfl | exact Or.inr rfl)) pgs_nil))))
      (pss_cons (ps_while PassesOwn.never (pt_cmpR op_eq (pe_op op_mod (pv 2) (pv 4)) pe_int (nomark _)) (pss_one (ps_aug (i := 2) nd rfl (by first | exact Or.inl rfl | exact Or.inr rfl) (pv 4) ip_fdivAny)))
      (pss_one (ps_set (i := 5) nd rfl (by first | exact Or.inl rfl | exact Or.inr rfl) (pe_k c_root_of  hr (by decide) (by rfl) (pa_cons (pv 2) (pa_cons (pv 3) pa_nil))))))) pss_nil)
      (pss_one (ps_aug (i := 4) nd rfl (by first | exact Or.inl rfl | exact Or.inr rfl) pe_int ip_add))))
      (pss_one (ps_ret (pe_ifExp (pt_cmpR op_gt (pv 5) (pe_kon (by rfl) T.c_TRIED_shortening) (nomark _)) (pe_k c_without_great_powers  hr (by decide) (by rfl) (pa_cons (pv 0) (pa_cons (pv 1) (pa_cons (pv 2) (pa_cons (pv 3) pa_nil))))) (pe_tup (pa_cons (pv 0) (pa_cons (pv 1) pa_nil)))))))))), ?_⟩
    have hA := hb.a
    have hB := hb.b
    refine MoE.ifx ?m1 ?m2 ?m3 _ _ (fun v H1 => ∃ (t : Addr) (rest least : Nat), v = .ref t ∧ H t = none ∧ H1 = upd H t (.tup [.int (rest : Int), .int (least : Int)]) ∧ 0 < rest ∧ rest < 10000 ^ least ∧ (least = 4 ∨ least = 6) ∧ ∀ d, K08M.Cut d a b → d ^ least ∣ rest) _ ?B ?R
    case m1 => walk_at "mo"
    case m2 => walk_at "mo"
    case m3 => walk_at "mo"
    case R =>
      refine ⟨_, rfl, rfl, _, rfl, ?_⟩
      rw [dec_int]
      by_cases h0 : a = 0
      · refine iteY (by simp [h0]) ?_
        refine ⟨_, rfl, b, rfl, (by show 2 ≤ sizeLine; decide), fun t nt => ?_⟩
        refine ⟨t, b.natAbs, 6, rfl, nt, ?_, ?_, ?_, Or.inr rfl, fun d c => K08M.start_zero a b d c⟩
        · rw [abs_eq]
          rfl
        · have := hb.1
          omega
        · exact Nat.lt_of_lt_of_le hb.2.2 (by decide)
      · refine iteN (by simp [h0]) ?_
        refine ⟨_, rfl, _, rfl, a, b, rfl, (by show 2 ≤ sizeLine; decide), fun t nt => ?_⟩
        refine ⟨t, Nat.gcd a.natAbs b.natAbs, 4, rfl, nt, rfl, Nat.gcd_pos_of_pos_left _ (by omega), ?_, Or.inl rfl, fun d c => K08M.start_gcd a b d c⟩
        have h1 : Nat.gcd a.natAbs b.natAbs ≤ a.natAbs := Nat.gcd_le_left _ (by omega)
        exact Nat.lt_of_le_of_lt h1 (Nat.lt_of_lt_of_le hb.2.1 (by decide))
    case B =>
      rintro v H1 ⟨t, rest, least, rfl, nt, rfl, r0, rL, hl, hc⟩
      have sm : Same H (upd H t (.tup [.int (rest : Int), .int (least : Int)])) := Same.new nt
      have gt : (upd H t (.tup [.int (rest : Int), .int (least : Int)])) t = some (.tup [.int (rest : Int), .int (least : Int)]) := upd_same
      generalize upd H t (.tup [.int (rest : Int), .int (least : Int)]) = H1 at sm gt ⊢
      refine ⟨t, _, rfl, tup_of gt, rfl, _, _, rfl, _, _, rfl, rfl, ?_⟩
      obtain ⟨m, rfl, hm1, hm5⟩ : ∃ m, least = m + 1 ∧ 1 ≤ m ∧ m ≤ 5 := ⟨least - 1, by omega, by omega, by omega⟩
      have lim : 10000 ^ (m + 1) ≤ 10 ^ 24 := by
        rcases hl with z | z
        · rw [z]
          decide
        · rw [z]
          decide
      have small : ∀ r : Nat, r < 10000 ^ (m + 1) → B 80 (r : Int) := fun r h => by
        unfold B
        rw [Int.natAbs_natCast]
        exact Nat.lt_of_lt_of_le (Nat.lt_of_lt_of_le h lim) (by decide)
      have root : ∀ (r : Nat) (s : Int), r < 10000 ^ (m + 1) → 0 ≤ s → s ^ (m + 1) ≤ (r : Int) → (∀ t : Int, 0 ≤ t → t ^ (m + 1) ≤ (r : Int) → t ≤ s) → ∃ most : Nat, s = (most : Int) ∧ most < 10000 ∧ r < (most + 1) ^ (m + 1) := by
        intro r s hr2 s0 sle smax
        obtain ⟨n, rfl⟩ : ∃ n : Nat, s = (n : Int) := ⟨s.toNat, by omega⟩
        refine ⟨n, rfl, ?_, ?_⟩
        · rcases Nat.lt_or_ge n 10000 with z | z
          · exact z
          · exfalso
            have h1 : n ^ (m + 1) ≤ r := by
              rw [← Int.natCast_pow] at sle
              exact Int.ofNat_le.mp sle
            have h2 : 10000 ^ (m + 1) ≤ n ^ (m + 1) := Nat.pow_le_pow_left z _
            omega
        · rcases Nat.lt_or_ge r ((n + 1) ^ (m + 1)) with z | z
          · exact z
          · exfalso
            have h1 := smax ((n + 1 : Nat) : Int) (by omega) (by
              rw [← Int.natCast_pow]
              exact Int.ofNat_le.mpr z)
            omega
      first | refine sigN [some (.int (a)), some (.int (b)), some (.int ((rest : Int))), some (.int (((m + 1 : Nat) : Int))), none, none] (by rfl) ?_ | refine sig [some (.int (a)), some (.int (b)), some (.int ((rest : Int))), some (.int (((m + 1 : Nat) : Int))), none, none] (by rfl) ?_
      refine ⟨_, rfl, _, rfl, (rest : Int), m, rfl, by omega, (small rest rL).up (by decide), hm1, hm5, fun sq s0 _ sle smax => ?_⟩
      obtain ⟨most0, rfl, hm0, hr0⟩ := root rest sq rL s0 sle smax
      refine while_by (fun σ H2 => ∃ (x y : Int) (r p most : Nat), σ = [some (.int x), some (.int y), some (.int (r : Int)), some (.int ((m + 1 : Nat) : Int)), some (.int (p : Int)), some (.int (most : Int))] ∧ Same H H2 ∧ K08M.Up a b x y ∧ 0 < r ∧ r < 10000 ^ (m + 1) ∧ 2 ≤ p ∧ p ≤ 10001 ∧ most < 10000 ∧ r < (most + 1) ^ (m + 1) ∧ (∀ d, K08M.Irr d → d < p → ¬ K08M.Cut d x y) ∧ ∀ d, K08M.Irr d → p ≤ d → K08M.Cut d x y → d ^ (m + 1) ∣ r)
        (fun σ _ => match σ with | [_, _, _, _, some (.int p), _] => 10001 - p.toNat | _ => 0) ⟨a, b, rest, 2, most0, rfl, sm, K08M.Up.refl a b, r0, rL, by decide, by decide, hm0, hr0, fun d hd lt => absurd hd.1 (by omega), fun d _ _ c => hc d c⟩ ?_ ?_
      · rintro σ H2 ⟨x, y, r, p, most, rfl, s2, u, hr0, hrL, h2, h4, hmo, hrm, hs, hg⟩
        have hx := (hb.up u).1
        have bp : B 14 (p : Int) := by
          unfold B
          omega
        refine ⟨_, rfl, _, rfl, _, _, rfl, _, _, rfl, rfl, _, rfl, ?_⟩
        have nn : ∀ r : Nat, ((r : Int) % (p : Int) == 0) = true ↔ p ∣ r := fun r => by
          rw [beq_iff_eq, ← Int.natCast_emod]
          exact ⟨fun z => Nat.dvd_of_mod_eq_zero (by omega), fun z => by rw [Nat.mod_eq_zero_of_dvd z]; rfl⟩
        by_cases hle : p ≤ most
        · refine iteY (by rw [decide_eq_true_iff]; split <;> omega) ?_
          refine ⟨_, rfl, _, rfl, _, _, rfl, rfl, (by omega), rfl, _, rfl, ?_⟩
          rw [dec_int]
          by_cases hd : p ∣ r
          · refine iteY ((nn r).mpr hd) ?_
            refine ⟨_, rfl, _, rfl, _, rfl, x, y, p, rfl, h2, by omega, hx, fun A C t2 v nc nt2 => ?_⟩
            refine ⟨t2, _, rfl, tup_of upd_same, rfl, _, _, rfl, _, _, rfl, rfl, ?_⟩
            have s3 := Same.put s2 (s2.free nt2) (o := .tup [.int A, .int C])
            generalize upd H2 t2 (.tup [.int A, .int C]) = H3 at s3 ⊢
            first | refine sigN [some (.int (A)), some (.int (C)), some (.int ((r : Int))), some (.int (((m + 1 : Nat) : Int))), some (.int ((p : Int))), some (.int ((most : Int)))] (by rfl) ?_ | refine sig [some (.int (A)), some (.int (C)), some (.int ((r : Int))), some (.int (((m + 1 : Nat) : Int))), some (.int ((p : Int))), some (.int ((most : Int)))] (by rfl) ?_
            refine while_by (fun σ H4 => ∃ k r' : Nat, σ = [some (.int A), some (.int C), some (.int (r' : Int)), some (.int ((m + 1 : Nat) : Int)), some (.int (p : Int)), some (.int (most : Int))] ∧ H4 = H3 ∧ r = p ^ k * r' ∧ 0 < r')
              (fun σ _ => match σ with | [_, _, some (.int r'), _, _, _] => r'.toNat | _ => 0) ⟨0, r, rfl, rfl, by rw [Nat.pow_zero, Nat.one_mul], hr0⟩ ?_ ?_
            · rintro σ H4 ⟨k, r', rfl, rfl, er, r0'⟩
              have rle : r' ≤ r := by
                rw [er]
                exact Nat.le_mul_of_pos_left _ (Nat.pow_pos (by omega))
              refine ⟨_, rfl, _, rfl, _, _, rfl, rfl, (by omega), rfl, _, rfl, ?_⟩
              rw [dec_int]
              by_cases hd' : p ∣ r'
              · refine iteY ((nn r').mpr hd') ?_
                obtain ⟨r2, rfl⟩ := hd'
                have e2 : ((p * r2 : Nat) : Int).fdiv (p : Int) = (r2 : Int) := by
                  rw [Int.natCast_mul, Int.fdiv_eq_ediv_of_nonneg _ (by omega)]
                  exact Int.mul_ediv_cancel_left _ (by omega)
                have r20 : 0 < r2 := Nat.pos_of_mul_pos_left r0'
                refine ⟨_, rfl, _, rfl, _, _, rfl, rfl, div_any (by omega) bp (by decide), ?_⟩
                refine ⟨⟨k + 1, r2, ?_, rfl, ?_, r20⟩, ?_⟩
                · rw [← e2]
                  rfl
                · rw [er, Nat.pow_succ, Nat.mul_assoc]
                · show (((p * r2 : Nat) : Int).fdiv (p : Int)).toNat < ((p * r2 : Nat) : Int).toNat
                  rw [e2]
                  have : 2 * r2 ≤ p * r2 := Nat.mul_le_mul_right _ h2
                  omega
              · refine iteN (fun z => hd' ((nn r').mp z)) ?_
                have rL' : r' < 10000 ^ (m + 1) := by omega
                refine ⟨_, rfl, _, rfl, (r' : Int), m, rfl, by omega, (small r' rL').up (by decide), hm1, hm5, fun sq s0 _ sle smax => ?_⟩
                obtain ⟨most1, rfl, hm1', hr1'⟩ := root r' sq rL' s0 sle smax
                obtain ⟨n1, n2⟩ := K08M.turn_yes (k := k) (r := r') (least := m + 1) (by omega) v nc hs (by rw [← er]; exact hg)
                refine ⟨_, rfl, _, _, rfl, rfl, ?_⟩
                refine ⟨⟨A, C, r', p + 1, most1, rfl, s3, u.trans v, r0', rL', by omega, by omega, hm1', hr1', n1, n2⟩, ?_⟩
                show 10001 - ((p : Int) + 1).toNat < 10001 - (p : Int).toNat
                omega
            · intro σ H Q Q' i z
              refine (?_ : MoT _) σ H Q Q' i z
              walk_at "mo"
          · refine iteN (fun z => hd ((nn r).mp z)) ?_
            obtain ⟨n1, n2⟩ := K08M.turn_no (by omega : 0 < m + 1) hs hg hd
            refine ⟨_, rfl, _, _, rfl, rfl, ?_⟩
            refine ⟨⟨x, y, r, p + 1, most, rfl, s2, u, hr0, hrL, by omega, by omega, hmo, hrm, n1, n2⟩, ?_⟩
            show 10001 - ((p : Int) + 1).toNat < 10001 - (p : Int).toNat
            omega
        · refine iteN (by rw [decide_eq_true_iff]; split <;> omega) ?_
          refine ⟨_, rfl, _, _, rfl, rfl, _, rfl, ?_⟩
          refine iteN (by rw [decide_eq_true_iff]; omega) ?_
          refine ⟨_, rfl, _, rfl, (by show 2 ≤ sizeLine; decide), fun t2 nt2 => ?_⟩
          exact q x y t2 _ u (K08M.sh_prog hr0 hs hg hrm (by omega)) (Same.put s2 (s2.free nt2)) (s2.free nt2) upd_same
      · intro σ H Q Q' i z
        refine (?_ : MoT _) σ H Q Q' i z
        walk_at "mo"
end
end K15
set_option linter.all false
set_option maxRecDepth 100000
set_option maxHeartbeats 2000000
/-! which pairs are those of a curve, at 2 and at 3 apart: plain Lean -/
namespace K15
open PySem PySem.Spec PyProof.Rows L2 Gd QM
/-- the pair is that of a curve -/
def IsP (c4 c6 : Int) : Prop := ∃ c, Rc c ∧ Fits c4 c6 c
def A2 (c4 c6 : Int) : Prop := (c4 % 16 = 0 ∧ (c6 % 32 = 0 ∨ c6 % 32 = 8)) ∨ ((1 - c4) % 16 = 0 ∧ (1 - 3 * c4 - 2 * c6) % 64 = 0) ∨ ((1 - c4) % 16 = 8 ∧ (1 - 3 * c4 - 2 * c6) % 64 = 48)
def A3 (c4 c6 : Int) : Prop := (c4 % 3 = 0 ∧ c6 % 27 = 0) ∨ (c4 % 3 = 1 ∧ ((1 - 3 * c4 - 2 * c6) % 27 = 0 ∨ (3 * c4 - 1 - 2 * c6) % 27 = 0))
theorem isp_to {c4 c6 : Int} (h : IsP c4 c6) : A2 c4 c6 ∧ A3 c4 c6 ∧ c4 * c4 * c4 ≠ c6 * c6 := by
  obtain ⟨c, hr, h4, h6, hd⟩ := h
  have k1 := b2_of hr
  have e4 := c4_of c
  have e6 := c6_of c
  have f4 : c.b4 = 2 * c.a4 + c.a1 * c.a3 := rfl
  have f6 : c.b6 = c.a3 * c.a3 + 4 * c.a6 := rfl
  have h3 := hr.h3
  have hz : ¬ c.c4 * c.c4 * c.c4 = c.c6 * c.c6 := fun e => hd (disc0 c |>.mpr e)
  rw [h4, h6] at hz
  refine ⟨?_, ?_, hz⟩
  · rw [h4] at e4
    rw [h6] at e6
    clear hz hd h4 h6 hr
    unfold A2
    generalize c.b2 = u2 at *
    generalize c.b4 = u4 at *
    generalize c.b6 = u6 at *
    rcases k1 with ⟨k1, _, rfl⟩ | ⟨k1, _, rfl⟩ | ⟨k1, _, rfl⟩ | ⟨k1, _, rfl⟩ | ⟨k1, _, rfl⟩ | ⟨k1, _, rfl⟩ <;> rw [k1] at f4 <;> rcases h3 with h3 | h3 <;> rw [h3] at f4 f6
    all_goals first
      | (refine .inl ⟨by omega, ?_⟩; first | exact .inl (by omega) | exact .inr (by omega))
      | (rcases Int.emod_two_eq (u4 - u6) with z | z; all_goals first | exact .inr (.inl ⟨by omega, by omega⟩) | exact .inr (.inr ⟨by omega, by omega⟩) | (rcases Int.emod_two_eq u4 with y | y; all_goals first | exact .inr (.inl ⟨by omega, by omega⟩) | exact .inr (.inr ⟨by omega, by omega⟩)))
  · rw [h4] at e4
    rw [h6] at e6
    clear hz hd h4 h6 hr f4 f6 h3
    unfold A3
    generalize c.b2 = u2 at *
    generalize c.b4 = u4 at *
    generalize c.b6 = u6 at *
    rcases k1 with ⟨_, _, rfl⟩ | ⟨_, _, rfl⟩ | ⟨_, _, rfl⟩ | ⟨_, _, rfl⟩ | ⟨_, _, rfl⟩ | ⟨_, _, rfl⟩
    all_goals first
      | exact .inl ⟨by omega, by omega⟩
      | exact .inr ⟨by omega, .inl (by omega)⟩
      | exact .inr ⟨by omega, .inr (by omega)⟩
theorem isp_mk {a1 a2 b b4 b6 c4 c6 : Int} (h1 : a1 = 0 ∨ a1 = 1) (h2 : a2 = -1 ∨ a2 = 0 ∨ a2 = 1) (hb : b = a1 * a1 + 4 * a2) (e4 : c4 = b * b - 24 * b4) (e6 : c6 = 36 * b * b4 - b * b * b - 216 * b6) (h6 : b6 % 4 = 0 ∨ b6 % 4 = 1) (h4 : (b4 - a1 * b6) % 2 = 0)
    (hz : c4 * c4 * c4 ≠ c6 * c6) : IsP c4 c6 := by
  have f2 : Cv.b2 ⟨a1, a2, b6 % 4, (b4 - a1 * (b6 % 4)) / 2, b6 / 4⟩ = b := by
    rw [hb]
    rfl
  have f4 : Cv.b4 ⟨a1, a2, b6 % 4, (b4 - a1 * (b6 % 4)) / 2, b6 / 4⟩ = b4 := by
    show 2 * ((b4 - a1 * (b6 % 4)) / 2) + a1 * (b6 % 4) = b4
    rcases h1 with rfl | rfl <;> rcases h6 with h6 | h6 <;> rw [h6] <;> omega
  have f6 : Cv.b6 ⟨a1, a2, b6 % 4, (b4 - a1 * (b6 % 4)) / 2, b6 / 4⟩ = b6 := by
    show b6 % 4 * (b6 % 4) + 4 * (b6 / 4) = b6
    rcases h6 with h6 | h6 <;> rw [h6] <;> omega
  have g4 : Cv.c4 ⟨a1, a2, b6 % 4, (b4 - a1 * (b6 % 4)) / 2, b6 / 4⟩ = c4 := by rw [c4_of, f2, f4, e4]
  have g6 : Cv.c6 ⟨a1, a2, b6 % 4, (b4 - a1 * (b6 % 4)) / 2, b6 / 4⟩ = c6 := by rw [c6_of, f2, f4, f6, e6]
  exact ⟨_, ⟨h1, h2, h6⟩, g4, g6, fun z => hz (by rw [← g4, ← g6]; exact (disc0 _).mp z)⟩
theorem d24 {L : Int} (h1 : L % 8 = 0) (h2 : L % 3 = 0) : ∃ n, L = 24 * n := by
  obtain ⟨a, ha⟩ := Int.dvd_of_emod_eq_zero h1
  obtain ⟨b, hb⟩ := Int.dvd_of_emod_eq_zero h2
  exact ⟨3 * a - b, by omega⟩
theorem d432 {L : Int} (h1 : L % 16 = 0) (h2 : L % 27 = 0) : ∃ n, L = 432 * n := by
  obtain ⟨a, ha⟩ := Int.dvd_of_emod_eq_zero h1
  obtain ⟨b, hb⟩ := Int.dvd_of_emod_eq_zero h2
  exact ⟨3 * a - 5 * b, by omega⟩
theorem isp_by {a1 a2 c4 c6 : Int} (b q r s : Int) (h1 : a1 = 0 ∨ a1 = 1) (h2 : a2 = -1 ∨ a2 = 0 ∨ a2 = 1) (hb : b = a1 * a1 + 4 * a2) (hq : q = b * b) (hr : r = b * b * b) (hs : s = 3 * b) (k1 : (q - c4) % 8 = 0) (k2 : (q - c4) % 3 = 0) (k3 : (r - s * c4 - 2 * c6) % 16 = 0) (k4 : (r - s * c4 - 2 * c6) % 27 = 0)
    (hz : c4 * c4 * c4 ≠ c6 * c6) (h : ∀ m n, q - c4 = 24 * m → r - s * c4 - 2 * c6 = 432 * n → (n % 4 = 0 ∨ n % 4 = 1) ∧ (m - a1 * n) % 2 = 0) : IsP c4 c6 := by
  obtain ⟨m, hm⟩ := d24 k1 k2
  obtain ⟨n, hn⟩ := d432 k3 k4
  obtain ⟨g6, g4⟩ := h m n hm hn
  subst hq hr hs
  have e4 : c4 = b * b - 24 * m := by omega
  refine isp_mk (a1 := a1) (a2 := a2) (b := b) (b4 := m) (b6 := n) h1 h2 hb e4 ?_ g6 g4 hz
  have e : 3 * b * c4 = 3 * (b * b * b) - 72 * b * m := by rw [e4]; grind
  have e2 : 36 * b * m = 36 * (b * m) := by grind
  have e3 : 72 * b * m = 72 * (b * m) := by grind
  rw [e] at hn
  omega
theorem isp_of {c4 c6 : Int} (h2 : A2 c4 c6) (h3 : A3 c4 c6) (hz : c4 * c4 * c4 ≠ c6 * c6) : IsP c4 c6 := by
  unfold A2 at h2
  unfold A3 at h3
  rcases h2 with ⟨h2, h2'⟩ | ⟨h2, h2'⟩ | ⟨h2, h2'⟩
  · obtain ⟨u, rfl⟩ := Int.dvd_of_emod_eq_zero h2
    obtain ⟨v, t, ht, rfl⟩ : ∃ v t : Int, (t = 0 ∨ t = 1) ∧ c6 = 8 * t + 32 * v := by
      rcases h2' with h | h
      · exact ⟨c6 / 32, 0, .inl rfl, by omega⟩
      · exact ⟨c6 / 32, 1, .inr rfl, by omega⟩
    clear h2 h2'
    rcases h3 with ⟨h3, h3'⟩ | ⟨h3, h3' | h3'⟩
    · exact isp_by (a1 := 0) (a2 := 0) 0 0 0 0 (.inl rfl) (.inr (.inl rfl)) rfl rfl rfl rfl (by omega) (by omega) (by omega) (by omega) hz fun m n e f => ⟨by omega, by omega⟩
    · exact isp_by (a1 := 0) (a2 := 1) 4 16 64 12 (.inl rfl) (.inr (.inr rfl)) rfl rfl rfl rfl (by omega) (by omega) (by omega) (by omega) hz fun m n e f => ⟨by omega, by omega⟩
    · exact isp_by (a1 := 0) (a2 := -1) (-4) 16 (-64) (-12) (.inl rfl) (.inl rfl) rfl rfl rfl rfl (by omega) (by omega) (by omega) (by omega) hz fun m n e f => ⟨by omega, by omega⟩
  · obtain ⟨u, hu⟩ := Int.dvd_of_emod_eq_zero h2
    obtain ⟨v, hv⟩ := Int.dvd_of_emod_eq_zero h2'
    obtain rfl : c4 = 1 - 16 * u := by omega
    obtain rfl : c6 = -1 + 24 * u - 32 * v := by omega
    clear h2 h2' hu hv
    rcases h3 with ⟨h3, h3'⟩ | ⟨h3, h3' | h3'⟩
    · exact isp_by (a1 := 1) (a2 := -1) (-3) 9 (-27) (-9) (.inr rfl) (.inl rfl) rfl rfl rfl rfl (by omega) (by omega) (by omega) (by omega) hz fun m n e f => ⟨by omega, by omega⟩
    · exact isp_by (a1 := 1) (a2 := 0) 1 1 1 3 (.inr rfl) (.inr (.inl rfl)) rfl rfl rfl rfl (by omega) (by omega) (by omega) (by omega) hz fun m n e f => ⟨by omega, by omega⟩
    · exact isp_by (a1 := 1) (a2 := 1) 5 25 125 15 (.inr rfl) (.inr (.inr rfl)) rfl rfl rfl rfl (by omega) (by omega) (by omega) (by omega) hz fun m n e f => ⟨by omega, by omega⟩
  · obtain ⟨u, hu⟩ : ∃ u, 1 - c4 = 8 + 16 * u := ⟨(1 - c4) / 16, by omega⟩
    obtain ⟨v, hv⟩ : ∃ v, 1 - 3 * c4 - 2 * c6 = 48 + 64 * v := ⟨(1 - 3 * c4 - 2 * c6) / 64, by omega⟩
    obtain rfl : c4 = -7 - 16 * u := by omega
    obtain rfl : c6 = -13 + 24 * u - 32 * v := by omega
    clear h2 h2' hu hv
    rcases h3 with ⟨h3, h3'⟩ | ⟨h3, h3' | h3'⟩
    · exact isp_by (a1 := 1) (a2 := -1) (-3) 9 (-27) (-9) (.inr rfl) (.inl rfl) rfl rfl rfl rfl (by omega) (by omega) (by omega) (by omega) hz fun m n e f => ⟨by omega, by omega⟩
    · exact isp_by (a1 := 1) (a2 := 0) 1 1 1 3 (.inr rfl) (.inr (.inl rfl)) rfl rfl rfl rfl (by omega) (by omega) (by omega) (by omega) hz fun m n e f => ⟨by omega, by omega⟩
    · exact isp_by (a1 := 1) (a2 := 1) 5 25 125 15 (.inr rfl) (.inr (.inr rfl)) rfl rfl rfl rfl (by omega) (by omega) (by omega) (by omega) hz fun m n e f => ⟨by omega, by omega⟩
/-- made greater by an odd number: at 2 nothing changes -/
theorem a2_odd {c4 c6 a : Int} (h : a % 2 = 1) : A2 (a ^ 4 * c4) (a ^ 6 * c6) ↔ A2 c4 c6 := by
  obtain ⟨j, hj⟩ : ∃ j, a * a = 1 + 8 * j := by
    obtain ⟨k, rfl⟩ : ∃ k, a = 2 * k + 1 := ⟨a / 2, by omega⟩
    rcases Int.emod_two_eq k with z | z
    · exact ⟨k / 2 * (k + 1), by have : k = 2 * (k / 2) := by omega
                                 generalize k / 2 = y at *
                                 subst this
                                 grind⟩
    · exact ⟨k * ((k + 1) / 2), by have : k + 1 = 2 * ((k + 1) / 2) := by omega
                                   generalize (k + 1) / 2 = y at *
                                   have : k = 2 * y - 1 := by omega
                                   subst this
                                   grind⟩
  obtain ⟨r, q, hr, hq⟩ : ∃ r q, (r = 0 ∨ r = 1 ∨ r = 2 ∨ r = 3) ∧ j = r + 4 * q := ⟨j % 4, j / 4, by omega, by omega⟩
  have e4 : a ^ 4 * c4 = c4 + 16 * r * c4 + 64 * ((q + j * j) * c4) := by
    rw [show a ^ 4 = a * a * (a * a) by grind, hj]
    subst hq
    grind
  have e6 : a ^ 6 * c6 = c6 + 24 * r * c6 + 32 * ((3 * q + 6 * j * j + 16 * j * j * j) * c6) := by
    rw [show a ^ 6 = a * a * (a * a) * (a * a) by grind, hj]
    subst hq
    grind
  rw [e4, e6]
  generalize (q + j * j) * c4 = x
  generalize (3 * q + 6 * j * j + 16 * j * j * j) * c6 = y
  unfold A2
  constructor
  · rintro (⟨h1, h2 | h2⟩ | ⟨h1, h2⟩ | ⟨h1, h2⟩)
    · rcases hr with rfl | rfl | rfl | rfl <;> exact .inl ⟨by omega, .inl (by omega)⟩
    · rcases hr with rfl | rfl | rfl | rfl <;> exact .inl ⟨by omega, .inr (by omega)⟩
    · rcases hr with rfl | rfl | rfl | rfl <;> exact .inr (.inl ⟨by omega, by omega⟩)
    · rcases hr with rfl | rfl | rfl | rfl <;> exact .inr (.inr ⟨by omega, by omega⟩)
  · rintro (⟨h1, h2 | h2⟩ | ⟨h1, h2⟩ | ⟨h1, h2⟩)
    · rcases hr with rfl | rfl | rfl | rfl <;> exact .inl ⟨by omega, .inl (by omega)⟩
    · rcases hr with rfl | rfl | rfl | rfl <;> exact .inl ⟨by omega, .inr (by omega)⟩
    · rcases hr with rfl | rfl | rfl | rfl <;> exact .inr (.inl ⟨by omega, by omega⟩)
    · rcases hr with rfl | rfl | rfl | rfl <;> exact .inr (.inr ⟨by omega, by omega⟩)
/-- made greater by a number without the factor 3: at 3 nothing changes -/
theorem a3_no {c4 c6 a : Int} (h : a % 3 ≠ 0) : A3 (a ^ 4 * c4) (a ^ 6 * c6) ↔ A3 c4 c6 := by
  obtain ⟨j, hj⟩ : ∃ j, a * a = 1 + 3 * j := by
    obtain ⟨k, h2⟩ : ∃ k, a = 3 * k + 1 ∨ a = 3 * k - 1 := ⟨(a + 1) / 3, by omega⟩
    rcases h2 with rfl | rfl
    · exact ⟨3 * k * k + 2 * k, by grind⟩
    · exact ⟨3 * k * k - 2 * k, by grind⟩
  obtain ⟨r, q, hr, hq⟩ : ∃ r q, (r = 0 ∨ r = 1 ∨ r = 2) ∧ j = r + 3 * q := ⟨j % 3, j / 3, by omega, by omega⟩
  have e4 : a ^ 4 * c4 = c4 + 6 * r * c4 + 9 * ((2 * q + j * j) * c4) := by
    rw [show a ^ 4 = a * a * (a * a) by grind, hj]
    subst hq
    grind
  have e6 : a ^ 6 * c6 = c6 + 9 * r * c6 + 27 * ((q + j * j + j * j * j) * c6) := by
    rw [show a ^ 6 = a * a * (a * a) * (a * a) by grind, hj]
    subst hq
    grind
  rw [e4, e6]
  generalize (2 * q + j * j) * c4 = x
  generalize (q + j * j + j * j * j) * c6 = y
  unfold A3
  rcases hr with rfl | rfl | rfl <;> omega
end K15
set_option linter.all false
set_option maxRecDepth 100000
set_option maxHeartbeats 2000000
/-! the scales that a pair lets: the divisors of one number. Plain Lean -/
namespace K15
open PySem PySem.Spec PyProof.Rows L2 Gd QM
theorem isp_nz {x y t : Int} (ht : t ≠ 0) : (t ^ 4 * x) * (t ^ 4 * x) * (t ^ 4 * x) ≠ (t ^ 6 * y) * (t ^ 6 * y) ↔ x * x * x ≠ y * y := by
  have e : (t ^ 4 * x) * (t ^ 4 * x) * (t ^ 4 * x) - (t ^ 6 * y) * (t ^ 6 * y) = t ^ 12 * (x * x * x - y * y) := by grind
  have h12 : t ^ 12 ≠ 0 := Int.pow_ne_zero ht
  constructor
  · intro h z
    refine h ?_
    have : x * x * x - y * y = 0 := by omega
    rw [this, Int.mul_zero] at e
    omega
  · intro h z
    refine h ?_
    have : (t ^ 4 * x) * (t ^ 4 * x) * (t ^ 4 * x) - (t ^ 6 * y) * (t ^ 6 * y) = 0 := by omega
    rw [this] at e
    rcases Int.mul_eq_zero.mp e.symm with y1 | y1
    · exact absurd y1 h12
    · omega
theorem isp_up {x y t : Int} (ht : t ≠ 0) (h : IsP x y) : IsP (t ^ 4 * x) (t ^ 6 * y) := by
  obtain ⟨h2, h3, hz⟩ := isp_to h
  refine isp_of ?_ ?_ ((isp_nz ht).mpr hz)
  · rcases Int.emod_two_eq t with z | z
    · obtain ⟨k, rfl⟩ : ∃ k, t = 2 * k := ⟨t / 2, by omega⟩
      have e4 : (2 * k) ^ 4 * x = 16 * (k ^ 4 * x) := by grind
      have e6 : (2 * k) ^ 6 * y = 32 * (2 * k ^ 6 * y) := by grind
      rw [e4, e6]
      generalize k ^ 4 * x = p
      generalize 2 * k ^ 6 * y = q
      exact .inl ⟨by omega, .inl (by omega)⟩
    · exact (a2_odd z).mpr h2
  · by_cases z : t % 3 = 0
    · obtain ⟨k, rfl⟩ : ∃ k, t = 3 * k := ⟨t / 3, by omega⟩
      have e4 : (3 * k) ^ 4 * x = 3 * (27 * k ^ 4 * x) := by grind
      have e6 : (3 * k) ^ 6 * y = 27 * (27 * k ^ 6 * y) := by grind
      rw [e4, e6]
      generalize 27 * k ^ 4 * x = p
      generalize 27 * k ^ 6 * y = q
      exact .inl ⟨by omega, by omega⟩
    · exact (a3_no z).mpr h3
/-- from a pair made greater by a and by b, without common factor, to the pair itself -/
theorem isp_down {x y : Int} {a b : Nat} (hab : Nat.Coprime a b) (ha0 : 0 < a) (ha : IsP ((a : Int) ^ 4 * x) ((a : Int) ^ 6 * y)) (hb : IsP ((b : Int) ^ 4 * x) ((b : Int) ^ 6 * y)) : IsP x y := by
  obtain ⟨p2, p3, hz⟩ := isp_to ha
  obtain ⟨q2, q3, -⟩ := isp_to hb
  refine isp_of ?_ ?_ ((isp_nz (by omega)).mp hz)
  · rcases Int.emod_two_eq (a : Int) with z | z
    · rcases Int.emod_two_eq (b : Int) with w | w
      · exfalso
        have h1 : 2 ∣ Nat.gcd a b := Nat.dvd_gcd (by omega) (by omega)
        rw [hab] at h1
        omega
      · exact (a2_odd w).mp q2
    · exact (a2_odd z).mp p2
  · by_cases z : (a : Int) % 3 = 0
    · by_cases w : (b : Int) % 3 = 0
      · exfalso
        have h1 : 3 ∣ Nat.gcd a b := Nat.dvd_gcd (by omega) (by omega)
        rw [hab] at h1
        omega
      · exact (a3_no w).mp q3
    · exact (a3_no z).mp p3
/-- a scale that the pair lets -/
def Lets (c4 c6 : Int) (u : Nat) : Prop := 0 < u ∧ ∃ x y, c4 = (u : Int) ^ 4 * x ∧ c6 = (u : Int) ^ 6 * y ∧ IsP x y
theorem Lets.dvd {c4 c6 : Int} {u v : Nat} (h : Lets c4 c6 u) (hv : v ∣ u) : Lets c4 c6 v := by
  obtain ⟨u0, x, y, e4, e6, hp⟩ := h
  obtain ⟨t, rfl⟩ := hv
  have v0 : 0 < v := Nat.pos_of_mul_pos_right u0
  have t0 : 0 < t := Nat.pos_of_mul_pos_left u0
  refine ⟨v0, (t : Int) ^ 4 * x, (t : Int) ^ 6 * y, ?_, ?_, isp_up (by omega) hp⟩
  · rw [e4, Int.natCast_mul]
    grind
  · rw [e6, Int.natCast_mul]
    grind
theorem pow_part {a b k : Nat} {x z : Int} (hab : Nat.Coprime a b) (hb : 0 < b) (e : (a : Int) ^ k * x = (b : Int) ^ k * z) : ∃ w, x = (b : Int) ^ k * w ∧ z = (a : Int) ^ k * w := by
  have h1 : b ^ k ∣ a ^ k * x.natAbs := by
    refine ⟨z.natAbs, ?_⟩
    have := congrArg Int.natAbs e
    rw [Int.natAbs_mul, Int.natAbs_mul, Int.natAbs_pow, Int.natAbs_pow, Int.natAbs_natCast, Int.natAbs_natCast] at this
    exact this
  have hc : Nat.Coprime (b ^ k) (a ^ k) := (Nat.Coprime.pow k k hab).symm
  obtain ⟨w, hw⟩ := Int.ofNat_dvd_left.mpr (hc.dvd_of_dvd_mul_left h1)
  rw [Int.natCast_pow] at hw
  refine ⟨w, hw, ?_⟩
  have hbk : (b : Int) ^ k ≠ 0 := Int.pow_ne_zero (by omega)
  refine Int.eq_of_mul_eq_mul_left hbk ?_
  rw [← e, hw]
  grind
theorem Lets.lcm {c4 c6 : Int} {u v : Nat} (h : Lets c4 c6 u) (k : Lets c4 c6 v) : ∃ l, u ∣ l ∧ v ∣ l ∧ Lets c4 c6 l := by
  obtain ⟨u0, x, y, e4, e6, hp⟩ := h
  obtain ⟨v0, x', y', f4, f6, kp⟩ := k
  obtain ⟨g, a, b, hg, hc, rfl, rfl⟩ : ∃ g a b : Nat, 0 < g ∧ Nat.Coprime a b ∧ u = a * g ∧ v = b * g := by
    have hg : 0 < Nat.gcd u v := Nat.gcd_pos_of_pos_left _ u0
    exact ⟨Nat.gcd u v, u / Nat.gcd u v, v / Nat.gcd u v, hg, Nat.coprime_div_gcd_div_gcd hg, (Nat.div_mul_cancel (Nat.gcd_dvd_left u v)).symm, (Nat.div_mul_cancel (Nat.gcd_dvd_right u v)).symm⟩
  have a0 : 0 < a := Nat.pos_of_mul_pos_right u0
  have b0 : 0 < b := Nat.pos_of_mul_pos_right v0
  have g4 : (g : Int) ^ 4 ≠ 0 := Int.pow_ne_zero (by omega)
  have g6 : (g : Int) ^ 6 ≠ 0 := Int.pow_ne_zero (by omega)
  rw [Int.natCast_mul] at e4 e6 f4 f6
  obtain ⟨z4, hx, hx'⟩ := pow_part hc b0 (x := x) (z := x') (k := 4) (Int.eq_of_mul_eq_mul_left g4 (by rw [show (g : Int) ^ 4 * ((a : Int) ^ 4 * x) = c4 by rw [e4]; grind, f4]; grind))
  obtain ⟨z6, hy, hy'⟩ := pow_part hc b0 (x := y) (z := y') (k := 6) (Int.eq_of_mul_eq_mul_left g6 (by rw [show (g : Int) ^ 6 * ((a : Int) ^ 6 * y) = c6 by rw [e6]; grind, f6]; grind))
  rw [hx, hy] at hp
  rw [hx', hy'] at kp
  refine ⟨a * b * g, ⟨b, by ac_rfl⟩, ⟨a, by ac_rfl⟩, Nat.mul_pos (Nat.mul_pos a0 b0) hg, z4, z6, ?_, ?_, isp_down hc a0 kp hp⟩
  · rw [e4, hx, Int.natCast_mul, Int.natCast_mul]
    grind
  · rw [e6, hy, Int.natCast_mul, Int.natCast_mul]
    grind
/-- no scale is greater than the pair -/
theorem Lets.le {c4 c6 : Int} {u : Nat} (h : Lets c4 c6 u) (hz : ¬ (c4 = 0 ∧ c6 = 0)) : u ≤ c4.natAbs + c6.natAbs := by
  obtain ⟨u0, x, y, e4, e6, -⟩ := h
  have h4 : c4.natAbs = u ^ 4 * x.natAbs := by rw [e4, Int.natAbs_mul, Int.natAbs_pow, Int.natAbs_natCast]
  have h6 : c6.natAbs = u ^ 6 * y.natAbs := by rw [e6, Int.natAbs_mul, Int.natAbs_pow, Int.natAbs_natCast]
  have l4 : u ≤ u ^ 4 := Nat.le_self_pow (by decide) u
  have l6 : u ≤ u ^ 6 := Nat.le_self_pow (by decide) u
  by_cases x0 : x.natAbs = 0
  · by_cases y0 : y.natAbs = 0
    · exfalso
      rw [x0, Nat.mul_zero] at h4
      rw [y0, Nat.mul_zero] at h6
      omega
    · have := Nat.le_mul_of_pos_right (u ^ 6) (Nat.pos_of_ne_zero y0)
      omega
  · have := Nat.le_mul_of_pos_right (u ^ 4) (Nat.pos_of_ne_zero x0)
    omega
/-- there is one greatest scale, and the scales are its divisors -/
theorem lets_of {c4 c6 : Int} (hz : ¬ (c4 = 0 ∧ c6 = 0)) (h1 : Lets c4 c6 1) : ∃ w, Lets c4 c6 w ∧ ∀ u, Lets c4 c6 u ↔ 0 < u ∧ u ∣ w := by
  have key : ∀ (n m : Nat), Lets c4 c6 m → c4.natAbs + c6.natAbs ≤ m + n → ∃ w, Lets c4 c6 w ∧ ∀ u, Lets c4 c6 u → u ∣ w := by
    intro n
    induction n with
    | zero =>
      intro m hm hn
      refine ⟨m, hm, fun u hu => ?_⟩
      obtain ⟨l, ul, ml, hl⟩ := hu.lcm hm
      have lm := Nat.le_of_dvd hl.1 ml
      have := hl.le hz
      have : l = m := by omega
      rw [← this]
      exact ul
    | succ n ih =>
      intro m hm hn
      by_cases z : ∀ u, Lets c4 c6 u → u ∣ m
      · exact ⟨m, hm, z⟩
      · obtain ⟨u, hu⟩ := Classical.not_forall.mp z
        obtain ⟨hu, nu⟩ := Classical.not_imp.mp hu
        obtain ⟨l, ul, ml, hl⟩ := hu.lcm hm
        have lm := Nat.le_of_dvd hl.1 ml
        have ne : l ≠ m := fun e => nu (e ▸ ul)
        exact ih l hl (by omega)
  obtain ⟨w, hw, h⟩ := key (c4.natAbs + c6.natAbs) 1 h1 (by omega)
  exact ⟨w, hw, fun u => ⟨fun hu => ⟨hu.1, h u hu⟩, fun hu => hw.dvd hu.2⟩⟩
end K15
set_option Elab.async false
set_option linter.all false
set_option maxRecDepth 100000
set_option maxHeartbeats 4000000
namespace K15
open PySem PySem.Spec PyProof.Rows L2 Gd QM K08M
section
variable {P : Program} {w : World} {K : PySem.W.Frag} {mg : Str → Option Value} {base : Heap}
/-! ### the greatest scale -/
theorem div_pow {u : Nat} {k : Nat} {n A : Int} (hA : A ≠ 0) (e : n = (u : Int) ^ k * A) : n.fdiv A = (u : Int) ^ k := by
  rw [e]
  exact Int.mul_fdiv_cancel _ hA
def sp_greatest_scale (K : PySem.W.Frag) : Sp := fun vs H Q _ => ∃ a b : Int, vs = [.int a, .int b] ∧ PB a b ∧ ∀ (u : Nat) (A C : Int) H', Same H H' → 0 < u → a = (u : Int) ^ 4 * A → b = (u : Int) ^ 6 * C → Sh A C → Q (.int (u : Int)) H'
abbrev s_greatest_scale : Stmt := topS 47
theorem sc_greatest_scale : FnScope ["c4", "c6", "d4", "d6"] ["c4", "c6"] (defScope s_greatest_scale) := ⟨rfl, rfl, rfl, by decide +kernel, rfl, by decide +kernel, by decide +kernel⟩
theorem k_greatest_scale (T : Tx K mg) (D : Df K mg "greatest_scale" s_greatest_scale ["c4", "c6"]) (c_without_powers : Kl P w K mg base 7 "without_powers" (sp_without_powers K)) (c_exact_root : Kl P w K mg base 3 "exact_root" (sp_exact_root K)) : Kl P w K mg base 8 "greatest_scale" (sp_greatest_scale K) := by
  have nd := sc_greatest_scale.nd
  refine Kl.by_body D sc_greatest_scale (fun vs H Q E h => ?_) (fun f cdv A outer s H vs Q E hr h => ?_)
  · obtain ⟨_, _, rfl, _⟩ := h
    rfl
  · obtain ⟨a, b, rfl, hp, q⟩ := h
    have hu1 := hu_of hr
    refine ⟨_, (pss_cons (ps_asg (pe_k c_without_powers  hr (by decide) (by rfl) (pa_cons (pv 0) (pa_cons (pv 1) pa_nil))) (pg_tup rfl (pgs_cons (pg_name (i := 2) nd rfl (by first | exact Or.inl rfl | exact Or.inr rfl)) (pgs_cons (pg_name (i := 3) nd rfl (by first | exact Or.inl rfl | exact Or.inr rfl)) pgs_nil))))
      (pss_cons (ps_if (pt_cmpR op_eq (pv 0) pe_int (nomark _)) (pss_one (ps_ret (pe_k c_exact_root  hr (by decide) (by rfl) (pa_cons (pe_op op_fdivAny (pv 1) (pv 3)) (pa_cons pe_int pa_nil))))) pss_nil)
      (pss_one (ps_ret (pe_k c_exact_root  hr (by decide) (by rfl) (pa_cons (pe_op op_fdivAny (pv 0) (pv 2)) (pa_cons pe_int pa_nil))))))), ?_⟩
    refine ⟨_, rfl, _, rfl, a, b, rfl, hp, fun A C t H1 up sh s1 n1 g1 => ?_⟩
    refine ⟨t, _, rfl, tup_of g1, rfl, _, _, rfl, _, _, rfl, rfl, ?_⟩
    first | refine sigN [some (.int (a)), some (.int (b)), some (.int (A)), some (.int (C))] (by rfl) ?_ | refine sig [some (.int (a)), some (.int (b)), some (.int (A)), some (.int (C))] (by rfl) ?_
    have pAC := (hp.up up).1
    obtain ⟨u, u0, e4, e6⟩ := up
    refine ⟨_, rfl, rfl, _, rfl, ?_⟩
    rw [dec_int]
    by_cases a0 : a = 0
    · refine iteY (beq_iff_eq.mpr a0) ?_
      have A0 : A = 0 := by
        rw [a0] at e4
        rcases Int.mul_eq_zero.mp e4.symm with z | z
        · exact absurd z (Int.pow_ne_zero (by omega))
        · exact z
      have C0 : C ≠ 0 := fun z => pAC.1 ⟨A0, z⟩
      have ed := div_pow C0 e6
      refine ⟨_, rfl, _, rfl, b, C, rfl, rfl, div_any C0 pAC.b (by decide), ?_⟩
      refine ⟨b.fdiv C, (u : Int), 5, rfl, ?_, by omega, by omega, ed.symm, q u A C H1 s1 u0 e4 e6 sh⟩
      have hle : ((u : Int) ^ 6).natAbs ≤ b.natAbs := by
        rw [e6, Int.natAbs_mul]
        exact Nat.le_mul_of_pos_right _ (by omega)
      rw [ed]
      exact B.up (show B 80 _ from Nat.lt_of_le_of_lt hle hp.b) (by decide)
    · refine iteN (fun z => a0 (beq_iff_eq.mp z)) ?_
      have A0 : A ≠ 0 := fun z => a0 (by rw [e4, z, Int.mul_zero])
      have ed := div_pow A0 e4
      refine ⟨_, rfl, _, rfl, a, A, rfl, rfl, div_any A0 pAC.a (by decide), ?_⟩
      refine ⟨a.fdiv A, (u : Int), 3, rfl, ?_, by omega, by omega, ed.symm, q u A C H1 s1 u0 e4 e6 sh⟩
      have hle : ((u : Int) ^ 4).natAbs ≤ a.natAbs := by
        rw [e4, Int.natAbs_mul]
        exact Nat.le_mul_of_pos_right _ (by omega)
      rw [ed]
      exact B.up (show B 54 _ from Nat.lt_of_le_of_lt hle hp.a) (by decide)
end
end K15
set_option Elab.async false
set_option linter.all false
set_option maxRecDepth 100000
set_option maxHeartbeats 4000000
namespace K15
open PySem PySem.Spec PyProof.Rows L2 Gd QM K08M
section
variable {P : Program} {w : World} {K : PySem.W.Frag} {mg : Str → Option Value} {base : Heap}
/-! ### how often a prime divides -/
def sp_valuation (K : PySem.W.Frag) : Sp := fun vs H Q _ => ∃ (p k : Nat) (n m : Int), vs = [.int n, .int (p : Int)] ∧ n = (p : Int) ^ k * m ∧ 2 ≤ p ∧ p ≤ 10000 ∧ ¬ (p : Int) ∣ m ∧ Q (.int (k : Int)) H
abbrev s_valuation : Stmt := topS 5
theorem sc_valuation : FnScope ["n", "p", "many"] ["n", "p"] (defScope s_valuation) := ⟨rfl, rfl, rfl, by decide +kernel, rfl, by decide +kernel, by decide +kernel⟩
theorem k_valuation (T : Tx K mg) (D : Df K mg "valuation" s_valuation ["n", "p"])  : Kl P w K mg base 1 "valuation" (sp_valuation K) := by
  have nd := sc_valuation.nd
  refine Kl.by_body D sc_valuation (fun vs H Q E h => ?_) (fun f cdv A outer s H vs Q E hr h => ?_)
  · obtain ⟨_, _, _, _, rfl, _⟩ := h
    rfl
  · obtain ⟨p, k, n, m, rfl, hn, h2, h4, hm, q⟩ := h
    have hu1 := hu_of hr
    refine ⟨_, (pss_cons (ps_set (i := 2) nd rfl (by first | exact Or.inl rfl | exact Or.inr rfl) pe_int)
      (pss_cons (ps_while PassesOwn.never (pt_cmpR op_eq (pe_op op_mod (pv 0) (pv 1)) pe_int (nomark _)) (pss_cons (ps_aug (i := 0) nd rfl (by first | exact Or.inl rfl | exact Or.inr rfl) (pv 1) ip_fdivAny)
      (pss_one (ps_aug (i := 2) nd rfl (by first | exact Or.inl rfl | exact Or.inr rfl) pe_int ip_add))))
      (pss_one (ps_ret (pv 2))))), ?_⟩
    have bp : B 14 (p : Int) := by
      unfold B
      omega
    refine while_by (fun σ H2 => ∃ i j : Nat, i + j = k ∧ σ = [some (.int ((p : Int) ^ i * m)), some (.int (p : Int)), some (.int (j : Int))] ∧ H2 = H)
      (fun σ _ => match σ with | [_, _, some (.int j)] => k - j.toNat | _ => 0) ⟨k, 0, rfl, by rw [← hn]; rfl, rfl⟩ ?_ ?_
    · rintro σ H2 ⟨i, j, hij, rfl, rfl⟩
      refine ⟨_, rfl, _, rfl, ((p : Int) ^ i * m), (p : Int), rfl, rfl, by omega, rfl, _, rfl, ?_⟩
      rw [dec_int]
      cases i with
      | zero =>
        have e : (p : Int) ^ 0 * m = m := by rw [Int.pow_zero, Int.one_mul]
        rw [e]
        refine iteN (fun z => ?_) ?_
        · refine hm ?_
          exact Int.dvd_of_emod_eq_zero (beq_iff_eq.mp z)
        · obtain rfl : j = k := by omega
          exact ⟨_, rfl, q⟩
      | succ i =>
        have e : (p : Int) ^ (i + 1) * m = (p : Int) * ((p : Int) ^ i * m) := by rw [Int.pow_succ]; grind
        rw [e]
        refine iteY (by simp) ?_
        refine ⟨_, rfl, _, rfl, (p : Int) * ((p : Int) ^ i * m), (p : Int), rfl, rfl, div_any (by omega) bp (by decide), ?_⟩
        have ed : ((p : Int) * ((p : Int) ^ i * m)).fdiv (p : Int) = ((p : Int) ^ i * m) := Int.mul_fdiv_cancel_left _ (by omega)
        refine ⟨_, rfl, _, _, rfl, rfl, ?_⟩
        refine ⟨⟨i, j + 1, by omega, ?_, rfl⟩, ?_⟩
        · show [some (V.int (((p : Int) * ((p : Int) ^ i * m)).fdiv (p : Int))), some (V.int (p : Int)), some (V.int ((j : Int) + 1))] = _
          rw [ed]
          rfl
        · show k - ((j : Int) + 1).toNat < k - (j : Int).toNat
          omega
    · rintro σ H2 Q1 Q2 i ⟨v1, e1, v2, e2, x, y, e3, e4, e5, e6, c, e7, z⟩
      refine ⟨v1, e1, v2, e2, x, y, e3, e4, e5, e6, c, e7, ?_⟩
      exact i _ _ z
end
end K15
set_option linter.all false
set_option maxRecDepth 100000
/-! the greatest scale that a pair lets, out of the greatest power in it. Plain Lean -/
namespace K15
open PySem PySem.Spec PyProof.Rows L2 Gd QM K08M
/-- each number is a power of p times one that p does not divide -/
theorem val_ex {p : Nat} (hp : 2 ≤ p) : ∀ (k : Nat) {n : Nat}, n ≤ k → 0 < n → ∃ a m, n = p ^ a * m ∧ ¬ p ∣ m ∧ 0 < m
  | 0, n, h, h0 => by omega
  | k + 1, n, h, h0 => by
    by_cases d : p ∣ n
    · obtain ⟨m, rfl⟩ := d
      have m0 : 0 < m := Nat.pos_of_mul_pos_left h0
      have hm : m ≤ k := by
        have := Nat.mul_le_mul_right m hp
        omega
      obtain ⟨a, x, e, hx, x0⟩ := val_ex hp k hm m0
      exact ⟨a + 1, x, by rw [e, Nat.pow_succ]; ac_rfl, hx, x0⟩
    · exact ⟨0, n, by rw [Nat.pow_zero, Nat.one_mul], d, h0⟩
theorem val_is {p n : Nat} (hp : 2 ≤ p) (h0 : 0 < n) : ∃ a m, n = p ^ a * m ∧ ¬ p ∣ m ∧ 0 < m := val_ex hp n (Nat.le_refl n) h0
theorem cop2 {m : Nat} (h : ¬ 2 ∣ m) : Nat.Coprime m 2 := by
  have h1 := Nat.gcd_dvd_left m 2
  have h2 := Nat.le_of_dvd (by decide) (Nat.gcd_dvd_right m 2)
  have h0 := Nat.gcd_pos_of_pos_right m (show 0 < 2 by decide)
  show Nat.gcd m 2 = 1
  rcases (show Nat.gcd m 2 = 1 ∨ Nat.gcd m 2 = 2 by omega) with e | e
  · exact e
  · rw [e] at h1
    exact absurd h1 h
theorem cop3 {m : Nat} (h : ¬ 3 ∣ m) : Nat.Coprime m 3 := by
  have h1 := Nat.gcd_dvd_left m 3
  have h3 := Nat.gcd_dvd_right m 3
  have h2 := Nat.le_of_dvd (by decide) h3
  have h0 := Nat.gcd_pos_of_pos_right m (show 0 < 3 by decide)
  show Nat.gcd m 3 = 1
  rcases (show Nat.gcd m 3 = 1 ∨ Nat.gcd m 3 = 2 ∨ Nat.gcd m 3 = 3 by omega) with e | e | e
  · exact e
  · rw [e] at h3
    exact absurd h3 (by decide)
  · rw [e] at h1
    exact absurd h1 h
/-- what divides 2 ^ a 3 ^ b -/
theorem dvd23 {a b t : Nat} (h : t ∣ 2 ^ a * 3 ^ b) (t0 : 0 < t) : ∃ i j, t = 2 ^ i * 3 ^ j ∧ i ≤ a ∧ j ≤ b := by
  obtain ⟨i, x, e1, hx, x0⟩ := val_is (p := 2) (by decide) t0
  obtain ⟨j, y, e2, hy, y0⟩ := val_is (p := 3) (by decide) x0
  have hy2 : ¬ 2 ∣ y := fun d => hx (by rw [e2]; exact Nat.dvd_trans d (Nat.dvd_mul_left y (3 ^ j)))
  have d1 : y ∣ 2 ^ a * 3 ^ b := Nat.dvd_trans (by rw [e1, e2]; exact ⟨2 ^ i * 3 ^ j, by ac_rfl⟩) h
  have d2 : y ∣ 3 ^ b := (Nat.Coprime.pow_right a (cop2 hy2)).dvd_of_dvd_mul_left d1
  have d3 : y ∣ 1 := (Nat.Coprime.pow_right b (cop3 hy)).dvd_of_dvd_mul_left (by rw [Nat.mul_one]; exact d2)
  have ey : y = 1 := Nat.dvd_one.mp d3
  rw [ey, Nat.mul_one] at e2
  rw [e2] at e1
  refine ⟨i, j, e1, ?_, ?_⟩
  · have d : 2 ^ i ∣ 2 ^ a * 3 ^ b := Nat.dvd_trans ⟨3 ^ j, e1⟩ h
    have c : Nat.Coprime (2 ^ i) (3 ^ b) := Nat.Coprime.pow i b (by decide)
    exact (Nat.pow_dvd_pow_iff_le_right (by decide)).mp (c.dvd_of_dvd_mul_right d)
  · have d : 3 ^ j ∣ 2 ^ a * 3 ^ b := Nat.dvd_trans ⟨2 ^ i, by rw [e1]; ac_rfl⟩ h
    have c : Nat.Coprime (3 ^ j) (2 ^ a) := Nat.Coprime.pow j a (by decide)
    exact (Nat.pow_dvd_pow_iff_le_right (by decide)).mp (c.dvd_of_dvd_mul_left d)
/-- each pair has a short form -/
theorem sh_ex : ∀ (k : Nat) {a b : Int}, a.natAbs + b.natAbs ≤ k → ¬ (a = 0 ∧ b = 0) → ∃ A C, Up a b A C ∧ Sh A C
  | 0, a, b, h, hz => absurd ⟨by omega, by omega⟩ hz
  | k + 1, a, b, h, hz => by
    by_cases hs : Sh a b
    · exact ⟨a, b, Up.refl a b, hs⟩
    · obtain ⟨p, hp⟩ := Classical.not_forall.mp hs
      obtain ⟨p2, hp⟩ := Classical.not_imp.mp hp
      obtain ⟨p4, hp⟩ := Classical.not_imp.mp hp
      have p6 := Classical.not_not.mp hp
      obtain ⟨x, ex⟩ := Int.ofNat_dvd_left.mpr p4
      obtain ⟨y, ey⟩ := Int.ofNat_dvd_left.mpr p6
      rw [Int.natCast_pow] at ex ey
      have q4 : 2 ≤ p ^ 4 := Nat.le_trans p2 (Nat.le_self_pow (by decide) p)
      have q6 : 2 ≤ p ^ 6 := Nat.le_trans p2 (Nat.le_self_pow (by decide) p)
      have ax : a.natAbs = p ^ 4 * x.natAbs := by rw [ex, Int.natAbs_mul, Int.natAbs_pow, Int.natAbs_natCast]
      have ay : b.natAbs = p ^ 6 * y.natAbs := by rw [ey, Int.natAbs_mul, Int.natAbs_pow, Int.natAbs_natCast]
      have hx : 2 * x.natAbs ≤ a.natAbs := by rw [ax]; exact Nat.mul_le_mul_right _ q4
      have hy : 2 * y.natAbs ≤ b.natAbs := by rw [ay]; exact Nat.mul_le_mul_right _ q6
      have hz2 : ¬ (x = 0 ∧ y = 0) := by
        rintro ⟨rfl, rfl⟩
        exact hz ⟨by rw [ex, Int.mul_zero], by rw [ey, Int.mul_zero]⟩
      obtain ⟨A, C, u, s⟩ := sh_ex k (a := x) (b := y) (by omega) hz2
      exact ⟨A, C, Up.trans ⟨p, by omega, ex, ey⟩ u, s⟩
/-- a scale that is let divides the greatest power -/
theorem Lets.most {c4 c6 A C : Int} {u v : Nat} (h : Lets c4 c6 v) (hz : ¬ (c4 = 0 ∧ c6 = 0)) (u0 : 0 < u) (e4 : c4 = (u : Int) ^ 4 * A) (e6 : c6 = (u : Int) ^ 6 * C) (s : Sh A C) : v ∣ u := by
  obtain ⟨v0, x, y, f4, f6, -⟩ := h
  have hz2 : ¬ (x = 0 ∧ y = 0) := by
    rintro ⟨rfl, rfl⟩
    exact hz ⟨by rw [f4, Int.mul_zero], by rw [f6, Int.mul_zero]⟩
  obtain ⟨X, Y, ⟨t, t0, g4, g6⟩, s2⟩ := sh_ex _ (Nat.le_refl _) hz2
  have k4 : c4 = ((v * t : Nat) : Int) ^ 4 * X := by
    rw [f4, g4, Int.natCast_mul]
    grind
  have k6 : c6 = ((v * t : Nat) : Int) ^ 6 * Y := by
    rw [f6, g6, Int.natCast_mul]
    grind
  have n4 : u ^ 4 * A.natAbs = (v * t) ^ 4 * X.natAbs := by
    have := congrArg Int.natAbs (e4.symm.trans k4)
    rwa [Int.natAbs_mul, Int.natAbs_mul, Int.natAbs_pow, Int.natAbs_pow, Int.natAbs_natCast, Int.natAbs_natCast] at this
  have n6 : u ^ 6 * C.natAbs = (v * t) ^ 6 * Y.natAbs := by
    have := congrArg Int.natAbs (e6.symm.trans k6)
    rwa [Int.natAbs_mul, Int.natAbs_mul, Int.natAbs_pow, Int.natAbs_pow, Int.natAbs_natCast, Int.natAbs_natCast] at this
  have := uniqN u0 (Nat.mul_pos v0 t0) n4 n6 s s2
  exact ⟨t, this⟩
/-- the greatest power is the greatest scale times twos and threes -/
theorem most_is {c4 c6 A C : Int} {u w : Nat} (h1 : Lets c4 c6 1) (hz : ¬ (c4 = 0 ∧ c6 = 0)) (u0 : 0 < u) (e4 : c4 = (u : Int) ^ 4 * A) (e6 : c6 = (u : Int) ^ 6 * C) (s : Sh A C) (hw : ∀ v, Lets c4 c6 v ↔ 0 < v ∧ v ∣ w) (w0 : 0 < w) {a b m : Nat} (hu : u = 2 ^ a * (3 ^ b * m)) (m2 : ¬ 2 ∣ m) (m3 : ¬ 3 ∣ m) :
    ∃ i j, i ≤ a ∧ j ≤ b ∧ u = w * (2 ^ i * 3 ^ j) := by
  have m0 : 0 < m := Nat.pos_of_ne_zero fun z => m2 (z ▸ Nat.dvd_zero 2)
  have hm : Lets c4 c6 m := by
    obtain ⟨-, x, y, f4, f6, hp⟩ := h1
    obtain rfl : c4 = x := by rw [f4]; simp
    obtain rfl : c6 = y := by rw [f6]; simp
    refine ⟨m0, ((2 ^ a * 3 ^ b : Nat) : Int) ^ 4 * A, ((2 ^ a * 3 ^ b : Nat) : Int) ^ 6 * C, ?_, ?_, ?_⟩
    · rw [e4, hu, show 2 ^ a * (3 ^ b * m) = 2 ^ a * 3 ^ b * m by ac_rfl, Int.natCast_mul]
      grind
    · rw [e6, hu, show 2 ^ a * (3 ^ b * m) = 2 ^ a * 3 ^ b * m by ac_rfl, Int.natCast_mul]
      grind
    · obtain ⟨p2, p3, pz⟩ := isp_to hp
      have k4 : c4 = (m : Int) ^ 4 * (((2 ^ a * 3 ^ b : Nat) : Int) ^ 4 * A) := by
        rw [e4, hu, show 2 ^ a * (3 ^ b * m) = 2 ^ a * 3 ^ b * m by ac_rfl, Int.natCast_mul]
        grind
      have k6 : c6 = (m : Int) ^ 6 * (((2 ^ a * 3 ^ b : Nat) : Int) ^ 6 * C) := by
        rw [e6, hu, show 2 ^ a * (3 ^ b * m) = 2 ^ a * 3 ^ b * m by ac_rfl, Int.natCast_mul]
        grind
      rw [k4, k6] at p2 p3 pz
      exact isp_of ((a2_odd (by omega)).mp p2) ((a3_no (by omega)).mp p3) ((isp_nz (by omega)).mp pz)
  have dm : m ∣ w := ((hw m).mp hm).2
  have dw : w ∣ u := Lets.most ((hw w).mpr ⟨w0, Nat.dvd_refl w⟩) hz u0 e4 e6 s
  obtain ⟨t, ht⟩ := dw
  have t0 : 0 < t := Nat.pos_of_ne_zero fun z => by rw [z, Nat.mul_zero] at ht; omega
  obtain ⟨x, hx⟩ := dm
  have dt : t ∣ 2 ^ a * 3 ^ b := by
    refine ⟨x, Nat.eq_of_mul_eq_mul_left m0 ?_⟩
    calc m * (2 ^ a * 3 ^ b) = u := by rw [hu]; ac_rfl
      _ = w * t := ht
      _ = m * (t * x) := by rw [hx]; ac_rfl
  obtain ⟨i, j, e, hi, hj⟩ := dvd23 dt t0
  exact ⟨i, j, hi, hj, by rw [ht, e]⟩
end K15
set_option Elab.async false
set_option linter.all false
set_option maxRecDepth 100000
set_option maxHeartbeats 4000000
namespace K15
open PySem PySem.Spec PyProof.Rows L2 Gd QM
local macro_rules | `(tactic| walk_at "bd") => `(tactic| (repeat (first | assumption | apply B.add | apply B.sub | apply B.mul | apply B.neg | exact B.lit (n := 8) (by decide))))
local macro_rules | `(tactic| walk_at "bu") => `(tactic| (apply B.up; walk_at "bd"; decide))
local macro_rules | `(tactic| walk_at "bnd") => `(tactic| (apply B.mulW; walk_at "bd"; decide))
section
variable {P : Program} {w : World} {K : PySem.W.Frag} {mg : Str → Option Value} {base : Heap}
/-! ### the numbers of a curve, as the program tells them -/
def sp_numbers_of (K : PySem.W.Frag) : Sp := fun vs H Q _ => ∃ (p : Addr) (c : Cv), vs = [.ref p] ∧ SqT K H p c.tup ∧ c.Md ∧ ∀ t, H t = none → Q (.ref t) (upd H t (.tup c.nums))
abbrev s_numbers_of : Stmt := topS 32
theorem sc_numbers_of : FnScope ["curve", "a1", "a2", "a3", "a4", "a6", "b2", "b4", "b6", "b8", "c4", "c6", "d"] ["curve"] (defScope s_numbers_of) := ⟨rfl, rfl, rfl, by decide +kernel, rfl, by decide +kernel, by decide +kernel⟩
theorem k_numbers_of (T : Tx K mg) (D : Df K mg "numbers_of" s_numbers_of ["curve"]) (c_five : Kl P w K mg base 1 "five" (sp_five K)) : Kl P w K mg base 2 "numbers_of" (sp_numbers_of K) := by
  have nd := sc_numbers_of.nd
  refine Kl.by_body D sc_numbers_of (fun vs H Q E h => ?_) (fun f cdv A outer s H vs Q E hr h => ?_)
  · obtain ⟨_, _, rfl, _⟩ := h
    rfl
  · obtain ⟨p, c, rfl, hx, hm, q⟩ := h
    have hu1 := hu_of hr
    refine ⟨_, (pss_cons (ps_asg (pe_k c_five  hr (by decide) (by rfl) (pa_cons (pv 0) pa_nil)) (pg_tup rfl (pgs_cons (pg_name (i := 1) nd rfl (by first | exact Or.inl rfl | exact Or.inr rfl)) (pgs_cons (pg_name (i := 2) nd rfl (by first | exact Or.inl rfl | exact Or.inr rfl)) (pgs_cons (pg_name (i := 3) nd rfl (by first | exact Or.inl rfl | exact Or.inr rfl)) (pgs_cons (pg_name (i := 4) nd rfl (by first | exact Or.inl rfl | exact Or.inr rfl)) (pgs_cons (pg_name (i := 5) nd rfl (by first | exact Or.inl rfl | exact Or.inr rfl)) pgs_nil)))))))
      (pss_cons (ps_set (i := 6) nd rfl (by first | exact Or.inl rfl | exact Or.inr rfl) (pe_op op_add (pe_op op_mulW (pv 1) (pv 1)) (pe_op op_mul pe_int (pv 2))))
      (pss_cons (ps_set (i := 7) nd rfl (by first | exact Or.inl rfl | exact Or.inr rfl) (pe_op op_add (pe_op op_mul pe_int (pv 4)) (pe_op op_mulW (pv 1) (pv 3))))
      (pss_cons (ps_set (i := 8) nd rfl (by first | exact Or.inl rfl | exact Or.inr rfl) (pe_op op_add (pe_op op_mulW (pv 3) (pv 3)) (pe_op op_mul pe_int (pv 5))))
      (pss_cons (ps_set (i := 9) nd rfl (by first | exact Or.inl rfl | exact Or.inr rfl) (pe_op op_sub (pe_op op_add (pe_op op_sub (pe_op op_add (pe_op op_mulW (pe_op op_mulW (pv 1) (pv 1)) (pv 5)) (pe_op op_mulW (pe_op op_mul pe_int (pv 2)) (pv 5))) (pe_op op_mulW (pe_op op_mulW (pv 1) (pv 3)) (pv 4))) (pe_op op_mulW (pe_op op_mulW (pv 2) (pv 3)) (pv 3))) (pe_op op_mulW (pv 4) (pv 4))))
      (pss_cons (ps_set (i := 10) nd rfl (by first | exact Or.inl rfl | exact Or.inr rfl) (pe_op op_sub (pe_op op_mulW (pv 6) (pv 6)) (pe_op op_mul pe_int (pv 7))))
      (pss_cons (ps_set (i := 11) nd rfl (by first | exact Or.inl rfl | exact Or.inr rfl) (pe_op op_sub (pe_op op_sub (pe_op op_mulW (pe_op op_mul pe_int (pv 6)) (pv 7)) (pe_op op_mulW (pe_op op_mulW (pv 6) (pv 6)) (pv 6))) (pe_op op_mul pe_int (pv 8))))
      (pss_cons (ps_set (i := 12) nd rfl (by first | exact Or.inl rfl | exact Or.inr rfl) (pe_op op_sub (pe_op op_sub (pe_op op_sub (pe_op op_mulW (pe_op op_mulW (pe_op op_mul pe_int (pv 6)) (pv 7)) (pv 8)) (pe_op op_mulW (pe_op op_mulW (pv 6) (pv 6)) (pv 9))) (pe_op op_mulW (pe_op op_mulW (pe_op op_mul pe_int (pv 7)) (pv 7)) (pv 7))) (pe_op op_mulW (pe_op op_mul pe_int (pv 8)) (pv 8))))
      (pss_one (ps_ret (pe_tup (pa_cons (pv 6) (pa_cons (pv 7) (pa_cons (pv 8) (pa_cons (pv 9) (pa_cons (pv 10) (pa_cons (pv 11) (pa_cons (pv 12) pa_nil)))))))))))))))))), ?_⟩
    refine ⟨.ref p, rfl, p, c, rfl, hx, ?_⟩
    have e2 := hm.b2
    have e4 := hm.b4
    have e6 := hm.b6
    have e8 := hm.b8
    obtain ⟨h1, h2, h3, h4, h6⟩ := hm
    refine ⟨p, _, rfl, hx, rfl, _, _, rfl, _, _, rfl, _, _, rfl, _, _, rfl, _, _, rfl, rfl, ?_⟩
    first | refine sigN [some (.ref p), some (.int (c.a1)), some (.int (c.a2)), some (.int (c.a3)), some (.int (c.a4)), some (.int (c.a6)), none, none, none, none, none, none, none] (by rfl) ?_ | refine sig [some (.ref p), some (.int (c.a1)), some (.int (c.a2)), some (.int (c.a3)), some (.int (c.a4)), some (.int (c.a6)), none, none, none, none, none, none, none] (by rfl) ?_
    refine ⟨_, rfl, _, rfl, _, _, rfl, rfl, (by walk_at "bnd"), _, rfl, _, _, rfl, rfl, (Or.inl ⟨by decide, by decide⟩), _, _, rfl, rfl, ?_⟩
    first | refine sigN [some (.ref p), some (.int (c.a1)), some (.int (c.a2)), some (.int (c.a3)), some (.int (c.a4)), some (.int (c.a6)), some (.int (c.b2)), none, none, none, none, none, none] (by rfl) ?_ | refine sig [some (.ref p), some (.int (c.a1)), some (.int (c.a2)), some (.int (c.a3)), some (.int (c.a4)), some (.int (c.a6)), some (.int (c.b2)), none, none, none, none, none, none] (by rfl) ?_
    refine ⟨_, rfl, _, _, rfl, rfl, (Or.inl ⟨by decide, by decide⟩), _, rfl, _, rfl, _, _, rfl, rfl, (by walk_at "bnd"), _, _, rfl, rfl, ?_⟩
    first | refine sigN [some (.ref p), some (.int (c.a1)), some (.int (c.a2)), some (.int (c.a3)), some (.int (c.a4)), some (.int (c.a6)), some (.int (c.b2)), some (.int (c.b4)), none, none, none, none, none] (by rfl) ?_ | refine sig [some (.ref p), some (.int (c.a1)), some (.int (c.a2)), some (.int (c.a3)), some (.int (c.a4)), some (.int (c.a6)), some (.int (c.b2)), some (.int (c.b4)), none, none, none, none, none] (by rfl) ?_
    refine ⟨_, rfl, _, rfl, _, _, rfl, rfl, (by walk_at "bnd"), _, rfl, _, _, rfl, rfl, (Or.inl ⟨by decide, by decide⟩), _, _, rfl, rfl, ?_⟩
    first | refine sigN [some (.ref p), some (.int (c.a1)), some (.int (c.a2)), some (.int (c.a3)), some (.int (c.a4)), some (.int (c.a6)), some (.int (c.b2)), some (.int (c.b4)), some (.int (c.b6)), none, none, none, none] (by rfl) ?_ | refine sig [some (.ref p), some (.int (c.a1)), some (.int (c.a2)), some (.int (c.a3)), some (.int (c.a4)), some (.int (c.a6)), some (.int (c.b2)), some (.int (c.b4)), some (.int (c.b6)), none, none, none, none] (by rfl) ?_
    refine ⟨_, rfl, _, rfl, _, _, rfl, rfl, (by walk_at "bnd"), _, rfl, _, _, rfl, rfl, (by walk_at "bnd"), _, rfl, _, _, rfl, rfl, (Or.inl ⟨by decide, by decide⟩), _, rfl, _, _, rfl, rfl, (by walk_at "bnd"), _, _, rfl, rfl, _, rfl, _, rfl, _, _, rfl, rfl, (by walk_at "bnd"), _, rfl, _, _, rfl, rfl, (by walk_at "bnd"), _, _, rfl, rfl, _, rfl, _, rfl, _, _, rfl, rfl, (by walk_at "bnd"), _, rfl, _, _, rfl, rfl, (by walk_at "bnd"), _, _, rfl, rfl, _, rfl, _, rfl, _, _, rfl, rfl, (by walk_at "bnd"), _, _, rfl, rfl, ?_⟩
    first | refine sigN [some (.ref p), some (.int (c.a1)), some (.int (c.a2)), some (.int (c.a3)), some (.int (c.a4)), some (.int (c.a6)), some (.int (c.b2)), some (.int (c.b4)), some (.int (c.b6)), some (.int (c.b8)), none, none, none] (by rfl) ?_ | refine sig [some (.ref p), some (.int (c.a1)), some (.int (c.a2)), some (.int (c.a3)), some (.int (c.a4)), some (.int (c.a6)), some (.int (c.b2)), some (.int (c.b4)), some (.int (c.b6)), some (.int (c.b8)), none, none, none] (by rfl) ?_
    refine ⟨_, rfl, _, rfl, _, _, rfl, rfl, (by walk_at "bnd"), _, rfl, _, _, rfl, rfl, (Or.inl ⟨by decide, by decide⟩), _, _, rfl, rfl, ?_⟩
    first | refine sigN [some (.ref p), some (.int (c.a1)), some (.int (c.a2)), some (.int (c.a3)), some (.int (c.a4)), some (.int (c.a6)), some (.int (c.b2)), some (.int (c.b4)), some (.int (c.b6)), some (.int (c.b8)), some (.int (c.c4)), none, none] (by rfl) ?_ | refine sig [some (.ref p), some (.int (c.a1)), some (.int (c.a2)), some (.int (c.a3)), some (.int (c.a4)), some (.int (c.a6)), some (.int (c.b2)), some (.int (c.b4)), some (.int (c.b6)), some (.int (c.b8)), some (.int (c.c4)), none, none] (by rfl) ?_
    refine ⟨_, rfl, _, _, rfl, rfl, (Or.inl ⟨by decide, by decide⟩), _, rfl, _, _, rfl, rfl, (by walk_at "bnd"), _, rfl, _, rfl, _, _, rfl, rfl, (by walk_at "bnd"), _, rfl, _, _, rfl, rfl, (by walk_at "bnd"), _, _, rfl, rfl, _, rfl, _, _, rfl, rfl, (Or.inl ⟨by decide, by decide⟩), _, _, rfl, rfl, ?_⟩
    first | refine sigN [some (.ref p), some (.int (c.a1)), some (.int (c.a2)), some (.int (c.a3)), some (.int (c.a4)), some (.int (c.a6)), some (.int (c.b2)), some (.int (c.b4)), some (.int (c.b6)), some (.int (c.b8)), some (.int (c.c4)), some (.int (c.c6)), none] (by rfl) ?_ | refine sig [some (.ref p), some (.int (c.a1)), some (.int (c.a2)), some (.int (c.a3)), some (.int (c.a4)), some (.int (c.a6)), some (.int (c.b2)), some (.int (c.b4)), some (.int (c.b6)), some (.int (c.b8)), some (.int (c.c4)), some (.int (c.c6)), none] (by rfl) ?_
    refine ⟨_, rfl, _, _, rfl, rfl, (Or.inl ⟨by decide, by decide⟩), _, rfl, _, _, rfl, rfl, (by walk_at "bnd"), _, rfl, _, _, rfl, rfl, (by walk_at "bnd"), _, rfl, _, rfl, _, _, rfl, rfl, (by walk_at "bnd"), _, rfl, _, _, rfl, rfl, (by walk_at "bnd"), _, _, rfl, rfl, _, rfl, _, _, rfl, rfl, (Or.inl ⟨by decide, by decide⟩), _, rfl, _, _, rfl, rfl, (by walk_at "bnd"), _, rfl, _, _, rfl, rfl, (by walk_at "bnd"), _, _, rfl, rfl, _, rfl, _, _, rfl, rfl, (Or.inl ⟨by decide, by decide⟩), _, rfl, _, _, rfl, rfl, (by walk_at "bnd"), _, _, rfl, rfl, ?_⟩
    first | refine sigN [some (.ref p), some (.int (c.a1)), some (.int (c.a2)), some (.int (c.a3)), some (.int (c.a4)), some (.int (c.a6)), some (.int (c.b2)), some (.int (c.b4)), some (.int (c.b6)), some (.int (c.b8)), some (.int (c.c4)), some (.int (c.c6)), some (.int (c.disc))] (by rfl) ?_ | refine sig [some (.ref p), some (.int (c.a1)), some (.int (c.a2)), some (.int (c.a3)), some (.int (c.a4)), some (.int (c.a6)), some (.int (c.b2)), some (.int (c.b4)), some (.int (c.b6)), some (.int (c.b8)), some (.int (c.c4)), some (.int (c.c6)), some (.int (c.disc))] (by rfl) ?_
    refine ⟨_, rfl, _, rfl, _, rfl, _, rfl, _, rfl, _, rfl, _, rfl, (by show 7 ≤ sizeLine; decide), fun t2 nt2 => ?_⟩
    exact q t2 nt2
/-! ### a drawn curve -/
structure Cv.Tn (c : Cv) : Prop where
  h1 : c.a1.natAbs ≤ 2
  h2 : c.a2.natAbs ≤ 2
  h3 : c.a3.natAbs ≤ 2
  h4 : c.a4.natAbs ≤ 30
  h6 : c.a6.natAbs ≤ 90
def sp_law_curve (K : PySem.W.Frag) : Sp := fun vs H Q _ => ∃ (m cl : Addr) (z : Int) (n : Nat), vs = [.ref m, .int z] ∧ 0 ≤ z ∧ z ≤ 30 ∧ n ≤ 1000 ∧ MAt H m cl n ∧ ∀ H' t c, But m H H' → MAt H' m cl (n + 300) → SqT K H' t (Cv.tup c) → Cv.Tn c → c.disc ≠ 0 → Q (.ref t) H'
abbrev s__law_curve : Stmt := topS 84
theorem sc__law_curve : FnScope ["m", "size", "lap", "five_v"] ["m", "size"] (defScope s__law_curve) := ⟨rfl, rfl, rfl, by decide +kernel, rfl, by decide +kernel, by decide +kernel⟩
theorem k_law_curve (T : Tx K mg) (D : Df K mg "_law_curve" s__law_curve ["m", "size"]) (c_law_between : Kl P w K mg base 2 "_law_between" (sp_law_between K)) (c_law_numbers : Kl P w K mg base 1 "_law_numbers" (sp_law_numbers K)) : Kl P w K mg base 3 "_law_curve" (sp_law_curve K) := by
  have nd := sc__law_curve.nd
  refine Kl.by_body D sc__law_curve (fun vs H Q E h => ?_) (fun f cdv A outer s H vs Q E hr h => ?_)
  · obtain ⟨_, _, _, _, rfl, _⟩ := h
    rfl
  · obtain ⟨m, cl, z, n, rfl, z0, z1, hn, hM, q⟩ := h
    have hu1 := hu_of hr
    refine ⟨_, (pss_cons (ps_for PassesOwn.never rfl (pi_range1 (by rfl) T.range (pa_cons pe_int pa_nil)) (pg_name (i := 2) nd rfl (by first | exact Or.inl rfl | exact Or.inr rfl)) (pss_cons (ps_set (i := 3) nd rfl (by first | exact Or.inl rfl | exact Or.inr rfl) (pe_tup (pa_cons (pe_k c_law_between  hr (by decide) (by rfl) (pa_cons (pv 0) (pa_cons pe_int pa_nil))) (pa_cons (pe_k c_law_between  hr (by decide) (by rfl) (pa_cons (pv 0) (pa_cons pe_int pa_nil))) (pa_cons (pe_k c_law_between  hr (by decide) (by rfl) (pa_cons (pv 0) (pa_cons pe_int pa_nil))) (pa_cons (pe_k c_law_between  hr (by decide) (by rfl) (pa_cons (pv 0) (pa_cons (pv 1) pa_nil))) (pa_cons (pe_op op_add (pe_k c_law_between  hr (by decide) (by rfl) (pa_cons (pv 0) (pa_cons (pv 1) pa_nil))) (pv 2)) pa_nil)))))))
      (pss_one (ps_if (pt_cmpR op_ne (pe_ix ix_tup (pe_k c_law_numbers  hr (by decide) (by rfl) (pa_cons (pv 3) pa_nil)) pe_int (fun _ _ => rfl)) pe_int (nomark _)) (pss_one (ps_ret (pv 3))) pss_nil))))
      (pss_one (ps_ret (pe_tup (pa_cons pe_int (pa_cons pe_int (pa_cons pe_int (pa_cons (pe_un un_neg pe_int) (pa_cons pe_int pa_nil))))))))), ?_⟩
    refine ⟨60, rfl, by decide, by decide, for_range (lo := 0) (n := 60) (fun i σ H2 => But m H H2 ∧ MAt H2 m cl (n + 5 * i) ∧ ∃ v1 v2 : Option V, σ = [some (.ref m), some (.int z), v1, v2]) ⟨But.refl m H, hM, none, none, rfl⟩ ?_ ?_⟩
    · rintro i σ H2 hi ⟨b2, m2, v1, v2, rfl⟩
      refine ⟨_, rfl, m, cl, 2, n + 5 * i, rfl, by decide, by decide, by omega, m2, fun H3 a1 b3 m3 a10 a11 => ?_⟩
      refine ⟨_, rfl, m, cl, 2, n + 5 * i + 1, rfl, by decide, by decide, by omega, m3, fun H4 a2 b4 m4 a20 a21 => ?_⟩
      refine ⟨_, rfl, m, cl, 2, n + 5 * i + 1 + 1, rfl, by decide, by decide, by omega, m4, fun H5 a3 b5 m5 a30 a31 => ?_⟩
      refine ⟨_, rfl, _, rfl, m, cl, z, n + 5 * i + 1 + 1 + 1, rfl, z0, by omega, by omega, m5, fun H6 a4 b6 m6 a40 a41 => ?_⟩
      refine ⟨_, rfl, _, rfl, m, cl, z, n + 5 * i + 1 + 1 + 1 + 1, rfl, z0, by omega, by omega, m6, fun H7 a6 b7 m7 a60 a61 => ?_⟩
      refine ⟨_, rfl, _, _, rfl, rfl, (by show 5 ≤ sizeLine; decide), fun f nf => ?_⟩
      have s8 := Same.new (H := H7) (p := f) (o := .tup [.int a1, .int a2, .int a3, .int a4, .int (a6 + (0 + (i : Int)))]) nf
      have g8 : upd H7 f (.tup [.int a1, .int a2, .int a3, .int a4, .int (a6 + (0 + (i : Int)))]) f = some (.tup [.int a1, .int a2, .int a3, .int a4, .int (a6 + (0 + (i : Int)))]) := upd_same
      generalize upd H7 f (.tup [.int a1, .int a2, .int a3, .int a4, .int (a6 + (0 + (i : Int)))]) = H8 at s8 g8 ⊢
      have q6 : -90 ≤ a6 + (0 + (i : Int)) ∧ a6 + (0 + (i : Int)) ≤ 90 := by omega
      generalize a6 + (0 + (i : Int)) = e6 at g8 q6
      obtain ⟨q60, q61⟩ := q6
      have g : SqT K H8 f (Cv.tup ⟨a1, a2, a3, a4, e6⟩) := tup_of g8
      have hB : Cv.Tn ⟨a1, a2, a3, a4, e6⟩ := ⟨by dsimp only; omega, by dsimp only; omega, by dsimp only; omega, by dsimp only; omega, by dsimp only; omega⟩
      have hS : Cv.Md ⟨a1, a2, a3, a4, e6⟩ := ⟨by unfold B; dsimp only; omega, by unfold B; dsimp only; omega, by unfold B; dsimp only; omega, by unfold B; dsimp only; omega, by unfold B; dsimp only; omega⟩
      have bA : But m H H8 := b2.trans (b3.trans (b4.trans (b5.trans (b6.trans (b7.trans (But.of s8))))))
      have m8 := m7.same s8
      clear b2 b3 b4 b5 b6 b7 m2 m3 m4 m5 m6 m7 s8 g8
      refine ⟨.ref f, rfl, f, _, rfl, g, hS, fun t nt => ?_⟩
      have st := Same.new (H := H8) (p := t) (o := .tup (Cv.nums ⟨a1, a2, a3, a4, e6⟩)) nt
      refine ⟨t, _, 6, .int (Cv.disc ⟨a1, a2, a3, a4, e6⟩), rfl, rfl, tup_of upd_same, rfl, rfl, _, rfl, ?_⟩
      rw [dec_int]
      by_cases h0 : Cv.disc ⟨a1, a2, a3, a4, e6⟩ = 0
      · refine iteN (by simp [h0]) ?_
        exact ⟨bA.trans (But.of st), (m8.same st).up (by omega), _, _, rfl⟩
      · refine iteY (by simp [h0]) ?_
        exact ⟨_, rfl, q _ f _ (bA.trans (But.of st)) ((m8.same st).up (by omega)) (Same.tup st g) hB h0⟩
    · rintro σ H2 ⟨b2, m2, v1, v2, rfl⟩
      refine ⟨_, rfl, (by show 5 ≤ sizeLine; decide), fun t nt => ?_⟩
      have st := Same.new (H := H2) (p := t) (o := .tup [.int 0, .int 0, .int 1, .int (-1), .int 0]) nt
      exact q _ t ⟨0, 0, 1, -1, 0⟩ (b2.trans (But.of st)) ((m2.same st).up (by omega)) (tup_of upd_same) ⟨by decide, by decide, by decide, by decide, by decide⟩ (by decide)
end
end K15
set_option Elab.async false
set_option linter.all false
set_option maxRecDepth 100000
set_option maxHeartbeats 4000000
namespace K15
open PySem PySem.Spec PyProof.Rows L2 Gd QM
/-! the change that u tells -/
def cS (c e : Cv) (u : Rat) : Rat := (u * (e.a1 : Rat) - (c.a1 : Rat)) / 2
def cR (c e : Cv) (u : Rat) : Rat := (u * u * (e.a2 : Rat) - (c.a2 : Rat) + cS c e u * (c.a1 : Rat) + cS c e u * cS c e u) / 3
def cT (c e : Cv) (u : Rat) : Rat := (u * u * u * (e.a3 : Rat) - (c.a3 : Rat) - cR c e u * (c.a1 : Rat)) / 2
section
variable {P : Program} {w : World} {K : PySem.W.Frag} {mg : Str → Option Value} {base : Heap}
local macro_rules | `(tactic| walk_at "mm") => `(tactic| (repeat (first | exact List.mem_cons_self | apply List.mem_cons_of_mem)))
/-! ### less, change_with -/
def sp_less : PySem.W.Frag → Sp := spBin (fun a b => True) (fun a b => a - b)
def sp_change_with (K : PySem.W.Frag) : Sp := fun vs H Q _ => ∃ (p o v : Addr) (c e : Cv) (u : Rat), vs = [.ref p, .ref o, .ref v] ∧ SqT K H p c.tup ∧ SqT K H o e.tup ∧ c.Md ∧ e.Md ∧ SqT K H v (fq u) ∧ RB 160 u ∧
  ∀ H' t pr ps pt, Same H H' → H' t = some (.tup [.ref v, .ref pr, .ref ps, .ref pt]) → SqT K H' pr (fq (cR c e u)) → SqT K H' ps (fq (cS c e u)) → SqT K H' pt (fq (cT c e u)) → Q (.ref t) H'
end
end K15
set_option Elab.async false
set_option linter.all false
set_option maxRecDepth 100000
set_option maxHeartbeats 4000000
namespace K15
open PySem PySem.Spec PyProof.Rows L2 Gd QM K08M
/-- the turns of a walk over a range within a block of two walks -/
theorem turns {lo : Int} {n : Nat} {Hs : Hp} {Qd : Hp → Prop} {Bd : V → Hp → (Hp → Prop) → Prop} (Pv : Nat → Hp → Prop) (h0 : Pv 0 Hs) (hs : ∀ i H, i < n → Pv i H → Bd (.int (lo + i)) H (Pv (i + 1))) (hd : ∀ H, Pv n H → Qd H) :
    ∃ W : Nat → Nat → Hp → Prop, (∃ m, W 0 m Hs) ∧ ∀ i m H, W i m H →
      ((Itr lo n).stop i H ∧ Qd H) ∨ ((Itr lo n).go i H ∧ ∃ Nx : Hp → Prop, (∀ H', Nx H' → ∃ m', m' < m ∧ W (i + 1) m' H') ∧ ∀ x H', (Itr lo n).yld i H x H' → Bd x H' Nx) := by
  refine ⟨fun i m H => m = n - i ∧ i ≤ n ∧ Pv i H, ⟨n, by simp, Nat.zero_le _, h0⟩, ?_⟩
  rintro i m H ⟨rfl, hi, p⟩
  by_cases hlt : i < n
  · refine .inr ⟨hlt, Pv (i + 1), fun H' p' => ⟨n - (i + 1), by omega, rfl, hlt, p'⟩, fun x H' y => ?_⟩
    obtain ⟨e, y⟩ := y
    subst e y
    exact hs i _ hlt p
  · have e : i = n := by omega
    subst e
    exact .inl ⟨Nat.le_refl _, hd H p⟩
/-- the numbers that are tried -/
def rowL (i b : Nat) : List Int := (List.range b).map fun j => ((2 ^ i * 3 ^ j : Nat) : Int)
def prodL (a b : Nat) : List Int := (List.range a).flatMap fun i => rowL i b
theorem prodL_succ (a b : Nat) : prodL (a + 1) b = prodL a b ++ rowL a b := by
  unfold prodL
  rw [List.range_succ, List.flatMap_append]
  simp
theorem rowL_succ (i b : Nat) : rowL i (b + 1) = rowL i b ++ [((2 ^ i * 3 ^ b : Nat) : Int)] := by
  unfold rowL
  rw [List.range_succ, List.map_append]
  rfl
theorem rowL_len (i b : Nat) : (rowL i b).length = b := by
  unfold rowL
  rw [List.length_map, List.length_range]
theorem prodL_len (a b : Nat) : (prodL a b).length = a * b := by
  induction a with
  | zero => simp [prodL]
  | succ a ih => rw [prodL_succ, List.length_append, ih, rowL_len, Nat.add_mul, Nat.one_mul]
theorem mem_prodL {a b : Nat} {x : Int} : x ∈ prodL a b ↔ ∃ i j, i < a ∧ j < b ∧ x = ((2 ^ i * 3 ^ j : Nat) : Int) := by
  unfold prodL rowL
  rw [List.mem_flatMap]
  constructor
  · rintro ⟨i, hi, h⟩
    obtain ⟨j, hj, rfl⟩ := List.mem_map.mp h
    exact ⟨i, j, List.mem_range.mp hi, List.mem_range.mp hj, rfl⟩
  · rintro ⟨i, j, hi, hj, rfl⟩
    exact ⟨i, List.mem_range.mpr hi, List.mem_map.mpr ⟨j, List.mem_range.mpr hj, rfl⟩⟩
theorem pw4 (y X : Int) : y ^ 4 * X = y * y * y * y * X := by grind
theorem pw6 (y X : Int) : y ^ 6 * X = y * y * y * y * y * y * X := by grind
theorem isp_curve {x y : Int} : IsP x y ↔ ∃ d, curveOf x y = some d := by
  constructor
  · rintro ⟨d, hr, h4, h6, hd⟩
    exact ⟨d, by rw [← h4, ← h6]; exact curve_rc hr hd⟩
  · rintro ⟨d, h⟩
    obtain ⟨h1, h2⟩ := curve_some h
    exact ⟨d, h1, h2⟩
theorem pw_B {p i : Nat} (hp : p ≤ 3) (h : i ≤ 7) : B 12 ((p : Int) ^ (0 + (i : Int)).toNat) := by
  have e : (0 + (i : Int)).toNat = i := by omega
  rw [e]
  unfold B
  rw [Int.natAbs_pow, Int.natAbs_natCast]
  have h1 : p ^ i ≤ 3 ^ i := Nat.pow_le_pow_left hp i
  have h2 : 3 ^ i ≤ 3 ^ 7 := Nat.pow_le_pow_right (by decide) h
  omega
theorem pow_le7 {p a : Nat} (hp : 2 ≤ p) (h : p ^ a ≤ 177) : a ≤ 7 := by
  rcases Nat.lt_or_ge 7 a with z | z
  · exfalso
    have h1 : 2 ^ 8 ≤ 2 ^ a := Nat.pow_le_pow_right (by decide) z
    have h2 : 2 ^ a ≤ p ^ a := Nat.pow_le_pow_left hp a
    omega
  · exact z
theorem most_le {c4 c6 A C : Int} {u : Nat} (e4 : c4 = (u : Int) ^ 4 * A) (e6 : c6 = (u : Int) ^ 6 * C) (hz : ¬ (c4 = 0 ∧ c6 = 0)) (h4 : c4.natAbs ≤ 1000000000) (h6 : c6.natAbs ≤ 10000000000000) : u ≤ 177 := by
  rcases Nat.lt_or_ge 177 u with z | z
  · exfalso
    have k4 : 178 ^ 4 ≤ u ^ 4 := Nat.pow_le_pow_left z 4
    have k6 : 178 ^ 6 ≤ u ^ 6 := Nat.pow_le_pow_left z 6
    have n4 : c4.natAbs = u ^ 4 * A.natAbs := by rw [e4, Int.natAbs_mul, Int.natAbs_pow, Int.natAbs_natCast]
    have n6 : c6.natAbs = u ^ 6 * C.natAbs := by rw [e6, Int.natAbs_mul, Int.natAbs_pow, Int.natAbs_natCast]
    by_cases A0 : A.natAbs = 0
    · by_cases C0 : C.natAbs = 0
      · rw [A0, Nat.mul_zero] at n4
        rw [C0, Nat.mul_zero] at n6
        omega
      · have := Nat.le_mul_of_pos_right (u ^ 6) (Nat.pos_of_ne_zero C0)
        omega
    · have := Nat.le_mul_of_pos_right (u ^ 4) (Nat.pos_of_ne_zero A0)
      omega
  · exact z
section
variable {P : Program} {w : World} {K : PySem.W.Frag} {mg : Str → Option Value} {base : Heap}
/-! ### the least model and its scale -/
/-- the greatest scale and the curve there -/
structure Lst (c4 c6 : Int) (v : Nat) (d : Cv) : Prop where
  v0 : 0 < v
  all : ∀ u, Lets c4 c6 u ↔ 0 < u ∧ u ∣ v
  at_ : ∃ x y, c4 = (v : Int) ^ 4 * x ∧ c6 = (v : Int) ^ 6 * y ∧ curveOf x y = some d
def sp_least_and_scale (K : PySem.W.Frag) : Sp := fun vs H Q _ => ∃ (p : Addr) (c : Cv), vs = [.ref p] ∧ SqT K H p c.tup ∧ c.Md ∧ c.disc ≠ 0 ∧ c.c4.natAbs ≤ 1000000000 ∧ c.c6.natAbs ≤ 10000000000000 ∧
  ∀ H' t l v d, Same H H' → H' t = some (.tup [.ref l, .int ((v : Nat) : Int)]) → H' l = some (.tup (Cv.tup d)) → Lst c.c4 c.c6 v d → Q (.ref t) H'
abbrev s_least_and_scale : Stmt := topS 48
theorem sc_least_and_scale : FnScope ["curve", "_", "c4", "c6", "most", "twos", "threes", "left_out", "i", "j", "u", "fourth", "least"] ["curve"] (defScope s_least_and_scale) := ⟨rfl, rfl, rfl, by decide +kernel, rfl, by decide +kernel, by decide +kernel⟩
theorem k_least_and_scale (T : Tx K mg) (D : Df K mg "least_and_scale" s_least_and_scale ["curve"]) (c_numbers_of : Kl P w K mg base 2 "numbers_of" (sp_numbers_of K)) (c_greatest_scale : Kl P w K mg base 8 "greatest_scale" (sp_greatest_scale K)) (c_valuation : Kl P w K mg base 1 "valuation" (sp_valuation K)) (c_curve_of : Kl P w K mg base 3 "curve_of" (sp_curve_of K)) (c_power : Kl P w K mg base 1 "power" (sp_power K)) : Kl P w K mg base 9 "least_and_scale" (sp_least_and_scale K) := by
  have nd := sc_least_and_scale.nd
  refine Kl.by_body D sc_least_and_scale (fun vs H Q E h => ?_) (fun f cdv A outer s H vs Q E hr h => ?_)
  · obtain ⟨_, _, rfl, _⟩ := h
    rfl
  · obtain ⟨p, c, rfl, hx, hm, hd, h4, h6, q⟩ := h
    have hu1 := hu_of hr
    refine ⟨_, (pss_cons (ps_asg (pe_k c_numbers_of  hr (by decide) (by rfl) (pa_cons (pv 0) pa_nil)) (pg_tup rfl (pgs_cons (pg_name (i := 1) nd rfl (by first | exact Or.inl rfl | exact Or.inr rfl)) (pgs_cons (pg_name (i := 1) nd rfl (by first | exact Or.inl rfl | exact Or.inr rfl)) (pgs_cons (pg_name (i := 1) nd rfl (by first | exact Or.inl rfl | exact Or.inr rfl)) (pgs_cons (pg_name (i := 1) nd rfl (by first | exact Or.inl rfl | exact Or.inr rfl)) (pgs_cons (pg_name (i := 2) nd rfl (by first | exact Or.inl rfl | exact Or.inr rfl)) (pgs_cons (pg_name (i := 3) nd rfl (by first | exact Or.inl rfl | exact Or.inr rfl)) (pgs_cons (pg_name (i := 1) nd rfl (by first | exact Or.inl rfl | exact Or.inr rfl)) pgs_nil)))))))))
      (pss_cons (ps_set (i := 4) nd rfl (by first | exact Or.inl rfl | exact Or.inr rfl) (pe_k c_greatest_scale  hr (by decide) (by rfl) (pa_cons (pv 2) (pa_cons (pv 3) pa_nil))))
      (pss_cons (ps_asg (pe_tup (pa_cons (pe_k c_valuation  hr (by decide) (by rfl) (pa_cons (pv 4) (pa_cons pe_int pa_nil))) (pa_cons (pe_k c_valuation  hr (by decide) (by rfl) (pa_cons (pv 4) (pa_cons pe_int pa_nil))) pa_nil))) (pg_tup rfl (pgs_cons (pg_name (i := 5) nd rfl (by first | exact Or.inl rfl | exact Or.inr rfl)) (pgs_cons (pg_name (i := 6) nd rfl (by first | exact Or.inl rfl | exact Or.inr rfl)) pgs_nil))))
      (pss_one (ps_for PassesOwn.never rfl (pi_list (pe_callB cr_sortedI (by rfl) T.sorted (by decide +kernel) (pa_cons (pe_lc2 (own := [("i", 8), ("j", 9)]) (vs1 := [9]) (g := gName 8) (g1 := gName 9) rfl nd (pi_range1 (by rfl) T.range (pa_cons (pe_op op_add (pv 5) pe_int) pa_nil)) (blkOk_by (N := ["curve", "_", "c4", "c6", "most", "twos", "threes", "left_out", "i", "j", "u", "fourth", "least"]) (sc := defScope s_least_and_scale) (by decide +kernel)) (by decide) (fun _ _ _ _ _ => (pg_name (i := 8) nd rfl (by first | exact Or.inl rfl | exact Or.inr rfl))) (fun _ _ _ _ _ => pts_nil) (fun _ _ _ _ _ => (pi_range1 (by rfl) T.range (pa_cons (pe_op op_add (pv 6) pe_int) pa_nil))) (fun _ _ _ _ _ => (pg_name (i := 9) nd rfl (by first | exact Or.inl rfl | exact Or.inr rfl))) (fun _ _ _ _ _ => pts_nil) (fun _ _ _ _ _ => (pe_op op_mulW (pe_k c_power  hr (by decide) (by rfl) (pa_cons pe_int (pa_cons (pv 8) pa_nil))) (pe_k c_power  hr (by decide) (by rfl) (pa_cons pe_int (pa_cons (pv 9) pa_nil)))))) pa_nil))) (pg_name (i := 7) nd rfl (by first | exact Or.inl rfl | exact Or.inr rfl)) (pss_cons (ps_set (i := 10) nd rfl (by first | exact Or.inl rfl | exact Or.inr rfl) (pe_op op_fdivAny (pv 4) (pv 7)))
      (pss_cons (ps_set (i := 11) nd rfl (by first | exact Or.inl rfl | exact Or.inr rfl) (pe_op op_mulW (pe_op op_mulW (pe_op op_mulW (pv 10) (pv 10)) (pv 10)) (pv 10)))
      (pss_cons (ps_set (i := 12) nd rfl (by first | exact Or.inl rfl | exact Or.inr rfl) (pe_k c_curve_of  hr (by decide) (by rfl) (pa_cons (pe_op op_fdivAny (pv 2) (pv 11)) (pa_cons (pe_op op_fdivAny (pv 3) (pe_op op_mulW (pe_op op_mulW (pv 11) (pv 10)) (pv 10))) pa_nil))))
      (pss_one (ps_if (pt_cmpR op_notN (pv 12) pe_non (nomark _)) (pss_one (ps_ret (pe_tup (pa_cons (pv 12) (pa_cons (pv 10) pa_nil))))) pss_nil)))))))))), ?_⟩
    have hz : ¬ (c.c4 = 0 ∧ c.c6 = 0) := by
      rintro ⟨z1, z2⟩
      have := disc_eq c
      rw [z1, z2] at this
      omega
    have hp1 : Lets c.c4 c.c6 1 := ⟨by decide, c.c4, c.c6, by simp, by simp, red c, red_rc c, red_c4 c, red_c6 c, red_d hd⟩
    obtain ⟨v, lv, hv⟩ := lets_of hz hp1
    have pb : PB c.c4 c.c6 := ⟨hz, by omega, by omega⟩
    refine ⟨.ref p, rfl, p, c, rfl, hx, hm, fun t nt => ?_⟩
    have s1 := Same.new (H := H) (p := t) (o := .tup c.nums) nt
    have g1 : upd H t (.tup c.nums) t = some (.tup c.nums) := upd_same
    generalize upd H t (.tup c.nums) = H1 at s1 g1 ⊢
    refine ⟨t, _, rfl, tup_of g1, rfl, _, _, rfl, _, _, rfl, _, _, rfl, _, _, rfl, _, _, rfl, _, _, rfl, _, _, rfl, rfl, ?_⟩
    first | refine sigN [some (.ref p), some (.int (c.disc)), some (.int (c.c4)), some (.int (c.c6)), none, none, none, none, none, none, none, none, none] (by rfl) ?_ | refine sig [some (.ref p), some (.int (c.disc)), some (.int (c.c4)), some (.int (c.c6)), none, none, none, none, none, none, none, none, none] (by rfl) ?_
    refine ⟨_, rfl, _, rfl, c.c4, c.c6, rfl, pb, fun u A C H2 s2 u0 e4 e6 sh => ?_⟩
    first | refine sigN [some (.ref p), some (.int (c.disc)), some (.int (c.c4)), some (.int (c.c6)), some (.int ((u : Int))), none, none, none, none, none, none, none, none] (by rfl) ?_ | refine sig [some (.ref p), some (.int (c.disc)), some (.int (c.c4)), some (.int (c.c6)), some (.int ((u : Int))), none, none, none, none, none, none, none, none] (by rfl) ?_
    obtain ⟨a, m1, hu, m2, m10⟩ := val_is (p := 2) (by decide) u0
    obtain ⟨b, m, hm1, m3, m0⟩ := val_is (p := 3) (by decide) m10
    have m2' : ¬ 2 ∣ m := fun d => m2 (by rw [hm1]; exact Nat.dvd_trans d (Nat.dvd_mul_left m (3 ^ b)))
    have hu3 : u = 3 ^ b * (2 ^ a * m) := by rw [hu, hm1]; ac_rfl
    have m3' : ¬ 3 ∣ 2 ^ a * m := fun d => m3 ((Nat.Coprime.pow_right a (show Nat.Coprime 3 2 by decide)).dvd_of_dvd_mul_left d)
    obtain ⟨i0, j0, hi0, hj0, huv⟩ := most_is hp1 hz u0 e4 e6 sh hv lv.1 (by rw [hu, hm1]) m2' m3
    refine ⟨_, rfl, 2, a, (u : Int), (m1 : Int), rfl, by rw [show (u : Int) = ((2 ^ a * m1 : Nat) : Int) from congrArg _ hu, Int.natCast_mul, Int.natCast_pow], by decide, by decide, fun z => m2 (Int.natCast_dvd_natCast.mp z), _, rfl, 3, b, (u : Int), ((2 ^ a * m : Nat) : Int), rfl, by rw [show (u : Int) = ((3 ^ b * (2 ^ a * m) : Nat) : Int) from congrArg _ hu3, Int.natCast_mul (3 ^ b), Int.natCast_pow], by decide, by decide, fun z => m3' (Int.natCast_dvd_natCast.mp z), (by show 2 ≤ sizeLine; decide), fun t2 nt2 => ?_⟩
    have s3 := Same.new (H := H2) (p := t2) (o := .tup [.int (a : Int), .int (b : Int)]) nt2
    have g3 : upd H2 t2 (.tup [.int (a : Int), .int (b : Int)]) t2 = some (.tup [.int (a : Int), .int (b : Int)]) := upd_same
    generalize upd H2 t2 (.tup [.int (a : Int), .int (b : Int)]) = H3 at s3 g3 ⊢
    refine ⟨t2, _, rfl, tup_of g3, rfl, _, _, rfl, _, _, rfl, rfl, ?_⟩
    first | refine sigN [some (.ref p), some (.int (c.disc)), some (.int (c.c4)), some (.int (c.c6)), some (.int ((u : Int))), some (.int ((a : Int))), some (.int ((b : Int))), none, none, none, none, none, none] (by rfl) ?_ | refine sig [some (.ref p), some (.int (c.disc)), some (.int (c.c4)), some (.int (c.c6)), some (.int ((u : Int))), some (.int ((a : Int))), some (.int ((b : Int))), none, none, none, none, none, none] (by rfl) ?_
    have sA := s1.trans (s2.trans s3)
    clear s1 s2 s3 g1 g3
    have ule : u ≤ 177 := most_le e4 e6 hz h4 h6
    have ale : a ≤ 7 := pow_le7 (p := 2) (by decide) (Nat.le_trans (Nat.le_of_dvd u0 ⟨m1, hu⟩) ule)
    have ble : b ≤ 7 := pow_le7 (p := 3) (by decide) (Nat.le_trans (Nat.le_of_dvd u0 ⟨_, hu3⟩) ule)
    refine ⟨_, rfl, _, _, rfl, rfl, (a : Int) + 1, rfl, by omega, by omega, fun D hD => ?_⟩
    refine turns (lo := 0) (n := a + 1) (fun i H5 => Same H3 H5 ∧ H5 D = some (.lst ((prodL i (b + 1)).map V.int))) ⟨Same.new hD, upd_same⟩ (fun i H5 hi z => ?_) (fun H5 z => ?_)
    · refine ⟨rfl, _, rfl, _, _, rfl, rfl, (b : Int) + 1, rfl, by omega, by omega, ?_⟩
      refine turns (lo := 0) (n := b + 1) (fun j H6 => Same H3 H6 ∧ H6 D = some (.lst ((prodL i (b + 1) ++ rowL i j).map V.int))) ⟨z.1, by rw [z.2, show rowL i 0 = [] from rfl, List.append_nil]⟩ (fun j H6 hj y => ?_) (fun H6 y => ⟨y.1, by rw [prodL_succ]; exact y.2⟩)
      refine ⟨rfl, _, rfl, 2, 0 + (i : Int), rfl, by omega, by omega, B.lit (n := 8) (by decide) |>.up (by decide), _, rfl, 3, 0 + (j : Int), rfl, by omega, by omega, B.lit (n := 8) (by decide) |>.up (by decide), ?_⟩
      have e2 : (0 + (i : Int)).toNat = i := by omega
      have e3 : (0 + (j : Int)).toNat = j := by omega
      have eL : (i * (b + 1)) ≤ 8 * 8 := Nat.mul_le_mul (by omega) (by omega)
      refine ⟨_, _, rfl, rfl, B.mulW (pw_B (p := 2) (by decide) (by omega)) (pw_B (p := 3) (by decide) (by omega)) (by decide), _, y.2, by rw [List.length_map, List.length_append, prodL_len, rowL_len]; exact small1000 (by omega), Same.put y.1 hD, ?_⟩
      rw [upd_same, rowL_succ, ← List.append_assoc, e2, e3]
      simp only [List.map_append, List.map_cons, List.map_nil, Int.natCast_mul, Int.natCast_pow]
      rfl
    obtain ⟨s5, gD⟩ := z
    refine ⟨D, prodL (a + 1) (b + 1), rfl, lst_of gD, fun ns l perm pw nl => ?_⟩
    have s6 := Same.new (H := H5) (p := l) (o := .lst (ns.map V.int)) nl
    have gl : upd H5 l (.lst (ns.map V.int)) l = some (.lst (ns.map V.int)) := upd_same
    generalize upd H5 l (.lst (ns.map V.int)) = H6 at s6 gl ⊢
    have sB := sA.trans (s5.trans s6)
    have ht0 : ((2 ^ i0 * 3 ^ j0 : Nat) : Int) ∈ ns := perm.symm.subset (mem_prodL.mpr ⟨i0, j0, by omega, by omega, rfl⟩)
    have hin : ∀ z ∈ ns, ∃ x : Nat, z = (x : Int) ∧ 0 < x ∧ x ∣ u := fun z hz => by
      obtain ⟨i, j, hi, hj, rfl⟩ := mem_prodL.mp (perm.subset hz)
      refine ⟨_, rfl, Nat.mul_pos (Nat.pow_pos (by decide)) (Nat.pow_pos (by decide)), ?_⟩
      have d1 : 2 ^ i ∣ 2 ^ a := Nat.pow_dvd_pow 2 (by omega)
      have d2 : 3 ^ j ∣ 3 ^ b := Nat.pow_dvd_pow 3 (by omega)
      rw [hu, hm1, ← Nat.mul_assoc]
      exact Nat.dvd_trans (Nat.mul_dvd_mul d1 d2) (Nat.dvd_mul_right _ m)
    generalize ht : 2 ^ i0 * 3 ^ j0 = t0 at ht0 huv
    clear s5 s6 sA gD perm
    refine ⟨l, rfl, ⟨_, lst_of gl⟩, for_list (K := K) (a := l) (xs := ns.map V.int) (fun k σ H7 => Same H6 H7 ∧ (∀ x ∈ ns.take k, ¬ (t0 : Int) ∣ x) ∧ ∃ v7 v10 v11 v12 : Option V, σ = [some (.ref p), some (.int c.disc), some (.int c.c4), some (.int c.c6), some (.int (u : Int)), some (.int (a : Int)), some (.int (b : Int)), v7, none, none, v10, v11, v12]) ⟨Same.refl _, (by intro x hx; cases hx), none, none, none, none, rfl⟩ (fun k σ H7 _ z => lst_of (z.1 _ _ gl)) ?_ ?_⟩
    · rintro k x σ H7 hk ⟨s7, hno, v7, v10, v11, v12, rfl⟩
      obtain ⟨z, rfl, hzk⟩ : ∃ z, x = V.int z ∧ ns[k]? = some z := by
        rw [List.getElem?_map] at hk
        cases e : ns[k]? with
        | none =>
          rw [e] at hk
          cases hk
        | some y =>
          rw [e] at hk
          exact ⟨y, (Option.some.inj hk).symm, rfl⟩
      obtain ⟨x, rfl, x0, y, hxy⟩ := hin z (List.mem_of_getElem? hzk)
      have xI : (x : Int) ≠ 0 := by omega
      have y0 : 0 < y := Nat.pos_of_ne_zero fun z => by
        rw [z, Nat.mul_zero] at hxy
        omega
      have yI : (y : Int) ≠ 0 := by omega
      have yle : y ≤ 177 := Nat.le_trans (Nat.le_of_dvd u0 ⟨x, by rw [hxy]; ac_rfl⟩) ule
      have xle : x ≤ 177 := Nat.le_trans (Nat.le_of_dvd u0 ⟨y, hxy⟩) ule
      have bx : B 8 (x : Int) := by unfold B; omega
      have by8 : B 8 (y : Int) := by unfold B; omega
      have eu : (u : Int).fdiv (x : Int) = (y : Int) := by
        rw [hxy, Int.natCast_mul]
        exact Int.mul_fdiv_cancel_left _ xI
      first | refine sigN [some (.ref p), some (.int (c.disc)), some (.int (c.c4)), some (.int (c.c6)), some (.int ((u : Int))), some (.int ((a : Int))), some (.int ((b : Int))), some (.int ((x : Int))), none, none, v10, v11, v12] (by rfl) ?_ | refine sig [some (.ref p), some (.int (c.disc)), some (.int (c.c4)), some (.int (c.c6)), some (.int ((u : Int))), some (.int ((a : Int))), some (.int ((b : Int))), some (.int ((x : Int))), none, none, v10, v11, v12] (by rfl) ?_
      refine ⟨_, rfl, _, rfl, (u : Int), (x : Int), rfl, rfl, div_any xI bx (by decide), ?_⟩
      refine sigN [some (.ref p), some (.int c.disc), some (.int c.c4), some (.int c.c6), some (.int (u : Int)), some (.int (a : Int)), some (.int (b : Int)), some (.int (x : Int)), none, none, some (.int (y : Int)), v11, v12] (by rw [← eu]; rfl) ?_
      have b2 := by8.mul by8
      have b3 := b2.mul by8
      have b4 := b3.mul by8
      have b5 := b4.mul by8
      have b6 := b5.mul by8
      refine ⟨_, rfl, _, rfl, _, _, rfl, rfl, by8.mulW by8 (by decide), _, rfl, _, _, rfl, rfl, b2.mulW by8 (by decide), _, rfl, _, _, rfl, rfl, b3.mulW by8 (by decide), ?_⟩
      first | refine sigN [some (.ref p), some (.int (c.disc)), some (.int (c.c4)), some (.int (c.c6)), some (.int ((u : Int))), some (.int ((a : Int))), some (.int ((b : Int))), some (.int ((x : Int))), none, none, some (.int ((y : Int))), some (.int ((y : Int) * (y : Int) * (y : Int) * (y : Int))), v12] (by rfl) ?_ | refine sig [some (.ref p), some (.int (c.disc)), some (.int (c.c4)), some (.int (c.c6)), some (.int ((u : Int))), some (.int ((a : Int))), some (.int ((b : Int))), some (.int ((x : Int))), none, none, some (.int ((y : Int))), some (.int ((y : Int) * (y : Int) * (y : Int) * (y : Int))), v12] (by rfl) ?_
      have n4 : (y : Int) * y * y * y ≠ 0 := Int.mul_ne_zero (Int.mul_ne_zero (Int.mul_ne_zero yI yI) yI) yI
      have n6 : (y : Int) * y * y * y * y * y ≠ 0 := Int.mul_ne_zero (Int.mul_ne_zero n4 yI) yI
      have k4 : c.c4 = (y : Int) * y * y * y * ((x : Int) ^ 4 * A) := by
        rw [e4, hxy, Int.natCast_mul]
        grind
      have k6 : c.c6 = (y : Int) * y * y * y * y * y * ((x : Int) ^ 6 * C) := by
        rw [e6, hxy, Int.natCast_mul]
        grind
      have f4 : c.c4.fdiv ((y : Int) * y * y * y) = (x : Int) ^ 4 * A := by
        rw [k4]
        exact Int.mul_fdiv_cancel_left _ n4
      have f6 : c.c6.fdiv ((y : Int) * y * y * y * y * y) = (x : Int) ^ 6 * C := by
        rw [k6]
        exact Int.mul_fdiv_cancel_left _ n6
      have g4 : B 100 (c.c4.fdiv ((y : Int) * y * y * y)) := by
        rw [f4]
        have : ((x : Int) ^ 4 * A).natAbs ≤ c.c4.natAbs := by
          have e := congrArg Int.natAbs k4
          rw [Int.natAbs_mul] at e
          rw [e]
          exact Nat.le_mul_of_pos_left _ (Int.natAbs_pos.mpr n4)
        unfold B
        omega
      have g6 : B 120 (c.c6.fdiv ((y : Int) * y * y * y * y * y)) := by
        rw [f6]
        have : ((x : Int) ^ 6 * C).natAbs ≤ c.c6.natAbs := by
          have e := congrArg Int.natAbs k6
          rw [Int.natAbs_mul] at e
          rw [e]
          exact Nat.le_mul_of_pos_left _ (Int.natAbs_pos.mpr n6)
        unfold B
        omega
      have hL : Lets c.c4 c.c6 y ↔ ∃ d, curveOf ((x : Int) ^ 4 * A) ((x : Int) ^ 6 * C) = some d := by
        rw [← isp_curve]
        constructor
        · rintro ⟨-, X, Y, r4, r6, hp⟩
          obtain rfl : X = (x : Int) ^ 4 * A := Int.eq_of_mul_eq_mul_left n4 (by rw [← k4, r4, pw4])
          obtain rfl : Y = (x : Int) ^ 6 * C := Int.eq_of_mul_eq_mul_left n6 (by rw [← k6, r6, pw6])
          exact hp
        · exact fun hp => ⟨y0, _, _, by rw [pw4]; exact k4, by rw [pw6]; exact k6, hp⟩
      refine ⟨_, rfl, _, rfl, c.c4, _, rfl, rfl, div_any n4 b4 (by decide), _, rfl, _, rfl, _, rfl, _, _, rfl, rfl, b4.mulW by8 (by decide), _, rfl, _, _, rfl, rfl, b5.mulW by8 (by decide), c.c6, _, rfl, rfl, div_any n6 b6 (by decide), _, _, rfl, g4, g6, fun hn H8 s8 => ?_, fun d t8 H8 hd8 s8 g8 => ?_⟩
      · rw [f4, f6] at hn
        refine ⟨_, rfl, rfl, _, rfl, iteN (by simp) ?_⟩
        refine ⟨s7.trans s8, fun x' hx' => ?_, _, _, _, _, rfl⟩
        rw [List.take_add_one, hzk] at hx'
        rcases List.mem_append.mp hx' with q1 | q1
        · exact hno x' q1
        · have : x' = (x : Int) := by simpa using q1
          rw [this]
          intro dv
          obtain ⟨s, hs⟩ := Int.natCast_dvd_natCast.mp dv
          have t00 : 0 < t0 := Nat.pos_of_ne_zero fun z => by
            rw [z, Nat.zero_mul] at hs
            omega
          have ev : v = y * s := Nat.eq_of_mul_eq_mul_right t00 (by rw [← huv, hxy, hs]; ac_rfl)
          obtain ⟨d, hd9⟩ := hL.mp ((hv y).mpr ⟨y0, s, ev⟩)
          rw [hn] at hd9
          cases hd9
      · rw [f4, f6] at hd8
        refine ⟨_, rfl, rfl, _, rfl, iteY (by simp) ?_⟩
        refine ⟨_, rfl, _, rfl, (by show 2 ≤ sizeLine; decide), fun t9 n9 => ?_⟩
        have ly := hL.mpr ⟨d, hd8⟩
        obtain ⟨s, hs⟩ := ((hv y).mp ly).2
        have ex : x = s * t0 := Nat.eq_of_mul_eq_mul_right y0 (by rw [← hxy, huv, hs]; ac_rfl)
        have et : x = t0 := by
          obtain ⟨k', hk'⟩ := List.mem_iff_getElem?.mp ht0
          rcases Nat.lt_trichotomy k' k with w1 | w1 | w1
          · exfalso
            refine hno (t0 : Int) (List.mem_iff_getElem?.mpr ⟨k', by rw [List.getElem?_take_of_lt w1]; exact hk'⟩) (Int.dvd_refl _)
          · rw [w1, hzk] at hk'
            have := Option.some.inj hk'
            omega
          · have le : (x : Int) ≤ (t0 : Int) := by
              obtain ⟨q1, r1⟩ := List.getElem?_eq_some_iff.mp hzk
              obtain ⟨q2, r2⟩ := List.getElem?_eq_some_iff.mp hk'
              rw [← r1, ← r2]
              exact List.pairwise_iff_getElem.mp pw k k' q1 q2 w1
            have le2 : t0 ≤ x := Nat.le_of_dvd x0 ⟨s, by rw [ex]; ac_rfl⟩
            omega
        have ev : v = y := by
          have t00 : 0 < t0 := by omega
          exact Nat.eq_of_mul_eq_mul_right t00 (by rw [← huv, hxy, et]; ac_rfl)
        have s9 := Same.new (o := .tup [.ref t8, .int (y : Int)]) n9
        refine q _ t9 t8 y d (sB.trans (s7.trans (s8.trans s9))) upd_same (s9 _ _ g8) ⟨y0, fun u' => ?_, _, _, ?_, ?_, hd8⟩
        · rw [hv u', ev]
        · rw [pw4]
          exact k4
        · rw [pw6]
          exact k6
    · rintro σ H7 ⟨s7, hno, -⟩
      exfalso
      rw [List.length_map, List.take_length] at hno
      exact hno _ ht0 (Int.dvd_refl _)
end
end K15
set_option Elab.async false
set_option linter.all false
set_option maxRecDepth 100000
set_option maxHeartbeats 4000000
namespace K15
open PySem PySem.Spec PyProof.Rows L2 Gd QM K08M
instance : DecidableEq Cv := fun a b => decidable_of_iff (a.a1 = b.a1 ∧ a.a2 = b.a2 ∧ a.a3 = b.a3 ∧ a.a4 = b.a4 ∧ a.a6 = b.a6) ⟨fun ⟨h1, h2, h3, h4, h6⟩ => by
  obtain ⟨a1, a2, a3, a4, a6⟩ := a
  obtain ⟨b1, b2, b3, b4, b6⟩ := b
  simp only at h1 h2 h3 h4 h6
  rw [h1, h2, h3, h4, h6], fun h => by subst h; exact ⟨rfl, rfl, rfl, rfl, rfl⟩⟩
def dcv (c : Cv) : PyData := .tuple [.int c.a1, .int c.a2, .int c.a3, .int c.a4, .int c.a6]
theorem dp_cv {K : PySem.W.Frag} {H : Hp} {p : Addr} {c : Cv} (h : SqT K H p c.tup) : Dp K H (.ref p) (dcv c) := .tup h (.cons (.int _) (.cons (.int _) (.cons (.int _) (.cons (.int _) (.cons (.int _) .nil)))))
/-- what the walk asks of a curve -/
structure Cv.Ok (c : Cv) : Prop where
  md : c.Md
  d : c.disc ≠ 0
  h4 : c.c4.natAbs ≤ 1000000000
  h6 : c.c6.natAbs ≤ 10000000000000
theorem Lst.rc {c4 c6 : Int} {v : Nat} {d : Cv} (h : Lst c4 c6 v d) : Rc d := by
  obtain ⟨x, y, -, -, e⟩ := h.at_
  exact (curve_some e).1
theorem Lst.nums {c4 c6 : Int} {v : Nat} {d : Cv} (h : Lst c4 c6 v d) : c4 = (v : Int) ^ 4 * d.c4 ∧ c6 = (v : Int) ^ 6 * d.c6 ∧ d.disc ≠ 0 := by
  obtain ⟨x, y, h4, h6, e⟩ := h.at_
  obtain ⟨-, f4, f6, hd⟩ := curve_some e
  rw [f4, f6]
  exact ⟨h4, h6, hd⟩
theorem Lst.le {c4 c6 : Int} {v : Nat} {d : Cv} (h : Lst c4 c6 v d) : d.c4.natAbs ≤ c4.natAbs ∧ d.c6.natAbs ≤ c6.natAbs := by
  obtain ⟨h4, h6, -⟩ := h.nums
  have v4 : 0 < v ^ 4 := Nat.pow_pos h.v0
  have v6 : 0 < v ^ 6 := Nat.pow_pos h.v0
  constructor
  · rw [h4, Int.natAbs_mul, Int.natAbs_pow, Int.natAbs_natCast]
    exact Nat.le_mul_of_pos_left _ v4
  · rw [h6, Int.natAbs_mul, Int.natAbs_pow, Int.natAbs_natCast]
    exact Nat.le_mul_of_pos_left _ v6
theorem Lst.small {c4 c6 : Int} {v : Nat} {d : Cv} (h : Lst c4 c6 v d) (k4 : c4.natAbs ≤ 1000000000) (k6 : c6.natAbs ≤ 10000000000000) : v ≤ 177 := by
  obtain ⟨h4, h6, hd⟩ := h.nums
  refine most_le h4 h6 ?_ k4 k6
  rintro ⟨z4, z6⟩
  have e := disc_eq d
  have v4 : (v : Int) ^ 4 ≠ 0 := Int.pow_ne_zero (by have := h.v0; omega)
  have v6 : (v : Int) ^ 6 ≠ 0 := Int.pow_ne_zero (by have := h.v0; omega)
  rw [z4] at h4
  rw [z6] at h6
  have y4 : d.c4 = 0 := (Int.mul_eq_zero.mp h4.symm).resolve_left v4
  have y6 : d.c6 = 0 := (Int.mul_eq_zero.mp h6.symm).resolve_left v6
  rw [y4, y6] at e
  omega
theorem Lst.md {c4 c6 : Int} {v : Nat} {d : Cv} (h : Lst c4 c6 v d) (k4 : c4.natAbs ≤ 1000000000) (k6 : c6.natAbs ≤ 10000000000000) : d.Md := by
  obtain ⟨l4, l6⟩ := h.le
  have hr := h.rc
  have k1 := b2_of hr
  have e4 := c4_of d
  have e6 := c6_of d
  have f4 : d.b4 = 2 * d.a4 + d.a1 * d.a3 := rfl
  have f6 : d.b6 = d.a3 * d.a3 + 4 * d.a6 := rfl
  obtain ⟨h1, h2, h3⟩ := hr
  have q4 : d.a4.natAbs ≤ 1000000000 ∧ d.b4.natAbs ≤ 1000000000 := by
    generalize d.b2 = u2 at *
    generalize d.b4 = u4 at *
    rcases k1 with ⟨k1, _, rfl⟩ | ⟨k1, _, rfl⟩ | ⟨k1, _, rfl⟩ | ⟨k1, _, rfl⟩ | ⟨k1, _, rfl⟩ | ⟨k1, _, rfl⟩ <;> rw [k1] at f4 <;> omega
  have q6 : d.a6.natAbs ≤ 1000000000000000 := by
    obtain ⟨-, q4⟩ := q4
    generalize d.b2 = u2 at *
    generalize d.b4 = u4 at *
    generalize d.b6 = u6 at *
    clear f4 e4
    rcases h3 with h3 | h3 <;> rw [h3] at f6 <;> rcases k1 with ⟨_, _, rfl⟩ | ⟨_, _, rfl⟩ | ⟨_, _, rfl⟩ | ⟨_, _, rfl⟩ | ⟨_, _, rfl⟩ | ⟨_, _, rfl⟩ <;> omega
  obtain ⟨q4, -⟩ := q4
  exact ⟨by unfold B; omega, by unfold B; omega, by unfold B; omega, by unfold B; omega, by unfold B; omega⟩
section
variable {P : Program} {w : World} {K : PySem.W.Frag} {mg : Str → Option Value} {base : Heap}
/-! ### the scale; whether a curve is least; the least model and the change -/
def sp_scale_of (K : PySem.W.Frag) : Sp := fun vs H Q _ => ∃ (p : Addr) (c : Cv), vs = [.ref p] ∧ SqT K H p c.tup ∧ c.Ok ∧ ∀ H' v d, Same H H' → Lst c.c4 c.c6 v d → Q (.int (v : Int)) H'
def sp_is_least (K : PySem.W.Frag) : Sp := fun vs H Q _ => ∃ (p : Addr) (c : Cv), vs = [.ref p] ∧ SqT K H p c.tup ∧ c.Ok ∧ ∀ H' v d, Same H H' → Lst c.c4 c.c6 v d → Q (.bl (decide (d = c))) H'
def sp_least_model (K : PySem.W.Frag) : Sp := fun vs H Q _ => ∃ (p : Addr) (c : Cv), vs = [.ref p] ∧ SqT K H p c.tup ∧ c.Ok ∧ ∀ H' t l o v d, Same H H' → Lst c.c4 c.c6 v d → H' t = some (.tup [.ref l, .ref o]) → SqT K H' l (Cv.tup d) → ChAt K H' o ⟨((v : Int) : Rat), cR c d ((v : Int) : Rat), cS c d ((v : Int) : Rat), cT c d ((v : Int) : Rat)⟩ → Q (.ref t) H'
end
end K15
set_option linter.all false
set_option maxRecDepth 100000
set_option maxHeartbeats 4000000
namespace K15
open PySem PySem.Spec PyProof.Rows L2 Gd QM
/-! ### curves made greater and moved -/
def sc (S : Int) (c : Cv) : Cv := ⟨S * c.a1, S ^ 2 * c.a2, S ^ 3 * c.a3, S ^ 4 * c.a4, S ^ 6 * c.a6⟩
def mvd (S r s t : Int) (c : Cv) : Cv := moved (sc S c) r s t
theorem sc_b2 (S : Int) (c : Cv) : (sc S c).b2 = S ^ 2 * c.b2 := by
  unfold sc Cv.b2
  grind
theorem sc_b4 (S : Int) (c : Cv) : (sc S c).b4 = S ^ 4 * c.b4 := by
  unfold sc Cv.b4
  grind
theorem sc_b6 (S : Int) (c : Cv) : (sc S c).b6 = S ^ 6 * c.b6 := by
  unfold sc Cv.b6
  grind
theorem mvd_c4 (S r s t : Int) (c : Cv) : (mvd S r s t c).c4 = S ^ 4 * c.c4 := by
  unfold mvd
  rw [mvc4]
  unfold Cv.c4
  rw [sc_b2, sc_b4]
  grind
theorem mvd_c6 (S r s t : Int) (c : Cv) : (mvd S r s t c).c6 = S ^ 6 * c.c6 := by
  unfold mvd
  rw [mvc6]
  unfold Cv.c6
  rw [sc_b2, sc_b4, sc_b6]
  grind
theorem mvd_d {S r s t : Int} {c : Cv} (hS : S ≠ 0) (h : c.disc ≠ 0) : (mvd S r s t c).disc ≠ 0 := fun e => h (by
  rw [disc0] at e ⊢
  rw [mvd_c4, mvd_c6] at e
  have h12 : S ^ 12 ≠ 0 := Int.pow_ne_zero hS
  have k : S ^ 12 * (c.c4 * c.c4 * c.c4 - c.c6 * c.c6) = 0 := by grind
  rcases Int.mul_eq_zero.mp k with z | z
  · exact absurd z h12
  · omega)
/-- the change that makes it so -/
def chM (S r s t : Int) : Ch := ⟨Rat.divInt 1 S, Rat.divInt r (S * S), Rat.divInt s S, Rat.divInt t (S ^ 3)⟩
theorem mvd_led {S r s t : Int} (hS : S ≠ 0) (c : Cv) : qsL (chM S r s t) c = (mvd S r s t c).ints.map fun n : Int => (n : Rat) := by
  have hq : (S : Rat) ≠ 0 := fun z => hS (by exact_mod_cast z)
  have eu : (chM S r s t).u = 1 / (S : Rat) := by
    show Rat.divInt 1 S = _
    rw [Rat.divInt_eq_div]
    rfl
  have er : (chM S r s t).r = (r : Rat) * ((1 / (S : Rat)) * (1 / (S : Rat))) := by
    show Rat.divInt r (S * S) = _
    rw [Rat.divInt_eq_div, Rat.intCast_mul]
    grind
  have es : (chM S r s t).s = (s : Rat) * (1 / (S : Rat)) := by
    show Rat.divInt s S = _
    rw [Rat.divInt_eq_div]
    grind
  have et : (chM S r s t).t = (t : Rat) * ((1 / (S : Rat)) * (1 / (S : Rat)) * (1 / (S : Rat))) := by
    show Rat.divInt t (S ^ 3) = _
    rw [Rat.divInt_eq_div, show S ^ 3 = S * S * S by grind, Rat.intCast_mul, Rat.intCast_mul]
    grind
  have hu : 1 / (S : Rat) * (S : Rat) = 1 := by rw [Rat.div_mul_cancel hq]
  have u0 : 1 / (S : Rat) ≠ 0 := fun z => by
    rw [z, Rat.zero_mul] at hu
    cases hu
  have dv : ∀ {x y z : Rat}, y ≠ 0 → x = z * y → x / y = z := fun {x y z} h e => by rw [e, Rat.mul_div_cancel h]
  show [l1 _ _, l2 _ _ _, l3 _ _ _, l4 _ _ _ _ _, l6 _ _ _ _ _ _] = [(((mvd S r s t c).a1 : Int) : Rat), (((mvd S r s t c).a2 : Int) : Rat), (((mvd S r s t c).a3 : Int) : Rat), (((mvd S r s t c).a4 : Int) : Rat), (((mvd S r s t c).a6 : Int) : Rat)]
  unfold l1 l2 l3 l4 l6
  rw [eu, er, es, et]
  unfold mvd moved sc
  simp only [List.cons.injEq, and_true]
  push_cast
  generalize 1 / (S : Rat) = u at *
  generalize (S : Rat) = S at *
  generalize (r : Rat) = r at *
  generalize (s : Rat) = s at *
  generalize (t : Rat) = t at *
  generalize (c.a1 : Rat) = a1 at *
  generalize (c.a2 : Rat) = a2 at *
  generalize (c.a3 : Rat) = a3 at *
  generalize (c.a4 : Rat) = a4 at *
  generalize (c.a6 : Rat) = a6 at *
  clear er es et eu
  have u2 := qmul_ne u0 u0
  have u3 := qmul_ne u2 u0
  have u4 := qmul_ne u2 u2
  have u6 := qmul_ne u3 u3
  refine ⟨dv u0 ?_, dv u2 ?_, dv u3 ?_, dv u4 ?_, dv u6 ?_⟩
  · grind
  · grind
  · grind
  · grind
  · grind
theorem mvd_whole {S r s t : Int} (hS : S ≠ 0) (c : Cv) : (qsL (chM S r s t) c).map (fun q => V.int q.num) = (mvd S r s t c).tup := by
  rw [mvd_led hS, Cv.tup_ints]
  exact num_ints _
/-! ### the change to the least model -/
/-! ### one greatest scale, one least curve -/
theorem Lst.uniq {c4 c6 : Int} {v w : Nat} {d e : Cv} (h : Lst c4 c6 v d) (k : Lst c4 c6 w e) : v = w ∧ d = e := by
  have hv : v = w := Nat.dvd_antisymm ((k.all v).mp ((h.all v).mpr ⟨h.v0, Nat.dvd_refl v⟩)).2 ((h.all w).mp ((k.all w).mpr ⟨k.v0, Nat.dvd_refl w⟩)).2
  subst hv
  refine ⟨rfl, ?_⟩
  obtain ⟨x, y, e4, e6, hd⟩ := h.at_
  obtain ⟨x', y', f4, f6, he⟩ := k.at_
  have n4 : (v : Int) ^ 4 ≠ 0 := Int.pow_ne_zero (by have := h.v0; omega)
  have n6 : (v : Int) ^ 6 ≠ 0 := Int.pow_ne_zero (by have := h.v0; omega)
  obtain rfl : x = x' := Int.eq_of_mul_eq_mul_left n4 (e4.symm.trans f4)
  obtain rfl : y = y' := Int.eq_of_mul_eq_mul_left n6 (e6.symm.trans f6)
  exact Option.some.inj (hd.symm.trans he)
/-- a pair made greater has the same least curve -/
theorem Lst.up {c4 c6 : Int} {v : Nat} {d : Cv} {S : Nat} (hS : 0 < S) (h : Lst c4 c6 v d) : Lst ((S : Int) ^ 4 * c4) ((S : Int) ^ 6 * c6) (S * v) d := by
  obtain ⟨x, y, e4, e6, hd⟩ := h.at_
  have hp : IsP x y := isp_curve.mpr ⟨d, hd⟩
  refine ⟨Nat.mul_pos hS h.v0, fun u => ?_, x, y, ?_, ?_, hd⟩
  · have hz : ¬ (((S : Int) ^ 4 * c4) = 0 ∧ ((S : Int) ^ 6 * c6) = 0) := by
      rintro ⟨z4, z6⟩
      obtain ⟨p2, p3, pz⟩ := isp_to hp
      have n4 : (S : Int) ^ 4 ≠ 0 := Int.pow_ne_zero (by omega)
      have n6 : (S : Int) ^ 6 ≠ 0 := Int.pow_ne_zero (by omega)
      have v4 : (v : Int) ^ 4 ≠ 0 := Int.pow_ne_zero (by have := h.v0; omega)
      have v6 : (v : Int) ^ 6 ≠ 0 := Int.pow_ne_zero (by have := h.v0; omega)
      have y4 : c4 = 0 := (Int.mul_eq_zero.mp z4).resolve_left n4
      have y6 : c6 = 0 := (Int.mul_eq_zero.mp z6).resolve_left n6
      rw [y4] at e4
      rw [y6] at e6
      have x4 : x = 0 := (Int.mul_eq_zero.mp e4.symm).resolve_left v4
      have x6 : y = 0 := (Int.mul_eq_zero.mp e6.symm).resolve_left v6
      exact pz (by rw [x4, x6]; rfl)
    have hSv : Lets ((S : Int) ^ 4 * c4) ((S : Int) ^ 6 * c6) (S * v) := ⟨Nat.mul_pos hS h.v0, x, y, by rw [e4, Int.natCast_mul]; grind, by rw [e6, Int.natCast_mul]; grind, hp⟩
    obtain ⟨w, lw, hw⟩ := lets_of hz (hSv.dvd (Nat.one_dvd _))
    have d1 : S * v ∣ w := ((hw _).mp hSv).2
    obtain ⟨k, rfl⟩ := d1
    have lk : Lets c4 c6 (v * k) := by
      obtain ⟨w0, a, b, f4, f6, ha⟩ := lw
      refine ⟨Nat.pos_of_ne_zero fun z => by rw [Nat.mul_assoc, z, Nat.mul_zero] at w0; omega, a, b, ?_, ?_, ha⟩
      · have n4 : (S : Int) ^ 4 ≠ 0 := Int.pow_ne_zero (by omega)
        apply Int.eq_of_mul_eq_mul_left n4
        rw [f4, Int.natCast_mul, Int.natCast_mul, Int.natCast_mul]
        grind
      · have n6 : (S : Int) ^ 6 ≠ 0 := Int.pow_ne_zero (by omega)
        apply Int.eq_of_mul_eq_mul_left n6
        rw [f6, Int.natCast_mul, Int.natCast_mul, Int.natCast_mul]
        grind
    have d2 : v * k ∣ v := ((h.all _).mp lk).2
    have k1 : k = 1 := by
      have := Nat.le_of_dvd h.v0 d2
      have v0 := h.v0
      have k0 : 0 < k := Nat.pos_of_ne_zero fun z => by
        rw [z, Nat.mul_zero] at d2
        have := Nat.eq_zero_of_zero_dvd d2
        omega
      rcases (show k = 1 ∨ 2 ≤ k by omega) with z | z
      · exact z
      · have := Nat.mul_le_mul_left v z
        omega
    rw [k1, Nat.mul_one] at hw
    exact hw u
  · rw [e4, Int.natCast_mul]
    grind
  · rw [e6, Int.natCast_mul]
    grind
theorem Lst.self {c4 c6 : Int} {v : Nat} {d : Cv} (h : Lst c4 c6 v d) : Lst d.c4 d.c6 1 d := by
  obtain ⟨x, y, e4, e6, hd⟩ := h.at_
  obtain ⟨hr, f4, f6, hdd⟩ := curve_some hd
  have hc := curve_rc hr hdd
  refine ⟨by decide, fun u => ⟨fun hu => ?_, fun hu => ?_⟩, d.c4, d.c6, by simp, by simp, hc⟩
  · refine ⟨hu.1, ?_⟩
    obtain ⟨u0, a, b, g4, g6, ha⟩ := hu
    have lk : Lets c4 c6 (v * u) := by
      refine ⟨Nat.mul_pos h.v0 u0, a, b, ?_, ?_, ha⟩
      · rw [e4, ← f4, g4, Int.natCast_mul]
        grind
      · rw [e6, ← f6, g6, Int.natCast_mul]
        grind
    have d2 := ((h.all _).mp lk).2
    have := Nat.le_of_dvd h.v0 d2
    have v0 := h.v0
    rcases (show u = 1 ∨ 2 ≤ u by omega) with z | z
    · rw [z]
      exact Nat.dvd_refl 1
    · have := Nat.mul_le_mul_left v z
      omega
  · obtain rfl : u = 1 := Nat.dvd_one.mp hu.2
    exact ⟨by decide, d.c4, d.c6, by simp, by simp, isp_curve.mpr ⟨d, hc⟩⟩
theorem Lst.disc {c : Cv} {v : Nat} {d : Cv} (h : Lst c.c4 c.c6 v d) : d.disc * (v : Int) ^ 12 = c.disc := by
  obtain ⟨h4, h6, -⟩ := h.nums
  have e1 := disc_eq c
  have e2 := disc_eq d
  rw [h4, h6] at e1
  have : 1728 * (d.disc * (v : Int) ^ 12) = 1728 * c.disc := by
    rw [e1]
    have : 1728 * (d.disc * (v : Int) ^ 12) = (1728 * d.disc) * (v : Int) ^ 12 := by grind
    rw [this, e2]
    grind
  omega
end K15
set_option Elab.async false
set_option linter.all false
set_option maxRecDepth 100000
set_option maxHeartbeats 4000000
namespace K15
open PySem PySem.Spec PyProof.Rows L2 Gd QM
theorem ix_tupK {X : Cx} {K : PySem.W.Frag} (h : X.K = K) : IxR X (rIxT K) := h ▸ ix_tup
/-- what the law's own look asks of a curve -/
structure Cv.Lk (c : Cv) : Prop where
  ok : c.Ok
  b : CvB 40 c
theorem prt_i {K : PySem.W.Frag} {H : Hp} {p : Addr} {n d : Int} {m : Nat} (h : H p = some (.tup [.int n, .int d])) (d0 : d ≠ 0) (hn : B m n) (hd : B m d) : PrT K H p (Rat.divInt n d) m := ⟨n, d, tup_of h, d0, rfl, hn, hd⟩
theorem PrT.but2 {K : PySem.W.Frag} {H H' : Hp} {m cl p : Addr} {n : Nat} {q : Rat} {k : Nat} (b : But m H H') (hM : MAt H m cl n) (h : PrT K H p q k) : PrT K H' p q k := by
  obtain ⟨x, d, h1, h2⟩ := h
  exact ⟨x, d, b.seqT hM h1, h2⟩
section
variable {P : Program} {w : World} {K : PySem.W.Frag} {mg : Str → Option Value} {base : Heap}
def sp_law_moved (K : PySem.W.Frag) : Sp := fun vs H Q _ => ∃ (m cl p : Addr) (c : Cv) (S : Int) (n : Nat), vs = [.ref m, .ref p, .int S] ∧ n ≤ 1000 ∧ MAt H m cl n ∧ SqT K H p c.tup ∧ c.Tn ∧ 1 ≤ S ∧ S ≤ 6 ∧
  ∀ H' t r s z, But m H H' → MAt H' m cl (n + 3) → SqT K H' t (mvd S r s z c).tup → -3 ≤ r → r ≤ 3 → -2 ≤ s → s ≤ 2 → -3 ≤ z → z ≤ 3 → Q (.ref t) H'
abbrev s__law_moved : Stmt := topS 87
theorem sc__law_moved : FnScope ["m", "five_v", "scale", "change", "part"] ["m", "five_v", "scale"] (defScope s__law_moved) := ⟨rfl, rfl, rfl, by decide +kernel, rfl, by decide +kernel, by decide +kernel⟩
theorem k_law_moved (T : Tx K mg) (D : Df K mg "_law_moved" s__law_moved ["m", "five_v", "scale"]) (c_law_between : Kl P w K mg base 2 "_law_between" (sp_law_between K)) (c_law_led : Kl P w K mg base 4 "_law_led" (sp_law_led K)) : Kl P w K mg base 5 "_law_moved" (sp_law_moved K) := by
  have nd := sc__law_moved.nd
  refine Kl.by_body D sc__law_moved (fun vs H Q E h => ?_) (fun f cdv A outer s H vs Q E hr h => ?_)
  · obtain ⟨_, _, _, _, _, _, rfl, _⟩ := h
    rfl
  · obtain ⟨m, cl, p, c, S, n, rfl, hn, hM, hp, hT, S0, S1, q⟩ := h
    have hu1 := hu_of hr
    refine ⟨_, (pss_cons (ps_set (i := 3) nd rfl (by first | exact Or.inl rfl | exact Or.inr rfl) (pe_tup (pa_cons (pe_tup (pa_cons pe_int (pa_cons (pv 2) pa_nil))) (pa_cons (pe_tup (pa_cons (pe_k c_law_between  hr (by decide) (by rfl) (pa_cons (pv 0) (pa_cons pe_int pa_nil))) (pa_cons (pe_op op_mulW (pv 2) (pv 2)) pa_nil))) (pa_cons (pe_tup (pa_cons (pe_k c_law_between  hr (by decide) (by rfl) (pa_cons (pv 0) (pa_cons pe_int pa_nil))) (pa_cons (pv 2) pa_nil))) (pa_cons (pe_tup (pa_cons (pe_k c_law_between  hr (by decide) (by rfl) (pa_cons (pv 0) (pa_cons pe_int pa_nil))) (pa_cons (pe_op op_pow (pv 2) pe_int) pa_nil))) pa_nil))))))
      (pss_one (ps_ret (pe_callTy call_tuple_of (by rfl) T.tuple (by decide +kernel) (pa_cons (pe_lc (own := [("part", 4)]) (g := gName 4) rfl nd (pi_tup (pe_k c_law_led  hr (by decide) (by rfl) (pa_cons (pv 1) (pa_cons (pv 3) pa_nil)))) (blkOk_by (N := ["m", "five_v", "scale", "change", "part"]) (sc := defScope s__law_moved) (by decide +kernel)) (fun _ _ _ _ _ => (pg_name (i := 4) nd rfl (by first | exact Or.inl rfl | exact Or.inr rfl))) (fun _ _ _ _ _ => pts_nil) (fun _ _ _ _ _ => (pe_ix (ix_tupK (K := K) rfl) (pv 4) pe_int (fun _ _ => rfl)))) pa_nil))))), ?_⟩
    have SB : B 3 S := by
      unfold B
      omega
    have Snz : S ≠ 0 := by omega
    refine ⟨_, rfl, (by show 2 ≤ sizeLine; decide), fun t1 n1 => ?_⟩
    have s1 := Same.new (H := H) (p := t1) (o := .tup [.int 1, .int S]) n1
    have g1 : upd H t1 (.tup [.int 1, .int S]) t1 = some (.tup [.int 1, .int S]) := upd_same
    generalize upd H t1 (.tup [.int 1, .int S]) = H1 at s1 g1 ⊢
    refine ⟨_, rfl, m, cl, 3, n, rfl, by decide, by decide, by omega, hM.same s1, fun H2 r b2 m2 r0 r1 => ?_⟩
    refine ⟨_, rfl, _, rfl, _, _, rfl, rfl, SB.mulW SB (by decide), (by show 2 ≤ sizeLine; decide), fun t2 n2 => ?_⟩
    have s3 := Same.new (H := H2) (p := t2) (o := .tup [.int r, .int (S * S)]) n2
    have g3 : upd H2 t2 (.tup [.int r, .int (S * S)]) t2 = some (.tup [.int r, .int (S * S)]) := upd_same
    generalize upd H2 t2 (.tup [.int r, .int (S * S)]) = H3 at s3 g3 ⊢
    refine ⟨_, rfl, m, cl, 2, n + 1, rfl, by decide, by decide, by omega, m2.same s3, fun H4 s b4 m4 u0 u1 => ?_⟩
    refine ⟨_, rfl, (by show 2 ≤ sizeLine; decide), fun t3 n3 => ?_⟩
    have s5 := Same.new (H := H4) (p := t3) (o := .tup [.int s, .int S]) n3
    have g5 : upd H4 t3 (.tup [.int s, .int S]) t3 = some (.tup [.int s, .int S]) := upd_same
    generalize upd H4 t3 (.tup [.int s, .int S]) = H5 at s5 g5 ⊢
    refine ⟨_, rfl, m, cl, 3, n + 1 + 1, rfl, by decide, by decide, by omega, m4.same s5, fun H6 z b6 m6 z0 z1 => ?_⟩
    refine ⟨_, rfl, _, _, rfl, rfl, ⟨by decide, by decide, SB.up (by decide)⟩, (by show 2 ≤ sizeLine; decide), fun t4 n4 => ?_⟩
    rw [show upd H6 t4 (.tup [.int z, (fun i j : Int => V.int (i ^ j.toNat)) S 3]) = upd H6 t4 (.tup [.int z, .int (S ^ 3)]) from rfl]
    have s7 := Same.new (H := H6) (p := t4) (o := .tup [.int z, .int (S ^ 3)]) n4
    have g7 : upd H6 t4 (.tup [.int z, .int (S ^ 3)]) t4 = some (.tup [.int z, .int (S ^ 3)]) := upd_same
    generalize upd H6 t4 (.tup [.int z, .int (S ^ 3)]) = H7 at s7 g7 ⊢
    refine ⟨(by show 4 ≤ sizeLine; decide), fun tc ntc => ?_⟩
    have s8 := Same.new (H := H7) (p := tc) (o := .tup [.ref t1, .ref t2, .ref t3, .ref t4]) ntc
    have g8 : upd H7 tc (.tup [.ref t1, .ref t2, .ref t3, .ref t4]) tc = some (.tup [.ref t1, .ref t2, .ref t3, .ref t4]) := upd_same
    generalize upd H7 tc (.tup [.ref t1, .ref t2, .ref t3, .ref t4]) = H8 at s8 g8 ⊢
    first | refine sigN [some (.ref m), some (.ref p), some (.int (S)), some (.ref tc), none] (by rfl) ?_ | refine sig [some (.ref m), some (.ref p), some (.int (S)), some (.ref tc), none] (by rfl) ?_
    have rB : B 2 r := by
      unfold B
      omega
    have sB : B 2 s := by
      unfold B
      omega
    have zB : B 2 z := by
      unfold B
      omega
    have s78 := s7.trans s8
    have k1 : PrT K H8 t1 (Rat.divInt 1 S) 16 := ((((prt_i (K := K) (m := 16) g1 Snz (B.lit (by decide)) (SB.up (by decide))).but2 b2 (hM.same s1)).same s3).but2 b4 (m2.same s3)).same s5 |>.but2 b6 (m4.same s5) |>.same s78
    have k2 : PrT K H8 t2 (Rat.divInt r (S * S)) 16 := ((prt_i (K := K) (m := 16) g3 (Int.mul_ne_zero Snz Snz) (rB.up (by decide)) ((SB.mul SB).up (by decide))).but2 b4 (m2.same s3)).same s5 |>.but2 b6 (m4.same s5) |>.same s78
    have k3 : PrT K H8 t3 (Rat.divInt s S) 16 := (prt_i (K := K) (m := 16) g5 Snz (sB.up (by decide)) (SB.up (by decide))).but2 b6 (m4.same s5) |>.same s78
    have k4 : PrT K H8 t4 (Rat.divInt z (S ^ 3)) 16 := (prt_i (K := K) (m := 16) g7 (Int.pow_ne_zero Snz) (zB.up (by decide)) ((SB.pow 3).up (by decide))).same s8
    have hch : ChG K H8 tc (chM S r s z) := ⟨t1, t2, t3, t4, tup_of g8, k1, k2.up (by decide), k3.up (by decide), k4.up (by decide)⟩
    have hcb : CvB 40 c := ⟨by have := hT.h1; unfold B; omega, by have := hT.h2; unfold B; omega, by have := hT.h3; unfold B; omega, by have := hT.h4; unfold B; omega, by have := hT.h6; unfold B; omega⟩
    have hp8 : SqT K H8 p c.tup := Same.tup s78 (b6.seqT (m4.same s5) (Same.tup s5 (b4.seqT (m2.same s3) (Same.tup s3 (b2.seqT (hM.same s1) (Same.tup s1 hp))))))
    have bA : But m H H8 := (But.of s1).trans (b2.trans ((But.of s3).trans (b4.trans ((But.of s5).trans (b6.trans (But.of s78))))))
    have mA : MAt H8 m cl (n + 3) := (m6.same s78).up (by omega)
    have unz : (chM S r s z).u ≠ 0 := by
      show Rat.divInt 1 S ≠ 0
      rw [Rat.divInt_eq_div]
      have hq : (S : Rat) ≠ 0 := fun y => Snz (by exact_mod_cast y)
      intro y
      have hu : ((1 : Int) : Rat) / (S : Rat) * (S : Rat) = ((1 : Int) : Rat) := by rw [Rat.div_mul_cancel hq]
      rw [y, Rat.zero_mul] at hu
      cases hu
    refine ⟨_, rfl, _, rfl, p, tc, c, chM S r s z, rfl, hp8, hcb, hch, unz, fun H9 t xs s9 gt hrf => ?_⟩
    refine ⟨t, rfl, ⟨_, tup_of gt⟩, fun D hD => ?_⟩
    refine lc_tup (K := K) (a := t) (xs := xs) (fun i HA => Same H9 HA ∧ HA D = some (.lst (((qsL (chM S r s z) c).take i).map fun q => V.int q.num))) ⟨Same.new hD, upd_same⟩ (fun i HA _ y => tup_of (y.1 _ _ gt)) (fun i x HA hi y => ?_) (fun HA y => ?_)
    · obtain ⟨sA, gD⟩ := y
      obtain ⟨a, qq, rfl, hqi, ha⟩ := hrf.2 i x hi
      have hi5 : i < 5 := by
        have := (List.getElem?_eq_some_iff.mp hqi).1
        exact this
      refine ⟨rfl, .ref a, rfl, a, _, 0, .int qq.num, rfl, rfl, Same.tup sA ha, rfl, _, gD, ?_, Same.put sA hD, ?_⟩
      · rw [List.length_map, List.length_take]
        exact small1000 (by omega)
      · rw [upd_same, take_map _ hqi]
    · obtain ⟨sA, gD⟩ := y
      have e5 : (qsL (chM S r s z) c).take xs.length = qsL (chM S r s z) c := by
        rw [List.take_of_length_le]
        rw [hrf.1]
        exact Nat.le_refl _
      rw [e5, mvd_whole Snz] at gD
      refine ⟨D, _, rfl, .inl ⟨lst_of gD, fun t5 n5 => ?_⟩⟩
      have sZ := Same.new (H := HA) (p := t5) (o := .tup (mvd S r s z c).tup) n5
      have sT := s9.trans (sA.trans sZ)
      exact q _ t5 r s z (bA.trans (But.of sT)) (mA.same sT) (tup_of upd_same) r0 r1 u0 u1 z0 z1
end
end K15
set_option Elab.async false
set_option linter.all false
set_option maxRecDepth 100000
/-! a if t else b as a test -/
namespace PtI
open PySem PySem.Spec PyProof.Rows L2
def tIfT (t ta tb : TT) : TT := fun σ H Q => t σ H fun c H1 => if c = true then ta σ H1 Q else tb σ H1 Q
theorem pt_ifExp {X : Cx} {c a b : Expr} {pos : Pos} {tA ta tb : TT} (hc : PT X c tA) (ha : PT X a ta) (hb : PT X b tb) : PT X (.IfExp c a b pos) (tIfT tA ta tb) := by
  refine ⟨fun pins s σ H Q I h => ?_⟩
  refine PyProof.Rows.isTrue_IfExp (thn (hc.run pins s σ H _ I h) fun d s1 ⟨H1, I1, q1⟩ => ?_)
  cases d with
  | true => exact ha.run pins s1 σ H1 Q I1 q1
  | false => exact hb.run pins s1 σ H1 Q I1 q1
end PtI
set_option Elab.async false
set_option linter.all false
set_option maxRecDepth 100000
set_option maxHeartbeats 4000000
namespace K15
open PySem PySem.Spec PyProof.Rows L2 Gd QM
/-- the divisors of w up to n -/
def dvs (w n : Nat) : List V := ((List.range n).filter fun i => decide (w % (i + 1) = 0)).map fun i => V.int ((i + 1 : Nat) : Int)
theorem dvs_yes {w n : Nat} (h : n + 1 ∣ w) : dvs w (n + 1) = dvs w n ++ [.int ((n + 1 : Nat) : Int)] := by
  unfold dvs
  rw [List.range_succ, List.filter_append, List.map_append, List.filter_cons_of_pos (by simpa using Nat.mod_eq_zero_of_dvd h)]
  rfl
theorem dvs_no {w n : Nat} (h : ¬ n + 1 ∣ w) : dvs w (n + 1) = dvs w n := by
  unfold dvs
  rw [List.range_succ, List.filter_append, List.filter_cons_of_neg (by simpa using fun e => h (Nat.dvd_of_mod_eq_zero e)), List.filter_nil, List.append_nil]
theorem dvs_len (w : Nat) : ∀ n, (dvs w n).length ≤ n
  | 0 => Nat.le_refl _
  | n + 1 => by
    by_cases h : n + 1 ∣ w
    · rw [dvs_yes h, List.length_append]
      exact Nat.add_le_add_right (dvs_len w n) 1
    · rw [dvs_no h]
      exact Nat.le_succ_of_le (dvs_len w n)
theorem dvs_far {w : Nat} (w0 : 0 < w) : ∀ k, dvs w (w + k) = dvs w w
  | 0 => rfl
  | k + 1 => by
    rw [show w + (k + 1) = w + k + 1 by omega, dvs_no (fun h => by have := Nat.le_of_dvd w0 h; omega), dvs_far w0 k]
theorem dvs_ge {w n : Nat} (w0 : 0 < w) (h : w ≤ n) : dvs w n = dvs w w := by
  obtain ⟨k, rfl⟩ := Nat.le.dest h
  exact dvs_far w0 k
theorem pair_ne {x y : Int} : pairN x y 12 ≠ [] ↔ IsP x y := by
  constructor
  · intro h
    obtain ⟨c, hc⟩ := List.exists_mem_of_ne_nil _ h
    obtain ⟨hr, e4, e6, hd⟩ := pair_mem (Nat.le_refl _) hc
    exact ⟨c, hr, e4, e6, hd⟩
  · rintro ⟨c, hr, e4, e6, hd⟩
    rw [← e4, ← e6, pair_one hr hd]
    intro z
    cases z
theorem let_is {c4 c6 : Int} {u : Nat} (u0 : 0 < u) : Lets c4 c6 u ↔ (c4 % (u : Int) ^ 4 = 0 ∧ c6 % (u : Int) ^ 6 = 0 ∧ pairN (c4 / (u : Int) ^ 4) (c6 / (u : Int) ^ 6) 12 ≠ []) := by
  have n4 : (u : Int) ^ 4 ≠ 0 := Int.pow_ne_zero (by omega)
  have n6 : (u : Int) ^ 6 ≠ 0 := Int.pow_ne_zero (by omega)
  constructor
  · rintro ⟨_, x, y, rfl, rfl, hp⟩
    refine ⟨Int.mul_emod_right _ _, Int.mul_emod_right _ _, ?_⟩
    rw [Int.mul_ediv_cancel_left _ n4, Int.mul_ediv_cancel_left _ n6]
    exact pair_ne.mpr hp
  · rintro ⟨h4, h6, hp⟩
    exact ⟨u0, _, _, (Int.mul_ediv_cancel' (Int.dvd_of_emod_eq_zero h4)).symm, (Int.mul_ediv_cancel' (Int.dvd_of_emod_eq_zero h6)).symm, pair_ne.mp hp⟩
theorem p4_le {u n : Nat} (h : u ^ 4 ≤ n) (k : n ≤ 1000000000) : u ≤ 177 := by
  rcases Nat.lt_or_ge u 178 with z | z
  · omega
  · have := Nat.pow_le_pow_left z 4
    omega
theorem p6_le {u n : Nat} (h : u ^ 6 ≤ n) (k : n ≤ 10000000000000) : u ≤ 177 := by
  rcases Nat.lt_or_ge u 178 with z | z
  · omega
  · have := Nat.pow_le_pow_left z 6
    omega
theorem let_p4 {c4 c6 : Int} {u : Nat} (h : Lets c4 c6 u) (z : c4 ≠ 0) : u ^ 4 ≤ c4.natAbs := by
  obtain ⟨_, x, y, e4, -, -⟩ := h
  have : c4.natAbs = u ^ 4 * x.natAbs := by rw [e4, Int.natAbs_mul, Int.natAbs_pow, Int.natAbs_natCast]
  rw [this]
  exact Nat.le_mul_of_pos_right _ (Nat.pos_of_ne_zero fun q => z (by rw [e4, Int.natAbs_eq_zero.mp q, Int.mul_zero]))
theorem let_p6 {c4 c6 : Int} {u : Nat} (h : Lets c4 c6 u) (z : c6 ≠ 0) : u ^ 6 ≤ c6.natAbs := by
  obtain ⟨_, x, y, -, e6, -⟩ := h
  have : c6.natAbs = u ^ 6 * y.natAbs := by rw [e6, Int.natAbs_mul, Int.natAbs_pow, Int.natAbs_natCast]
  rw [this]
  exact Nat.le_mul_of_pos_right _ (Nat.pos_of_ne_zero fun q => z (by rw [e6, Int.natAbs_eq_zero.mp q, Int.mul_zero]))
/-- the test of the loop -/
def gos (c4 c6 : Int) (u : Nat) : Bool := if c4 ≠ 0 then decide (u ^ 4 ≤ c4.natAbs) else decide (u ^ 6 ≤ c6.natAbs)
theorem gos_le {c4 c6 : Int} {u : Nat} (h : gos c4 c6 u = true) (k4 : c4.natAbs ≤ 1000000000) (k6 : c6.natAbs ≤ 10000000000000) : u ≤ 177 := by
  unfold gos at h
  split at h
  · exact p4_le (of_decide_eq_true h) k4
  · exact p6_le (of_decide_eq_true h) k6
theorem gos_no {c4 c6 : Int} {u w : Nat} (h : gos c4 c6 u = false) (hz : ¬ (c4 = 0 ∧ c6 = 0)) (hw : Lets c4 c6 w) : w < u := by
  unfold gos at h
  rcases Nat.lt_or_ge w u with z | z
  · exact z
  · exfalso
    split at h
    · rename_i q
      have := Nat.pow_le_pow_left z 4
      exact of_decide_eq_false h (Nat.le_trans this (let_p4 hw q))
    · rename_i q
      have := Nat.pow_le_pow_left z 6
      exact of_decide_eq_false h (Nat.le_trans this (let_p6 hw (fun e => hz ⟨Decidable.not_not.mp q, e⟩)))
theorem c_le {x : Int} {n : Nat} {u : Nat} {k : Nat} : ((u : Int) ^ k ≤ (x.natAbs : Int)) ↔ u ^ k ≤ x.natAbs := by
  rw [← Int.natCast_pow, Int.ofNat_le]
section
variable {P : Program} {w : World} {K : PySem.W.Frag} {mg : Str → Option Value} {base : Heap}
def sp_law_lets (K : PySem.W.Frag) : Sp := fun vs H Q _ => ∃ c4 c6 : Int, vs = [.int c4, .int c6] ∧ ¬ (c4 = 0 ∧ c6 = 0) ∧ c4.natAbs ≤ 1000000000 ∧ c6.natAbs ≤ 10000000000000 ∧ IsP c4 c6 ∧ ∀ H' D w, Same H H' → (∀ u, Lets c4 c6 u ↔ 0 < u ∧ u ∣ w) → 0 < w → w ≤ 177 → H' D = some (.lst (dvs w w)) → Q (.ref D) H'
abbrev s__law_lets : Stmt := topS 88
theorem sc__law_lets : FnScope ["c4", "c6", "found", "u"] ["c4", "c6"] (defScope s__law_lets) := ⟨rfl, rfl, rfl, by decide +kernel, rfl, by decide +kernel, by decide +kernel⟩
theorem k_law_lets (T : Tx K mg) (D : Df K mg "_law_lets" s__law_lets ["c4", "c6"]) (c_law_pair : Kl P w K mg base 2 "_law_pair" (sp_law_pair K)) : Kl P w K mg base 3 "_law_lets" (sp_law_lets K) := by
  have nd := sc__law_lets.nd
  refine Kl.by_body D sc__law_lets (fun vs H Q E h => ?_) (fun f cdv A outer s H vs Q E hr h => ?_)
  · obtain ⟨_, _, rfl, _⟩ := h
    rfl
  · obtain ⟨c4, c6, rfl, hz, k4, k6, hp, q⟩ := h
    have hu1 := hu_of hr
    refine ⟨_, (pss_cons (ps_par (i := 2) (j := 3) (by rfl) nd rfl rfl (by decide) rfl rfl (pa_cons (pe_lst pa_nil) (pa_cons pe_int pa_nil)) (by rfl))
      (pss_cons (ps_while PassesOwn.never (PtI.pt_ifExp (pt_cmpR op_ne (pv 0) pe_int (nomark _)) (pt_cmpR op_le (pe_op op_pow (pv 3) pe_int) (pe_callB call_abs (by rfl) T.abs (by decide +kernel) (pa_cons (pv 0) pa_nil)) (nomark _)) (pt_cmpR op_le (pe_op op_pow (pv 3) pe_int) (pe_callB call_abs (by rfl) T.abs (by decide +kernel) (pa_cons (pv 1) pa_nil)) (nomark _))) (pss_cons (ps_if (PW.pt (pw_and (pt_cmpR op_eq (pe_op op_mod (pe_callTy call_intI (by rfl) T.int (by decide +kernel) (pa_cons (pv 0) pa_nil)) (pe_op op_pow (pv 3) pe_int)) pe_int (nomark _)) (pw_and (pt_cmpR op_eq (pe_op op_mod (pe_callTy call_intI (by rfl) T.int (by decide +kernel) (pa_cons (pv 1) pa_nil)) (pe_op op_pow (pv 3) pe_int)) pe_int (nomark _)) (pw_and1 (pt_cmpR (op_neD hr.units) (pe_k c_law_pair  hr (by decide) (by rfl) (pa_cons (pe_op op_fdivAny (pv 0) (pe_op op_pow (pv 3) pe_int)) (pa_cons (pe_op op_fdivAny (pv 1) (pe_op op_pow (pv 3) pe_int)) pa_nil))) (pe_lst pa_nil) (nomark _)))))) (pss_one (ps_expr (pe_bm PySem.F.plainAttrs_list PySem.F.slot_list_append PySem.F.type_list_append mt_append (pv 2) (pa_cons (pv 3) pa_nil)))) pss_nil)
      (pss_one (ps_set (i := 3) nd rfl (by first | exact Or.inl rfl | exact Or.inr rfl) (pe_op op_add (pv 3) pe_int)))))
      (pss_one (ps_ret (pv 2))))), ?_⟩
    obtain ⟨w, lw, hw⟩ := lets_of hz (show Lets c4 c6 1 from ⟨by decide, c4, c6, by simp, by simp, hp⟩)
    have w0 : 0 < w := lw.1
    have B4 : B 30 c4 := by
      unfold B
      omega
    have B6 : B 44 c6 := by
      unfold B
      omega
    have w177 : w ≤ 177 := by
      by_cases z : c4 = 0
      · exact p6_le (let_p6 lw (fun e => hz ⟨z, e⟩)) k6
      · exact p4_le (let_p4 lw z) k4
    refine ⟨(by show 0 ≤ sizeLine; decide), fun D nD => ?_⟩
    have s1 := Same.new (H := H) (p := D) (o := .lst []) nD
    have gD : upd H D (.lst []) D = some (.lst []) := upd_same
    generalize upd H D (.lst []) = H1 at s1 gD ⊢
    refine ⟨_, _, rfl, ?_⟩
    first | refine sigN [some (.int (c4)), some (.int (c6)), some (.ref D), some (.int (1))] (by rfl) ?_ | refine sig [some (.int (c4)), some (.int (c6)), some (.ref D), some (.int (1))] (by rfl) ?_
    refine while_by (fun σ H2 => But D H1 H2 ∧ ∃ n : Nat, σ = [some (.int c4), some (.int c6), some (.ref D), some (.int ((n + 1 : Nat) : Int))] ∧ n ≤ 177 ∧ H2 D = some (.lst (dvs w n)))
      (fun σ _ => match σ with | [_, _, _, some (.int u)] => (200 - u).toNat | _ => 0) ⟨But.refl _ _, 0, rfl, by decide, gD⟩ ?_ ?_
    · rintro σ H2 ⟨b2, n, rfl, hn, g2⟩

      have uB : B 8 ((n + 1 : Nat) : Int) := by
        unfold B
        omega
      have u0 : ((n + 1 : Nat) : Int) ≠ 0 := by omega
      have pos4 : (0 : Int) < ((n + 1 : Nat) : Int) ^ 4 := Int.pow_pos (by omega)
      have pos6 : (0 : Int) < ((n + 1 : Nat) : Int) ^ 6 := Int.pow_pos (by omega)
      have b4B : B 33 (((n + 1 : Nat) : Int) ^ 4) := (uB.pow 4).up (by decide)
      have b6B : B 49 (((n + 1 : Nat) : Int) ^ 6) := (uB.pow 6).up (by decide)
      refine ⟨_, rfl, rfl, _, rfl, ite2 (fun z => ?A) (fun z => ?B)⟩
      case' A =>
        have z' : c4 ≠ 0 := by simpa using z
        refine ⟨_, rfl, _, _, rfl, rfl, ⟨by decide, by decide, uB.up (by decide)⟩, _, rfl, c4, rfl, _, _, rfl, rfl, _, rfl, ?_⟩
        have eg : decide (((n + 1 : Nat) : Int) ^ 4 ≤ (if c4 < 0 then -c4 else c4)) = gos c4 c6 (n + 1) := by
          unfold gos
          rw [if_pos z', abs_eq, Bool.eq_iff_iff, decide_eq_true_iff, decide_eq_true_iff]
          exact c_le (n := 0)
      case' B =>
        have z' : c4 = 0 := by simpa using z
        refine ⟨_, rfl, _, _, rfl, rfl, ⟨by decide, by decide, uB.up (by decide)⟩, _, rfl, c6, rfl, _, _, rfl, rfl, _, rfl, ?_⟩
        have eg : decide (((n + 1 : Nat) : Int) ^ 6 ≤ (if c6 < 0 then -c6 else c6)) = gos c4 c6 (n + 1) := by
          rw [abs_eq]
          unfold gos
          rw [if_neg (by simpa using z'), Bool.eq_iff_iff, decide_eq_true_iff, decide_eq_true_iff]
          exact c_le (n := 0)
      all_goals
        cases hg : gos c4 c6 (n + 1) with
        | false =>
          rw [hg] at eg
          refine iteN (fun y => Bool.noConfusion (eg.symm.trans y)) ?_
          have hlt := gos_no hg hz lw
          rw [dvs_ge w0 (show w ≤ n by omega)] at g2
          exact ⟨_, rfl, q H2 D w (But.same s1 b2 nD) hw w0 w177 g2⟩
        | true =>
          rw [hg] at eg
          have u177 := gos_le hg k4 k6
          refine iteY eg ?_
          have adv : ∀ H3, But D H2 H3 → H3 D = some (.lst (dvs w (n + 1))) → (But D H1 H3 ∧ ∃ k : Nat, [some (V.int c4), some (.int c6), some (.ref D), some (.int ((n + 1 + 1 : Nat) : Int))] = [some (V.int c4), some (.int c6), some (.ref D), some (.int ((k + 1 : Nat) : Int))] ∧ k ≤ 177 ∧ H3 D = some (.lst (dvs w k))) ∧ (200 - ((n + 1 + 1 : Nat) : Int)).toNat < (200 - ((n + 1 : Nat) : Int)).toNat := fun H3 b3 g3 =>
            ⟨⟨b2.trans b3, n + 1, rfl, u177, g3⟩, by omega⟩
          have no : ¬ Lets c4 c6 (n + 1) → dvs w (n + 1) = dvs w n := fun h => dvs_no fun d => h ((hw _).mpr ⟨by omega, d⟩)
          refine ⟨_, rfl, c4, rfl, _, rfl, _, _, rfl, rfl, ⟨by decide, by decide, uB.up (by decide)⟩, _, _, rfl, rfl, pos4, rfl, _, rfl, ?_⟩
          rw [dec_int]
          by_cases d4 : c4 % ((n + 1 : Nat) : Int) ^ 4 = 0
          case neg =>
            refine iteN (fun y => d4 (of_decide_eq_true y)) ?_
            have e := no fun h => d4 ((let_is (by omega)).mp h).1
            refine ⟨_, rfl, _, _, rfl, rfl, ?_⟩
            exact adv H2 (But.refl _ _) (by rw [e]; exact g2)
          refine iteY (decide_eq_true d4) ?_
          refine ⟨_, rfl, c6, rfl, _, rfl, _, _, rfl, rfl, ⟨by decide, by decide, uB.up (by decide)⟩, _, _, rfl, rfl, pos6, rfl, _, rfl, ?_⟩
          rw [dec_int]
          by_cases d6 : c6 % ((n + 1 : Nat) : Int) ^ 6 = 0
          case neg =>
            refine iteN (fun y => d6 (of_decide_eq_true y)) ?_
            have e := no fun h => d6 ((let_is (by omega)).mp h).2.1
            refine ⟨_, rfl, _, _, rfl, rfl, ?_⟩
            exact adv H2 (But.refl _ _) (by rw [e]; exact g2)
          refine iteY (decide_eq_true d6) ?_
          have f4 : c4.fdiv (((n + 1 : Nat) : Int) ^ 4) = c4 / ((n + 1 : Nat) : Int) ^ 4 := Int.fdiv_eq_ediv_of_nonneg _ (by omega)
          have f6 : c6.fdiv (((n + 1 : Nat) : Int) ^ 6) = c6 / ((n + 1 : Nat) : Int) ^ 6 := Int.fdiv_eq_ediv_of_nonneg _ (by omega)
          have bx : B 59 (c4.fdiv (((n + 1 : Nat) : Int) ^ 4)) := by
            rw [f4]
            have := Int.natAbs_ediv_le_natAbs c4 (((n + 1 : Nat) : Int) ^ 4)
            unfold B
            omega
          have bY : B 104 (c6.fdiv (((n + 1 : Nat) : Int) ^ 6)) := by
            rw [f6]
            have := Int.natAbs_ediv_le_natAbs c6 (((n + 1 : Nat) : Int) ^ 6)
            unfold B
            omega
          have hlet := let_is (c4 := c4) (c6 := c6) (u := n + 1) (by omega)
          rw [← f4, ← f6] at hlet
          refine ⟨_, rfl, _, rfl, _, _, rfl, rfl, ⟨by decide, by decide, uB.up (by decide)⟩, _, _, rfl, rfl, div_any (Int.pow_ne_zero u0 : ((n + 1 : Nat) : Int) ^ 4 ≠ 0) b4B (by decide), _, rfl, _, rfl, _, _, rfl, rfl, ⟨by decide, by decide, uB.up (by decide)⟩, _, _, rfl, rfl, div_any (Int.pow_ne_zero u0 : ((n + 1 : Nat) : Int) ^ 6 ≠ 0) b6B (by decide), _, _, rfl, bx, bY, fun H3 F s3 hL => ?_⟩
          replace hL : CvL K H3 F (pairN (c4.fdiv (((n + 1 : Nat) : Int) ^ 4)) (c6.fdiv (((n + 1 : Nat) : Int) ^ 6)) 12) := hL
          generalize c4.fdiv (((n + 1 : Nat) : Int) ^ 4) = x at hL hlet
          generalize c6.fdiv (((n + 1 : Nat) : Int) ^ 6) = y at hL hlet
          refine ⟨(by show 0 ≤ sizeLine; decide), fun e0 ne0 => ?_⟩
          have s4 := Same.new (H := H3) (p := e0) (o := .lst []) ne0
          have g4 : upd H3 e0 (.lst []) e0 = some (.lst []) := upd_same
          generalize upd H3 e0 (.lst []) = H4 at s4 g4 ⊢
          obtain ⟨L, hF, hlen, hall⟩ := hL
          have b4 : But D H2 H4 := But.of (s3.trans s4)
          have gD4 : H4 D = some (.lst (dvs w n)) := (s3.trans s4) _ _ g2
          by_cases hP : IsP x y
          · obtain ⟨c, hr, ec4, ec6, hd⟩ := hP
            have e1 : pairN x y 12 = [c] := by
              rw [← ec4, ← ec6]
              exact pair_one hr hd
            have hdv : n + 1 ∣ w := ((hw _).mp (hlet.mpr ⟨d4, d6, by rw [e1]; intro z; cases z⟩)).2
            rw [e1] at hlen hall
            match L, hlen with
            | [p], _ =>
              obtain ⟨c', ec, hc⟩ := hall 0 p rfl
              obtain rfl := Option.some.inj ec
              refine ⟨.list [dcv c], .list [], .lst (lst_of (s4 _ _ hF)) (.cons (dp_cv (Same.tup s4 hc)) .nil), .lst (lst_of g4) .nil, rfl, rfl, _, rfl, ?_⟩
              refine iteY rfl ?_
              refine ⟨.ref D, rfl, .inl ⟨rfl, _, lst_of gD4⟩, _, rfl, D, _, _, rfl, rfl, gD4, small1000 (by have := dvs_len w n; omega), ?_⟩
              refine ⟨_, rfl, _, _, rfl, rfl, ?_⟩
              refine adv _ (b4.trans (But.upd (m := D))) ?_
              rw [upd_same, dvs_yes hdv]
          · have e1 : pairN x y 12 = [] := Decidable.byContradiction fun z => hP (pair_ne.mp z)
            rw [e1] at hlen
            have e := no fun h => hP (pair_ne.mp (hlet.mp h).2.2)
            match L, hlen with
            | [], _ =>
              refine ⟨.list [], .list [], .lst (lst_of (s4 _ _ hF)) .nil, .lst (lst_of g4) .nil, rfl, rfl, _, rfl, ?_⟩
              refine iteN (by decide) ?_
              refine ⟨_, rfl, _, _, rfl, rfl, ?_⟩
              exact adv H4 b4 (by rw [e]; exact gD4)
    · rintro σ H2 Q1 Q2 i ⟨v, hv, e0, b, eb, z⟩
      refine ⟨v, hv, e0, b, eb, ?_⟩
      split at z
      · rename_i h
        rw [if_pos h]
        obtain ⟨v1, h1, x1, y1, e1, e2, c1, v2, h2, j, ej, x2, y2, e3, e4, b2, eb2, z⟩ := z
        exact ⟨v1, h1, x1, y1, e1, e2, c1, v2, h2, j, ej, x2, y2, e3, e4, b2, eb2, i _ _ z⟩
      · rename_i h
        rw [if_neg h]
        obtain ⟨v1, h1, x1, y1, e1, e2, c1, v2, h2, j, ej, x2, y2, e3, e4, b2, eb2, z⟩ := z
        exact ⟨v1, h1, x1, y1, e1, e2, c1, v2, h2, j, ej, x2, y2, e3, e4, b2, eb2, i _ _ z⟩
end
end K15
set_option Elab.async false
set_option linter.all false
set_option maxRecDepth 100000
set_option maxHeartbeats 4000000
namespace K15
open PySem PySem.Spec PyProof.Rows L2 Gd QM
theorem iteNS {z z' : Str} {A B : Prop} (e : z = z') (b : B) : if (!decide (V.str z = V.str z')) = true then A else B := by
  rw [e]
  exact iteN (by simp) b
local macro_rules | `(tactic| walk_at "bd") => `(tactic| (repeat (first | assumption | apply B.add | apply B.sub | apply B.mul | apply B.neg | exact B.lit (n := 8) (by decide))))
local macro_rules | `(tactic| walk_at "bu") => `(tactic| (apply B.up; walk_at "bd"; decide))
/-! ### data -/
theorem ints_sh (ns : List Int) : SeqAt.shaped (.list (ns.map PyData.int)) = true := by
  have h1 : PyData.canLayAll0 (ns.map PyData.int) = true ∧ PyData.depthAll (ns.map PyData.int) ≤ 5 := by
    induction ns with
    | nil => exact ⟨rfl, Nat.zero_le _⟩
    | cons n ns ih =>
      obtain ⟨i1, i2⟩ := ih
      constructor
      · rw [List.map_cons, PyData.canLayAll0, i1]
        rfl
      · rw [List.map_cons, PyData.depthAll]
        simp [PyData.depth]
        omega
  unfold SeqAt.shaped
  rw [Bool.and_eq_true]
  constructor
  · rw [PyData.canLay0]
    exact h1.1
  · rw [decide_eq_true_iff, PyData.depth]
    omega
def dqs (c : Cv) : PyData := .tuple [dq (c.a1 : Rat), dq (c.a2 : Rat), dq (c.a3 : Rat), dq (c.a4 : Rat), dq (c.a6 : Rat)]
/-! ### the change's sizes -/
theorem Lst.okd {c4 c6 : Int} {v : Nat} {d : Cv} (h : Lst c4 c6 v d) (k4 : c4.natAbs ≤ 1000000000) (k6 : c6.natAbs ≤ 10000000000000) : d.Ok := by
  obtain ⟨l4, l6⟩ := h.le
  exact ⟨h.md k4 k6, h.nums.2.2, by omega, by omega⟩
theorem isp_of_d {c : Cv} (h : c.disc ≠ 0) : IsP c.c4 c.c6 := ⟨red c, red_rc c, red_c4 c, red_c6 c, red_d h⟩
theorem nz_of_d {c : Cv} (hd : c.disc ≠ 0) : ¬ (c.c4 = 0 ∧ c.c6 = 0) := by
  rintro ⟨z1, z2⟩
  have := disc_eq c
  rw [z1, z2] at this
  omega
theorem disc_B {c : Cv} (h : c.Md) : B 900 c.disc := by
  have e2 := h.b2
  have e4 := h.b4
  have e6 := h.b6
  have e8 := h.b8
  unfold Cv.disc
  walk_at "bu"
section
variable {P : Program} {w : World} {K : PySem.W.Frag} {mg : Str → Option Value} {base : Heap}
def sp_law_least_right (K : PySem.W.Frag) : Sp := fun vs H Q _ => ∃ (p : Addr) (c : Cv), vs = [.ref p] ∧ SqT K H p c.tup ∧ c.Lk ∧ ∀ H' t d v, Same H H' → Lst c.c4 c.c6 v d → SqT K H' t d.tup → Q (.ref t) H'
end
end K15
set_option Elab.async false
set_option linter.all false
set_option maxRecDepth 100000
set_option maxHeartbeats 4000000
namespace K15
open PySem PySem.Spec PyProof.Rows L2 Gd QM
/-! ### sizes of drawn curves -/
theorem mul_na {x y : Int} {a b : Nat} (hx : x.natAbs ≤ a) (hy : y.natAbs ≤ b) : (x * y).natAbs ≤ a * b := by
  rw [Int.natAbs_mul]
  exact Nat.mul_le_mul hx hy
theorem add_na {x y : Int} {a b : Nat} (hx : x.natAbs ≤ a) (hy : y.natAbs ≤ b) : (x + y).natAbs ≤ a + b := by omega
theorem sub_na {x y : Int} {a b : Nat} (hx : x.natAbs ≤ a) (hy : y.natAbs ≤ b) : (x - y).natAbs ≤ a + b := by omega
theorem Cv.Tn.b2 {c : Cv} (h : c.Tn) : c.b2.natAbs ≤ 12 := by
  have h1 := mul_na h.h1 h.h1
  have h2 := h.h2
  unfold Cv.b2
  omega
theorem Cv.Tn.b4 {c : Cv} (h : c.Tn) : c.b4.natAbs ≤ 64 := by
  have h1 := mul_na h.h1 h.h3
  have h2 := h.h4
  unfold Cv.b4
  omega
theorem Cv.Tn.b6 {c : Cv} (h : c.Tn) : c.b6.natAbs ≤ 364 := by
  have h1 := mul_na h.h3 h.h3
  have h2 := h.h6
  unfold Cv.b6
  omega
theorem Cv.Tn.c4 {c : Cv} (h : c.Tn) : c.c4.natAbs ≤ 1680 := by
  have h1 := mul_na h.b2 h.b2
  have h2 := h.b4
  unfold Cv.c4
  omega
theorem Cv.Tn.c6 {c : Cv} (h : c.Tn) : c.c6.natAbs ≤ 108000 := by
  have h1 := mul_na (mul_na h.b2 h.b2) h.b2
  have h2 := mul_na h.b2 h.b4
  have h3 := h.b6
  have e : 36 * c.b2 * c.b4 = 36 * (c.b2 * c.b4) := by grind
  unfold Cv.c6
  rw [e]
  omega
theorem Cv.Tn.lk {c : Cv} (h : c.Tn) (hd : c.disc ≠ 0) : c.Lk := by
  have k1 := h.c4
  have k2 := h.c6
  obtain ⟨h1, h2, h3, h4, h6⟩ := h
  exact ⟨⟨⟨by unfold B; omega, by unfold B; omega, by unfold B; omega, by unfold B; omega, by unfold B; omega⟩, hd, by omega, by omega⟩, ⟨by unfold B; omega, by unfold B; omega, by unfold B; omega, by unfold B; omega, by unfold B; omega⟩⟩
theorem mvd_lk {c : Cv} {S r s t : Int} (h : c.Tn) (hd : c.disc ≠ 0) (S0 : 1 ≤ S) (S1 : S ≤ 6) (r0 : -3 ≤ r) (r1 : r ≤ 3) (s0 : -2 ≤ s) (s1 : s ≤ 2) (t0 : -3 ≤ t) (t1 : t ≤ 3) : (mvd S r s t c).Lk := by
  have k4 := h.c4
  have k6 := h.c6
  obtain ⟨h1, h2, h3, h4, h6⟩ := h
  have nS : S.natAbs ≤ 6 := by omega
  have nr : r.natAbs ≤ 3 := by omega
  have ns : s.natAbs ≤ 2 := by omega
  have nt : t.natAbs ≤ 3 := by omega
  have p2 : (S ^ 2).natAbs ≤ 36 := by rw [show S ^ 2 = S * S by grind]; exact mul_na nS nS
  have p3 : (S ^ 3).natAbs ≤ 216 := by rw [show S ^ 3 = S ^ 2 * S by grind]; exact mul_na p2 nS
  have p4 : (S ^ 4).natAbs ≤ 1296 := by rw [show S ^ 4 = S ^ 2 * S ^ 2 by grind]; exact mul_na p2 p2
  have p6 : (S ^ 6).natAbs ≤ 46656 := by rw [show S ^ 6 = S ^ 3 * S ^ 3 by grind]; exact mul_na p3 p3
  have q1 := mul_na nS h1
  have q2 := mul_na p2 h2
  have q3 := mul_na p3 h3
  have q4 := mul_na p4 h4
  have q6 := mul_na p6 h6
  have b1 : (mvd S r s t c).a1.natAbs ≤ 4000 := Nat.le_trans (add_na q1 (mul_na (show (2 : Int).natAbs ≤ 2 by decide) ns)) (by decide)
  have b2 : (mvd S r s t c).a2.natAbs ≤ 4000 := Nat.le_trans (sub_na (add_na (sub_na q2 (mul_na ns q1)) (mul_na (show (3 : Int).natAbs ≤ 3 by decide) nr)) (mul_na ns ns)) (by decide)
  have b3 : (mvd S r s t c).a3.natAbs ≤ 4000 := Nat.le_trans (add_na (add_na q3 (mul_na nr q1)) (mul_na (show (2 : Int).natAbs ≤ 2 by decide) nt)) (by decide)
  have b4 : (mvd S r s t c).a4.natAbs ≤ 1000000 := Nat.le_trans (sub_na (add_na (sub_na (add_na (sub_na q4 (mul_na ns q3)) (mul_na (mul_na (show (2 : Int).natAbs ≤ 2 by decide) nr) q2)) (mul_na (add_na nt (mul_na nr ns)) q1)) (mul_na (mul_na (show (3 : Int).natAbs ≤ 3 by decide) nr) nr)) (mul_na (mul_na (show (2 : Int).natAbs ≤ 2 by decide) ns) nt)) (by decide)
  have b6 : (mvd S r s t c).a6.natAbs ≤ 100000000 := Nat.le_trans (sub_na (sub_na (sub_na (add_na (add_na (add_na q6 (mul_na nr q4)) (mul_na (mul_na nr nr) q2)) (mul_na (mul_na nr nr) nr)) (mul_na nt q3)) (mul_na nt nt)) (mul_na (mul_na nr nt) q1)) (by decide)
  have c4 : (mvd S r s t c).c4.natAbs ≤ 1000000000 := by
    rw [mvd_c4]
    exact Nat.le_trans (mul_na p4 k4) (by decide)
  have c6 : (mvd S r s t c).c6.natAbs ≤ 10000000000000 := by
    rw [mvd_c6]
    exact Nat.le_trans (mul_na p6 k6) (by decide)
  have lt : ∀ {x : Int} {a n : Nat}, x.natAbs ≤ a → a < 2 ^ n → B n x := fun h k => Nat.lt_of_le_of_lt h k
  exact ⟨⟨⟨lt b1 (by decide), lt b2 (by decide), lt b3 (by decide), lt b4 (by decide), lt b6 (by decide)⟩, mvd_d (by omega) hd, c4, c6⟩, ⟨lt b1 (by decide), lt b2 (by decide), lt b3 (by decide), lt b4 (by decide), lt b6 (by decide)⟩⟩
/-! ### twists -/
def twi (d : Int) (c : Cv) : Cv := ⟨0, 0, 0, -27 * d * d * c.c4, -54 * d ^ 3 * c.c6⟩
theorem sq_inj {a b : Nat} (h : a * a = b * b) : a = b := by
  rcases Nat.lt_trichotomy a b with z | z | z
  · have := Nat.mul_lt_mul_of_lt_of_le z (Nat.le_of_lt z) (by omega)
    omega
  · exact z
  · have := Nat.mul_lt_mul_of_lt_of_le z (Nat.le_of_lt z) (by omega)
    omega
/-! ### the end -/
def cEnd : Cv := ⟨0, 0, 0, -16, 16⟩
end K15
/-! Curves of five numbers over a ring without divisors of nought: chords and tangents by one slope, sums, the law of three. Plain mathematics. -/
set_option linter.all false
namespace EcF
open Lean.Grind
section
variable {R : Type} [CommRing R]
structure Cu (R : Type) where
  a1 : R
  a2 : R
  a3 : R
  a4 : R
  a6 : R
/-- no divisors of nought -/
def Nz (R : Type) [CommRing R] : Prop := ∀ a b : R, a * b = 0 → a = 0 ∨ b = 0
def On (c : Cu R) (x y : R) : Prop := y * y + c.a1 * x * y + c.a3 * y = x * x * x + c.a2 * x * x + c.a4 * x + c.a6
/-- k is the slope of the line through two points of the curve, or of the tangent -/
def Sl (c : Cu R) (k x y z w : R) : Prop := k * (z - x) = w - y ∧ k * (y + w + c.a1 * z + c.a3) = x * x + x * z + z * z + c.a2 * (x + z) + c.a4 - c.a1 * y
def tx (c : Cu R) (k x z : R) : R := k * k + c.a1 * k - c.a2 - x - z
def ng (c : Cu R) (x y : R) : R := -y - c.a1 * x - c.a3
variable {c : Cu R} {k x y z w e s t : R}
theorem Sl.comm (h : Sl c k x y z w) : Sl c k z w x y := by
  unfold Sl at *
  grind
theorem Sl.line (h : Sl c k x y z w) (e : R) : k * (e - x) + y = k * (e - z) + w := by
  unfold Sl at h
  grind
theorem tx_comm : tx c k x z = tx c k z x := by
  unfold tx
  grind
theorem Sl.rot (h : Sl c k x y z w) (he : e = tx c k x z) : Sl c k z w e (k * (e - x) + y) := by
  unfold Sl tx at *
  grind
theorem Sl.third (h : Sl c k x y z w) (he : e = tx c k x z) : tx c k z e = x := by
  unfold Sl tx at *
  grind
theorem Sl.on (h : Sl c k x y z w) (o : On c x y) (he : e = tx c k x z) : On c e (k * (e - x) + y) := by
  unfold Sl tx On at *
  obtain ⟨h1, h2⟩ := h
  cases c with
  | mk a1 a2 a3 a4 a6 =>
    dsimp only at *
    have e1 : w = k * (z - x) + y := by grind
    have e2 : a4 = k * (y + w + a1 * z + a3) - (x * x + x * z + z * z + a2 * (x + z) - a1 * y) := by grind
    have e3 : a6 = y * y + a1 * x * y + a3 * y - (x * x * x + a2 * x * x + a4 * x) := by grind
    subst e3
    subst e2
    subst e1
    subst he
    clear h1 h2 o
    grind
theorem On.ng (o : On c x y) : On c x (ng c x y) := by
  unfold On EcF.ng at *
  grind
theorem ng_ng : ng c x (ng c x y) = y := by
  unfold ng
  grind
theorem Sl.ng (h : Sl c k x y z w) : Sl c (-k - c.a1) x (ng c x y) z (ng c z w) := by
  unfold Sl EcF.ng at *
  grind
theorem tx_ng : tx c (-k - c.a1) x z = tx c k x z := by
  unfold tx
  grind
/-- a point where the curve has no one tangent -/
def Flat (c : Cu R) : Prop := ∀ x y : R, On c x y → 2 * y + c.a1 * x + c.a3 = 0 → 3 * x * x + 2 * c.a2 * x + c.a4 - c.a1 * y = 0 → False
/-- the slope is one -/
theorem Sl.uniq (nz : Nz R) {k' : R} (h : Sl c k x y z w) (h' : Sl c k' x y z w) (o : On c x y) (o' : On c z w) (hn : ¬(z = x ∧ w = EcF.ng c x y)) : k = k' := by
  have h1 : (k - k') * (z - x) = 0 := by
    unfold Sl at *
    grind
  have h2 : (k - k') * (y + w + c.a1 * z + c.a3) = 0 := by
    unfold Sl at *
    grind
  rcases nz _ _ h1 with g | g
  · grind
  · rcases nz _ _ h2 with g2 | g2
    · grind
    · exfalso
      refine hn ⟨by grind, ?_⟩
      unfold EcF.ng
      grind
/-- in the frame of the first line: the second lines' slopes -/
theorem frame1 (nz : Nz R) {a1 a3 b cc d e s q t : R} (h1 : d = s * (cc - b)) (h2 : s * (d + a1 * cc + a3) = cc * (cc - e)) (h3 : q = s * s + a1 * s + e - cc) (h4 : t * q = -(s * (q - b)) - a1 * q - a3) (h5 : t * -(s * (q - b)) = (q - b) * (q - e)) (hb : ¬(q = 0 ∧ b = 0)) : s * t = e - q := by
  have e1 : (q - b) * (s * t - (e - q)) = 0 := by grind
  rcases nz _ _ e1 with g | g
  · have e2 : q = b := by grind
    subst e2
    have e3 : q * (s * t - (e - q)) = 0 := by grind
    rcases nz _ _ e3 with g2 | g2
    · exact absurd ⟨g2, g2⟩ hb
    · grind
  · grind
theorem frame2 {a1 a3 b cc d e s q t u : R} (h1 : d = s * (cc - b)) (h2 : s * (d + a1 * cc + a3) = cc * (cc - e)) (h3 : q = s * s + a1 * s + e - cc) (h4 : t * q = -(s * (q - b)) - a1 * q - a3) (h6 : s * t = e - q) (hu : u = s + t) : u * (cc - e) = d + a1 * e + a3 ∧ u * (d + a1 * (cc - e)) = cc * (cc - b) + a1 * (a1 * e + a3) := by
  have g1 : cc = s * (s + t + a1) := by grind
  have g2 : (s + t + a1) * q = s * b - a3 := by grind
  have g3 : a3 = s * b - (s + t + a1) * q := by grind
  have g4 : q = e - s * t := by grind
  subst hu
  subst g3
  subst g4
  subst g1
  subst h1
  constructor
  · grind
  · grind
theorem mv1 {k a y w : R} (h : k * a = w - y) : w = y + k * a := by grind
theorem mv2 {l p q r : R} (h : l = p + q - r) : q = l - (p - r) := by grind
theorem frame3 {a1 a3 b cc d e s q t E : R} (h1 : d = s * (cc - b)) (h2 : s * (d + a1 * cc + a3) = cc * (cc - e)) (h3 : q = s * s + a1 * s + e - cc) (h4 : t * q = -(s * (q - b)) - a1 * q - a3) (h6 : s * t = e - q) (hE : E = t * t + a1 * t + b + e - q) : (s + t) * (E - e) - a1 * e - a3 = t * E := by
  have g3 : a3 = s * b - (s + t + a1) * q := by
    clear h1 h2 h3 hE h6
    grind
  have g4 : q = e - s * t := by
    clear h1 h2 h3 h4 g3 hE
    grind
  subst hE
  subst g3
  subst g4
  clear h1 h2 h3 h4 h6
  grind
section
variable {a1 a2 a3 a4 x1 y1 x2 y2 x3 y3 xa xc yc : R}
theorem fr1 (k1 : k * (x2 - x1) = y2 - y1) (s1 : s * (x3 - x2) = y3 - y2) : y3 - y1 - k * (x3 - x1) = (s - k) * ((x3 - x1) - (x2 - x1)) := by grind
theorem fr2 (k1 : k * (x2 - x1) = y2 - y1) (k2 : k * (y1 + y2 + a1 * x2 + a3) = x1 * x1 + x1 * x2 + x2 * x2 + a2 * (x1 + x2) + a4 - a1 * y1) (s1 : s * (x3 - x2) = y3 - y2)
    (s2 : s * (y2 + y3 + a1 * x3 + a3) = x2 * x2 + x2 * x3 + x3 * x3 + a2 * (x2 + x3) + a4 - a1 * y2) (ea : xa = k * k + a1 * k - a2 - x1 - x2) :
    (s - k) * ((y3 - y1 - k * (x3 - x1)) + (a1 + 2 * k) * (x3 - x1) + (a3 + a1 * x1 + 2 * y1)) = (x3 - x1) * ((x3 - x1) - (xa - x1)) := by
  have e1 := mv1 k1
  have e2 := mv1 s1
  have e3 := mv2 k2
  subst e3
  subst e2
  subst e1
  subst ea
  clear k1 k2 s1
  grind
theorem fr3 (ea : xa = k * k + a1 * k - a2 - x1 - x2) (ec : xc = s * s + a1 * s - a2 - x2 - x3) : xc - x1 = (s - k) * (s - k) + (a1 + 2 * k) * (s - k) + (xa - x1) - (x3 - x1) := by
  subst ea
  subst ec
  grind
theorem fr4 (k1 : k * (x2 - x1) = y2 - y1) (t1 : t * (xc - x1) = yc - y1) (fc : yc = -(s * (xc - x2) + y2) - a1 * xc - a3) :
    (t - k) * (xc - x1) = -((s - k) * ((xc - x1) - (x2 - x1))) - (a1 + 2 * k) * (xc - x1) - (a3 + a1 * x1 + 2 * y1) := by
  have e1 := mv1 k1
  subst fc
  subst e1
  clear k1
  grind
theorem fr5 (k1 : k * (x2 - x1) = y2 - y1) (k2 : k * (y1 + y2 + a1 * x2 + a3) = x1 * x1 + x1 * x2 + x2 * x2 + a2 * (x1 + x2) + a4 - a1 * y1) (t1 : t * (xc - x1) = yc - y1)
    (t2 : t * (y1 + yc + a1 * xc + a3) = x1 * x1 + x1 * xc + xc * xc + a2 * (x1 + xc) + a4 - a1 * y1) (ea : xa = k * k + a1 * k - a2 - x1 - x2) (fc : yc = -(s * (xc - x2) + y2) - a1 * xc - a3) :
    (t - k) * -((s - k) * ((xc - x1) - (x2 - x1))) = ((xc - x1) - (x2 - x1)) * ((xc - x1) - (xa - x1)) := by
  have e1 := mv1 k1
  have e3 := mv2 k2
  subst e3
  subst fc
  subst e1
  subst ea
  clear k1 k2
  grind
theorem fr6 (k1 : k * (x2 - x1) = y2 - y1) (fc : yc = -(s * (xc - x2) + y2) - a1 * xc - a3) (z1 : xc - x1 = 0) (z2 : x2 - x1 = 0) : yc = -y1 - a1 * x1 - a3 := by
  have e1 : x2 = x1 := by grind
  have e2 : xc = x1 := by grind
  subst e1
  subst e2
  grind
theorem fr7 (k1 : k * (x2 - x1) = y2 - y1) (ea : xa = k * k + a1 * k - a2 - x1 - x2) (k2 : k * (y1 + y2 + a1 * x2 + a3) = x1 * x1 + x1 * x2 + x2 * x2 + a2 * (x1 + x2) + a4 - a1 * y1) {u : R}
    (g1 : u * ((x3 - x1) - (xa - x1)) = (y3 - y1 - k * (x3 - x1)) + (a1 + 2 * k) * (xa - x1) + (a3 + a1 * x1 + 2 * y1))
    (g2 : u * ((y3 - y1 - k * (x3 - x1)) + (a1 + 2 * k) * ((x3 - x1) - (xa - x1))) = (x3 - x1) * ((x3 - x1) - (x2 - x1)) + (a1 + 2 * k) * ((a1 + 2 * k) * (xa - x1) + (a3 + a1 * x1 + 2 * y1))) :
    (u + k) * (x3 - xa) = y3 - (-(k * (xa - x1) + y1) - a1 * xa - a3) ∧ (u + k) * ((-(k * (xa - x1) + y1) - a1 * xa - a3) + y3 + a1 * x3 + a3) = xa * xa + xa * x3 + x3 * x3 + a2 * (xa + x3) + a4 - a1 * (-(k * (xa - x1) + y1) - a1 * xa - a3) := by
  have e1 := mv1 k1
  have e3 := mv2 k2
  subst e3
  subst e1
  have e4 : x2 = k * k + a1 * k - a2 - x1 - xa := by
    clear k1 k2 g1 g2
    grind
  clear k1 k2 ea
  constructor
  · clear g2
    grind
  · subst e4
    grind
end
/-- the sum of three, where no two are opposite -/
theorem three (nz : Nz R) {x1 y1 x2 y2 x3 y3 xa ya xc yc : R} (hk : Sl c k x1 y1 x2 y2) (ea : xa = tx c k x1 x2) (fa : ya = EcF.ng c xa (k * (xa - x1) + y1))
    (hs : Sl c s x2 y2 x3 y3) (ec : xc = tx c s x2 x3) (fc : yc = EcF.ng c xc (s * (xc - x2) + y2)) (ht : Sl c t x1 y1 xc yc) (hc : ¬(xc = x1 ∧ yc = EcF.ng c x1 y1)) :
    Sl c (s + t - k) xa ya x3 y3 ∧ tx c (s + t - k) xa x3 = tx c t x1 xc ∧ (s + t - k) * (tx c t x1 xc - xa) + ya = t * (tx c t x1 xc - x1) + y1 := by
  obtain ⟨k1, k2⟩ := hk
  obtain ⟨s1, s2⟩ := hs
  obtain ⟨t1, t2⟩ := ht
  have h1 := fr1 k1 s1
  have h2 := fr2 k1 k2 s1 s2 ea
  have h3 := fr3 ea ec
  have h4 := fr4 k1 t1 fc
  have h5 := fr5 k1 k2 t1 t2 ea fc
  have h6 := frame1 nz h1 h2 h3 h4 h5 fun z => hc ⟨by have := z.1; grind, fr6 k1 fc z.1 z.2⟩
  obtain ⟨g1, g2⟩ := frame2 h1 h2 h3 h4 h6 rfl
  have hE : tx c t x1 xc - x1 = (t - k) * (t - k) + (c.a1 + 2 * k) * (t - k) + (x2 - x1) + (xa - x1) - (xc - x1) := by
    clear h1 h2 h3 h4 h5 h6 g1 g2 k1 k2 s1 s2 t1 t2 fc hc ec fa
    unfold tx at *
    subst ea
    grind
  have h8 := frame3 h1 h2 h3 h4 h6 hE
  have e : s + t - k = (s - k + (t - k)) + k := by grind
  subst fa
  refine ⟨?_, ?_, ?_⟩
  · rw [e]
    exact fr7 k1 ea k2 g1 g2
  · clear h1 h2 h4 h5 g1 g2 k1 k2 s1 s2 t1 t2 fc hc e h8 hE
    unfold tx at *
    grind
  · clear h1 h2 h3 h4 h5 h6 g1 g2 k1 k2 s1 s2 t1 t2 fc hc e hE ea ec
    generalize tx c t x1 xc = E at *
    unfold EcF.ng
    grind
/-! ### points -/
abbrev Pn (R : Type) := Option (R × R)
def OnP (c : Cu R) : Pn R → Prop
  | none => True
  | some (x, y) => On c x y
def neg (c : Cu R) : Pn R → Pn R
  | none => none
  | some (x, y) => some (x, ng c x y)
/-- T is the sum of A and B -/
def Is (c : Cu R) : Pn R → Pn R → Pn R → Prop
  | none, B, T => T = B
  | some a, none, T => T = some a
  | some (x, y), some (z, w), T => ((z = x ∧ w = ng c x y) ∧ T = none) ∨ (¬(z = x ∧ w = ng c x y) ∧ ∃ k, Sl c k x y z w ∧ T = some (tx c k x z, ng c (tx c k x z) (k * (tx c k x z - x) + y)))
variable {A B D T M N X Y : Pn R}
theorem OnP.neg (o : OnP c A) : OnP c (neg c A) := by
  match A, o with
  | none, _ => trivial
  | some (x, y), o => exact On.ng o
theorem neg_neg : neg c (neg c A) = A := by
  match A with
  | none => rfl
  | some (x, y) =>
    show some (x, EcF.ng c x (EcF.ng c x y)) = _
    rw [ng_ng]
theorem opp_comm {x y z w : R} (h : z = x ∧ w = EcF.ng c x y) : x = z ∧ y = EcF.ng c z w := by
  obtain ⟨rfl, rfl⟩ := h
  exact ⟨rfl, ng_ng.symm⟩
theorem Is.comm (h : Is c A B T) : Is c B A T := by
  match A, B, h with
  | none, none, h => exact h
  | none, some b, h => exact h
  | some a, none, h => exact h
  | some (x, y), some (z, w), h =>
    rcases h with ⟨h1, h2⟩ | ⟨h1, k, h2, h3⟩
    · exact .inl ⟨opp_comm h1, h2⟩
    · refine .inr ⟨fun g => h1 (opp_comm g), k, h2.comm, ?_⟩
      rw [tx_comm (x := z), ← h2.line]
      exact h3
theorem Is.on (h : Is c A B T) (oa : OnP c A) (ob : OnP c B) : OnP c T := by
  match A, B, h with
  | none, b, h =>
    have e : T = b := h
    rw [e]
    exact ob
  | some a, none, h =>
    have e : T = some a := h
    rw [e]
    exact oa
  | some (x, y), some (z, w), h =>
    rcases h with ⟨h1, h2⟩ | ⟨h1, k, h2, h3⟩
    · rw [h2]
      trivial
    · rw [h3]
      exact On.ng (h2.on oa rfl)
theorem Is.uniq (nz : Nz R) (oa : OnP c A) (ob : OnP c B) (h : Is c A B T) (h' : Is c A B X) : T = X := by
  match A, B, h, h' with
  | none, _, h, h' => exact Eq.trans h (Eq.symm h')
  | some a, none, h, h' => exact Eq.trans h (Eq.symm h')
  | some (x, y), some (z, w), h, h' =>
    rcases h with ⟨h1, h2⟩ | ⟨h1, k, h2, h3⟩
    · rcases h' with ⟨g1, g2⟩ | ⟨g1, _⟩
      · rw [h2, g2]
      · exact absurd h1 g1
    · rcases h' with ⟨g1, _⟩ | ⟨g1, k', g2, g3⟩
      · exact absurd g1 h1
      · have e := Sl.uniq nz h2 g2 oa ob h1
        subst e
        rw [h3, g3]
/-- a line meets the curve in three points -/
theorem Is.opp (nz : Nz R) (fl : Flat c) (oa : OnP c A) (ob : OnP c B) (h : Is c A B (neg c D)) : Is c B D (neg c A) := by
  match A, B, D, h with
  | none, b, d, h =>
    have e : neg c d = b := h
    subst e
    match d with
    | none => exact rfl
    | some (x, y) => exact .inl ⟨⟨rfl, ng_ng.symm⟩, rfl⟩
  | some a, none, d, h =>
    have e : neg c d = some a := h
    rw [← e, neg_neg]
    exact rfl
  | some (x, y), some (z, w), none, h =>
    rcases h with ⟨⟨h1, h2⟩, _⟩ | ⟨_, k, _, h3⟩
    · subst h1
      subst h2
      exact rfl
    · exact nomatch h3
  | some (x, y), some (z, w), some (e, f), h =>
    rcases h with ⟨_, h2⟩ | ⟨h1, k, h2, h3⟩
    · exact nomatch h2
    · have h3' : (e, EcF.ng c e f) = (tx c k x z, EcF.ng c (tx c k x z) (k * (tx c k x z - x) + y)) := Option.some.inj h3
      have e1 : e = tx c k x z := congrArg Prod.fst h3'
      have e2 : EcF.ng c e f = EcF.ng c e (k * (e - x) + y) := by
        have := congrArg Prod.snd h3'
        rw [e1]
        rw [e1] at this
        exact this
      have e3 : f = k * (e - x) + y := by
        have := congrArg (EcF.ng c e) e2
        rwa [ng_ng, ng_ng] at this
      have h4 := h2.rot e1
      rw [← e3] at h4
      by_cases g : e = z ∧ f = EcF.ng c z w
      · exfalso
        obtain ⟨g1, g2⟩ := g
        have g3 : f = w := by
          have := h4.1
          rw [g1] at this
          clear g2 e3 e2 h2 h4
          grind
        have g4 := h4.2
        rw [g1] at g4
        rw [g3] at g2 g4
        refine fl z w ob ?_ ?_
        · unfold EcF.ng at g2
          clear g4 h4 h2 e2 e3
          grind
        · unfold EcF.ng at g2
          clear h4 h2 e2 e3
          grind
      · refine .inr ⟨g, k, h4, ?_⟩
        show some (x, EcF.ng c x y) = _
        rw [h2.third e1]
        have : k * (x - z) + w = y := by
          have := h2.1
          clear g h4 e2 e3 h2 h1 h3 e1
          grind
        rw [this]
theorem ng_inj {x y w : R} (h : EcF.ng c x y = EcF.ng c x w) : y = w := by
  have := congrArg (EcF.ng c x) h
  rwa [ng_ng, ng_ng] at this
theorem line_ng {e : R} : EcF.ng c e (k * (e - x) + y) = (-k - c.a1) * (e - x) + EcF.ng c x y := by
  unfold EcF.ng
  grind
theorem Is.neg_all (h : Is c A B T) : Is c (neg c A) (neg c B) (neg c T) := by
  match A, B, h with
  | none, b, h =>
    have e : T = b := h
    rw [e]
    exact rfl
  | some a, none, h =>
    have e : T = some a := h
    rw [e]
    exact rfl
  | some (x, y), some (z, w), h =>
    rcases h with ⟨⟨h1, h2⟩, h3⟩ | ⟨h1, k, h2, h3⟩
    · subst h1
      subst h2
      subst h3
      exact .inl ⟨⟨rfl, rfl⟩, rfl⟩
    · subst h3
      refine .inr ⟨?_, -k - c.a1, h2.ng, ?_⟩
      · rintro ⟨g1, g2⟩
        subst g1
        exact h1 ⟨rfl, ng_inj g2⟩
      · show some (tx c k x z, EcF.ng c (tx c k x z) (EcF.ng c (tx c k x z) (k * (tx c k x z - x) + y))) = _
        rw [tx_ng, line_ng (e := tx c k x z)]
theorem Is.canc (nz : Nz R) (fl : Flat c) (oa : OnP c A) (ob : OnP c B) (h : Is c A B T) : Is c T (neg c B) A := by
  have h0 : Is c A B (neg c (neg c T)) := by rw [neg_neg]; exact h
  have h1 := (h0.opp nz fl oa ob).neg_all
  rw [neg_neg, neg_neg] at h1
  exact h1.comm
theorem is_none_iff {a b : R × R} (h : Is c (some a) (some b) T) : T = none ↔ some b = neg c (some a) := by
  obtain ⟨x, y⟩ := a
  obtain ⟨z, w⟩ := b
  rcases h with ⟨⟨h1, h2⟩, h3⟩ | ⟨h1, k, h2, h3⟩
  · subst h1
    subst h2
    exact ⟨fun _ => rfl, fun _ => h3⟩
  · refine ⟨fun e => ?_, fun e => ?_⟩
    · rw [h3] at e
      exact nomatch e
    · have e' : (z, w) = (x, EcF.ng c x y) := Option.some.inj e
      exact absurd ⟨congrArg Prod.fst e', congrArg Prod.snd e'⟩ h1
/-- the law of three -/
theorem Is.assoc (nz : Nz R) (fl : Flat c) (oa : OnP c A) (ob : OnP c B) (od : OnP c D) (hm : Is c A B M) (hx : Is c M D X) (hn : Is c B D N) (hy : Is c A N Y) : X = Y := by
  have om := hm.on oa ob
  have on := hn.on ob od
  match A, B, D, oa, ob, od, hm, hn, hy, hx with
  | none, b, d, oa, ob, od, hm, hn, hy, hx =>
    have e1 : M = b := hm
    have e2 : Y = N := hy
    subst e1
    subst e2
    exact hx.uniq nz ob od hn
  | some a, none, d, oa, ob, od, hm, hn, hy, hx =>
    have e1 : M = some a := hm
    have e2 : N = d := hn
    subst e1
    subst e2
    exact hx.uniq nz oa od hy
  | some a, some b, none, oa, ob, od, hm, hn, hy, hx =>
    have e1 : N = some b := hn
    have e2 : X = M := hx.comm
    subst e1
    subst e2
    exact hm.uniq nz oa ob hy
  | some a, some b, some d, oa, ob, od, hm, hn, hy, hx =>
    by_cases g1 : some b = neg c (some a)
    · have e1 : M = none := (is_none_iff hm).mpr g1
      subst e1
      have e2 : X = some d := hx
      rw [g1] at hn
      have h1 := (hn.comm).canc nz fl od oa.neg
      rw [neg_neg] at h1
      rw [e2]
      exact h1.comm.uniq nz oa on hy
    by_cases g2 : some d = neg c (some b)
    · have e1 : N = none := (is_none_iff hn).mpr g2
      subst e1
      have e2 : Y = some a := hy
      rw [e2]
      have h1 := hm.canc nz fl oa ob
      rw [← g2] at h1
      exact hx.uniq nz om od h1
    have nm : M ≠ none := fun e => g1 ((is_none_iff hm).mp e)
    have nn : N ≠ none := fun e => g2 ((is_none_iff hn).mp e)
    match M, N, om, on, hm, hn, hx, hy, nm, nn with
    | none, _, _, _, _, _, _, _, nm, _ => exact absurd rfl nm
    | some m, none, _, _, _, _, _, _, _, nn => exact absurd rfl nn
    | some m, some n, om, on, hm, hn, hx, hy, _, _ =>
      by_cases g3 : some d = neg c (some m)
      · have e1 : X = none := (is_none_iff hx).mpr g3
        have h0 : Is c (some a) (some b) (neg c (some d)) := by rw [g3, neg_neg]; exact hm
        have h1 := h0.opp nz fl oa ob
        have e2 := hn.uniq nz ob od h1
        rw [e1, (is_none_iff hy).mpr e2]
      by_cases g4 : some n = neg c (some a)
      · exfalso
        rw [g4] at hn
        have h1 := (hn.opp nz fl ob od).opp nz fl od oa
        have e2 := hm.uniq nz oa ob h1
        refine g3 ?_
        rw [e2, neg_neg]
      obtain ⟨x1, y1⟩ := a
      obtain ⟨x2, y2⟩ := b
      obtain ⟨x3, y3⟩ := d
      obtain ⟨xa, ya⟩ := m
      obtain ⟨xc, yc⟩ := n
      rcases hm with ⟨_, e⟩ | ⟨m1, k, m2, m3⟩
      · exact nomatch e
      rcases hn with ⟨_, e⟩ | ⟨n1, s, n2, n3⟩
      · exact nomatch e
      rcases hx with ⟨⟨z1, z2⟩, _⟩ | ⟨x1', u, u2, u3⟩
      · exact absurd (by rw [z1, z2]; rfl) g3
      rcases hy with ⟨⟨z1, z2⟩, _⟩ | ⟨y1', t, t2, t3⟩
      · exact absurd (by rw [z1, z2]; rfl) g4
      have m4 := Option.some.inj m3
      have n4 := Option.some.inj n3
      have ea : xa = tx c k x1 x2 := congrArg Prod.fst m4
      have fa : ya = EcF.ng c xa (k * (xa - x1) + y1) := by rw [ea]; exact congrArg Prod.snd m4
      have ec : xc = tx c s x2 x3 := congrArg Prod.fst n4
      have fc : yc = EcF.ng c xc (s * (xc - x2) + y2) := by rw [ec]; exact congrArg Prod.snd n4
      obtain ⟨w1, w2, w3⟩ := three nz m2 ea fa n2 ec fc t2 y1'
      have e := u2.uniq nz w1 om od x1'
      subst e
      rw [u3, t3, w2]
      rw [w3]
end
end EcF
/-! Reckoning modulo n, inverses by Euclid's divisions: plain mathematics. -/
set_option linter.all false
namespace K45M
/-- one modulo n -/
def Mo (n a b : Int) : Prop := a % n = b % n
section
variable {n a b c d : Int}
theorem Mo.rfl' : Mo n a a := rfl
theorem Mo.of_eq (h : a = b) : Mo n a b := by rw [h]; exact Mo.rfl'
theorem Mo.symm (h : Mo n a b) : Mo n b a := Eq.symm h
theorem Mo.trans (h : Mo n a b) (k : Mo n b c) : Mo n a c := Eq.trans h k
theorem Mo.add (h : Mo n a b) (k : Mo n c d) : Mo n (a + c) (b + d) := by
  unfold Mo at *
  rw [Int.add_emod, h, k, ← Int.add_emod]
theorem Mo.sub (h : Mo n a b) (k : Mo n c d) : Mo n (a - c) (b - d) := by
  unfold Mo at *
  rw [Int.sub_emod, h, k, ← Int.sub_emod]
theorem Mo.mul (h : Mo n a b) (k : Mo n c d) : Mo n (a * c) (b * d) := by
  unfold Mo at *
  rw [Int.mul_emod, h, k, ← Int.mul_emod]
theorem Mo.neg (h : Mo n a b) : Mo n (-a) (-b) := by
  have := (Mo.rfl' (n := n) (a := 0)).sub h
  rw [Int.zero_sub, Int.zero_sub] at this
  exact this
theorem Mo.mod : Mo n (a % n) a := Int.emod_emod_of_dvd a (Int.dvd_refl n)
theorem Mo.iff_dvd : Mo n a b ↔ n ∣ a - b := by
  unfold Mo
  exact Int.emod_eq_emod_iff_emod_sub_eq_zero.trans (Int.dvd_iff_emod_eq_zero).symm
theorem Mo.zero : Mo n a 0 ↔ n ∣ a := by
  rw [Mo.iff_dvd, Int.sub_zero]
/-- a digit -/
def Dg (n a : Int) : Prop := 0 ≤ a ∧ a < n
theorem Dg.eq (ha : Dg n a) (hb : Dg n b) (h : Mo n a b) : a = b := by
  unfold Mo at h
  rwa [Int.emod_eq_of_lt ha.1 ha.2, Int.emod_eq_of_lt hb.1 hb.2] at h
theorem Dg.mod (hn : 0 < n) : Dg n (a % n) := ⟨Int.emod_nonneg _ (by omega), Int.emod_lt_of_pos _ hn⟩
/-- z has an inverse -/
def Un (n z : Int) : Prop := ∃ t, Mo n (z * t) 1
theorem Un.mul {y z : Int} (hy : Un n y) (hz : Un n z) : Un n (y * z) := by
  obtain ⟨s, hs⟩ := hy
  obtain ⟨t, ht⟩ := hz
  refine ⟨s * t, ?_⟩
  have := hs.mul ht
  rw [Int.mul_one] at this
  exact (Mo.of_eq (by ac_rfl)).trans this
theorem Un.one : Un n 1 := ⟨1, Mo.rfl'⟩
theorem Un.congr {y z : Int} (h : Mo n y z) (hy : Un n y) : Un n z := by
  obtain ⟨s, hs⟩ := hy
  exact ⟨s, (h.symm.mul Mo.rfl').trans hs⟩
theorem Un.cancel {z : Int} (hz : Un n z) (h : Mo n (a * z) (b * z)) : Mo n a b := by
  obtain ⟨t, ht⟩ := hz
  have h1 := h.mul (Mo.rfl' (a := t))
  have e : ∀ x : Int, Mo n (x * z * t) x := fun x => by
    have := (Mo.rfl' (a := x)).mul ht
    rw [Int.mul_one, ← Int.mul_assoc] at this
    exact this
  exact (e a).symm.trans (h1.trans (e b))
/-- Bezout -/
theorem bez : ∀ (m k : Nat), ∃ x y : Int, (m : Int) * x + (k : Int) * y = ((Nat.gcd m k : Nat) : Int) := by
  intro m
  induction m using Nat.strongRecOn with
  | ind m ih =>
    intro k
    rcases Nat.eq_zero_or_pos m with h | h
    · subst h
      exact ⟨0, 1, by simp⟩
    · obtain ⟨x, y, e⟩ := ih (k % m) (Nat.mod_lt _ h) m
      rw [Nat.gcd_rec m k]
      refine ⟨y - (k / m : Nat) * x, x, ?_⟩
      rw [← e]
      have : (k : Int) = (m : Int) * ((k / m : Nat) : Int) + ((k % m : Nat) : Int) := by exact_mod_cast (Nat.div_add_mod k m).symm
      generalize ((k / m : Nat) : Int) = q at *
      generalize ((k % m : Nat) : Int) = r at *
      rw [this]
      grind
theorem un_iff (hn : 0 < n) {z : Int} : Un n z ↔ Int.gcd z n = 1 := by
  constructor
  · rintro ⟨t, ht⟩
    have h := Mo.iff_dvd.mp ht
    have g1 : (Int.gcd z n : Int) ∣ z := Int.gcd_dvd_left ..
    have g2 : (Int.gcd z n : Int) ∣ n := Int.gcd_dvd_right ..
    have g3 : (Int.gcd z n : Int) ∣ z * t - 1 := Int.dvd_trans g2 h
    have g4 : (Int.gcd z n : Int) ∣ 1 := by
      have := Int.dvd_sub (Int.dvd_mul_of_dvd_left (b := z) (c := t) g1) g3
      rw [show z * t - (z * t - 1) = 1 by omega] at this
      exact this
    exact Nat.dvd_one.mp (Int.natCast_dvd_natCast.mp g4)
  · intro h
    obtain ⟨x, y, e⟩ := bez z.natAbs n.natAbs
    have h' : Nat.gcd z.natAbs n.natAbs = 1 := h
    rw [h'] at e
    have en : (n.natAbs : Int) = n := by omega
    rw [en] at e
    rcases Int.natAbs_eq z with q | q
    · refine ⟨x, Mo.iff_dvd.mpr ⟨-y, ?_⟩⟩
      rw [q]
      have : n * -y = -(n * y) := Int.mul_neg ..
      omega
    · refine ⟨-x, Mo.iff_dvd.mpr ⟨-y, ?_⟩⟩
      rw [q]
      have : n * -y = -(n * y) := Int.mul_neg ..
      have : -(z.natAbs : Int) * -x = (z.natAbs : Int) * x := Int.neg_mul_neg ..
      omega
theorem gcd_congr (h : Mo n a b) : Int.gcd a n = Int.gcd b n := by
  obtain ⟨q, hq⟩ := Mo.iff_dvd.mp h
  have : a = b + n * q := by omega
  rw [this, Int.gcd_add_mul_left_left]
theorem gcd_unit (hn : 0 < n) {z : Int} (hz : Un n z) (a : Int) : Int.gcd (a * z) n = Int.gcd a n := by
  have := (un_iff hn).mp hz
  show Nat.gcd (a * z).natAbs n.natAbs = Nat.gcd a.natAbs n.natAbs
  rw [Int.natAbs_mul]
  exact Nat.Coprime.gcd_mul_right_cancel _ this
theorem zero_unit {z : Int} (hz : Un n z) : Mo n (a * z) 0 ↔ Mo n a 0 := by
  constructor
  · intro h
    exact hz.cancel (h.trans (Mo.of_eq (Int.zero_mul z).symm))
  · intro h
    exact (h.mul Mo.rfl').trans (Mo.of_eq (Int.zero_mul z))
end
/-! ### Euclid's divisions with one row of factors -/
/-- above * a is high modulo n, below * a is low; the factors stay small -/
structure Eu (n a : Int) (high low above below : Int) : Prop where
  h0 : 0 < high
  l0 : 0 ≤ low
  ha : Mo n (above * a) high
  la : Mo n (below * a) low
  g : Nat.gcd high.natAbs low.natAbs = Nat.gcd a.natAbs n.natAbs
  sz : high * (below.natAbs : Int) + low * (above.natAbs : Int) = n
  sg : above * below ≤ 0
  lt : low < high
  hn : high ≤ n
theorem Eu.start {n a : Int} (hn : 0 < n) : Eu n a n (a % n) 0 1 := by
  refine ⟨hn, Int.emod_nonneg _ (by omega), ?_, ?_, ?_, by simp, by decide, Int.emod_lt_of_pos _ hn, Int.le_refl _⟩
  · rw [Int.zero_mul]
    exact (Mo.zero.mpr (Int.dvd_refl n)).symm
  · rw [Int.one_mul]
    exact Mo.mod.symm
  · have := gcd_congr (n := n) (a := a % n) (b := a) Mo.mod
    rw [Nat.gcd_comm]
    exact this
theorem natAbs_step {u v q : Int} (h : u * v ≤ 0) (hq : 0 ≤ q) : ((u - q * v).natAbs : Int) = (u.natAbs : Int) + q * (v.natAbs : Int) := by
  have hqv : q * (v.natAbs : Int) = ((q * v).natAbs : Int) := by
    rw [Int.natAbs_mul, Int.natCast_mul]
    congr 1
    omega
  rw [hqv]
  rcases Int.lt_trichotomy v 0 with hv | hv | hv
  · have u0 : 0 ≤ u := Int.not_lt.mp fun z => by
      have := Int.mul_pos_of_neg_of_neg z hv
      omega
    have : q * v ≤ 0 := Int.mul_nonpos_of_nonneg_of_nonpos hq (by omega)
    omega
  · subst hv
    rw [Int.mul_zero]
    omega
  · have u0 : u ≤ 0 := Int.not_lt.mp fun z => by
      have := Int.mul_pos z hv
      omega
    have : 0 ≤ q * v := Int.mul_nonneg hq (by omega)
    omega
theorem Eu.step {n a high low above below : Int} (h : Eu n a high low above below) (hl : low ≠ 0) : Eu n a low (high % low) below (above - high / low * below) ∧ high % low < low := by
  obtain ⟨h0, l0, ha, la, g, sz, sg, lt, hn⟩ := h
  have lp : 0 < low := by omega
  have q0 : 0 ≤ high / low := Int.ediv_nonneg (by omega) l0
  have em : high % low = high - high / low * low := by
    have := Int.emod_def high low
    rw [this, Int.mul_comm]
  refine ⟨⟨lp, Int.emod_nonneg _ hl, la, ?_, ?_, ?_, ?_, Int.emod_lt_of_pos _ lp, by omega⟩, Int.emod_lt_of_pos _ lp⟩
  · rw [em]
    have e : (above - high / low * below) * a = above * a - high / low * (below * a) := by grind
    rw [e]
    exact ha.sub (Mo.rfl'.mul la)
  · rw [← g]
    have : (high % low).natAbs = high.natAbs % low.natAbs := by
      obtain ⟨x, rfl⟩ : ∃ x : Nat, high = x := ⟨high.toNat, by omega⟩
      obtain ⟨y, rfl⟩ : ∃ y : Nat, low = y := ⟨low.toNat, by omega⟩
      rw [← Int.natCast_emod]
      rfl
    rw [this, Nat.gcd_comm low.natAbs, ← Nat.gcd_rec, Nat.gcd_comm]
  · rw [natAbs_step sg q0, em, ← sz]
    generalize (below.natAbs : Int) = u
    generalize (above.natAbs : Int) = v
    grind
  · have e : below * (above - high / low * below) = above * below - high / low * (below * below) := by grind
    rw [e]
    have b2 : 0 ≤ below * below := by
      rcases Int.le_total 0 below with q | q
      · exact Int.mul_nonneg q q
      · exact Int.mul_nonneg_of_nonpos_of_nonpos q q
    have := Int.mul_nonneg q0 b2
    omega
theorem Eu.small {n a high low above below : Int} (h : Eu n a high low above below) (hl : low ≠ 0) : (above.natAbs : Int) ≤ n ∧ (below.natAbs : Int) ≤ n := by
  obtain ⟨h0, l0, ha, la, g, sz, sg, lt, hn⟩ := h
  have h1 : 1 * (below.natAbs : Int) ≤ high * (below.natAbs : Int) := Int.mul_le_mul_of_nonneg_right (by omega) (by omega)
  have h2 : 1 * (above.natAbs : Int) ≤ low * (above.natAbs : Int) := Int.mul_le_mul_of_nonneg_right (by omega) (by omega)
  omega
/-- r is the inverse of a modulo n -/
def Inv (n a r : Int) : Prop := Dg n r ∧ Mo n (a * r) 1
theorem Inv.uniq {n a r s : Int} (h : Inv n a r) (k : Inv n a s) : r = s := by
  refine h.1.eq k.1 ?_
  have hu : Un n a := ⟨r, h.2⟩
  refine hu.cancel ?_
  rw [Int.mul_comm r, Int.mul_comm s]
  exact h.2.trans k.2.symm
theorem Inv.un {n a r : Int} (h : Inv n a r) : Un n r := ⟨a, by rw [Int.mul_comm]; exact h.2⟩
theorem Eu.rest {n a high low above below : Int} (h : Eu n a high low above below) (hg : Nat.gcd a.natAbs n.natAbs = 1) (hl : 1 < low) : high % low ≠ 0 := by
  intro z
  have g := h.g
  rw [hg] at g
  have : low.natAbs ∣ high.natAbs := Int.natAbs_dvd_natAbs.mpr (Int.dvd_of_emod_eq_zero z)
  rw [Nat.gcd_eq_right this] at g
  omega
/-! ### points modulo n -/
abbrev Pt := Option (Int × Int)
inductive R
  | ok (P : Pt)
  | br (d : Option Int)
open Classical in
noncomputable def iv (n z : Int) : Int := if h : ∃ r, Inv n z r then h.choose else 0
theorem iv_eq {n z r : Int} (h : Inv n z r) : iv n z = r := by
  have e : ∃ r, Inv n z r := ⟨r, h⟩
  unfold iv
  rw [dif_pos e]
  exact e.choose_spec.uniq h
noncomputable def dv (n x y z upper lower : Int) : R :=
  if Int.gcd lower n = 1 then
    .ok (some ((upper * iv n lower * (upper * iv n lower) - x - z) % n, (upper * iv n lower * (x - (upper * iv n lower * (upper * iv n lower) - x - z) % n) - y) % n))
  else .br (some (Int.gcd lower n))
/-- the sum of two points, as the law reckons -/
noncomputable def sumR (n a : Int) : Pt → Pt → R
  | none, Q => .ok Q
  | some P, none => .ok (some P)
  | some (x, y), some (z, w) => if x = z then (if (y + w) % n = 0 then .ok none else if y ≠ w then .br none else dv n x y z (3 * x * x + a) (2 * y)) else dv n x y z (w - y) (z - x)
/-- three letters for a point -/
structure Rep (n X Y x y z : Int) : Prop where
  dX : Dg n X
  dY : Dg n Y
  dx : Dg n x
  dy : Dg n y
  dz : Dg n z
  u : Un n z
  ex : Mo n x (X * (z * z))
  ey : Mo n y (Y * (z * z * z))
section
variable {n a X Y x y z : Int}
theorem Rep.y0 (h : Rep n X Y x y z) : y = 0 ↔ Mo n Y 0 := by
  have uz := (h.u.mul h.u).mul h.u
  constructor
  · intro e
    have := h.ey
    rw [e] at this
    exact (zero_unit uz).mp this.symm
  · intro e
    have := h.ey.trans ((zero_unit uz).mpr e)
    exact h.dy.eq ⟨Int.le_refl 0, by have := h.dy; unfold Dg at this; omega⟩ this
/-- what is reckoned of a point and a further one -/
structure Jn (n X Y x y z p q zz lifted across up : Int) : Prop where
  ezz : zz = z * z % n
  el : lifted = q * zz * z
  ea : across = (p * zz - x) % n
  eu : up = (lifted - y) % n
section
variable {p q zz lifted across up : Int}
theorem Jn.acr (j : Jn n X Y x y z p q zz lifted across up) (h : Rep n X Y x y z) : Mo n across ((p - X) * (z * z)) := by
  rw [j.ea, j.ezz]
  exact Mo.mod.trans (((Mo.rfl'.mul Mo.mod).sub h.ex).trans (Mo.of_eq (by grind)))
theorem Jn.lif (j : Jn n X Y x y z p q zz lifted across up) : Mo n lifted (q * (z * z * z)) := by
  rw [j.el, j.ezz]
  exact ((Mo.rfl'.mul Mo.mod).mul Mo.rfl').trans (Mo.of_eq (by grind))
theorem sub_zero_iff {a b : Int} (ha : Dg n a) (hb : Dg n b) : Mo n (a - b) 0 ↔ a = b := by
  constructor
  · intro h
    refine ha.eq hb ?_
    have := h.add (Mo.rfl' (a := b))
    rw [Int.sub_add_cancel, Int.zero_add] at this
    exact this
  · rintro rfl
    exact Mo.of_eq (Int.sub_self _)
theorem mod0 {a : Int} : a % n = 0 ↔ Mo n a 0 := by
  unfold Mo
  rw [Int.zero_emod]
theorem Jn.opp (j : Jn n X Y x y z p q zz lifted across up) (h : Rep n X Y x y z) : (lifted + y) % n = 0 ↔ (Y + q) % n = 0 := by
  have uz := (h.u.mul h.u).mul h.u
  rw [mod0, mod0, ← zero_unit (a := Y + q) uz]
  have e : Mo n (lifted + y) ((Y + q) * (z * z * z)) := (j.lif.add h.ey).trans (Mo.of_eq (by grind))
  exact ⟨fun w => e.symm.trans w, fun w => e.trans w⟩
theorem Jn.gcd (j : Jn n X Y x y z p q zz lifted across up) (h : Rep n X Y x y z) (hn : 0 < n) : Int.gcd (p - X) n = Int.gcd across n := by
  rw [gcd_congr (j.acr h), gcd_unit hn (h.u.mul h.u)]
end
/-! ### walks -/
/-- one figure -/
noncomputable def st (n a : Int) (p : Int × Int) (b : Bool) (P : Pt) : R :=
  match sumR n a P P with
  | .br d => .br d
  | .ok P1 => if b = true then sumR n a P1 (some p) else .ok P1
noncomputable def wk (n a : Int) (p : Int × Int) (k : Nat) : Nat → Pt → R
  | 0, P => .ok P
  | j + 1, P => match st n a p (k / 2 ^ j % 2 == 1) P with
    | .br d => .br d
    | .ok P' => wk n a p k j P'
/-- sizes -/
def PtOk (n : Int) : Pt → Prop
  | none => True
  | some P => Dg n P.1 ∧ Dg n P.2
def ROk (n : Int) : R → Prop
  | .ok P => PtOk n P
  | .br none => True
  | .br (some d) => 0 ≤ d ∧ d ≤ n
end
end K45M
/-! Points of a curve of five whole numbers modulo a prime: the sum by digits, and its laws. Plain mathematics. -/
set_option linter.all false
namespace EcZ
open K45M (Mo Dg Un Inv)
def st (p : Int) : Setoid Int := ⟨Mo p, fun _ => Mo.rfl', fun h => h.symm, fun h k => h.trans k⟩
def Zp (p : Int) := Quotient (st p)
def q (p a : Int) : Zp p := Quotient.mk (st p) a
theorem q_eq {p a b : Int} : q p a = q p b ↔ Mo p a b := ⟨fun h => Quotient.exact h, fun h => Quotient.sound (s := st p) h⟩
def zadd {p : Int} (a b : Zp p) : Zp p := Quotient.lift₂ (fun x y => q p (x + y)) (fun _ _ _ _ h k => q_eq.mpr (Mo.add h k)) a b
def zmul {p : Int} (a b : Zp p) : Zp p := Quotient.lift₂ (fun x y => q p (x * y)) (fun _ _ _ _ h k => q_eq.mpr (Mo.mul h k)) a b
def zsub {p : Int} (a b : Zp p) : Zp p := Quotient.lift₂ (fun x y => q p (x - y)) (fun _ _ _ _ h k => q_eq.mpr (Mo.sub h k)) a b
def zneg {p : Int} (a : Zp p) : Zp p := Quotient.lift (fun x => q p (-x)) (fun _ _ h => q_eq.mpr (Mo.neg h)) a
def zpow {p : Int} (a : Zp p) : Nat → Zp p
  | 0 => q p 1
  | n + 1 => zmul (zpow a n) a
instance (p : Int) : Lean.Grind.CommRing (Zp p) where
  add := zadd
  mul := zmul
  neg := zneg
  sub := zsub
  natCast := ⟨fun n => q p n⟩
  ofNat := fun n => ⟨q p n⟩
  nsmul := ⟨fun n a => zmul (q p n) a⟩
  npow := ⟨fun a n => zpow a n⟩
  intCast := ⟨fun i => q p i⟩
  zsmul := ⟨fun i a => zmul (q p i) a⟩
  add_zero a := by
    refine Quotient.inductionOn a fun x => ?_
    show q p (x + 0) = q p x
    rw [Int.add_zero]
  add_comm a b := by
    refine Quotient.inductionOn₂ a b fun x y => ?_
    show q p (x + y) = q p (y + x)
    rw [Int.add_comm]
  add_assoc a b c := by
    refine Quotient.inductionOn₃ a b c fun x y z => ?_
    show q p (x + y + z) = q p (x + (y + z))
    rw [Int.add_assoc]
  mul_assoc a b c := by
    refine Quotient.inductionOn₃ a b c fun x y z => ?_
    show q p (x * y * z) = q p (x * (y * z))
    rw [Int.mul_assoc]
  mul_one a := by
    refine Quotient.inductionOn a fun x => ?_
    show q p (x * 1) = q p x
    rw [Int.mul_one]
  one_mul a := by
    refine Quotient.inductionOn a fun x => ?_
    show q p (1 * x) = q p x
    rw [Int.one_mul]
  mul_zero a := by
    refine Quotient.inductionOn a fun x => ?_
    show q p (x * 0) = q p 0
    rw [Int.mul_zero]
  right_distrib a b c := by
    refine Quotient.inductionOn₃ a b c fun x y z => ?_
    show q p ((x + y) * z) = q p (x * z + y * z)
    rw [Int.add_mul]
  mul_comm a b := by
    refine Quotient.inductionOn₂ a b fun x y => ?_
    show q p (x * y) = q p (y * x)
    rw [Int.mul_comm]
  left_distrib a b c := by
    refine Quotient.inductionOn₃ a b c fun x y z => ?_
    show q p (x * (y + z)) = q p (x * y + x * z)
    rw [Int.mul_add]
  zero_mul a := by
    refine Quotient.inductionOn a fun x => ?_
    show q p (0 * x) = q p 0
    rw [Int.zero_mul]
  pow_zero a := rfl
  pow_succ a n := rfl
  ofNat_succ n := by
    show q p (((n + 1 : Nat) : Int)) = q p ((n : Int) + 1)
    rfl
  neg_add_cancel a := by
    refine Quotient.inductionOn a fun x => ?_
    show q p (-x + x) = q p 0
    rw [Int.add_left_neg]
  sub_eq_add_neg a b := by
    refine Quotient.inductionOn₂ a b fun x y => ?_
    show q p (x - y) = q p (x + -y)
    rw [Int.sub_eq_add_neg]
  neg_zsmul i a := by
    refine Quotient.inductionOn a fun x => ?_
    show q p (-i * x) = q p (-(i * x))
    rw [Int.neg_mul]
  intCast_neg i := rfl
theorem q_mod {p a : Int} : q p (a % p) = q p a := q_eq.mpr Mo.mod
theorem q_dg {p a b : Int} (ha : Dg p a) (hb : Dg p b) (h : q p a = q p b) : a = b := ha.eq hb (q_eq.mp h)
/-- a prime: what is not nought has an inverse -/
def Pp (p : Int) : Prop := 1 < p ∧ ∀ z, ¬Mo p z 0 → Un p z
theorem Pp.nz {p : Int} (hp : Pp p) : EcF.Nz (Zp p) := by
  intro a b
  refine Quotient.inductionOn₂ a b fun x y h => ?_
  have h1 : Mo p (x * y) 0 := Quotient.exact h
  by_cases g : Mo p y 0
  · exact .inr (q_eq.mpr g)
  · exact .inl (q_eq.mpr ((K45M.zero_unit (hp.2 y g)).mp h1))
/-- five whole numbers -/
structure C5 where
  a1 : Int
  a2 : Int
  a3 : Int
  a4 : Int
  a6 : Int
def C5.q (p : Int) (c : C5) : EcF.Cu (Zp p) := ⟨EcZ.q p c.a1, EcZ.q p c.a2, EcZ.q p c.a3, EcZ.q p c.a4, EcZ.q p c.a6⟩
namespace C5
variable (c : C5)
def b2 : Int := c.a1 * c.a1 + 4 * c.a2
def b4 : Int := 2 * c.a4 + c.a1 * c.a3
def b6 : Int := c.a3 * c.a3 + 4 * c.a6
def b8 : Int := c.a1 * c.a1 * c.a6 + 4 * c.a2 * c.a6 - c.a1 * c.a3 * c.a4 + c.a2 * c.a3 * c.a3 - c.a4 * c.a4
def disc : Int := 9 * c.b2 * c.b4 * c.b6 - c.b2 * c.b2 * c.b8 - 8 * (c.b4 * c.b4 * c.b4) - 27 * c.b6 * c.b6
theorem b8_4 : c.b2 * c.b6 - c.b4 * c.b4 = 4 * c.b8 := by
  unfold b2 b4 b6 b8
  grind
end C5
theorem flat_ring {R : Type} [Lean.Grind.CommRing R] {a1 a2 a3 a4 a6 x y b2 b4 b6 b8 : R} (h2 : b2 = a1 * a1 + 4 * a2) (h4 : b4 = 2 * a4 + a1 * a3) (h6 : b6 = a3 * a3 + 4 * a6) (h8 : b8 = a1 * a1 * a6 + 4 * a2 * a6 - a1 * a3 * a4 + a2 * a3 * a3 - a4 * a4)
    (o : y * y + a1 * x * y + a3 * y = x * x * x + a2 * x * x + a4 * x + a6) (f1 : 2 * y + a1 * x + a3 = 0) (f2 : 3 * x * x + 2 * a2 * x + a4 - a1 * y = 0) : 9 * b2 * b4 * b6 - b2 * b2 * b8 - 8 * (b4 * b4 * b4) - 27 * b6 * b6 = 0 := by
  have e3 : a3 = -(2 * y) - a1 * x := by
    clear o f2 h2 h4 h6 h8
    grind
  have e4 : a4 = a1 * y - 3 * x * x - 2 * a2 * x := by
    clear o f1 e3 h2 h4 h6 h8
    grind
  have e6 : a6 = y * y + a1 * x * y + a3 * y - (x * x * x + a2 * x * x + a4 * x) := by
    clear f1 f2 e3 e4 h2 h4 h6 h8
    grind
  clear o f1 f2
  subst e6
  subst e4
  subst e3
  subst h2
  subst h4
  subst h6
  subst h8
  grind
theorem flat_q {p : Int} {c : C5} (h : ¬Mo p c.disc 0) : EcF.Flat (c.q p) := by
  intro x y o f1 f2
  refine h (q_eq.mp ?_)
  exact flat_ring (R := Zp p) (a1 := q p c.a1) (a2 := q p c.a2) (a3 := q p c.a3) (a4 := q p c.a4) (a6 := q p c.a6) (x := x) (y := y) (b2 := q p c.b2) (b4 := q p c.b4) (b6 := q p c.b6) (b8 := q p c.b8) rfl rfl rfl rfl o f1 f2
/-! ### points by digits -/
abbrev Pt := Option (Int × Int)
def PtK (p : Int) (c : C5) : Pt → Prop
  | none => True
  | some (x, y) => Dg p x ∧ Dg p y ∧ EcF.On (c.q p) (q p x) (q p y)
def qp (p : Int) : Pt → EcF.Pn (Zp p)
  | none => none
  | some (x, y) => some (q p x, q p y)
def pneg (p : Int) (c : C5) : Pt → Pt
  | none => none
  | some (x, y) => some (x, (-y - c.a1 * x - c.a3) % p)
/-- the slope -/
noncomputable def slo (p : Int) (c : C5) (x y z w : Int) : Int :=
  if x = z then (3 * x * x + 2 * c.a2 * x + c.a4 - c.a1 * y) * K45M.iv p (2 * y + c.a1 * x + c.a3) else (w - y) * K45M.iv p (z - x)
def far (p : Int) (c : C5) (k x y z : Int) : Int × Int := ((k * k + c.a1 * k - c.a2 - x - z) % p, (-(k * ((k * k + c.a1 * k - c.a2 - x - z) % p - x) + y) - c.a1 * ((k * k + c.a1 * k - c.a2 - x - z) % p) - c.a3) % p)
noncomputable def psum (p : Int) (c : C5) : Pt → Pt → Pt
  | none, B => B
  | some a, none => some a
  | some (x, y), some (z, w) => if z = x ∧ w = (-y - c.a1 * x - c.a3) % p then none else some (far p c (slo p c x y z w) x y z)
section
variable {p : Int} {c : C5} {A B D : Pt}
theorem far_q (k x y z : Int) : qp p (some (far p c k x y z)) = some (EcF.tx (c.q p) (q p k) (q p x) (q p z), EcF.ng (c.q p) (EcF.tx (c.q p) (q p k) (q p x) (q p z)) (q p k * (EcF.tx (c.q p) (q p k) (q p x) (q p z) - q p x) + q p y)) := by
  have e : q p ((k * k + c.a1 * k - c.a2 - x - z) % p) = EcF.tx (c.q p) (q p k) (q p x) (q p z) := q_mod
  show some (q p ((k * k + c.a1 * k - c.a2 - x - z) % p), q p ((-(k * ((k * k + c.a1 * k - c.a2 - x - z) % p - x) + y) - c.a1 * ((k * k + c.a1 * k - c.a2 - x - z) % p) - c.a3) % p)) = _
  rw [q_mod (a := -(k * ((k * k + c.a1 * k - c.a2 - x - z) % p - x) + y) - c.a1 * ((k * k + c.a1 * k - c.a2 - x - z) % p) - c.a3), ← e]
  rfl
theorem far_dg (hp : 0 < p) (k x y z : Int) : Dg p (far p c k x y z).1 ∧ Dg p (far p c k x y z).2 := ⟨Dg.mod hp, Dg.mod hp⟩
theorem qp_inj (ha : PtK p c A) (hb : PtK p c B) (h : qp p A = qp p B) : A = B := by
  match A, B, ha, hb, h with
  | none, none, _, _, _ => rfl
  | none, some _, _, _, h => exact nomatch h
  | some _, none, _, _, h => exact nomatch h
  | some (x, y), some (z, w), ha, hb, h =>
    have h' := Option.some.inj h
    rw [q_dg ha.1 hb.1 (congrArg Prod.fst h'), q_dg ha.2.1 hb.2.1 (congrArg Prod.snd h')]
theorem PtK.onP (h : PtK p c A) : EcF.OnP (c.q p) (qp p A) := by
  match A, h with
  | none, _ => trivial
  | some (x, y), h => exact h.2.2
theorem PtK.of_on {a : Int × Int} (h1 : Dg p a.1) (h2 : Dg p a.2) (h : EcF.OnP (c.q p) (qp p (some a))) : PtK p c (some a) := ⟨h1, h2, h⟩
theorem opp_iff (hp : 0 < p) {x y z w : Int} (ha : PtK p c (some (x, y))) (hb : PtK p c (some (z, w))) : (z = x ∧ w = (-y - c.a1 * x - c.a3) % p) ↔ (q p z = q p x ∧ q p w = EcF.ng (c.q p) (q p x) (q p y)) := by
  constructor
  · rintro ⟨rfl, rfl⟩
    refine ⟨rfl, ?_⟩
    rw [q_mod]
    rfl
  · rintro ⟨h1, h2⟩
    refine ⟨q_dg hb.1 ha.1 h1, q_dg hb.2.1 (Dg.mod hp) ?_⟩
    rw [h2, q_mod]
    rfl
theorem iv_q (hp : Pp p) {u l : Int} (hl : ¬Mo p l 0) : q p (u * K45M.iv p l) * q p l = q p u := by
  obtain ⟨t, ht⟩ := hp.2 l hl
  have hi : Inv p l (t % p) := ⟨Dg.mod (by have := hp.1; omega), (Mo.mul Mo.rfl' Mo.mod).trans ht⟩
  rw [K45M.iv_eq hi]
  show q p (u * (t % p) * l) = _
  refine q_eq.mpr ?_
  have := (Mo.rfl' (n := p) (a := u)).mul hi.2
  rw [Int.mul_one] at this
  exact (Mo.of_eq (by ac_rfl)).trans this
theorem slo_ring1 {R : Type} [Lean.Grind.CommRing R] (nz : EcF.Nz R) {C : EcF.Cu R} {x y z w k : R} (o : EcF.On C x y) (o' : EcF.On C z w) (h : k * (z - x) = w - y) (hz : z - x ≠ 0) : EcF.Sl C k x y z w := by
  refine ⟨h, ?_⟩
  have e : (z - x) * (k * (y + w + C.a1 * z + C.a3) - (x * x + x * z + z * z + C.a2 * (x + z) + C.a4 - C.a1 * y)) = 0 := by
    have e1 : w = y + k * (z - x) := EcF.mv1 h
    unfold EcF.On at *
    subst e1
    clear h hz nz
    grind
  rcases nz _ _ e with g | g
  · exact absurd g hz
  · clear e o o' h hz
    grind
theorem same_x {R : Type} [Lean.Grind.CommRing R] (nz : EcF.Nz R) {C : EcF.Cu R} {x y w : R} (o : EcF.On C x y) (o' : EcF.On C x w) : w = y ∨ w = EcF.ng C x y := by
  have e : (w - y) * (w - EcF.ng C x y) = 0 := by
    unfold EcF.On EcF.ng at *
    grind
  rcases nz _ _ e with g | g
  · exact .inl (by clear e o o'; grind)
  · exact .inr (by clear e o o'; generalize EcF.ng C x y = n at *; grind)
theorem slo_q (hp : Pp p) {x y z w : Int} (ha : PtK p c (some (x, y))) (hb : PtK p c (some (z, w))) (hn : ¬(z = x ∧ w = (-y - c.a1 * x - c.a3) % p)) : EcF.Sl (c.q p) (q p (slo p c x y z w)) (q p x) (q p y) (q p z) (q p w) := by
  have hp0 : 0 < p := by have := hp.1; omega
  rw [opp_iff hp0 ha hb] at hn
  unfold slo
  by_cases g : x = z
  · rw [if_pos g]
    subst g
    rcases same_x hp.nz ha.2.2 hb.2.2 with g2 | g2
    · have e : w = y := q_dg hb.2.1 ha.2.1 g2
      subst e
      have hl : ¬Mo p (2 * w + c.a1 * x + c.a3) 0 := fun h => hn ⟨rfl, by
        have h1 : q p (2 * w + c.a1 * x + c.a3) = q p 0 := q_eq.mpr h
        have h2 : 2 * q p w + q p c.a1 * q p x + q p c.a3 = 0 := h1
        unfold EcF.ng
        show q p w = -q p w - q p c.a1 * q p x - q p c.a3
        clear h h1
        generalize q p w = W at *
        generalize q p x = X at *
        generalize q p c.a1 = A1 at *
        generalize q p c.a3 = A3 at *
        clear hn ha hb g2
        grind⟩
      have h := iv_q hp (u := 3 * x * x + 2 * c.a2 * x + c.a4 - c.a1 * w) hl
      refine ⟨?_, ?_⟩
      · generalize q p ((3 * x * x + 2 * c.a2 * x + c.a4 - c.a1 * w) * K45M.iv p (2 * w + c.a1 * x + c.a3)) = k
        generalize q p x = X
        generalize q p w = W
        grind
      · have h' : q p ((3 * x * x + 2 * c.a2 * x + c.a4 - c.a1 * w) * K45M.iv p (2 * w + c.a1 * x + c.a3)) * (2 * q p w + q p c.a1 * q p x + q p c.a3) = 3 * q p x * q p x + 2 * q p c.a2 * q p x + q p c.a4 - q p c.a1 * q p w := h
        show _ * (q p w + q p w + q p c.a1 * q p x + q p c.a3) = q p x * q p x + q p x * q p x + q p x * q p x + q p c.a2 * (q p x + q p x) + q p c.a4 - q p c.a1 * q p w
        generalize q p ((3 * x * x + 2 * c.a2 * x + c.a4 - c.a1 * w) * K45M.iv p (2 * w + c.a1 * x + c.a3)) = k at *
        clear h hn hl ha hb g2
        generalize q p w = W at *
        generalize q p x = X at *
        generalize q p c.a1 = A1 at *
        generalize q p c.a2 = A2 at *
        generalize q p c.a3 = A3 at *
        generalize q p c.a4 = A4 at *
        grind
    · exact absurd ⟨rfl, g2⟩ hn
  · rw [if_neg g]
    have hz : ¬Mo p (z - x) 0 := fun h => g ((K45M.sub_zero_iff hb.1 ha.1).mp h).symm
    have h := iv_q hp (u := w - y) hz
    exact slo_ring1 hp.nz ha.2.2 hb.2.2 h fun e => hz (q_eq.mp e)
theorem psum_is (hp : Pp p) (ha : PtK p c A) (hb : PtK p c B) : EcF.Is (c.q p) (qp p A) (qp p B) (qp p (psum p c A B)) := by
  have hp0 : 0 < p := by have := hp.1; omega
  match A, B, ha, hb with
  | none, b, _, _ => exact rfl
  | some a, none, _, _ => exact rfl
  | some (x, y), some (z, w), ha, hb =>
    by_cases g : z = x ∧ w = (-y - c.a1 * x - c.a3) % p
    · rw [show psum p c (some (x, y)) (some (z, w)) = none from if_pos g]
      exact .inl ⟨(opp_iff hp0 ha hb).mp g, rfl⟩
    · rw [show psum p c (some (x, y)) (some (z, w)) = some (far p c (slo p c x y z w) x y z) from if_neg g]
      exact .inr ⟨fun h => g ((opp_iff hp0 ha hb).mpr h), _, slo_q hp ha hb g, far_q _ _ _ _⟩
theorem psum_ok (hp : Pp p) (ha : PtK p c A) (hb : PtK p c B) : PtK p c (psum p c A B) := by
  have hp0 : 0 < p := by have := hp.1; omega
  have h := (psum_is hp ha hb).on ha.onP hb.onP
  match A, B, ha, hb, h with
  | none, b, _, hb, _ => exact hb
  | some a, none, ha, _, _ => exact ha
  | some (x, y), some (z, w), ha, hb, h =>
    by_cases g : z = x ∧ w = (-y - c.a1 * x - c.a3) % p
    · rw [show psum p c (some (x, y)) (some (z, w)) = none from if_pos g]
      trivial
    · rw [show psum p c (some (x, y)) (some (z, w)) = some (far p c (slo p c x y z w) x y z) from if_neg g] at h ⊢
      exact PtK.of_on (far_dg hp0 _ _ _ _).1 (far_dg hp0 _ _ _ _).2 h
theorem psum_comm (hp : Pp p) (ha : PtK p c A) (hb : PtK p c B) : psum p c A B = psum p c B A :=
  qp_inj (psum_ok hp ha hb) (psum_ok hp hb ha) ((psum_is hp ha hb).uniq hp.nz ha.onP hb.onP (psum_is hp hb ha).comm)
theorem psum_assoc (hp : Pp p) (hd : ¬Mo p c.disc 0) (ha : PtK p c A) (hb : PtK p c B) (hD : PtK p c D) : psum p c (psum p c A B) D = psum p c A (psum p c B D) :=
  qp_inj (psum_ok hp (psum_ok hp ha hb) hD) (psum_ok hp ha (psum_ok hp hb hD)) (EcF.Is.assoc hp.nz (flat_q hd) ha.onP hb.onP hD.onP (psum_is hp ha hb) (psum_is hp (psum_ok hp ha hb) hD) (psum_is hp hb hD) (psum_is hp ha (psum_ok hp hb hD)))
theorem psum_none : psum p c A none = A := by
  match A with
  | none => rfl
  | some a => rfl
end
end EcZ
/-! The two ways in which a sum modulo a prime is reckoned. Plain mathematics. -/
set_option linter.all false
namespace K43
open K45M EcZ
/-- a prime, and a curve of digits modulo it that is no flat one -/
structure Okc (p : Int) (c : C5) : Prop where
  pp : Pp p
  le : p ≤ 31
  d1 : Dg p c.a1
  d2 : Dg p c.a2
  d3 : Dg p c.a3
  d4 : Dg p c.a4
  d6 : Dg p c.a6
  disc : ¬Mo p c.disc 0
section
variable {p : Int} {c : C5}
theorem Okc.p1 (h : Okc p c) : 1 < p := h.pp.1
end
end K43
/-! Multiples of a point modulo a prime. Plain mathematics. -/
set_option linter.all false
namespace K43
open K45M EcZ
section
variable {p : Int} {c : C5} {A B D : EcZ.Pt}
theorem Okc.sum (o : Okc p c) (ha : PtK p c A) (hb : PtK p c B) : PtK p c (psum p c A B) := psum_ok o.pp ha hb
theorem Okc.comm (o : Okc p c) (ha : PtK p c A) (hb : PtK p c B) : psum p c A B = psum p c B A := psum_comm o.pp ha hb
theorem Okc.assoc (o : Okc p c) (ha : PtK p c A) (hb : PtK p c B) (hd : PtK p c D) : psum p c (psum p c A B) D = psum p c A (psum p c B D) := psum_assoc o.pp o.disc ha hb hd
noncomputable def smul (p : Int) (c : C5) (A : EcZ.Pt) : Nat → EcZ.Pt
  | 0 => none
  | n + 1 => psum p c (smul p c A n) A
theorem smul_ok (o : Okc p c) (ha : PtK p c A) : ∀ n, PtK p c (smul p c A n)
  | 0 => trivial
  | n + 1 => o.sum (smul_ok o ha n) ha
end
end K43
/-! What points generate; how many points there are. Plain mathematics. -/
set_option linter.all false
namespace K43
open K45M EcZ
section
variable {p : Int} {c : C5} {A B D : EcZ.Pt}
inductive Gen (p : Int) (c : C5) (S : List EcZ.Pt) : EcZ.Pt → Prop
  | zero : Gen p c S none
  | step {A B : EcZ.Pt} : Gen p c S A → B ∈ S → Gen p c S (psum p c A B)
def AllK (p : Int) (c : C5) (S : List EcZ.Pt) : Prop := ∀ A ∈ S, PtK p c A
theorem Gen.ok (o : Okc p c) {S : List EcZ.Pt} (hS : AllK p c S) (h : Gen p c S A) : PtK p c A := by
  induction h with
  | zero => trivial
  | step h hb ih => exact o.sum ih (hS _ hb)
theorem Gen.mono {S T : List EcZ.Pt} (hs : ∀ A ∈ S, A ∈ T) (h : Gen p c S A) : Gen p c T A := by
  induction h with
  | zero => exact .zero
  | step h hb ih => exact .step ih (hs _ hb)
theorem Gen.add (o : Okc p c) {S : List EcZ.Pt} (hS : AllK p c S) (ha : Gen p c S A) (hb : Gen p c S B) : Gen p c S (psum p c A B) := by
  induction hb with
  | zero =>
    rw [psum_none]
    exact ha
  | step h hd ih =>
    rw [← o.assoc (ha.ok o hS) (h.ok o hS) (hS _ hd)]
    exact .step ih hd
theorem Gen.mul (o : Okc p c) {S : List EcZ.Pt} (hS : AllK p c S) {P : EcZ.Pt} (hP : P ∈ S) (ha : Gen p c S A) : ∀ s, Gen p c S (psum p c A (smul p c P s))
  | 0 => by
    rw [show smul p c P 0 = none from rfl, psum_none]
    exact ha
  | s + 1 => by
    show Gen p c S (psum p c A (psum p c (smul p c P s) P))
    rw [← o.assoc (ha.ok o hS) (smul_ok o (hS _ hP) s) (hS _ hP)]
    exact .step (Gen.mul o hS hP ha s) hP
/-! ### how many -/
def pix (p : Int) (c : C5) : EcZ.Pt → Nat
  | none => 0
  | some (x, y) => 2 * x.toNat + 1 + (if (-y - c.a1 * x - c.a3) % p < y then 1 else 0)
end
end K43
/-! Points of a curve modulo an odd prime by the square z = 2 y + a1 x + a3. Plain mathematics. -/
set_option linter.all false
namespace K40
open K45M EcZ
section
variable {p : Int} {c : C5}
/-- what z squares to -/
def cub (c : C5) (x : Int) : Int := 4 * x * x * x + c.b2 * x * x + 2 * c.b4 * x + c.b6
def sh (c : C5) (x : Int) : Int := c.a1 * x + c.a3
def lhs (c : C5) (x y : Int) : Int := y * (y + c.a1 * x + c.a3) - (x ^ 3 + c.a2 * x * x + c.a4 * x + c.a6)
theorem half_two (h : p % 2 = 1) : Mo p (2 * ((p + 1) / 2)) 1 := by
  have e : 2 * ((p + 1) / 2) = p + 1 := by omega
  rw [e]
  unfold Mo
  rw [Int.add_emod, Int.emod_self, Int.zero_add, Int.emod_emod_of_dvd _ (Int.dvd_refl p)]
theorem two_unit (h : p % 2 = 1) : Un p 2 := ⟨_, half_two h⟩
theorem four_unit (h : p % 2 = 1) : Un p 4 := (two_unit h).mul (two_unit h)
/-- y out of z -/
def yz (p : Int) (c : C5) (x z : Int) : Int := (z - sh c x) * ((p + 1) / 2) % p
theorem yz_z (h : p % 2 = 1) (x z : Int) : Mo p (2 * yz p c x z + sh c x) z := by
  have h1 : Mo p (2 * yz p c x z) (2 * ((z - sh c x) * ((p + 1) / 2))) := Mo.rfl'.mul Mo.mod
  have h2 : Mo p (2 * ((z - sh c x) * ((p + 1) / 2))) ((z - sh c x) * 1) := by
    refine (Mo.of_eq ?_).trans ((Mo.rfl' (a := z - sh c x)).mul (half_two h))
    ac_rfl
  have h3 := (h1.trans h2).add (Mo.rfl' (a := sh c x))
  refine h3.trans (Mo.of_eq ?_)
  omega
theorem yz_of (h : p % 2 = 1) (hp : 0 < p) {x y z : Int} (hy : Dg p y) (e : Mo p (2 * y + sh c x) z) : yz p c x z = y := by
  refine (Dg.mod hp : Dg p (yz p c x z)).eq hy ?_
  have h1 := (yz_z (c := c) h x z).trans e.symm
  have h2 := h1.sub (Mo.rfl' (a := sh c x))
  have h3 : Mo p (yz p c x z * 2) (y * 2) := by
    refine (Mo.of_eq ?_).trans (h2.trans (Mo.of_eq ?_)) <;> omega
  exact (two_unit h).cancel h3
end
end K40
/-! Counts of points modulo an odd prime, and of the twisted curve. Plain mathematics. -/
set_option linter.all false
namespace K40
open K45M EcZ
/-- how many digits below n square to v -/
def nsq (n : Nat) (v : Int) : Nat := ((List.range n).filter fun (z : Nat) => decide (((z : Int) * (z : Int)) % (n : Int) = v % (n : Int))).length
/-- the count by the cubic -/
def cnt (n : Nat) (g : Int → Int) : Nat := ((List.range n).map fun (x : Nat) => nsq n (g (x : Int))).sum
/-- the twisted curve -/
def tw (d : Int) (c : C5) : C5 := ⟨0, d * c.b2, 0, 8 * d * d * c.b4, 16 * d * d * d * c.b6⟩
/-- d is no square: one of v, d v has two roots, or both have one -/
def two (n : Nat) (d : Int) : Bool := (List.range n).all fun (v : Nat) => nsq n (v : Int) + nsq n (d * (v : Int)) == 2
end K40
/-! The tally of squares. Plain mathematics. -/
set_option linter.all false
namespace K40
open K45M EcZ
/-- of the first j squares those that are v -/
def tal (n j v : Nat) : Nat := ((List.range j).filter fun (z : Nat) => decide (z * z % n = v)).length
def tl (n j : Nat) : List Int := (List.range n).map fun v => ((tal n j v : Nat) : Int)
/-- the count as far as x -/
def cntTo (n j : Nat) (g : Int → Int) : Nat := ((List.range j).map fun (x : Nat) => nsq n (g (x : Int))).sum
end K40
/-! Sums of two cubes, products of three lines: plain mathematics. -/
set_option linter.all false
namespace K51M
/-- in the order of pairs -/
def Lt (p q : Int × Int) : Prop := p.1 < q.1 ∨ (p.1 = q.1 ∧ p.2 < q.2)
theorem Lt.trans {p q r : Int × Int} (h : Lt p q) (k : Lt q r) : Lt p r := by
  unfold Lt at *
  omega
theorem Lt.irr {p : Int × Int} (h : Lt p p) : False := by
  unfold Lt at h
  omega
/-- strictly ascending lists with the same members are one -/
theorem uniq : ∀ {l m : List (Int × Int)}, l.Pairwise Lt → m.Pairwise Lt → (∀ p, p ∈ l ↔ p ∈ m) → l = m
  | [], [], _, _, _ => rfl
  | [], y :: m, _, _, h => absurd ((h y).mpr List.mem_cons_self) (by simp)
  | x :: l, [], _, _, h => absurd ((h x).mp List.mem_cons_self) (by simp)
  | x :: l, y :: m, hl, hm, h => by
    obtain ⟨hx, hl2⟩ := List.pairwise_cons.mp hl
    obtain ⟨hy, hm2⟩ := List.pairwise_cons.mp hm
    have e : x = y := by
      rcases List.mem_cons.mp ((h x).mp List.mem_cons_self) with e | q
      · exact e
      · rcases List.mem_cons.mp ((h y).mpr List.mem_cons_self) with e | q2
        · exact e.symm
        · exact (Lt.irr ((hx _ q2).trans (hy _ q))).elim
    subst e
    have key : l = m := uniq hl2 hm2 fun p => ⟨fun hp => ?_, fun hp => ?_⟩
    · rw [key]
    · rcases List.mem_cons.mp ((h p).mp (List.mem_cons_of_mem _ hp)) with e | q
      · exact (Lt.irr (e ▸ hx _ hp : Lt x x)).elim
      · exact q
    · rcases List.mem_cons.mp ((h p).mpr (List.mem_cons_of_mem _ hp)) with e | q
      · exact (Lt.irr (e ▸ hy _ hp : Lt x x)).elim
      · exact q
/-- ascending, no one twice: strictly ascending -/
theorem strict {l : List (Int × Int)} (h : l.Pairwise fun p q => ¬ Lt q p) (n : l.Nodup) : l.Pairwise Lt := by
  refine List.Pairwise.imp₂ (S := fun p q => p ≠ q) (fun a b => ?_) h n
  rintro h1 h2
  rcases a with ⟨a1, a2⟩
  rcases b with ⟨b1, b2⟩
  have h2 : ¬ (a1 = b1 ∧ a2 = b2) := fun z => h2 (by rw [z.1, z.2])
  unfold Lt at *
  simp only at *
  omega
/-! ### cubes -/
theorem cube_mono {a b : Int} (h : a ^ 3 = b ^ 3) : a = b := by
  have e : (a - b) * (a * a + a * b + b * b) = 0 := by
    have : (a - b) * (a * a + a * b + b * b) = a ^ 3 - b ^ 3 := by grind
    rw [this, h]
    omega
  rcases Int.mul_eq_zero.mp e with z | z
  · omega
  · have h4 : (2 * a + b) * (2 * a + b) + 3 * (b * b) = 0 := by
      have : (2 * a + b) * (2 * a + b) + 3 * (b * b) = 4 * (a * a + a * b + b * b) := by grind
      rw [this, z]
      rfl
    have p1 : 0 ≤ (2 * a + b) * (2 * a + b) := by
      rcases Int.le_total 0 (2 * a + b) with q | q
      · exact Int.mul_nonneg q q
      · exact Int.mul_nonneg_of_nonpos_of_nonpos q q
    have p2 : 0 ≤ b * b := by
      rcases Int.le_total 0 b with q | q
      · exact Int.mul_nonneg q q
      · exact Int.mul_nonneg_of_nonpos_of_nonpos q q
    have hb : b * b = 0 := by omega
    have ha : (2 * a + b) * (2 * a + b) = 0 := by omega
    rcases Int.mul_eq_zero.mp hb with b0 | b0 <;> rcases Int.mul_eq_zero.mp ha with a0 | a0 <;> omega
theorem sq_nn (a : Int) : 0 ≤ a * a := by
  rcases Int.le_total 0 a with q | q
  · exact Int.mul_nonneg q q
  · exact Int.mul_nonneg_of_nonpos_of_nonpos q q
theorem ab_le {a b : Int} (h : a * a ≤ b * b) (hb : 0 ≤ b) : -b ≤ a ∧ a ≤ b := by
  constructor
  · refine Int.not_lt.mp fun z => ?_
    have : b * b < a * a := by
      have h1 : b * b ≤ b * (-a - 1) := Int.mul_le_mul_of_nonneg_left (by omega) hb
      have h2 : b * (-a - 1) ≤ (-a) * (-a - 1) := Int.mul_le_mul_of_nonneg_right (by omega) (by omega)
      have h3 : (-a) * (-a - 1) = a * a + a := by grind
      omega
    omega
  · refine Int.not_lt.mp fun z => ?_
    have : b * b < a * a := by
      have h1 : b * b ≤ b * (a - 1) := Int.mul_le_mul_of_nonneg_left (by omega) hb
      have h2 : b * (a - 1) ≤ a * (a - 1) := Int.mul_le_mul_of_nonneg_right (by omega) (by omega)
      have h3 : a * (a - 1) = a * a - a := by grind
      omega
    omega
def Sol (n : Int) (p : Int × Int) : Prop := p.1 ^ 3 + p.2 ^ 3 = n
theorem sol_fac {n x y : Int} (h : x ^ 3 + y ^ 3 = n) : (x + y) * (x * x - x * y + y * y) = n := by
  rw [← h]
  grind
/-- where solutions lie -/
theorem sol_bound {n x y : Int} (h : x ^ 3 + y ^ 3 = n) (hn : n ≠ 0) : x * x ≤ 4 * n.natAbs ∧ (x + y) * (x + y) * ((x + y).natAbs : Int) ≤ 4 * n.natAbs ∧ (x + y) ∣ n ∧ x + y ≠ 0 ∧ (0 < n ↔ 0 < x + y) := by
  have f := sol_fac h
  have k0 : x * x ≤ 4 * (x * x - x * y + y * y) := by
    have e : 4 * (x * x - x * y + y * y) = x * x + (2 * x - y) * (2 * x - y) + (y * y + y * y + y * y - x * x) := by grind
    have e2 : 4 * (x * x - x * y + y * y) = 3 * (x * x) + (x - 2 * y) * (x - 2 * y) := by grind
    have := sq_nn (x - 2 * y)
    have := sq_nn x
    omega
  have k1 : (x + y) * (x + y) ≤ 4 * (x * x - x * y + y * y) := by
    have e2 : 4 * (x * x - x * y + y * y) = (x + y) * (x + y) + 3 * ((x - y) * (x - y)) := by grind
    have := sq_nn (x - y)
    omega
  have hs : x + y ≠ 0 := fun z => hn (by rw [← f, z, Int.zero_mul])
  have hq0 : x * x - x * y + y * y ≠ 0 := fun z => hn (by rw [← f, z, Int.mul_zero])
  have hq : 0 < x * x - x * y + y * y := by
    have := sq_nn x
    omega
  generalize x * x - x * y + y * y = q at *
  have na : n.natAbs = (x + y).natAbs * q.natAbs := by rw [← f, Int.natAbs_mul]
  have hqn : (q.natAbs : Int) = q := by omega
  have s1 : (1 : Int) ≤ ((x + y).natAbs : Int) := by omega
  have ni : (n.natAbs : Int) = ((x + y).natAbs : Int) * q := by rw [na, Int.natCast_mul, hqn]
  have q1 : q ≤ (n.natAbs : Int) := by
    rw [ni]
    have := Int.mul_le_mul_of_nonneg_right s1 (show (0 : Int) ≤ q by omega)
    omega
  refine ⟨by omega, ?_, ⟨q, f.symm⟩, hs, ?_⟩
  · rw [ni]
    have := Int.mul_le_mul_of_nonneg_right k1 (show (0 : Int) ≤ ((x + y).natAbs : Int) by omega)
    have e : 4 * q * ((x + y).natAbs : Int) = 4 * (((x + y).natAbs : Int) * q) := by ac_rfl
    omega
  · constructor
    · intro h0
      refine Int.not_le.mp fun z => ?_
      have := Int.mul_nonneg (show 0 ≤ -(x + y) by omega) (show 0 ≤ q by omega)
      rw [Int.neg_mul, f] at this
      omega
    · intro h0
      have := Int.mul_pos h0 hq
      omega
/-! ### one sum -/
/-- just the solutions with the sum s -/
structure Cs (n s : Int) (e : List (Int × Int)) : Prop where
  mem : ∀ x y : Int, (x, y) ∈ e ↔ (x ^ 3 + y ^ 3 = n ∧ x + y = s)
  nodup : e.Nodup
  len : e.length ≤ 2
theorem Cs.none {n s : Int} (h : ∀ x y : Int, x ^ 3 + y ^ 3 = n → x + y = s → False) : Cs n s [] :=
  ⟨fun x y => ⟨fun z => (by cases z), fun z => (h x y z.1 z.2).elim⟩, List.nodup_nil, by decide⟩
/-! ### all sums up to k -/
def sgn1 (n : Int) : Int := if 0 < n then 1 else -1
structure Pr (n : Int) (k : Nat) (f : List (Int × Int)) : Prop where
  mem : ∀ x y : Int, (x, y) ∈ f ↔ (x ^ 3 + y ^ 3 = n ∧ (x + y).natAbs ≤ k)
  nodup : f.Nodup
  len : f.length ≤ 2 * k
theorem Pr.zero {n : Int} (hn : n ≠ 0) : Pr n 0 [] := by
  refine ⟨fun x y => ⟨fun z => (by cases z), fun z => ?_⟩, List.nodup_nil, by decide⟩
  have := (sol_bound z.1 hn).2.2.2.1
  omega
theorem Pr.step {n : Int} {k : Nat} {f e : List (Int × Int)} (hn : n ≠ 0) (h : Pr n k f) (c : Cs n (sgn1 n * ((k : Int) + 1)) e) : Pr n (k + 1) (f ++ e) := by
  refine ⟨fun x y => ?_, ?_, ?_⟩
  · rw [List.mem_append, h.mem, c.mem]
    constructor
    · rintro (⟨a, b⟩ | ⟨a, b⟩)
      · exact ⟨a, by omega⟩
      · refine ⟨a, ?_⟩
        rw [b]
        unfold sgn1
        split <;> omega
    · rintro ⟨a, b⟩
      by_cases q : (x + y).natAbs ≤ k
      · exact Or.inl ⟨a, q⟩
      · refine Or.inr ⟨a, ?_⟩
        have h5 := (sol_bound a hn).2.2.2.2
        unfold sgn1
        split <;> omega
  · refine List.nodup_append.mpr ⟨h.nodup, c.nodup, ?_⟩
    rintro ⟨x, y⟩ h1 b h2 rfl
    have a1 := ((h.mem x y).mp h1).2
    have a2 := ((c.mem x y).mp h2).2
    rw [a2] at a1
    unfold sgn1 at a1
    split at a1 <;> omega
  · rw [List.length_append]
    have := h.len
    have := c.len
    omega
/-! ### products of lines -/
def Li (p q r n x y : Int) : Prop := (x - p * y) * (x - q * y) * (x - r * y) = n
theorem li_dvd {p q r n x y : Int} (h : Li p q r n x y) : (x - p * y) ∣ n ∧ (x - q * y) ∣ n := by
  unfold Li at h
  exact ⟨⟨(x - q * y) * (x - r * y), by rw [← h, Int.mul_assoc]⟩, ⟨(x - p * y) * (x - r * y), by rw [← h]; ac_rfl⟩⟩
theorem dvd_le {a n : Int} (h : a ∣ n) (hn : n ≠ 0) : a.natAbs ≤ n.natAbs ∧ a ≠ 0 :=
  ⟨Nat.le_of_dvd (by omega) (Int.natAbs_dvd_natAbs.mpr h), fun z => hn (Int.zero_dvd.mp (z ▸ h))⟩
theorem li_bound {p q r n x y : Int} (h : Li p q r n x y) (hn : n ≠ 0) (hpq : p ≠ q) : (x - p * y).natAbs ≤ n.natAbs ∧ (x - q * y).natAbs ≤ n.natAbs ∧ y.natAbs ≤ 2 * n.natAbs := by
  obtain ⟨a, b⟩ := li_dvd h
  have a1 := (dvd_le a hn).1
  have b1 := (dvd_le b hn).1
  refine ⟨a1, b1, ?_⟩
  have e : (q - p) * y = (x - p * y) - (x - q * y) := by grind
  have h1 : ((q - p) * y).natAbs ≤ 2 * n.natAbs := by
    rw [e]
    omega
  rw [Int.natAbs_mul] at h1
  have h2 : 1 * y.natAbs ≤ (q - p).natAbs * y.natAbs := Nat.mul_le_mul_right _ (by omega)
  omega
/-- the divisors, as the program finds them -/
def dvs (n : Int) : Nat → List Int
  | 0 => []
  | k + 1 => dvs n k ++ (if n % ((k : Int) + 1) = 0 then (if ((k : Int) + 1) * ((k : Int) + 1) = n then [(k : Int) + 1, -((k : Int) + 1)] else [(k : Int) + 1, -((k : Int) + 1), n.fdiv ((k : Int) + 1), (-n).fdiv ((k : Int) + 1)]) else [])
theorem dvs_len (n : Int) : ∀ k, (dvs n k).length ≤ 4 * k
  | 0 => Nat.le_refl _
  | k + 1 => by
    have := dvs_len n k
    unfold dvs
    rw [List.length_append]
    split
    · split <;> (simp only [List.length_cons, List.length_nil]; omega)
    · simp only [List.length_nil]
      omega
def dvOk (n r : Nat) : Bool := decide ((dvs n r).Nodup) && decide ((dvs n r).length ≤ 24) && (List.range 121).all fun i => decide ((((i : Int) - 60 ∈ dvs n r) ↔ ((i : Int) - 60) ∣ (n : Int)))
section
variable {p q r n : Int} {D : List Int}
/-- what has been found at the pair (i, j) of divisors -/
structure Pq (p q r n : Int) (D : List Int) (i j : Nat) (f : List (Int × Int)) : Prop where
  mem : ∀ x y : Int, (x, y) ∈ f ↔ (Li p q r n x y ∧ ((x - p * y) ∈ D.take i ∨ (D[i]? = some (x - p * y) ∧ (x - q * y) ∈ D.take j)))
  nodup : f.Nodup
  len : f.length ≤ i * 24 + j
theorem Pq.zero : Pq p q r n D 0 0 [] := ⟨fun x y => ⟨fun z => (by cases z), fun z => (by simp at z)⟩, List.nodup_nil, by decide⟩
theorem take_mem {A : Type} {D : List A} {i : Nat} {u : A} (h : D[i]? = some u) (x : A) : x ∈ D.take (i + 1) ↔ x ∈ D.take i ∨ x = u := by
  rw [List.take_succ, h, List.mem_append]
  simp
theorem Pq.skip {i j : Nat} {f : List (Int × Int)} {u v : Int} (h : Pq p q r n D i j f) (hu : D[i]? = some u) (hv : D[j]? = some v) (no : ∀ x y, Li p q r n x y → x - p * y = u → x - q * y = v → False) : Pq p q r n D i (j + 1) f := by
  refine ⟨fun x y => ?_, h.nodup, by have := h.len; omega⟩
  rw [h.mem, take_mem hv, hu]
  constructor
  · rintro ⟨a, b | ⟨b, c⟩⟩
    · exact ⟨a, Or.inl b⟩
    · exact ⟨a, Or.inr ⟨b, Or.inl c⟩⟩
  · rintro ⟨a, b | ⟨b, c | c⟩⟩
    · exact ⟨a, Or.inl b⟩
    · exact ⟨a, Or.inr ⟨b, c⟩⟩
    · exact (no x y a (Option.some.inj b).symm c).elim
theorem nodup_take {i : Nat} {u : Int} (hd : D.Nodup) (h : D[i]? = some u) : u ∉ D.take i := by
  intro hm
  obtain ⟨k, hk⟩ := List.mem_iff_getElem?.mp hm
  have hk2 : k < i := by
    have := (List.getElem?_eq_some_iff.mp hk).1
    rw [List.length_take] at this
    omega
  rw [List.getElem?_take_of_lt hk2] at hk
  have e := hk.trans h.symm
  have h0 : k < D.length := (List.getElem?_eq_some_iff.mp hk).1
  have := (List.getElem?_inj h0 hd).mp e
  omega
theorem Pq.add {i j : Nat} {f : List (Int × Int)} {u v x y : Int} (h : Pq p q r n D i j f) (hd : D.Nodup) (hpq : p ≠ q) (hu : D[i]? = some u) (hv : D[j]? = some v) (hs : Li p q r n x y) (ex : x - p * y = u) (ey : x - q * y = v) : Pq p q r n D i (j + 1) (f ++ [(x, y)]) := by
  have one : ∀ x' y', x' - p * y' = u → x' - q * y' = v → x' = x ∧ y' = y := by
    intro x' y' e1 e2
    have e : (q - p) * (y' - y) = 0 := by
      have : (q - p) * (y' - y) = ((x' - p * y') - (x' - q * y')) - ((x - p * y) - (x - q * y)) := by grind
      rw [this, e1, e2, ex, ey]
      omega
    have ey2 : y' = y := by
      rcases Int.mul_eq_zero.mp e with z | z <;> omega
    subst ey2
    exact ⟨by omega, rfl⟩
  refine ⟨fun x' y' => ?_, ?_, ?_⟩
  · rw [List.mem_append, h.mem, take_mem hv, hu, List.mem_singleton, Prod.mk.injEq]
    constructor
    · rintro (⟨a, b | ⟨b, c⟩⟩ | ⟨rfl, rfl⟩)
      · exact ⟨a, Or.inl b⟩
      · exact ⟨a, Or.inr ⟨b, Or.inl c⟩⟩
      · exact ⟨hs, Or.inr ⟨by rw [ex], Or.inr ey⟩⟩
    · rintro ⟨a, b | ⟨b, c | c⟩⟩
      · exact Or.inl ⟨a, Or.inl b⟩
      · exact Or.inl ⟨a, Or.inr ⟨b, c⟩⟩
      · exact Or.inr (one x' y' (Option.some.inj b).symm c)
  · refine List.nodup_append.mpr ⟨h.nodup, List.nodup_cons.mpr ⟨fun z => (by cases z), List.nodup_nil⟩, ?_⟩
    rintro ⟨a1, a2⟩ ha b hb rfl
    rw [List.mem_singleton, Prod.mk.injEq] at hb
    obtain ⟨rfl, rfl⟩ := hb
    obtain ⟨-, z | ⟨-, z⟩⟩ := (h.mem a1 a2).mp ha
    · rw [ex] at z
      exact nodup_take hd hu z
    · rw [ey] at z
      exact nodup_take hd hv z
  · rw [List.length_append]
    have := h.len
    simp only [List.length_cons, List.length_nil]
    omega
theorem Pq.next {i : Nat} {f : List (Int × Int)} {u : Int} (h : Pq p q r n D i D.length f) (hu : D[i]? = some u) (hl : D.length ≤ 24) (hD : ∀ d : Int, d ∣ n → d ∈ D) : Pq p q r n D (i + 1) 0 f := by
  refine ⟨fun x y => ?_, h.nodup, by have := h.len; omega⟩
  rw [h.mem, take_mem hu, hu, List.take_length, List.take_zero]
  constructor
  · rintro ⟨a, b | ⟨b, c⟩⟩
    · exact ⟨a, Or.inl (Or.inl b)⟩
    · exact ⟨a, Or.inl (Or.inr (Option.some.inj b).symm)⟩
  · rintro ⟨a, (b | b) | ⟨-, c⟩⟩
    · exact ⟨a, Or.inl b⟩
    · exact ⟨a, Or.inr ⟨by rw [b], hD _ (li_dvd a).2⟩⟩
    · cases c
/-- what the law has found when it stands at (Y, X) -/
structure Lw (p q r n Y X : Int) (f : List (Int × Int)) : Prop where
  mem : ∀ x y : Int, (x, y) ∈ f ↔ (Li p q r n x y ∧ (y < Y ∨ (y = Y ∧ x < X)))
  nodup : f.Nodup
theorem Lw.start (hn : n ≠ 0) (hpq : p ≠ q) : Lw p q r n (-2 * (n.natAbs : Int)) (max (p * (-2 * (n.natAbs : Int))) (q * (-2 * (n.natAbs : Int))) - n.natAbs) [] := by
  refine ⟨fun x y => ⟨fun z => (by cases z), fun z => ?_⟩, List.nodup_nil⟩
  obtain ⟨a, b | ⟨rfl, b⟩⟩ := z
  · have := (li_bound a hn hpq).2.2
    omega
  · have := li_bound a hn hpq
    omega
theorem Lw.skip {Y X : Int} {f : List (Int × Int)} (h : Lw p q r n Y X f) (no : ¬ Li p q r n X Y) : Lw p q r n Y (X + 1) f := by
  refine ⟨fun x y => ?_, h.nodup⟩
  rw [h.mem]
  constructor
  · rintro ⟨a, b | b⟩
    · exact ⟨a, Or.inl b⟩
    · exact ⟨a, Or.inr (by omega)⟩
  · rintro ⟨a, b | ⟨rfl, b⟩⟩
    · exact ⟨a, Or.inl b⟩
    · rcases (show x < X ∨ x = X by omega) with z | rfl
      · exact ⟨a, Or.inr ⟨rfl, z⟩⟩
      · exact (no a).elim
theorem Lw.add {Y X : Int} {f : List (Int × Int)} (h : Lw p q r n Y X f) (hs : Li p q r n X Y) : Lw p q r n Y (X + 1) (f ++ [(X, Y)]) := by
  refine ⟨fun x y => ?_, ?_⟩
  · rw [List.mem_append, h.mem, List.mem_singleton, Prod.mk.injEq]
    constructor
    · rintro (⟨a, b | b⟩ | ⟨rfl, rfl⟩)
      · exact ⟨a, Or.inl b⟩
      · exact ⟨a, Or.inr (by omega)⟩
      · exact ⟨hs, Or.inr ⟨rfl, by omega⟩⟩
    · rintro ⟨a, b | ⟨rfl, b⟩⟩
      · exact Or.inl ⟨a, Or.inl b⟩
      · rcases (show x < X ∨ x = X by omega) with z | rfl
        · exact Or.inl ⟨a, Or.inr ⟨rfl, z⟩⟩
        · exact Or.inr ⟨rfl, rfl⟩
  · refine List.nodup_append.mpr ⟨h.nodup, List.nodup_cons.mpr ⟨fun z => (by cases z), List.nodup_nil⟩, ?_⟩
    rintro ⟨a1, a2⟩ ha b hb rfl
    rw [List.mem_singleton, Prod.mk.injEq] at hb
    obtain ⟨rfl, rfl⟩ := hb
    have := ((h.mem _ _).mp ha).2
    omega
theorem Lw.next {Y X : Int} {f : List (Int × Int)} (h : Lw p q r n Y X f) (hn : n ≠ 0) (hpq : p ≠ q) (hX : min (p * Y) (q * Y) + n.natAbs + 1 ≤ X) : Lw p q r n (Y + 1) (max (p * (Y + 1)) (q * (Y + 1)) - n.natAbs) f := by
  refine ⟨fun x y => ?_, h.nodup⟩
  rw [h.mem]
  constructor
  · rintro ⟨a, b | b⟩
    · exact ⟨a, Or.inl (by omega)⟩
    · exact ⟨a, Or.inl (by omega)⟩
  · rintro ⟨a, b | ⟨rfl, b⟩⟩
    · rcases (show y < Y ∨ y = Y by omega) with z | rfl
      · exact ⟨a, Or.inl z⟩
      · have := li_bound a hn hpq
        exact ⟨a, Or.inr ⟨rfl, by omega⟩⟩
    · have := li_bound a hn hpq
      exfalso
      generalize p * (Y + 1) = s at *
      generalize q * (Y + 1) = t at *
      omega
end
/-! ### the law's cubes -/
structure Lc (n X : Int) (f : List (Int × Int)) : Prop where
  mem : ∀ x y : Int, (x, y) ∈ f ↔ (x ^ 3 + y ^ 3 = n ∧ x < X)
  ord : f.Pairwise Lt
theorem Lc.start {n M : Int} (hn : n ≠ 0) (h0 : 0 ≤ M) (hM : 4 * (n.natAbs : Int) < M * M) : Lc n (-M) [] := by
  refine ⟨fun x y => ⟨fun z => (by cases z), fun z => ?_⟩, List.Pairwise.nil⟩
  have h1 := (sol_bound z.1 hn).1
  have h2 := (ab_le (show x * x ≤ M * M by omega) h0).1
  omega
theorem Lc.skip {n X : Int} {f : List (Int × Int)} (h : Lc n X f) (no : ∀ y : Int, y ^ 3 ≠ n - X ^ 3) : Lc n (X + 1) f := by
  refine ⟨fun x y => ?_, h.ord⟩
  rw [h.mem]
  refine ⟨fun z => ⟨z.1, by omega⟩, fun z => ⟨z.1, ?_⟩⟩
  rcases (show x < X ∨ x = X by omega) with w | rfl
  · exact w
  · exact (no y (by have := z.1; omega)).elim
theorem Lc.add {n X Y : Int} {f : List (Int × Int)} (h : Lc n X f) (hy : Y ^ 3 = n - X ^ 3) : Lc n (X + 1) (f ++ [(X, Y)]) := by
  refine ⟨fun x y => ?_, ?_⟩
  · rw [List.mem_append, h.mem, List.mem_singleton, Prod.mk.injEq]
    constructor
    · rintro (⟨a, b⟩ | ⟨rfl, rfl⟩)
      · exact ⟨a, by omega⟩
      · exact ⟨by omega, by omega⟩
    · rintro ⟨a, b⟩
      rcases (show x < X ∨ x = X by omega) with w | rfl
      · exact Or.inl ⟨a, w⟩
      · exact Or.inr ⟨rfl, cube_mono (by omega)⟩
  · refine List.pairwise_append.mpr ⟨h.ord, List.pairwise_singleton _ _, ?_⟩
    rintro ⟨a1, a2⟩ ha b hb
    rw [List.mem_singleton] at hb
    subst hb
    exact Or.inl ((h.mem _ _).mp ha).2
/-! ### 1729 -/
def taxi : List (Int × Int) := [(1, 12), (9, 10), (10, 9), (12, 1)]
def taxiOk (x y : Int) : Bool := !decide (x ^ 3 + y ^ 3 = 1729) || taxi.any fun p => decide (x = p.1) && decide (y = p.2)
end K51M
/-! All points of a curve modulo a number, one after the other. Plain mathematics. -/
set_option linter.all false
namespace K40
open K45M EcZ
/-- the digits y over x -/
def ys (n : Nat) (c : C5) (x : Nat) : List Nat := (List.range n).filter fun y => decide (lhs c (x : Int) (y : Int) % (n : Int) = 0)
def due (n : Nat) (c : C5) (j : Nat) : List (Int × Int) := (List.range j).flatMap fun x => (ys n c x).map fun (y : Nat) => ((x : Int), (y : Int))
theorem due_succ (n : Nat) (c : C5) (j : Nat) : due n c (j + 1) = due n c j ++ (ys n c j).map fun (y : Nat) => ((j : Int), (y : Int)) := by
  unfold due
  rw [List.range_succ, List.flatMap_append, List.flatMap_singleton]
/-- the roots that make them -/
def zs (n : Nat) (v : Int) : List Nat := (List.range n).filter fun (z : Nat) => decide (((z : Int) * (z : Int)) % (n : Int) = v % (n : Int))
theorem ys_asc (n : Nat) (c : C5) (x : Nat) : (ys n c x).Pairwise (· < ·) := (List.pairwise_lt_range (n := n)).filter _
theorem ys_le (n : Nat) (c : C5) (x : Nat) : (ys n c x).length ≤ n := by
  unfold ys
  refine Nat.le_trans (List.length_filter_le ..) ?_
  rw [List.length_range]
  exact Nat.le_refl _
theorem due_le (n : Nat) (c : C5) : ∀ j, (due n c j).length ≤ j * n
  | 0 => Nat.zero_le _
  | j + 1 => by
    rw [due_succ, List.length_append, List.length_map, Nat.succ_mul]
    exact Nat.add_le_add (due_le n c j) (ys_le n c j)
/-- of the first j digits those that square to v -/
def rl (n j v : Nat) : List Int := ((List.range j).filter fun z => decide (z * z % n = v)).map fun (z : Nat) => (z : Int)
theorem rl_succ (n j v : Nat) : rl n (j + 1) v = rl n j v ++ (if j * j % n = v then [(j : Int)] else []) := by
  unfold rl
  rw [List.range_succ, List.filter_append, List.map_append]
  congr 1
  by_cases h : j * j % n = v
  · rw [if_pos h]
    simp [h]
  · rw [if_neg h]
    simp [h]
theorem ys_mem {n : Nat} {c : C5} {x y : Nat} : y ∈ ys n c x ↔ y < n ∧ lhs c (x : Int) (y : Int) % (n : Int) = 0 := by
  unfold ys
  rw [List.mem_filter, List.mem_range, decide_eq_true_iff]
theorem due_mem {n : Nat} {c : C5} {j : Nat} {x y : Int} : (x, y) ∈ due n c j ↔ 0 ≤ x ∧ x < (j : Int) ∧ 0 ≤ y ∧ y < (n : Int) ∧ lhs c x y % (n : Int) = 0 := by
  unfold due
  rw [List.mem_flatMap]
  constructor
  · rintro ⟨a, ha, hb⟩
    obtain ⟨b, hb, e⟩ := List.mem_map.mp hb
    have ha := List.mem_range.mp ha
    obtain ⟨b1, b2⟩ := ys_mem.mp hb
    obtain rfl : (a : Int) = x := congrArg Prod.fst e
    obtain rfl : (b : Int) = y := congrArg Prod.snd e
    exact ⟨by omega, by omega, by omega, by omega, b2⟩
  · rintro ⟨x0, x1, y0, y1, h⟩
    refine ⟨x.toNat, List.mem_range.mpr (by omega), List.mem_map.mpr ⟨y.toNat, ys_mem.mpr ⟨by omega, ?_⟩, ?_⟩⟩
    · rw [Int.toNat_of_nonneg x0, Int.toNat_of_nonneg y0]
      exact h
    · rw [Int.toNat_of_nonneg x0, Int.toNat_of_nonneg y0]
end K40
/-! Curves that fall modulo a prime: the singular point, its directions, how many points. Plain mathematics. -/
set_option linter.all false
namespace FlM
open K45M EcZ K40
def c4 (c : C5) : Int := c.b2 * c.b2 - 24 * c.b4
def c6 (c : C5) : Int := 36 * c.b2 * c.b4 - c.b2 * c.b2 * c.b2 - 216 * c.b6
def f1 (c : C5) (x y : Int) : Int := 2 * y + c.a1 * x + c.a3
def f2 (c : C5) (x y : Int) : Int := x * (3 * x + 2 * c.a2) + c.a4 - c.a1 * y
def qk (c : C5) (x0 k : Int) : Int := k * k + c.a1 * k - c.a2 - 3 * x0
/-- a singular point, by digits -/
structure Sg (p : Int) (c : C5) (x y : Int) : Prop where
  dx : Dg p x
  dy : Dg p y
  on : p ∣ lhs c x y
  h1 : p ∣ f1 c x y
  h2 : p ∣ f2 c x y
theorem along (c : C5) (x y k w : Int) : lhs c (x + w) (y + k * w) = lhs c x y + w * (k * f1 c x y - f2 c x y) + w * w * qk c x k - w * w * w := by
  unfold lhs f1 f2 qk
  grind
theorem four (c : C5) (x y : Int) : 4 * lhs c x y = f1 c x y * f1 c x y - cub c x := by
  unfold lhs f1 cub C5.b2 C5.b4 C5.b6
  grind
theorem cub_t (c : C5) (x : Int) : 432 * cub c x = (12 * x + c.b2) * (12 * x + c.b2) * (12 * x + c.b2) - 3 * c4 c * (12 * x + c.b2) - 2 * c6 c := by
  unfold cub c4 c6
  generalize c.b2 = B2
  generalize c.b4 = B4
  generalize c.b6 = B6
  grind
theorem lhs_t (c : C5) (x y : Int) : 1728 * lhs c x y = 432 * f1 c x y * f1 c x y - (12 * x + c.b2) * ((12 * x + c.b2) * (12 * x + c.b2) - c4 c) + 2 * (c4 c * (12 * x + c.b2) + c6 c) := by
  have e1 := four c x y
  have e2 := cub_t c x
  generalize lhs c x y = L at *
  generalize f1 c x y = F at *
  generalize cub c x = U at *
  generalize 12 * x + c.b2 = T at *
  generalize c4 c = C at *
  generalize c6 c = D at *
  grind
theorem flat_t (c : C5) (x y : Int) : 48 * f2 c x y = (12 * x + c.b2) * (12 * x + c.b2) - c4 c - 24 * c.a1 * f1 c x y := by
  unfold f1 f2 c4 C5.b2 C5.b4
  grind
theorem disc_c (c : C5) : 1728 * c.disc = c4 c * c4 c * c4 c - c6 c * c6 c := by
  have h := c.b8_4
  unfold C5.disc c4 c6
  generalize c.b2 = B2 at *
  generalize c.b4 = B4 at *
  generalize c.b6 = B6 at *
  generalize c.b8 = B8 at *
  grind
theorem four_q (c : C5) (x k : Int) : 4 * qk c x k = (2 * k + c.a1) * (2 * k + c.a1) - (12 * x + c.b2) := by
  unfold qk C5.b2
  grind
/-- a prime above 3 -/
structure P5 (p : Int) : Prop where
  pp : Pp p
  odd : p % 2 = 1
  u12 : Un p 12
section
variable {p : Int}
theorem un_dvd {z a : Int} (h : Un p z) (k : p ∣ z * a) : p ∣ a := by
  have h1 : Mo p (a * z) 0 := Mo.zero.mpr (by rw [Int.mul_comm]; exact k)
  exact Mo.zero.mp ((zero_unit h).mp h1)
theorem pp_dvd (h : Pp p) {a b : Int} (k : p ∣ a * b) : p ∣ a ∨ p ∣ b := by
  by_cases g : p ∣ a
  · exact .inl g
  · exact .inr (un_dvd (h.2 a fun z => g (Mo.zero.mp z)) k)
theorem P5.two (h : P5 p) : Un p 2 := two_unit h.odd
theorem P5.u4 (h : P5 p) : Un p 4 := four_unit h.odd
theorem P5.u1728 (h : P5 p) : Un p 1728 := (h.u12.mul h.u12).mul h.u12
theorem P5.u48 (h : P5 p) : Un p 48 := (h.u12.mul h.two).mul h.two
/-- singular by the number t = 12 x + b2 -/
theorem sg_t (h : P5 p) {c : C5} {x y : Int} : (p ∣ lhs c x y ∧ p ∣ f1 c x y ∧ p ∣ f2 c x y) ↔ (p ∣ f1 c x y ∧ p ∣ (12 * x + c.b2) * (12 * x + c.b2) - c4 c ∧ p ∣ c4 c * (12 * x + c.b2) + c6 c) := by
  have e1 := lhs_t c x y
  have e2 := flat_t c x y
  constructor
  · rintro ⟨h0, g1, g2⟩
    have k1 : p ∣ (12 * x + c.b2) * (12 * x + c.b2) - c4 c := by
      have e : (12 * x + c.b2) * (12 * x + c.b2) - c4 c = 48 * f2 c x y + 24 * c.a1 * f1 c x y := by omega
      rw [e]
      exact Int.dvd_add (Int.dvd_mul_of_dvd_right g2) (Int.dvd_mul_of_dvd_right g1)
    refine ⟨g1, k1, ?_⟩
    refine un_dvd h.two ?_
    have e : 2 * (c4 c * (12 * x + c.b2) + c6 c) = 1728 * lhs c x y - 432 * f1 c x y * f1 c x y + (12 * x + c.b2) * ((12 * x + c.b2) * (12 * x + c.b2) - c4 c) := by omega
    rw [e]
    exact Int.dvd_add (Int.dvd_sub (Int.dvd_mul_of_dvd_right h0) (Int.dvd_mul_of_dvd_right g1)) (Int.dvd_mul_of_dvd_right k1)
  · rintro ⟨g1, k1, k2⟩
    refine ⟨?_, g1, ?_⟩
    · refine un_dvd h.u1728 ?_
      rw [e1]
      exact Int.dvd_add (Int.dvd_sub (Int.dvd_mul_of_dvd_right g1) (Int.dvd_mul_of_dvd_right k1)) (Int.dvd_mul_of_dvd_right k2)
    · refine un_dvd h.u48 ?_
      rw [e2]
      exact Int.dvd_sub k1 (Int.dvd_mul_of_dvd_right g1)
theorem mo_dvd {a b : Int} (h : Mo p a b) : p ∣ a - b := Mo.iff_dvd.mp h
/-- the numbers t -/
theorem t_is (h : P5 p) {c : C5} (hd : p ∣ c.disc) : ∃ t, p ∣ t * t - c4 c ∧ p ∣ c4 c * t + c6 c := by
  have e := disc_c c
  have k : p ∣ c4 c * c4 c * c4 c - c6 c * c6 c := by
    rw [← e]
    exact Int.dvd_mul_of_dvd_right hd
  by_cases z : p ∣ c4 c
  · have k6 : p ∣ c6 c := by
      have : p ∣ c6 c * c6 c := by
        have e2 : c6 c * c6 c = c4 c * c4 c * c4 c - (c4 c * c4 c * c4 c - c6 c * c6 c) := by omega
        rw [e2]
        exact Int.dvd_sub (Int.dvd_mul_of_dvd_right z) k
      exact (pp_dvd h.pp this).elim id id
    refine ⟨0, ?_, ?_⟩
    · rw [Int.zero_mul, Int.zero_sub]
      exact Int.dvd_neg.mpr z
    · rw [Int.mul_zero, Int.zero_add]
      exact k6
  · obtain ⟨v, hv⟩ := h.pp.2 (c4 c) fun q => z (Mo.zero.mp q)
    have hv1 := mo_dvd hv
    have g2 : p ∣ c4 c * (-(c6 c * v)) + c6 c := by
      have e2 : c4 c * (-(c6 c * v)) + c6 c = -(c6 c) * (c4 c * v - 1) := by grind
      rw [e2]
      exact Int.dvd_mul_of_dvd_right hv1
    refine ⟨-(c6 c * v), ?_, g2⟩
    have hu : Un p (c4 c * c4 c) := (h.pp.2 (c4 c) fun q => z (Mo.zero.mp q)).mul (h.pp.2 (c4 c) fun q => z (Mo.zero.mp q))
    refine un_dvd hu ?_
    generalize c4 c = C at *
    generalize c6 c = D at *
    have e2 : C * C * (-(D * v) * -(D * v) - C) = (C * -(D * v) - D) * (C * (-(D * v)) + D) - (C * C * C - D * D) := by grind
    rw [e2]
    exact Int.dvd_sub (Int.dvd_mul_of_dvd_right g2) k
theorem t_uniq (h : P5 p) {c : C5} {t u : Int} (h1 : p ∣ t * t - c4 c) (h2 : p ∣ c4 c * t + c6 c) (k1 : p ∣ u * u - c4 c) (k2 : p ∣ c4 c * u + c6 c) : p ∣ t - u := by
  by_cases z : p ∣ c4 c
  · have g1 : p ∣ t := by
      have : p ∣ t * t := by
        have e : t * t = (t * t - c4 c) + c4 c := by omega
        rw [e]
        exact Int.dvd_add h1 z
      exact (pp_dvd h.pp this).elim id id
    have g2 : p ∣ u := by
      have : p ∣ u * u := by
        have e : u * u = (u * u - c4 c) + c4 c := by omega
        rw [e]
        exact Int.dvd_add k1 z
      exact (pp_dvd h.pp this).elim id id
    exact Int.dvd_sub g1 g2
  · refine un_dvd (h.pp.2 (c4 c) fun q => z (Mo.zero.mp q)) ?_
    have e : c4 c * (t - u) = (c4 c * t + c6 c) - (c4 c * u + c6 c) := by rw [Int.mul_sub]; omega
    rw [e]
    exact Int.dvd_sub h2 k2
theorem dg_of_dvd {x y : Int} (hx : Dg p x) (hy : Dg p y) (h : p ∣ x - y) : x = y := hx.eq hy (Mo.iff_dvd.mpr h)
theorem half_f (ho : p % 2 = 1) (hp : 0 < p) (z : Int) : ∃ y, Dg p y ∧ p ∣ 2 * y + z := by
  refine ⟨(-z * ((p + 1) / 2)) % p, Dg.mod hp, ?_⟩
  have h1 : Mo p (2 * ((-z * ((p + 1) / 2)) % p) + z) 0 := by
    have h2 : Mo p (2 * ((-z * ((p + 1) / 2)) % p)) (-z * 1) := by
      refine ((Mo.rfl' (a := 2)).mul Mo.mod).trans ?_
      refine (Mo.of_eq ?_).trans ((Mo.rfl' (a := -z)).mul (half_two ho))
      grind
    refine (h2.add Mo.rfl').trans (Mo.of_eq ?_)
    omega
  exact Mo.zero.mp h1
theorem sg_ex (h : P5 p) {c : C5} (hd : p ∣ c.disc) : ∃ x y, Sg p c x y := by
  have hp : 0 < p := by
    have := h.pp.1
    omega
  obtain ⟨t, h1, h2⟩ := t_is h hd
  obtain ⟨i, hi⟩ := h.u12
  have hx : Mo p (12 * (((t - c.b2) * i) % p) + c.b2) t := by
    have k : Mo p (12 * (((t - c.b2) * i) % p)) ((t - c.b2) * 1) := by
      refine ((Mo.rfl' (a := 12)).mul Mo.mod).trans ?_
      refine (Mo.of_eq ?_).trans ((Mo.rfl' (a := t - c.b2)).mul hi)
      grind
    refine (k.add Mo.rfl').trans (Mo.of_eq ?_)
    omega
  generalize hx0 : ((t - c.b2) * i) % p = x at hx
  have dx : Dg p x := by
    rw [← hx0]
    exact Dg.mod hp
  obtain ⟨y, dy, hy⟩ := half_f h.odd hp (c.a1 * x + c.a3)
  have g1 : p ∣ f1 c x y := by
    unfold f1
    rw [Int.add_assoc]
    exact hy
  have k1 : p ∣ (12 * x + c.b2) * (12 * x + c.b2) - c4 c := by
    refine Mo.iff_dvd.mp ((hx.mul hx).trans (Mo.iff_dvd.mpr h1))
  have k2 : p ∣ c4 c * (12 * x + c.b2) + c6 c := Mo.zero.mp (((Mo.rfl'.mul hx).add Mo.rfl').trans (Mo.zero.mpr h2))
  obtain ⟨r0, r1, r2⟩ := (sg_t h).mpr ⟨g1, k1, k2⟩
  exact ⟨x, y, dx, dy, r0, r1, r2⟩
theorem sg_uniq (h : P5 p) {c : C5} {x y u v : Int} (s : Sg p c x y) (t : Sg p c u v) : x = u ∧ y = v := by
  obtain ⟨a1, a2, a3⟩ := (sg_t h).mp ⟨s.on, s.h1, s.h2⟩
  obtain ⟨b1, b2, b3⟩ := (sg_t h).mp ⟨t.on, t.h1, t.h2⟩
  have k := t_uniq h a2 a3 b2 b3
  have e : x = u := by
    refine dg_of_dvd s.dx t.dx (un_dvd h.u12 ?_)
    have e2 : 12 * (x - u) = 12 * x + c.b2 - (12 * u + c.b2) := by omega
    rw [e2]
    exact k
  subst e
  refine ⟨rfl, dg_of_dvd s.dy t.dy (un_dvd h.two ?_)⟩
  have e2 : 2 * (y - v) = f1 c x y - f1 c x v := by
    unfold f1
    omega
  rw [e2]
  exact Int.dvd_sub a1 b1
end
end FlM
/-! Directions and counts at a singular point. Plain mathematics. -/
set_option linter.all false
namespace FlM
open K45M EcZ K40
def ways (n : Nat) (c : C5) (x0 : Int) : List Nat := (List.range n).filter fun k => decide (qk c x0 (k : Int) % (n : Int) = 0)
theorem ways_mem {n : Nat} {c : C5} {x0 : Int} {k : Nat} : k ∈ ways n c x0 ↔ k < n ∧ (n : Int) ∣ qk c x0 (k : Int) := by
  unfold ways
  rw [List.mem_filter, List.mem_range, decide_eq_true_iff]
  exact and_congr Iff.rfl ⟨Int.dvd_of_emod_eq_zero, Int.emod_eq_zero_of_dvd⟩
theorem ways_nodup (n : Nat) (c : C5) (x0 : Int) : (ways n c x0).Nodup := List.nodup_range.filter _
theorem one_of {l : List Nat} (h : l.Nodup) {a : Nat} (m : ∀ x, x ∈ l ↔ x = a) : l.length = 1 := by
  have : l.Perm [a] := (List.perm_ext_iff_of_nodup h (by simp)).mpr fun x => by rw [m x, List.mem_singleton]
  rw [this.length_eq]
  rfl
theorem two_of' {l : List Nat} (h : l.Nodup) {a b : Nat} (hab : a ≠ b) (m : ∀ x, x ∈ l ↔ x = a ∨ x = b) : l.length = 2 := by
  have : l.Perm [a, b] := (List.perm_ext_iff_of_nodup h (by simp [hab])).mpr fun x => by
    rw [m x]
    simp
  rw [this.length_eq]
  rfl
theorem nat_dg {n : Nat} {x : Int} (h : Dg (n : Int) x) : ∃ k : Nat, x = (k : Int) ∧ k < n := ⟨x.toNat, (Int.toNat_of_nonneg h.1).symm, by have := h.1; have := h.2; omega⟩
section
variable {n : Nat} {c : C5} {x0 : Int}
theorem root_s (h : P5 (n : Int)) {k : Int} : (n : Int) ∣ qk c x0 k ↔ (n : Int) ∣ (2 * k + c.a1) * (2 * k + c.a1) - (12 * x0 + c.b2) := by
  have e := four_q c x0 k
  constructor
  · intro g
    rw [← e]
    exact Int.dvd_mul_of_dvd_right g
  · intro g
    rw [← e] at g
    exact un_dvd h.u4 g
/-- one direction -/
theorem ways_one (h : P5 (n : Int)) (ht : (n : Int) ∣ 12 * x0 + c.b2) : (ways n c x0).length = 1 := by
  have hn : (0 : Int) < (n : Int) := by
    have := h.pp.1
    omega
  obtain ⟨k0, d0, g0⟩ := half_f h.odd hn c.a1
  obtain ⟨k, rfl, hk⟩ := nat_dg d0
  refine one_of (ways_nodup n c x0) (a := k) fun x => ?_
  rw [ways_mem, root_s h]
  constructor
  · rintro ⟨hx, g⟩
    have g1 : (n : Int) ∣ (2 * (x : Int) + c.a1) * (2 * (x : Int) + c.a1) := by
      have e : (2 * (x : Int) + c.a1) * (2 * (x : Int) + c.a1) = ((2 * (x : Int) + c.a1) * (2 * (x : Int) + c.a1) - (12 * x0 + c.b2)) + (12 * x0 + c.b2) := by omega
      rw [e]
      exact Int.dvd_add g ht
    have g2 : (n : Int) ∣ 2 * (x : Int) + c.a1 := (pp_dvd h.pp g1).elim id id
    have e : (x : Int) = (k : Int) := by
      refine dg_of_dvd ⟨by omega, by omega⟩ d0 (un_dvd h.two ?_)
      have e2 : 2 * ((x : Int) - (k : Int)) = (2 * (x : Int) + c.a1) - (2 * (k : Int) + c.a1) := by omega
      rw [e2]
      exact Int.dvd_sub g2 g0
    omega
  · rintro rfl
    exact ⟨hk, Int.dvd_sub (Int.dvd_mul_of_dvd_right g0) ht⟩
/-- none or two -/
theorem ways_two (h : P5 (n : Int)) (ht : ¬ (n : Int) ∣ 12 * x0 + c.b2) : (ways n c x0).length = 0 ∨ (ways n c x0).length = 2 := by
  have hn : (0 : Int) < (n : Int) := by
    have := h.pp.1
    omega
  cases hw : ways n c x0 with
  | nil => exact .inl rfl
  | cons k l =>
    right
    rw [← hw]
    have hk : k ∈ ways n c x0 := by
      rw [hw]
      exact List.mem_cons_self
    obtain ⟨k1, k2⟩ := ways_mem.mp hk
    rw [root_s h] at k2
    have dj : Dg (n : Int) ((-c.a1 - (k : Int)) % (n : Int)) := Dg.mod hn
    obtain ⟨j, ej, hj⟩ := nat_dg dj
    have hjm : (n : Int) ∣ (-c.a1 - (k : Int)) - (j : Int) := by
      rw [← ej]
      exact Mo.iff_dvd.mp Mo.mod.symm
    have hs : (n : Int) ∣ 2 * (j : Int) + c.a1 + (2 * (k : Int) + c.a1) := by
      have e : 2 * (j : Int) + c.a1 + (2 * (k : Int) + c.a1) = -2 * ((-c.a1 - (k : Int)) - (j : Int)) := by omega
      rw [e]
      exact Int.dvd_mul_of_dvd_right hjm
    have sq : ∀ a b : Int, (n : Int) ∣ a + b → (n : Int) ∣ a * a - b * b := fun a b g => by
      have e : a * a - b * b = (a + b) * (a - b) := by grind
      rw [e]
      exact Int.dvd_mul_of_dvd_left g
    refine two_of' (ways_nodup n c x0) (a := k) (b := j) (fun e => ?_) fun x => ?_
    · subst e
      have g2 : (n : Int) ∣ 2 * (k : Int) + c.a1 := by
        refine un_dvd h.two ?_
        have e : 2 * (2 * (k : Int) + c.a1) = 2 * (k : Int) + c.a1 + (2 * (k : Int) + c.a1) := by omega
        rw [e]
        exact hs
      refine ht ?_
      have e : 12 * x0 + c.b2 = (2 * (k : Int) + c.a1) * (2 * (k : Int) + c.a1) - ((2 * (k : Int) + c.a1) * (2 * (k : Int) + c.a1) - (12 * x0 + c.b2)) := by omega
      rw [e]
      exact Int.dvd_sub (Int.dvd_mul_of_dvd_right g2) k2
    · rw [ways_mem, root_s h]
      constructor
      · rintro ⟨hx, g⟩
        have g1 : (n : Int) ∣ (2 * (x : Int) + c.a1 - (2 * (k : Int) + c.a1)) * (2 * (x : Int) + c.a1 + (2 * (k : Int) + c.a1)) := by
          have e : (2 * (x : Int) + c.a1 - (2 * (k : Int) + c.a1)) * (2 * (x : Int) + c.a1 + (2 * (k : Int) + c.a1)) = ((2 * (x : Int) + c.a1) * (2 * (x : Int) + c.a1) - (12 * x0 + c.b2)) - ((2 * (k : Int) + c.a1) * (2 * (k : Int) + c.a1) - (12 * x0 + c.b2)) := by grind
          rw [e]
          exact Int.dvd_sub g k2
        rcases pp_dvd h.pp g1 with z | z
        · left
          have e : (x : Int) = (k : Int) := by
            refine dg_of_dvd ⟨by omega, by omega⟩ ⟨by omega, by omega⟩ (un_dvd h.two ?_)
            have e2 : 2 * ((x : Int) - (k : Int)) = 2 * (x : Int) + c.a1 - (2 * (k : Int) + c.a1) := by omega
            rw [e2]
            exact z
          omega
        · right
          have e : (x : Int) = (j : Int) := by
            refine dg_of_dvd ⟨by omega, by omega⟩ ⟨by omega, by omega⟩ (un_dvd h.two ?_)
            have e2 : 2 * ((x : Int) - (j : Int)) = (2 * (x : Int) + c.a1 + (2 * (k : Int) + c.a1)) - (2 * (j : Int) + c.a1 + (2 * (k : Int) + c.a1)) := by omega
            rw [e2]
            exact Int.dvd_sub z hs
          omega
      · rintro (rfl | rfl)
        · exact ⟨k1, k2⟩
        · refine ⟨hj, ?_⟩
          have e : (2 * (x : Int) + c.a1) * (2 * (x : Int) + c.a1) - (12 * x0 + c.b2) = ((2 * (x : Int) + c.a1) * (2 * (x : Int) + c.a1) - (2 * (k : Int) + c.a1) * (2 * (k : Int) + c.a1)) + ((2 * (k : Int) + c.a1) * (2 * (k : Int) + c.a1) - (12 * x0 + c.b2)) := by omega
          rw [e]
          exact Int.dvd_add (sq _ _ hs) k2
end
/-- at most two directions, one exactly at a cusp -/
theorem ways_5 {n : Nat} {c : C5} {x y : Int} (h : P5 (n : Int)) (s : Sg (n : Int) c x y) : (ways n c x).length ≤ 2 ∧ ((ways n c x).length = 1 ↔ (n : Int) ∣ c4 c) := by
  obtain ⟨a1, a2, a3⟩ := (sg_t h).mp ⟨s.on, s.h1, s.h2⟩
  have ht : (n : Int) ∣ 12 * x + c.b2 ↔ (n : Int) ∣ c4 c := by
    constructor
    · intro g
      have e : c4 c = (12 * x + c.b2) * (12 * x + c.b2) - ((12 * x + c.b2) * (12 * x + c.b2) - c4 c) := by omega
      rw [e]
      exact Int.dvd_sub (Int.dvd_mul_of_dvd_right g) a2
    · intro g
      have : (n : Int) ∣ (12 * x + c.b2) * (12 * x + c.b2) := by
        have e : (12 * x + c.b2) * (12 * x + c.b2) = ((12 * x + c.b2) * (12 * x + c.b2) - c4 c) + c4 c := by omega
        rw [e]
        exact Int.dvd_add a2 g
      exact (pp_dvd h.pp this).elim id id
  by_cases z : (n : Int) ∣ 12 * x + c.b2
  · rw [ways_one h z]
    exact ⟨by decide, fun _ => ht.mp z, fun _ => rfl⟩
  · rcases ways_two h z with e | e
    · rw [e]
      exact ⟨by decide, fun q => absurd q (by decide), fun q => absurd (ht.mpr q) z⟩
    · rw [e]
      exact ⟨by decide, fun q => absurd q (by decide), fun q => absurd (ht.mpr q) z⟩
/-! ### how many points -/
theorem due_asc (n : Nat) (c : C5) : ∀ j, (due n c j).Pairwise K51M.Lt
  | 0 => List.Pairwise.nil
  | j + 1 => by
    rw [due_succ, List.pairwise_append]
    refine ⟨due_asc n c j, ?_, ?_⟩
    · rw [List.pairwise_map]
      exact (ys_asc n c j).imp fun {a b} z => .inr ⟨rfl, by show (a : Int) < (b : Int); omega⟩
    · rintro ⟨x, y⟩ h1 b h2
      obtain ⟨b', _, rfl⟩ := List.mem_map.mp h2
      have := (due_mem.mp h1).2.1
      exact .inl this
theorem due_nodup (n : Nat) (c : C5) (j : Nat) : (due n c j).Nodup := by
  refine List.Pairwise.imp (fun {a b} h => ?_) (due_asc n c j)
  intro e
  subst e
  exact K51M.Lt.irr h
theorem split_len {l : List Nat} (f : Nat → Bool) : (l.filter f).length + (l.filter fun x => !f x).length = l.length := by
  induction l with
  | nil => rfl
  | cons a l ih =>
    rw [List.filter_cons, List.filter_cons]
    cases f a <;> simp <;> omega
theorem count_sg {n : Nat} {c : C5} {x y : Int} (hp : Pp (n : Int)) (s : Sg (n : Int) c x y) : (due n c n).length + (ways n c x).length = n + 1 := by
  have hn : (0 : Int) < (n : Int) := by
    have := hp.1
    omega
  let f : Nat → Int × Int := fun k => ((x + qk c x (k : Int)) % (n : Int), (y + (k : Int) * qk c x (k : Int)) % (n : Int))
  let ks := (List.range n).filter fun (k : Nat) => !decide (qk c x (k : Int) % (n : Int) = 0)
  have hks : ∀ k, k ∈ ks ↔ k < n ∧ ¬ (n : Int) ∣ qk c x (k : Int) := fun k => by
    rw [List.mem_filter, List.mem_range, Bool.not_eq_true', decide_eq_false_iff_not]
    exact and_congr Iff.rfl (not_congr ⟨Int.dvd_of_emod_eq_zero, Int.emod_eq_zero_of_dvd⟩)
  have fx : ∀ k, Mo n (f k).1 (x + qk c x (k : Int)) := fun k => Mo.mod
  have fy : ∀ k, Mo n (f k).2 (y + (k : Int) * qk c x (k : Int)) := fun k => Mo.mod
  have lc : ∀ {u v u' v' : Int}, Mo n u u' → Mo n v v' → Mo n (lhs c u v) (lhs c u' v') := fun {u v u' v'} h k => by
    have e : ∀ u v : Int, lhs c u v = v * (v + c.a1 * u + c.a3) - (u * u * u + c.a2 * u * u + c.a4 * u + c.a6) := fun u v => by
      unfold lhs
      grind
    rw [e, e]
    exact (k.mul ((k.add (Mo.rfl'.mul h)).add Mo.rfl')).sub (((((h.mul h).mul h).add ((Mo.rfl'.mul h).mul h)).add (Mo.rfl'.mul h)).add Mo.rfl')
  have key : List.Perm (due n c n) ((x, y) :: ks.map f) := by
    refine (List.perm_ext_iff_of_nodup (due_nodup n c n) (List.nodup_cons.mpr ⟨?_, ?_⟩)).mpr ?_
    · intro h
      obtain ⟨k, hk, e⟩ := List.mem_map.mp h
      refine ((hks k).mp hk).2 ?_
      have h1 := fx k
      rw [e] at h1
      have h2 := mo_dvd h1.symm
      have e2 : qk c x (k : Int) = x + qk c x (k : Int) - x := by omega
      rw [e2]
      exact h2
    · rw [List.Nodup, List.pairwise_map]
      refine List.Pairwise.imp_of_mem ?_ ((List.pairwise_lt_range (n := n)).filter _)
      intro i j hi hj hij e
      obtain ⟨i1, i2⟩ := (hks i).mp hi
      obtain ⟨j1, j2⟩ := (hks j).mp hj
      have e1 : (f i).1 = (f j).1 := congrArg Prod.fst e
      have e2 : (f i).2 = (f j).2 := congrArg Prod.snd e
      have m1 : (n : Int) ∣ qk c x (i : Int) - qk c x (j : Int) := by
        have := mo_dvd ((fx i).symm.trans ((Mo.of_eq e1).trans (fx j)))
        have e3 : qk c x (i : Int) - qk c x (j : Int) = x + qk c x (i : Int) - (x + qk c x (j : Int)) := by omega
        rw [e3]
        exact this
      have m2 : (n : Int) ∣ (i : Int) * qk c x (i : Int) - (j : Int) * qk c x (j : Int) := by
        have := mo_dvd ((fy i).symm.trans ((Mo.of_eq e2).trans (fy j)))
        have e3 : (i : Int) * qk c x (i : Int) - (j : Int) * qk c x (j : Int) = y + (i : Int) * qk c x (i : Int) - (y + (j : Int) * qk c x (j : Int)) := by omega
        rw [e3]
        exact this
      have m3 : (n : Int) ∣ ((i : Int) - (j : Int)) * qk c x (i : Int) := by
        have e3 : ((i : Int) - (j : Int)) * qk c x (i : Int) = ((i : Int) * qk c x (i : Int) - (j : Int) * qk c x (j : Int)) - (j : Int) * (qk c x (i : Int) - qk c x (j : Int)) := by grind
        rw [e3]
        exact Int.dvd_sub m2 (Int.dvd_mul_of_dvd_right m1)
      rcases pp_dvd hp m3 with z | z
      · have := dg_of_dvd (x := (i : Int)) (y := (j : Int)) ⟨by omega, by omega⟩ ⟨by omega, by omega⟩ z
        omega
      · exact i2 z
    · rintro ⟨u, v⟩
      rw [due_mem, List.mem_cons, List.mem_map]
      constructor
      · rintro ⟨u0, u1, v0, v1, h⟩
        by_cases hu : u = x
        · left
          subst hu
          have h2 : (n : Int) ∣ (v - y) * (v - y) := by
            have e : (v - y) * (v - y) = lhs c u v - lhs c u y - (v - y) * f1 c u y := by
              unfold lhs f1
              grind
            rw [e]
            exact Int.dvd_sub (Int.dvd_sub (Int.dvd_of_emod_eq_zero h) s.on) (Int.dvd_mul_of_dvd_right s.h1)
          have h3 : (n : Int) ∣ v - y := (pp_dvd hp h2).elim id id
          rw [dg_of_dvd ⟨v0, v1⟩ s.dy h3]
        · right
          have hw : ¬ (n : Int) ∣ u - x := fun z => hu (dg_of_dvd ⟨u0, u1⟩ s.dx z)
          obtain ⟨t, ht⟩ := hp.2 (u - x) fun z => hw (Mo.zero.mp z)
          obtain ⟨k, ek, hk⟩ := nat_dg (Dg.mod (n := (n : Int)) (a := (v - y) * t) hn)
          have hkw : Mo n ((k : Int) * (u - x)) (v - y) := by
            rw [← ek]
            refine (Mo.mod.mul Mo.rfl').trans ?_
            refine (Mo.of_eq (show (v - y) * t * (u - x) = (v - y) * ((u - x) * t) by grind)).trans ?_
            refine (Mo.rfl'.mul ht).trans (Mo.of_eq (Int.mul_one _))
          have hon : (n : Int) ∣ lhs c (x + (u - x)) (y + (k : Int) * (u - x)) := by
            have e : Mo n (lhs c (x + (u - x)) (y + (k : Int) * (u - x))) (lhs c u v) := lc (Mo.of_eq (by omega)) ((Mo.rfl'.add hkw).trans (Mo.of_eq (by omega)))
            exact Mo.zero.mp (e.trans (Mo.zero.mpr (Int.dvd_of_emod_eq_zero h)))
          have hq : (n : Int) ∣ qk c x (k : Int) - (u - x) := by
            have e := along c x y (k : Int) (u - x)
            have g : (n : Int) ∣ (u - x) * (u - x) * (qk c x (k : Int) - (u - x)) := by
              have e2 : (u - x) * (u - x) * (qk c x (k : Int) - (u - x)) = lhs c (x + (u - x)) (y + (k : Int) * (u - x)) - lhs c x y - (u - x) * ((k : Int) * f1 c x y - f2 c x y) := by
                rw [e]
                generalize lhs c x y = L
                generalize f1 c x y = F
                generalize f2 c x y = G
                generalize qk c x (k : Int) = Q
                generalize u - x = W
                grind
              rw [e2]
              exact Int.dvd_sub (Int.dvd_sub hon s.on) (Int.dvd_mul_of_dvd_right (Int.dvd_sub (Int.dvd_mul_of_dvd_right s.h1) s.h2))
            rcases pp_dvd hp g with z | z
            · exact ((pp_dvd hp z).elim hw hw).elim
            · exact z
          refine ⟨k, (hks k).mpr ⟨hk, fun z => hw ?_⟩, ?_⟩
          · have e : u - x = qk c x (k : Int) - (qk c x (k : Int) - (u - x)) := by omega
            rw [e]
            exact Int.dvd_sub z hq
          · have hqm : Mo n (qk c x (k : Int)) (u - x) := Mo.iff_dvd.mpr hq
            have e1 : (f k).1 = u := (Dg.mod hn : Dg (n : Int) (f k).1).eq ⟨u0, u1⟩ ((fx k).trans ((Mo.rfl'.add hqm).trans (Mo.of_eq (by omega))))
            have e2 : (f k).2 = v := (Dg.mod hn : Dg (n : Int) (f k).2).eq ⟨v0, v1⟩ ((fy k).trans ((Mo.rfl'.add ((Mo.rfl'.mul hqm).trans hkw)).trans (Mo.of_eq (by omega))))
            exact Prod.ext e1 e2
      · rintro (e | ⟨k, hk, e⟩)
        · obtain ⟨rfl, rfl⟩ := Prod.mk.inj e
          exact ⟨s.dx.1, s.dx.2, s.dy.1, s.dy.2, Int.emod_eq_zero_of_dvd s.on⟩
        · have e1 : (f k).1 = u := congrArg Prod.fst e
          have e2 : (f k).2 = v := congrArg Prod.snd e
          have du : Dg (n : Int) u := by
            rw [← e1]
            exact Dg.mod hn
          have dv : Dg (n : Int) v := by
            rw [← e2]
            exact Dg.mod hn
          refine ⟨du.1, du.2, dv.1, dv.2, Int.emod_eq_zero_of_dvd ?_⟩
          have g := along c x y (k : Int) (qk c x (k : Int))
          have h1 : Mo n (lhs c u v) (lhs c (x + qk c x (k : Int)) (y + (k : Int) * qk c x (k : Int))) := lc ((Mo.of_eq e1.symm).trans (fx k)) ((Mo.of_eq e2.symm).trans (fy k))
          refine Mo.zero.mp (h1.trans (Mo.zero.mpr ?_))
          rw [g]
          have e3 : lhs c x y + qk c x (k : Int) * ((k : Int) * f1 c x y - f2 c x y) + qk c x (k : Int) * qk c x (k : Int) * qk c x (k : Int) - qk c x (k : Int) * qk c x (k : Int) * qk c x (k : Int) = lhs c x y + qk c x (k : Int) * ((k : Int) * f1 c x y - f2 c x y) := by omega
          rw [e3]
          exact Int.dvd_add s.on (Int.dvd_mul_of_dvd_right (Int.dvd_sub (Int.dvd_mul_of_dvd_right s.h1) s.h2))
  have e1 := key.length_eq
  rw [List.length_cons, List.length_map] at e1
  have e2 := split_len (l := List.range n) fun (k : Nat) => decide (qk c x (k : Int) % (n : Int) = 0)
  rw [List.length_range] at e2
  have e3 : (ways n c x).length + ks.length = n := e2
  omega
end FlM
/-! The same modulo 2 and 3, by going through all; primes. Plain mathematics. -/
set_option linter.all false
namespace FlM
open K45M EcZ K40
def chkP (n : Nat) : Bool := (List.range n).all fun r => r == 0 || Nat.gcd r n == 1
theorem pp_of {n : Nat} (h1 : 1 < n) (h : chkP n = true) : Pp (n : Int) := by
  refine ⟨by omega, fun z hz => ?_⟩
  refine (un_iff (by omega)).mpr ?_
  rw [← gcd_congr (Mo.mod (n := (n : Int)) (a := z))]
  have r0 := Int.emod_nonneg z (show (n : Int) ≠ 0 by omega)
  have r1 := Int.emod_lt_of_pos z (show (0 : Int) < n by omega)
  have rn : z % (n : Int) ≠ 0 := fun e => hz (mod0.mp e)
  generalize z % (n : Int) = r at *
  have hm : r.toNat ∈ List.range n := List.mem_range.mpr (by omega)
  have h2 := List.all_eq_true.mp h _ hm
  rcases (Bool.or_eq_true _ _).mp h2 with g | g
  · have := eq_of_beq g
    omega
  · have e := eq_of_beq g
    show Nat.gcd r.natAbs (n : Int).natAbs = 1
    rw [show r.natAbs = r.toNat by omega]
    exact e
/-- what is told of a curve that falls -/
structure Fl (n : Nat) (c : C5) (x y : Int) : Prop where
  sg : Sg (n : Int) c x y
  uniq : ∀ u v, Sg (n : Int) c u v → u = x ∧ v = y
  le : (ways n c x).length ≤ 2
  one : (ways n c x).length = 1 ↔ (n : Int) ∣ c4 c
theorem fl_5 {n : Nat} (h : P5 (n : Int)) {c : C5} (hd : (n : Int) ∣ c.disc) : ∃ x y, Fl n c x y := by
  obtain ⟨x, y, s⟩ := sg_ex h hd
  obtain ⟨h1, h2⟩ := ways_5 h s
  exact ⟨x, y, s, fun u v t => sg_uniq h t s, h1, h2⟩
def mdc (p : Int) (c : C5) : C5 := ⟨c.a1 % p, c.a2 % p, c.a3 % p, c.a4 % p, c.a6 % p⟩
section
variable {p : Int} (c : C5)
theorem b2_md : Mo p (mdc p c).b2 c.b2 := by
  show Mo p (c.a1 % p * (c.a1 % p) + 4 * (c.a2 % p)) (c.a1 * c.a1 + 4 * c.a2)
  exact (Mo.mod.mul Mo.mod).add (Mo.rfl'.mul Mo.mod)
theorem b4_md : Mo p (mdc p c).b4 c.b4 := by
  show Mo p (2 * (c.a4 % p) + c.a1 % p * (c.a3 % p)) (2 * c.a4 + c.a1 * c.a3)
  exact (Mo.rfl'.mul Mo.mod).add (Mo.mod.mul Mo.mod)
theorem b6_md : Mo p (mdc p c).b6 c.b6 := by
  show Mo p (c.a3 % p * (c.a3 % p) + 4 * (c.a6 % p)) (c.a3 * c.a3 + 4 * c.a6)
  exact (Mo.mod.mul Mo.mod).add (Mo.rfl'.mul Mo.mod)
theorem b8_md : Mo p (mdc p c).b8 c.b8 := by
  unfold C5.b8 mdc
  exact ((((((Mo.mod.mul Mo.mod).mul Mo.mod).add ((Mo.rfl'.mul Mo.mod).mul Mo.mod)).sub ((Mo.mod.mul Mo.mod).mul Mo.mod)).add ((Mo.mod.mul Mo.mod).mul Mo.mod)).sub (Mo.mod.mul Mo.mod))
theorem disc_md : Mo p (mdc p c).disc c.disc := by
  unfold C5.disc
  have h2 := b2_md (p := p) c
  have h4 := b4_md (p := p) c
  have h6 := b6_md (p := p) c
  have h8 := b8_md (p := p) c
  exact (((((Mo.rfl'.mul h2).mul h4).mul h6).sub ((h2.mul h2).mul h8)).sub (Mo.rfl'.mul ((h4.mul h4).mul h4))).sub ((Mo.rfl'.mul h6).mul h6)
theorem c4_md : Mo p (c4 (mdc p c)) (c4 c) := by
  unfold c4
  exact ((b2_md c).mul (b2_md c)).sub (Mo.rfl'.mul (b4_md c))
theorem lhs_md (x y : Int) : Mo p (lhs (mdc p c) x y) (lhs c x y) := by
  unfold lhs mdc
  exact (Mo.rfl'.mul ((Mo.rfl'.add (Mo.mod.mul Mo.rfl')).add Mo.mod)).sub (((Mo.rfl'.add ((Mo.mod.mul Mo.rfl').mul Mo.rfl')).add (Mo.mod.mul Mo.rfl')).add Mo.mod)
theorem f1_md (x y : Int) : Mo p (f1 (mdc p c) x y) (f1 c x y) := by
  unfold f1 mdc
  exact (Mo.rfl'.add (Mo.mod.mul Mo.rfl')).add Mo.mod
theorem f2_md (x y : Int) : Mo p (f2 (mdc p c) x y) (f2 c x y) := by
  unfold f2 mdc
  exact ((Mo.rfl'.mul (Mo.rfl'.add (Mo.rfl'.mul Mo.mod))).add Mo.mod).sub (Mo.mod.mul Mo.rfl')
theorem qk_md (x k : Int) : Mo p (qk (mdc p c) x k) (qk c x k) := by
  unfold qk mdc
  exact ((Mo.rfl'.add (Mo.mod.mul Mo.rfl')).sub Mo.mod).sub Mo.rfl'
theorem dvd_iff {a b : Int} (h : Mo p a b) : p ∣ a ↔ p ∣ b := ⟨fun k => Mo.zero.mp (h.symm.trans (Mo.zero.mpr k)), fun k => Mo.zero.mp (h.trans (Mo.zero.mpr k))⟩
theorem sg_md {x y : Int} : Sg p (mdc p c) x y ↔ Sg p c x y := by
  constructor
  · rintro ⟨a, b, h0, h1, h2⟩
    exact ⟨a, b, (dvd_iff (lhs_md c x y)).mp h0, (dvd_iff (f1_md c x y)).mp h1, (dvd_iff (f2_md c x y)).mp h2⟩
  · rintro ⟨a, b, h0, h1, h2⟩
    exact ⟨a, b, (dvd_iff (lhs_md c x y)).mpr h0, (dvd_iff (f1_md c x y)).mpr h1, (dvd_iff (f2_md c x y)).mpr h2⟩
end
theorem ways_md (n : Nat) (c : C5) (x : Int) : ways n (mdc (n : Int) c) x = ways n c x := by
  unfold ways
  refine List.filter_congr fun k _ => ?_
  have h : qk (mdc (n : Int) c) x (k : Int) % (n : Int) = qk c x (k : Int) % (n : Int) := qk_md c x k
  rw [h]
def sgl (n : Nat) (c : C5) : List (Nat × Nat) := (List.range n).flatMap fun (x : Nat) => ((List.range n).filter fun (y : Nat) => decide (lhs c (x : Int) (y : Int) % (n : Int) = 0) && decide (f1 c (x : Int) (y : Int) % (n : Int) = 0) && decide (f2 c (x : Int) (y : Int) % (n : Int) = 0)).map fun (y : Nat) => (x, y)
def okc (n : Nat) (c : C5) : Bool := if c.disc % (n : Int) = 0 then match sgl n c with
    | [(x, _)] => decide ((ways n c (x : Int)).length ≤ 2) && (decide ((ways n c (x : Int)).length = 1) == decide (c4 c % (n : Int) = 0))
    | _ => false
  else true
def chkS (n : Nat) : Bool := (List.range n).all fun (a : Nat) => (List.range n).all fun (b : Nat) => (List.range n).all fun (d : Nat) => (List.range n).all fun (e : Nat) => (List.range n).all fun (g : Nat) => okc n ⟨(a : Int), (b : Int), (d : Int), (e : Int), (g : Int)⟩
theorem chk_2 : chkS 2 = true := by decide +kernel
theorem chk_3 : chkS 3 = true := by decide +kernel
theorem sgl_mem {n : Nat} {c : C5} {x y : Nat} : (x, y) ∈ sgl n c ↔ Sg (n : Int) c (x : Int) (y : Int) := by
  unfold sgl
  rw [List.mem_flatMap]
  constructor
  · rintro ⟨a, ha, hb⟩
    obtain ⟨b, hb2, e⟩ := List.mem_map.mp hb
    obtain ⟨rfl, rfl⟩ := Prod.mk.inj e
    have ha := List.mem_range.mp ha
    obtain ⟨h1, h2⟩ := List.mem_filter.mp hb2
    have h1 := List.mem_range.mp h1
    rw [Bool.and_eq_true, Bool.and_eq_true, decide_eq_true_iff, decide_eq_true_iff, decide_eq_true_iff] at h2
    exact ⟨⟨by omega, by omega⟩, ⟨by omega, by omega⟩, Int.dvd_of_emod_eq_zero h2.1.1, Int.dvd_of_emod_eq_zero h2.1.2, Int.dvd_of_emod_eq_zero h2.2⟩
  · rintro ⟨⟨a0, a1⟩, ⟨b0, b1⟩, h0, h1, h2⟩
    refine ⟨x, List.mem_range.mpr (by omega), List.mem_map.mpr ⟨y, List.mem_filter.mpr ⟨List.mem_range.mpr (by omega), ?_⟩, rfl⟩⟩
    rw [Bool.and_eq_true, Bool.and_eq_true, decide_eq_true_iff, decide_eq_true_iff, decide_eq_true_iff]
    exact ⟨⟨Int.emod_eq_zero_of_dvd h0, Int.emod_eq_zero_of_dvd h1⟩, Int.emod_eq_zero_of_dvd h2⟩
theorem fl_s {n : Nat} (hn : 0 < n) (h : chkS n = true) {c : C5} (hd : (n : Int) ∣ c.disc) : ∃ x y, Fl n c x y := by
  have dg : ∀ z : Int, ∃ k : Nat, k ∈ List.range n ∧ z % (n : Int) = (k : Int) := fun z => by
    obtain ⟨k, e, hk⟩ := nat_dg (Dg.mod (n := (n : Int)) (a := z) (by omega))
    exact ⟨k, List.mem_range.mpr hk, e⟩
  obtain ⟨a, ha, ea⟩ := dg c.a1
  obtain ⟨b, hb, eb⟩ := dg c.a2
  obtain ⟨d, hd', ed⟩ := dg c.a3
  obtain ⟨e, he, ee⟩ := dg c.a4
  obtain ⟨g, hg, eg⟩ := dg c.a6
  have ok : okc n (mdc (n : Int) c) = true := by
    have h1 := List.all_eq_true.mp (List.all_eq_true.mp (List.all_eq_true.mp (List.all_eq_true.mp (List.all_eq_true.mp h a ha) b hb) d hd') e he) g hg
    unfold mdc
    rw [ea, eb, ed, ee, eg]
    exact h1
  unfold okc at ok
  rw [if_pos (Int.emod_eq_zero_of_dvd ((dvd_iff (disc_md c)).mpr hd))] at ok
  split at ok
  · rename_i x y hs
    rw [Bool.and_eq_true, decide_eq_true_iff, beq_iff_eq, ways_md] at ok
    have hm : ∀ u v : Nat, (u, v) ∈ sgl n (mdc (n : Int) c) ↔ (u, v) = (x, y) := fun u v => by rw [hs, List.mem_singleton]
    have s : Sg (n : Int) c (x : Int) (y : Int) := (sg_md c).mp (sgl_mem.mp ((hm x y).mpr rfl))
    refine ⟨(x : Int), (y : Int), s, fun u v t => ?_, ok.1, ?_⟩
    · obtain ⟨u', rfl, _⟩ := nat_dg t.dx
      obtain ⟨v', rfl, _⟩ := nat_dg t.dy
      obtain ⟨rfl, rfl⟩ := Prod.mk.inj ((hm u' v').mp (sgl_mem.mpr ((sg_md c).mpr t)))
      exact ⟨rfl, rfl⟩
    · have e2 := ok.2
      constructor
      · intro z
        rw [decide_eq_true z] at e2
        exact (dvd_iff (c4_md c)).mp (Int.dvd_of_emod_eq_zero (of_decide_eq_true e2.symm))
      · intro z
        rw [decide_eq_true (Int.emod_eq_zero_of_dvd ((dvd_iff (c4_md (p := (n : Int)) c)).mpr z))] at e2
        exact of_decide_eq_true e2
  · cases ok
/-- the primes that are asked for -/
structure Pq (n : Nat) : Prop where
  pp : Pp (n : Int)
  lt : n < 40
  two : n = 2 ∨ (n : Int) % 2 = 1
  fl : ∀ c : C5, (n : Int) ∣ c.disc → ∃ x y, Fl n c x y
theorem pq_2 : Pq 2 := ⟨pp_of (by decide) (by decide), by decide, .inl rfl, fun c hd => fl_s (by decide) chk_2 hd⟩
theorem pq_3 : Pq 3 := ⟨pp_of (by decide) (by decide), by decide, .inr rfl, fun c hd => fl_s (by decide) chk_3 hd⟩
end FlM
/-! Bits of a row, values of a polynomial modulo q: plain mathematics. -/
set_option linter.all false
namespace SvM
open K45M
/-- the value of a polynomial, the lowest coefficient first -/
def ev (f : List Int) (x : Int) : Int := f.foldr (fun c t => t * x + c) 0
theorem ev_cons (c : Int) (f : List Int) (x : Int) : ev (c :: f) x = ev f x * x + c := rfl
/-! ### the lowest bit -/
/-! ### a row repeated -/
/-- bit j is set just for the j below n with a kept j modulo s -/
def Bt (row n : Nat) (kept : List Bool) : Prop := ∀ j, row.testBit j = (decide (j < n) && kept.getD (j % kept.length) false)
theorem Bt.cut {row n L : Nat} {kept : List Bool} (h : Bt row n kept) (hL : L ≤ n) : Bt (row &&& (2 ^ L - 1)) L kept := by
  intro j
  rw [Nat.testBit_and, h j, Nat.testBit_two_pow_sub_one]
  by_cases h1 : j < L
  · have h2 : j < n := by omega
    simp [h1, h2]
  · simp [h1]
/-- the first round -/
def B1 (row i : Nat) (kept : List Bool) : Prop := ∀ j, row.testBit j = (decide (j < i) && kept.getD j false)
theorem B1.zero {kept : List Bool} : B1 0 0 kept := fun j => by simp
theorem B1.set {row i : Nat} {kept : List Bool} (h : B1 row i kept) (hk : kept.getD i false = true) : B1 (row ||| 2 ^ i) (i + 1) kept := by
  intro j
  rw [Nat.testBit_or, h j, Nat.testBit_two_pow]
  by_cases h1 : i = j
  · subst h1
    have : ¬ i < i := by omega
    rw [hk]
    simp
  · by_cases h2 : j < i
    · have : j < i + 1 := by omega
      simp [h1, h2, this]
    · have : ¬ j < i + 1 := by omega
      simp [h1, h2, this]
theorem B1.skip {row i : Nat} {kept : List Bool} (h : B1 row i kept) (hk : kept.getD i false = false) : B1 row (i + 1) kept := by
  intro j
  rw [h j]
  by_cases h1 : i = j
  · subst h1
    rw [hk]
    simp
  · by_cases h2 : j < i
    · have : j < i + 1 := by omega
      simp [h2, this]
    · have : ¬ j < i + 1 := by omega
      simp [h2, this]
theorem B1.bt {row : Nat} {kept : List Bool} (h : B1 row kept.length kept) : Bt row kept.length kept := by
  intro j
  rw [h j]
  by_cases h1 : j < kept.length
  · rw [Nat.mod_eq_of_lt h1]
  · simp [h1]
end SvM
set_option Elab.async false
set_option linter.all false
set_option maxRecDepth 100000
set_option maxHeartbeats 4000000
/-! Lists of pairs of ints in the heap; repr of greater data. -/
namespace PaM
open PySem PySem.Spec PyProof.Rows L2 Gd K51M
/-! ### pairs in the heap -/
/-- the tuples at ts hold the pairs ps -/
inductive PA (H : Hp) : List V → List (Int × Int) → Prop
  | nil : PA H [] []
  | cons {t : Addr} {x y : Int} {ts ps} (h : H t = some (.tup [.int x, .int y])) (r : PA H ts ps) : PA H (.ref t :: ts) ((x, y) :: ps)
theorem PA.same {H H' : Hp} (s : Same H H') : ∀ {ts ps}, PA H ts ps → PA H' ts ps
  | _, _, .nil => .nil
  | _, _, .cons h r => .cons (s _ _ h) (r.same s)
/-- a list is written anew -/
theorem PA.put {H : Hp} {D : Addr} {o : HO} {us : List V} (hD : H D = some (.lst us)) : ∀ {ts ps}, PA H ts ps → PA (upd H D o) ts ps
  | _, _, .nil => .nil
  | _, _, .cons h r => .cons (by rw [upd_ne (ne_of h hD (by intro z; cases z))]; exact h) (r.put hD)
theorem PA.app {H : Hp} : ∀ {ts ps us qs}, PA H ts ps → PA H us qs → PA H (ts ++ us) (ps ++ qs)
  | _, _, _, _, .nil, k => k
  | _, _, _, _, .cons h r, k => .cons h (r.app k)
theorem PA.len {H : Hp} : ∀ {ts ps}, PA H ts ps → ts.length = ps.length
  | _, _, .nil => rfl
  | _, _, .cons h r => congrArg (· + 1) r.len
theorem PA.but {H H' : Hp} {D : Addr} {us : List V} (hD : H D = some (.lst us)) (s : But D H H') : ∀ {ts ps}, PA H ts ps → PA H' ts ps
  | _, _, .nil => .nil
  | _, _, .cons h r => .cons (s _ _ h (ne_of h hD (by intro z; cases z))) (r.but hD s)
/-- the pair of a value -/
noncomputable def key (H : Hp) (x : V) : Int × Int :=
  match x with
  | .ref t => match H t with
    | some (.tup [.int a, .int b]) => (a, b)
    | _ => (0, 0)
  | _ => (0, 0)
theorem PA.key {H : Hp} : ∀ {ts ps}, PA H ts ps → ps = ts.map (key H)
  | _, _, .nil => rfl
  | _, _, .cons h r => by
    rw [List.map_cons, ← r.key]
    congr 1
    show _ = PaM.key H (.ref _)
    unfold PaM.key
    simp only [h]
theorem PA.all {H : Hp} : ∀ {ts ps}, PA H ts ps → ∀ x ∈ ts, ∃ t, x = V.ref t ∧ H t = some (.tup [.int (PaM.key H x).1, .int (PaM.key H x).2])
  | _, _, .nil, x, hx => by cases hx
  | _, _, .cons (t := t) h r, x, hx => by
    rcases List.mem_cons.mp hx with rfl | hx
    · refine ⟨t, rfl, ?_⟩
      unfold PaM.key
      simp only [h]
    · exact r.all x hx
theorem PA.of {H : Hp} : ∀ {ts : List V}, (∀ x ∈ ts, ∃ t, x = V.ref t ∧ H t = some (.tup [.int (PaM.key H x).1, .int (PaM.key H x).2])) → PA H ts (ts.map (PaM.key H))
  | [], _ => .nil
  | x :: ts, h => by
    obtain ⟨t, rfl, e⟩ := h x List.mem_cons_self
    exact .cons e (PA.of fun y hy => h y (List.mem_cons_of_mem _ hy))
/-- sorted: the same pairs, strictly ascending -/
theorem PA.sorted {H : Hp} {ts ys : List V} {ps : List (Int × Int)} (h : PA H ts ps) (hn : ps.Nodup) (h1 : SrtO.Srtd (ltP (PaM.key H)) ys) (h2 : SrtO.Stb (ltP (PaM.key H)) ys ts) :
    ∃ qs, PA H ys qs ∧ qs.Pairwise Lt ∧ qs.length = ps.length ∧ ∀ p, p ∈ qs ↔ p ∈ ps := by
  have pm : (ys.map (PaM.key H)).Perm ps := by
    rw [h.key]
    exact h2.perm.map _
  refine ⟨ys.map (PaM.key H), PA.of fun x hx => h.all x (h2.perm.mem_iff.mp hx), ?_, pm.length_eq, fun p => pm.mem_iff⟩
  refine strict ?_ (pm.nodup_iff.mpr hn)
  rw [List.pairwise_map]
  refine List.Pairwise.imp (fun {a b} z => ?_) h1
  intro q
  have q2 : SrtO.lexB (PaM.key H b) (PaM.key H a) = true := SrtO.lexB_iff.mpr q
  have z2 : SrtO.lexB (PaM.key H b) (PaM.key H a) = false := z
  rw [q2] at z2
  cases z2
/-! ### pairs as data -/
def dps (ps : List (Int × Int)) : List PyData := ps.map fun p => .tuple [.int p.1, .int p.2]
theorem PA.dp {K : PySem.W.Frag} {H : Hp} : ∀ {ts ps}, PA H ts ps → DpAll K H ts (dps ps)
  | _, _, .nil => .nil
  | _, _, .cons h r => .cons (.tup (tup_of h) (.cons (.int _) (.cons (.int _) .nil))) r.dp
/-! ### repr with a bound of the ints' bits -/
mutual
/-- at most so many signs, ints being below 2 ^ k -/
def wtk (k : Nat) : PyData → Nat
  | .none | .bool _ => 5
  | .int _ => k + 1
  | .str x => 10 * x.length + 2
  | .list xs | .tuple xs => wtkAll k xs + 3
  | .dict _ => 0
def wtkAll (k : Nat) : List PyData → Nat
  | [] => 0
  | x :: xs => wtk k x + 2 + wtkAll k xs
end
mutual
def okk (k : Nat) : PyData → Bool
  | .none | .bool _ => true
  | .int i => decide (i.natAbs.log2 < k)
  | .str x => x.cps.toList.all fun c => decide (c < 16 ^ 8)
  | .list xs | .tuple xs => okkAll k xs
  | .dict _ => false
def okkAll (k : Nat) : List PyData → Bool
  | [] => true
  | x :: xs => okk k x && okkAll k xs
end
mutual
theorem shown_wtk {k : Nat} (k0 : 0 < k) (k1 : k ≤ 1920) : ∀ d : PyData, okk k d = true → d.shown.length ≤ wtk k d ∧ d.showable = true ∧ d.hasDict = false
  | .none, _ => by
    refine ⟨?_, rfl, rfl⟩
    show (("None" : Str)).length ≤ 5
    decide +kernel
  | .bool b, _ => by
    refine ⟨?_, rfl, rfl⟩
    cases b <;> (show _ ≤ 5; decide +kernel)
  | .int i, h => by
    have h1 : i.natAbs.log2 < k := of_decide_eq_true (by simpa only [okk] using h)
    refine ⟨?_, by simpa only [PyData.showable] using decide_eq_true (show i.natAbs.log2 < 1920 by omega), rfl⟩
    have e := int_text_length_le (k := k) k0 h1
    show (Str.ofString (toString i)).length ≤ k + 1
    rw [PySem.ofString_length]
    exact e
  | .str x, h => by
    refine ⟨?_, rfl, rfl⟩
    have h1 : ∀ c ∈ x.cps.toList, c < 16 ^ 8 := fun c hc => of_decide_eq_true (List.all_eq_true.mp (by simpa only [okk] using h) c hc)
    exact StrLaws.reprText_len x h1
  | .list xs, h => by
    obtain ⟨h1, h2, h3⟩ := shown_wtkAll k0 k1 xs (by simpa only [okk] using h)
    refine ⟨?_, by simpa only [PyData.showable] using h2, by simpa only [PyData.hasDict] using h3⟩
    simp only [PyData.shown, wtk]
    exact Nat.le_trans (lst_wt _) (Nat.add_le_add_right h1 3)
  | .tuple xs, h => by
    obtain ⟨h1, h2, h3⟩ := shown_wtkAll k0 k1 xs (by simpa only [okk] using h)
    refine ⟨?_, by simpa only [PyData.showable] using h2, by simpa only [PyData.hasDict] using h3⟩
    simp only [PyData.shown, wtk]
    exact Nat.le_trans (tup_wt _) (Nat.add_le_add_right h1 3)
  | .dict _, h => by simp only [okk, Bool.false_eq_true] at h
theorem shown_wtkAll {k : Nat} (k0 : 0 < k) (k1 : k ≤ 1920) : ∀ xs : List PyData, okkAll k xs = true → piled (PyData.shownAll xs) ≤ wtkAll k xs ∧ PyData.showableAll xs = true ∧ PyData.hasDictAll xs = false
  | [], _ => ⟨Nat.le_refl _, rfl, rfl⟩
  | x :: xs, h => by
    have h0 : (okk k x && okkAll k xs) = true := by simpa only [okkAll] using h
    rw [Bool.and_eq_true] at h0
    obtain ⟨a1, a2, a3⟩ := shown_wtk k0 k1 x h0.1
    obtain ⟨b1, b2, b3⟩ := shown_wtkAll k0 k1 xs h0.2
    refine ⟨?_, by simp only [PyData.showableAll, a2, b2, Bool.and_self], by simp only [PyData.hasDictAll, a3, b3, Bool.or_self]⟩
    simp only [PyData.shownAll, wtkAll]
    rw [piled_cons]
    omega
end
/-- the text of data, all ints below 2 ^ k -/
def rReprK (K : PySem.W.Frag) : List V → Hp → VK → Prop := fun xs H Q => ∃ x d k, xs = [x] ∧ Dp K H x d ∧ 0 < k ∧ k ≤ 1920 ∧ okk k d = true ∧ d.depth ≤ 40 ∧ wtk k d ≤ 16000000 ∧ Q (.str d.shown) H
section
variable {X : Cx}
end
mutual
theorem dp_same {K : PySem.W.Frag} {H H' : Hp} (s : Same H H') : ∀ {v : V} {d : PyData}, Dp K H v d → Dp K H' v d
  | _, _, .non => .non
  | _, _, .bl b => .bl b
  | _, _, .int i => .int i
  | _, _, .str z => .str z
  | _, _, .lst h a => .lst (s.seq h) (dpAll_same s a)
  | _, _, .tup h a => .tup (Same.tup s h) (dpAll_same s a)
theorem dpAll_same {K : PySem.W.Frag} {H H' : Hp} (s : Same H H') : ∀ {vs : List V} {ds : List PyData}, DpAll K H vs ds → DpAll K H' vs ds
  | _, _, .nil => .nil
  | _, _, .cons h r => .cons (dp_same s h) (dpAll_same s r)
end
end PaM
set_option Elab.async false
set_option linter.all false
/-! xs[i] op= e, for a list: the read. -/
namespace Gd
open PySem PySem.Spec PyProof.Rows L2
section
variable {X : Cx}
def rGetL (K : PySem.W.Frag) : V → V → Hp → VK → Prop := fun o i H Q => ∃ (p : Addr) (xs : List V) (k : Nat) (z : V), o = .ref p ∧ i = .int (k : Int) ∧ SqL K H p xs ∧ xs[k]? = some z ∧ Q z H
end
end Gd
namespace Gd
open PySem PySem.Spec PyProof.Rows L2
/-- a walk over a range by what holds at each turn, whatever a turn asks -/
theorem it_range {lo : Int} {n : Nat} {H0 : Hp} {Qd : Hp → Prop} {F : V → Hp → (Hp → Prop) → Prop} (Pv : Nat → Hp → Prop) (h0 : Pv 0 H0) (hs : ∀ i H, i < n → Pv i H → F (.int (lo + i)) H (Pv (i + 1))) (hd : ∀ H, Pv n H → Qd H) :
    ∃ W : Nat → Nat → Hp → Prop, (∃ m, W 0 m H0) ∧ ∀ i m H, W i m H →
      ((Itr lo n).stop i H ∧ Qd H) ∨ ((Itr lo n).go i H ∧ ∃ Nx : Hp → Prop, (∀ H', Nx H' → ∃ m', m' < m ∧ W (i + 1) m' H') ∧ ∀ x H', (Itr lo n).yld i H x H' → F x H' Nx) := by
  refine ⟨fun i m H => m = n - i ∧ i ≤ n ∧ Pv i H, ⟨n, by simp, Nat.zero_le _, h0⟩, ?_⟩
  rintro i m H ⟨rfl, hi, p⟩
  by_cases hlt : i < n
  · refine .inr ⟨hlt, Pv (i + 1), fun H' p' => ⟨n - (i + 1), by omega, rfl, hlt, p'⟩, fun x H' y => ?_⟩
    obtain ⟨e, y⟩ := y
    subst e y
    exact hs i _ hlt p
  · have e : i = n := by omega
    subst e
    exact .inl ⟨Nat.le_refl _, hd H p⟩
end Gd
namespace Gd
open PySem PySem.Spec PyProof.Rows L2
end Gd
namespace Gd
open PySem PySem.Spec PyProof.Rows L2
/-- x //= y -/
def ipIcG (c : Int → Int → Prop) (f : Int → Int → Int) : TIp := fun x y H Q => ∃ i j, x = .int i ∧ y = .int j ∧ c i j ∧ Q (.int (f i j)) H
theorem ip_fdivAny {X : Cx} : PIp X .FloorDiv (ipIcG CDivAny fun i j => i.fdiv j) := by
  intro pins s σ H x y v u Q I r1 r2 h
  obtain ⟨i, j, e1, e2, c, q⟩ := h
  subst e1; subst e2
  obtain ⟨t, rfl⟩ := r1
  obtain ⟨t', rfl⟩ := r2
  exact ifloordiv_int c.1 ⟨.int _, H, I.tok _, ⟨_, rfl⟩, q⟩ (.inl (PyProof.noPylong_of_log2 c.2))
end Gd
set_option Elab.async false
set_option linter.all false
set_option maxRecDepth 100000
set_option maxHeartbeats 4000000
/-! Values of many kinds, told as data: their types, what stands in them. -/
namespace DpM
open PySem PySem.Spec PyProof.Rows L2 Gd
def tyn : PyData → String
  | .none => "NoneType"
  | .bool _ => "bool"
  | .int _ => "int"
  | .str _ => "str"
  | .list _ => "list"
  | .tuple _ => "tuple"
  | .dict _ => "dict"
def isI : PyData → Bool
  | .int _ => true
  | _ => false
def isB : PyData → Bool
  | .bool _ => true
  | _ => false
def isT : PyData → Bool
  | .tuple _ => true
  | _ => false
variable {K : PySem.W.Frag} {H : Hp}
def notL : PyData → Bool
  | .list _ => false
  | _ => true
/-- a value as it is passed: a list stands in the heap -/
inductive Vd (K : PySem.W.Frag) (H : Hp) : V → PyData → Prop
  | data {x : V} {d : PyData} (h : Dp K H x d) (hl : notL d = true) : Vd K H x d
  | lst {a : Addr} {xs : List V} {ds : List PyData} (h : H a = some (.lst xs)) (r : DpAll K H xs ds) : Vd K H (.ref a) (.list ds)
theorem Vd.dp {x : V} {d : PyData} (h : Vd K H x d) : Dp K H x d := by
  cases h with
  | data h hl => exact h
  | lst h r => exact .lst (lst_of h) r
mutual
theorem dpS {H' : Hp} (s : Same H H') : ∀ {v : V} {d : PyData}, Dp K H v d → Dp K H' v d
  | _, _, .non => .non
  | _, _, .bl b => .bl b
  | _, _, .int i => .int i
  | _, _, .str z => .str z
  | _, _, .lst h a => .lst (s.seq h) (dpAllS s a)
  | _, _, .tup h a => .tup (Same.tup s h) (dpAllS s a)
theorem dpAllS {H' : Hp} (s : Same H H') : ∀ {vs : List V} {ds : List PyData}, DpAll K H vs ds → DpAll K H' vs ds
  | _, _, .nil => .nil
  | _, _, .cons h r => .cons (dpS s h) (dpAllS s r)
end
theorem Vd.same {H' : Hp} {x : V} {d : PyData} (s : Same H H') (h : Vd K H x d) : Vd K H' x d := by
  cases h with
  | data h hl => exact .data (dpS s h) hl
  | lst h r => exact .lst (s _ _ h) (dpAllS s r)
mutual
theorem dpB {H' : Hp} {m cl : Addr} {n : Nat} (b : But m H H') (hm : MAt H m cl n) : ∀ {v : V} {d : PyData}, Dp K H v d → Dp K H' v d
  | _, _, .non => .non
  | _, _, .bl b => .bl b
  | _, _, .int i => .int i
  | _, _, .str z => .str z
  | _, _, .lst h a => .lst (b.seqL hm h) (dpAllB b hm a)
  | _, _, .tup h a => .tup (b.seqT hm h) (dpAllB b hm a)
theorem dpAllB {H' : Hp} {m cl : Addr} {n : Nat} (b : But m H H') (hm : MAt H m cl n) : ∀ {vs : List V} {ds : List PyData}, DpAll K H vs ds → DpAll K H' vs ds
  | _, _, .nil => .nil
  | _, _, .cons h r => .cons (dpB b hm h) (dpAllB b hm r)
end
theorem Vd.but {H' : Hp} {m cl : Addr} {n : Nat} {x : V} {d : PyData} (b : But m H H') (hm : MAt H m cl n) (h : Vd K H x d) : Vd K H' x d := by
  cases h with
  | data h hl => exact .data (dpB b hm h) hl
  | lst h r => exact .lst (b.lst hm h) (dpAllB b hm r)
theorem len : ∀ {vs : List V} {ds : List PyData}, DpAll K H vs ds → vs.length = ds.length
  | _, _, .nil => rfl
  | _, _, .cons h r => congrArg (· + 1) (len r)
theorem at_ : ∀ {vs : List V} {ds : List PyData} {i : Nat} {v : V}, DpAll K H vs ds → vs[i]? = some v → ∃ d, ds[i]? = some d ∧ Dp K H v d
  | _, _, _, _, .nil, e => nomatch e
  | _, _, 0, _, .cons h r, e => ⟨_, rfl, by
    obtain rfl := Option.some.inj e
    exact h⟩
  | _, _, i + 1, _, .cons h r, e => at_ (i := i) r e
/-- the ints of data -/
def int? : PyData → Option Int
  | .int i => some i
  | _ => none
theorem ofInts : ∀ ns : List Int, DpAll K H (ns.map V.int) (ns.map PyData.int)
  | [] => .nil
  | n :: ns => .cons (.int n) (ofInts ns)
theorem app : ∀ {vs us : List V} {ds es : List PyData}, DpAll K H vs ds → DpAll K H us es → DpAll K H (vs ++ us) (ds ++ es)
  | _, _, _, _, .nil, k => k
  | _, _, _, _, .cons h r, k => .cons h (app r k)
/-! ### x in a tuple, whatever stands there -/
section
variable {X : Cx}
def rInDT (K : PySem.W.Frag) : R2 := fun x y H Q => ∃ d ds, Dp K H x d ∧ Dp K H y (.tuple ds) ∧ SeqAt.shaped d = true ∧ SeqAt.shaped (.tuple ds) = true ∧ Q (.bl (ds.any fun z => PyData.eqv z d)) H
end
/-! ### in a comprehension's own scope -/
theorem ix_tupK {X : Cx} {K : PySem.W.Frag} (h : X.K = K) : IxR X (rIxT K) := h ▸ ix_tup
theorem pg_tupK {X : Cx} {K : PySem.W.Frag} {es : List Expr} {k : Nat} {t : TGs} {n : Nat} {pos : Pos} (hK : X.K = K) (hc : X.calm = true) (h : PGs X es t)
    (hn : (assignEach es X.env).length = n := by rfl) (hst : (assignEach es X.env).findIdx? (·.1) = none := by rfl) : PG X (.Tuple es k pos) (gTup K n t) := by
  subst hK
  exact pg_tup hc h hn hst
end DpM
set_option Elab.async false
set_option linter.all false
set_option maxRecDepth 100000
set_option maxHeartbeats 4000000
namespace K15
open PySem PySem.Spec PyProof.Rows L2 Gd QM K45M EcZ SvM PaM K40 DpM
local macro_rules | `(tactic| walk_at "bd") => `(tactic| (repeat (first | assumption | apply B.add | apply B.sub | apply B.mul | apply B.neg | exact B.lit (n := 8) (by decide))))
local macro_rules | `(tactic| walk_at "bnd") => `(tactic| (apply B.mulW; walk_at "bd"; decide))
local macro_rules | `(tactic| walk_at "pw") => `(tactic| exact B.up (n := 64) (by assumption) (by decide))
def cv (c : C5) : Cv := ⟨c.a1, c.a2, c.a3, c.a4, c.a6⟩
def fc (d : Cv) : C5 := ⟨d.a1, d.a2, d.a3, d.a4, d.a6⟩
def cL (c : C5) : List V := [.int c.a1, .int c.a2, .int c.a3, .int c.a4, .int c.a6]
def nums (c : C5) : List V := (cv c).nums
/-- numbers of ten bits -/
structure Sm (c : C5) : Prop where
  h1 : B 10 c.a1
  h2 : B 10 c.a2
  h3 : B 10 c.a3
  h4 : B 10 c.a4
  h6 : B 10 c.a6
theorem Sm.md {c : C5} (h : Sm c) : (cv c).Md := ⟨h.h1.up (by decide), h.h2.up (by decide), h.h3.up (by decide), h.h4.up (by decide), h.h6.up (by decide)⟩
theorem Sm.b2 {c : C5} (h : Sm c) : B 22 c.b2 := ((h.h1.mul h.h1).add ((B.lit (n := 3) (by decide)).mul h.h2)).up (by decide)
theorem Sm.b4 {c : C5} (h : Sm c) : B 22 c.b4 := (((B.lit (n := 2) (by decide)).mul h.h4).add (h.h1.mul h.h3)).up (by decide)
theorem Sm.b6 {c : C5} (h : Sm c) : B 22 c.b6 := ((h.h3.mul h.h3).add ((B.lit (n := 3) (by decide)).mul h.h6)).up (by decide)
theorem map_int {ns : List Int} {i : Nat} {x : V} (h : (ns.map V.int)[i]? = some x) : ∃ y : Int, ns[i]? = some y ∧ x = .int y := by
  rw [List.getElem?_map] at h
  cases e : ns[i]? with
  | none =>
    rw [e] at h
    cases h
  | some y =>
    rw [e] at h
    exact ⟨y, rfl, (Option.some.inj h).symm⟩
theorem drop_step {f : List Int} {i : Nat} {c : Int} (h : f[f.length - 1 - i]? = some c) (hi : i < f.length) : f.drop (f.length - (i + 1)) = c :: f.drop (f.length - i) := by
  obtain ⟨h1, h2⟩ := List.getElem?_eq_some_iff.mp h
  rw [show f.length - (i + 1) = f.length - 1 - i by omega, List.drop_eq_getElem_cons h1, h2, show f.length - 1 - i + 1 = f.length - i by omega]
theorem on_eq (c : C5) (x y : Int) : y * (y + c.a1 * x + c.a3) - c.a6 - x * (c.a4 + x * (c.a2 + x)) = lhs c x y := by
  unfold lhs
  grind
/-- rows of roots at as, as far as j -/
structure RT (H : Hp) (r : Addr) (as : List Addr) (n j : Nat) : Prop where
  top : H r = some (.lst (as.map V.ref))
  len : as.length = n
  nd : (r :: as).Nodup
  row : ∀ (v : Nat) (a : Addr), as[v]? = some a → H a = some (.lst ((rl n j v).map V.int))
theorem RT.same {H H' : Hp} {r : Addr} {as : List Addr} {n j : Nat} (h : RT H r as n j) (s : Same H H') : RT H' r as n j := ⟨s _ _ h.top, h.len, h.nd, fun v a e => s _ _ (h.row v a e)⟩
theorem RT.step {H : Hp} {r a : Addr} {as : List Addr} {n j : Nat} (h : RT H r as n j) (e : as[j * j % n]? = some a) : RT (upd H a (.lst ((rl n j (j * j % n)).map V.int ++ [V.int (j : Int)]))) r as n (j + 1) := by
  have hm : a ∈ as := List.mem_of_getElem? e
  have hr : r ≠ a := fun z => (List.nodup_cons.mp h.nd).1 (z ▸ hm)
  refine ⟨?_, h.len, h.nd, fun v b eb => ?_⟩
  · rw [upd_ne hr]
    exact h.top
  · by_cases z : j * j % n = v
    · subst z
      obtain rfl : a = b := Option.some.inj (e.symm.trans eb)
      rw [upd_same, rl_succ, if_pos rfl, List.map_append]
      rfl
    · have nb : b ≠ a := fun q => by
        subst q
        obtain ⟨h1, h2⟩ := List.getElem?_eq_some_iff.mp e
        obtain ⟨h3, h4⟩ := List.getElem?_eq_some_iff.mp eb
        exact z ((List.getElem_inj (List.nodup_cons.mp h.nd).2).mp (h2.trans h4.symm))
      rw [upd_ne nb, h.row v b eb, rl_succ, if_neg z, List.append_nil]
/-- the first j places over x -/
def row (n : Nat) (c : C5) (x j : Nat) : List (Int × Int) := ((List.range j).filter fun (y : Nat) => decide (lhs c (x : Int) (y : Int) % (n : Int) = 0)).map fun (y : Nat) => ((x : Int), (y : Int))
theorem row_le (n : Nat) (c : C5) (x : Nat) {j : Nat} (h : j ≤ n) : (row n c x j).length ≤ n := by
  unfold row
  rw [List.length_map]
  refine Nat.le_trans (List.length_filter_le ..) ?_
  rw [List.length_range]
  exact h
theorem row_zero (n : Nat) (c : C5) (x : Nat) : row n c x 0 = [] := rfl
theorem row_step (n : Nat) (c : C5) (x j : Nat) : row n c x (j + 1) = row n c x j ++ (if lhs c (x : Int) (j : Int) % (n : Int) = 0 then [((x : Int), (j : Int))] else []) := by
  unfold row
  rw [List.range_succ, List.filter_append, List.map_append]
  congr 1
  by_cases z : lhs c (x : Int) (j : Int) % (n : Int) = 0
  · rw [if_pos z]
    simp [z]
  · rw [if_neg z]
    simp [z]
def md (p : Int) (c : C5) : C5 := FlM.mdc p c
section
variable {P : Program} {w : World} {K : PySem.W.Frag} {mg : Str → Option Value} {base : Heap}
def sp_value_over (K : PySem.W.Frag) : Sp := fun vs H Q _ => ∃ (p : Addr) (f : List Int) (x m : Int), vs = [.ref p, .int x, .int m] ∧ (SqT K H p (f.map V.int) ∨ SqL K H p (f.map V.int)) ∧ f.length ≤ 5 ∧ (∀ c ∈ f, B 60 c) ∧ B 40 x ∧ 0 < m ∧ m ≤ 1000 ∧ Q (.int (ev f x % m)) H
abbrev s_value_over : Stmt := topS 34
theorem sc_value_over : FnScope ["f", "x", "m", "total", "c"] ["f", "x", "m"] (defScope s_value_over) := ⟨rfl, rfl, rfl, by decide +kernel, rfl, by decide +kernel, by decide +kernel⟩
theorem k_value_over (T : Tx K mg) (D : Df K mg "value_over" s_value_over ["f", "x", "m"])  : Kl P w K mg base 1 "value_over" (sp_value_over K) := by
  have nd := sc_value_over.nd
  refine Kl.by_body D sc_value_over (fun vs H Q E h => ?_) (fun f cdv A outer s H vs Q E hr h => ?_)
  · obtain ⟨_, _, _, _, rfl, _⟩ := h
    rfl
  · obtain ⟨p, f, x, m, rfl, hp, hl, hB, hx, hm, hm1, q⟩ := h
    have hu1 := hu_of hr
    refine ⟨_, (pss_cons (ps_set (i := 3) nd rfl (by first | exact Or.inl rfl | exact Or.inr rfl) pe_int)
      (pss_cons (ps_for PassesOwn.never rfl (RT.pi_revA (by rfl) T.reversed (pv 0)) (pg_name (i := 4) nd rfl (by first | exact Or.inl rfl | exact Or.inr rfl)) (pss_one (ps_set (i := 3) nd rfl (by first | exact Or.inl rfl | exact Or.inr rfl) (pe_op op_mod (pe_op op_add (pe_op op_mulW (pv 3) (pv 1)) (pv 4)) (pv 2)))))
      (pss_one (ps_ret (pv 3))))), ?_⟩
    have hlm : (f.map V.int).length = f.length := List.length_map ..
    rcases hp with hp | hp
    · refine ⟨_, rfl, p, _, rfl, .inr ⟨hp, ?_⟩⟩
      refine RT.for_ItvT (K := K) (a := p) (xs := f.map V.int) (fun i σ H2 => H2 = H ∧ ∃ v : Option V, σ = [some (.ref p), some (.int x), some (.int m), some (.int (ev (f.drop (f.length - i)) x % m)), v]) ⟨rfl, none, ?_⟩ ?_ ?_ ?_
      · rw [Nat.sub_zero, List.drop_length]
        show _ = [some (V.ref p), some (.int x), some (.int m), some (.int (0 % m)), none]
        rw [Int.zero_emod]
        rfl
      · rintro i σ H2 ⟨rfl, _⟩
        exact hp
      · rintro i z σ H2 hi hz ⟨rfl, v, rfl⟩
        rw [hlm] at hi hz
        obtain ⟨c, hc, rfl⟩ := map_int hz
        have b2 : B 12 (ev (f.drop (f.length - i)) x % m) := by
          have h1 := Int.emod_nonneg (ev (f.drop (f.length - i)) x) (show m ≠ 0 by omega)
          have h2 := Int.emod_lt_of_pos (ev (f.drop (f.length - i)) x) hm
          unfold Gd.B
          omega
        refine ⟨_, rfl, _, rfl, _, _, rfl, rfl, b2.mulW hx (by decide), _, rfl, _, _, rfl, rfl, _, rfl, _, _, rfl, rfl, hm, ?_⟩
        refine ⟨rfl, some (.int c), ?_⟩
        rw [drop_step hc hi, ev_cons]
        have e : (ev (f.drop (f.length - i)) x % m * x + c) % m = (ev (f.drop (f.length - i)) x * x + c) % m := (Mo.mod.mul Mo.rfl').add Mo.rfl'
        rw [← e]
        rfl
      · rintro σ H2 ⟨rfl, v, rfl⟩
        rw [hlm, Nat.sub_self, List.drop_zero]
        exact ⟨_, rfl, q⟩
    · refine ⟨_, rfl, p, _, rfl, .inl ⟨hp, ?_⟩⟩
      refine RT.for_Itv (K := K) (a := p) (xs := f.map V.int) (fun i σ H2 => H2 = H ∧ ∃ v : Option V, σ = [some (.ref p), some (.int x), some (.int m), some (.int (ev (f.drop (f.length - i)) x % m)), v]) ⟨rfl, none, ?_⟩ ?_ ?_ ?_
      · rw [Nat.sub_zero, List.drop_length]
        show _ = [some (V.ref p), some (.int x), some (.int m), some (.int (0 % m)), none]
        rw [Int.zero_emod]
        rfl
      · rintro i σ H2 ⟨rfl, _⟩
        exact hp
      · rintro i z σ H2 hi hz ⟨rfl, v, rfl⟩
        rw [hlm] at hi hz
        obtain ⟨c, hc, rfl⟩ := map_int hz
        have b2 : B 12 (ev (f.drop (f.length - i)) x % m) := by
          have h1 := Int.emod_nonneg (ev (f.drop (f.length - i)) x) (show m ≠ 0 by omega)
          have h2 := Int.emod_lt_of_pos (ev (f.drop (f.length - i)) x) hm
          unfold Gd.B
          omega
        refine ⟨_, rfl, _, rfl, _, _, rfl, rfl, b2.mulW hx (by decide), _, rfl, _, _, rfl, rfl, _, rfl, _, _, rfl, rfl, hm, ?_⟩
        refine ⟨rfl, some (.int c), ?_⟩
        rw [drop_step hc hi, ev_cons]
        have e : (ev (f.drop (f.length - i)) x % m * x + c) % m = (ev (f.drop (f.length - i)) x * x + c) % m := (Mo.mod.mul Mo.rfl').add Mo.rfl'
        rw [← e]
        rfl
      · rintro σ H2 ⟨rfl, v, rfl⟩
        rw [hlm, Nat.sub_self, List.drop_zero]
        exact ⟨_, rfl, q⟩
/-! ### on the curve -/
def sp_is_solution (K : PySem.W.Frag) : Sp := fun vs H Q _ => ∃ (p : Int) (ca : Addr) (c : C5) (x y : Int), vs = [.int p, .ref ca, .int x, .int y] ∧ SqT K H ca (cL c) ∧ Sm c ∧ 0 < p ∧ B 10 x ∧ B 10 y ∧ Q (.bl (decide (lhs c x y % p = 0))) H
abbrev s_is_solution : Stmt := topS 37
theorem sc_is_solution : FnScope ["p", "curve", "x", "y", "a1", "a2", "a3", "a4", "a6"] ["p", "curve", "x", "y"] (defScope s_is_solution) := ⟨rfl, rfl, rfl, by decide +kernel, rfl, by decide +kernel, by decide +kernel⟩
theorem k_is_solution (T : Tx K mg) (D : Df K mg "is_solution" s_is_solution ["p", "curve", "x", "y"])  : Kl P w K mg base 1 "is_solution" (sp_is_solution K) := by
  have nd := sc_is_solution.nd
  refine Kl.by_body D sc_is_solution (fun vs H Q E h => ?_) (fun f cdv A outer s H vs Q E hr h => ?_)
  · obtain ⟨_, _, _, _, _, rfl, _⟩ := h
    rfl
  · obtain ⟨p, ca, c, x, y, rfl, hc, hm, hp0, xB, yB, q⟩ := h
    have hu1 := hu_of hr
    refine ⟨_, (pss_cons (ps_asg (pv 1) (pg_tup rfl (pgs_cons (pg_name (i := 4) nd rfl (by first | exact Or.inl rfl | exact Or.inr rfl)) (pgs_cons (pg_name (i := 5) nd rfl (by first | exact Or.inl rfl | exact Or.inr rfl)) (pgs_cons (pg_name (i := 6) nd rfl (by first | exact Or.inl rfl | exact Or.inr rfl)) (pgs_cons (pg_name (i := 7) nd rfl (by first | exact Or.inl rfl | exact Or.inr rfl)) (pgs_cons (pg_name (i := 8) nd rfl (by first | exact Or.inl rfl | exact Or.inr rfl)) pgs_nil)))))))
      (pss_one (ps_ret (pe_cmpR op_eq (pe_op op_mod (pe_op op_sub (pe_op op_sub (pe_op op_mulW (pv 3) (pe_op op_add (pe_op op_add (pv 3) (pe_op op_mulW (pv 4) (pv 2))) (pv 6))) (pv 8)) (pe_op op_mulW (pv 2) (pe_op op_add (pv 7) (pe_op op_mulW (pv 2) (pe_op op_add (pv 5) (pv 2)))))) (pv 0)) pe_int (nomark _))))), ?_⟩
    obtain ⟨h1, h2, h3, h4, h6⟩ := hm
    refine ⟨_, rfl, ca, _, rfl, hc, rfl, _, _, rfl, _, _, rfl, _, _, rfl, _, _, rfl, _, _, rfl, rfl, ?_⟩
    first | refine sigN [some (.int (p)), some (.ref ca), some (.int (x)), some (.int (y)), some (.int (c.a1)), some (.int (c.a2)), some (.int (c.a3)), some (.int (c.a4)), some (.int (c.a6))] (by rfl) ?_ | refine sig [some (.int (p)), some (.ref ca), some (.int (x)), some (.int (y)), some (.int (c.a1)), some (.int (c.a2)), some (.int (c.a3)), some (.int (c.a4)), some (.int (c.a6))] (by rfl) ?_
    refine ⟨_, rfl, _, rfl, _, rfl, _, rfl, _, _, rfl, rfl, h1.mulW xB (by decide), _, _, rfl, rfl, _, rfl, _, _, rfl, rfl, _, _, rfl, rfl, yB.mulW ((yB.add (h1.mul xB)).add h3) (by decide), _, rfl, _, _, rfl, rfl, _, rfl, _, rfl, _, rfl, _, rfl, _, rfl, _, _, rfl, rfl, _, _, rfl, rfl, xB.mulW (h2.add xB) (by decide), _, _, rfl, rfl, _, _, rfl, rfl, xB.mulW (h4.add (xB.mul (h2.add xB))) (by decide), _, _, rfl, rfl, _, rfl, _, _, rfl, rfl, hp0, rfl, ?_⟩
    rw [dec_int, on_eq]
    exact q
/-! ### the cubic -/
def fB (p : Int) (c : C5) : List Int := [c.b6 % p, 2 * c.b4 % p, c.b2 % p, 4]
def sp_cubic_of (K : PySem.W.Frag) : Sp := fun vs H Q _ => ∃ (p : Int) (ca : Addr) (c : C5), vs = [.int p, .ref ca] ∧ SqT K H ca (cL c) ∧ Sm c ∧ 0 < p ∧ ∀ H' t, Same H H' → H' t = some (.tup ((fB p c).map V.int)) → Q (.ref t) H'
abbrev s_cubic_of : Stmt := topS 39
theorem sc_cubic_of : FnScope ["p", "curve", "b2", "b4", "b6", "_"] ["p", "curve"] (defScope s_cubic_of) := ⟨rfl, rfl, rfl, by decide +kernel, rfl, by decide +kernel, by decide +kernel⟩
theorem k_cubic_of (T : Tx K mg) (D : Df K mg "cubic_of" s_cubic_of ["p", "curve"]) (c_numbers_of : Kl P w K mg base 2 "numbers_of" (sp_numbers_of K)) : Kl P w K mg base 3 "cubic_of" (sp_cubic_of K) := by
  have nd := sc_cubic_of.nd
  refine Kl.by_body D sc_cubic_of (fun vs H Q E h => ?_) (fun f cdv A outer s H vs Q E hr h => ?_)
  · obtain ⟨_, _, _, rfl, _⟩ := h
    rfl
  · obtain ⟨p, ca, c, rfl, hc, hm, hp0, q⟩ := h
    have hu1 := hu_of hr
    refine ⟨_, (pss_cons (ps_asg (pe_k c_numbers_of  hr (by decide) (by rfl) (pa_cons (pv 1) pa_nil)) (pg_tup rfl (pgs_cons (pg_name (i := 2) nd rfl (by first | exact Or.inl rfl | exact Or.inr rfl)) (pgs_cons (pg_name (i := 3) nd rfl (by first | exact Or.inl rfl | exact Or.inr rfl)) (pgs_cons (pg_name (i := 4) nd rfl (by first | exact Or.inl rfl | exact Or.inr rfl)) (pgs_cons (pg_name (i := 5) nd rfl (by first | exact Or.inl rfl | exact Or.inr rfl)) (pgs_cons (pg_name (i := 5) nd rfl (by first | exact Or.inl rfl | exact Or.inr rfl)) (pgs_cons (pg_name (i := 5) nd rfl (by first | exact Or.inl rfl | exact Or.inr rfl)) (pgs_cons (pg_name (i := 5) nd rfl (by first | exact Or.inl rfl | exact Or.inr rfl)) pgs_nil)))))))))
      (pss_one (ps_ret (pe_tup (pa_cons (pe_op op_mod (pv 4) (pv 0)) (pa_cons (pe_op op_mod (pe_op op_mul pe_int (pv 3)) (pv 0)) (pa_cons (pe_op op_mod (pv 2) (pv 0)) (pa_cons pe_int pa_nil)))))))), ?_⟩
    refine ⟨_, rfl, ca, cv c, rfl, hc, hm.md, fun t nt => ?_⟩
    have s1 := Same.new (H := H) (p := t) (o := .tup (cv c).nums) nt
    have g1 : upd H t (.tup (cv c).nums) t = some (.tup (cv c).nums) := upd_same
    generalize upd H t (.tup (cv c).nums) = H1 at s1 g1 ⊢
    refine ⟨t, _, rfl, tup_of g1, rfl, _, _, rfl, _, _, rfl, _, _, rfl, _, _, rfl, _, _, rfl, _, _, rfl, _, _, rfl, rfl, ?_⟩
    first | refine sigN [some (.int (p)), some (.ref ca), some (.int (c.b2)), some (.int (c.b4)), some (.int (c.b6)), some (.int ((cv c).disc))] (by rfl) ?_ | refine sig [some (.int (p)), some (.ref ca), some (.int (c.b2)), some (.int (c.b4)), some (.int (c.b6)), some (.int ((cv c).disc))] (by rfl) ?_
    refine ⟨_, rfl, _, rfl, _, _, rfl, rfl, hp0, _, rfl, _, _, rfl, rfl, (Or.inl ⟨by decide, by decide⟩), _, rfl, _, _, rfl, rfl, hp0, _, rfl, _, rfl, _, _, rfl, rfl, hp0, (by show 4 ≤ sizeLine; decide), fun t2 nt2 => ?_⟩
    exact q _ t2 (s1.trans (Same.new nt2)) upd_same
/-- Horner over the cubic's remainders -/
theorem ev_cub (p : Int) (c : C5) (x : Int) : Mo p (ev (fB p c) x) (cub c x) := by
  have e : ev (fB p c) x = c.b6 % p + x * (2 * c.b4 % p + x * (c.b2 % p + x * 4)) := by
    show (((0 * x + 4) * x + c.b2 % p) * x + 2 * c.b4 % p) * x + c.b6 % p = _
    generalize c.b2 % p = u2
    generalize 2 * c.b4 % p = u4
    generalize c.b6 % p = u6
    grind
  rw [e]
  refine (Mo.mod.add (Mo.rfl'.mul (Mo.mod.add (Mo.rfl'.mul (Mo.mod.add Mo.rfl'))))).trans (Mo.of_eq ?_)
  unfold cub
  grind


def sp_digits_of (K : PySem.W.Frag) : Sp := fun vs H Q _ => ∃ (ca : Addr) (c : C5) (p : Int), vs = [.ref ca, .int p] ∧ SqT K H ca (cL c) ∧ 0 < p ∧ ∀ H' t, Same H H' → H' t = some (.tup (cL (md p c))) → Q (.ref t) H'
abbrev s_digits_of : Stmt := topS 36
theorem sc_digits_of : FnScope ["curve", "p", "n"] ["curve", "p"] (defScope s_digits_of) := ⟨rfl, rfl, rfl, by decide +kernel, rfl, by decide +kernel, by decide +kernel⟩
theorem k_digits_of (T : Tx K mg) (D : Df K mg "digits_of" s_digits_of ["curve", "p"]) (c_five : Kl P w K mg base 1 "five" (sp_five K)) : Kl P w K mg base 2 "digits_of" (sp_digits_of K) := by
  have nd := sc_digits_of.nd
  refine Kl.by_body D sc_digits_of (fun vs H Q E h => ?_) (fun f cdv A outer s H vs Q E hr h => ?_)
  · obtain ⟨_, _, _, rfl, _⟩ := h
    rfl
  · obtain ⟨ca, c, p, rfl, hc, hp, q⟩ := h
    have hu1 := hu_of hr
    refine ⟨_, (pss_one (ps_ret (pe_callTy call_tuple_of (by rfl) T.tuple (by decide +kernel) (pa_cons (pe_lc (own := [("n", 2)]) (g := gName 2) rfl nd (pi_tup (pe_k c_five  hr (by decide) (by rfl) (pa_cons (pv 0) pa_nil))) (blkOk_by (N := ["curve", "p", "n"]) (sc := defScope s_digits_of) (by decide +kernel)) (fun _ _ _ _ _ => (pg_name (i := 2) nd rfl (by first | exact Or.inl rfl | exact Or.inr rfl))) (fun _ _ _ _ _ => pts_nil) (fun _ _ _ _ _ => (pe_op op_mod (pv 2) (pv 1)))) pa_nil)))), ?_⟩
    refine ⟨.ref ca, rfl, ca, cv c, rfl, hc, ca, rfl, ⟨_, hc⟩, fun D nD => ?_⟩
    refine lc_tup (K := K) (a := ca) (xs := cL c) (fun i H4 => Same H H4 ∧ H4 D = some (.lst ((([c.a1, c.a2, c.a3, c.a4, c.a6].take i).map fun z => z % p).map V.int))) ⟨Same.new nD, upd_same⟩ (fun i H4 _ z => Same.tup z.1 hc) (fun i x H4 hi z => ?_) (fun H4 z => ?_)
    · obtain ⟨s4, g4⟩ := z
      obtain ⟨y, hy, rfl⟩ := map_int (ns := [c.a1, c.a2, c.a3, c.a4, c.a6]) hi
      refine ⟨rfl, _, rfl, _, rfl, _, _, rfl, rfl, hp, ?_⟩
      refine ⟨_, g4, ?_, Same.put s4 nD, ?_⟩
      · rw [List.length_map, List.length_map, List.length_take]
        exact small1000 (by show min i 5 ≤ 1000; omega)
      · rw [upd_same, List.take_add_one, hy, List.map_append, List.map_append]
        rfl
    · obtain ⟨s4, g4⟩ := z
      refine ⟨D, _, rfl, .inl ⟨lst_of g4, fun t nt => ?_⟩⟩
      exact q _ t (s4.trans (Same.new nt)) upd_same
abbrev s_count_over : Stmt := topS 41
def sp_count_over (K : PySem.W.Frag) : Sp := fun _ _ _ _ => False
theorem sc_count_over : FnScope ["p", "curve", "many", "z", "cubic", "x"] ["p", "curve"] (defScope s_count_over) := ⟨rfl, rfl, rfl, by decide +kernel, rfl, by decide +kernel, by decide +kernel⟩
theorem k_count_over (D : Df K mg "count_over" s_count_over ["p", "curve"]) : Kl P w K mg base 5 "count_over" (sp_count_over K) :=
  Kl.by_body D sc_count_over (fun _ _ _ _ h => h.elim) (fun _ _ _ _ _ _ _ _ _ _ h => h.elim)
end
end K15
set_option Elab.async false
set_option linter.all false
set_option maxRecDepth 100000
set_option maxHeartbeats 4000000
namespace K15
open PySem PySem.Spec PyProof.Rows L2 Gd QM K45M EcZ SvM PaM K40 DpM
local macro_rules | `(tactic| walk_at "bd") => `(tactic| (repeat (first | assumption | apply B.add | apply B.sub | apply B.mul | apply B.neg | exact B.lit (n := 8) (by decide))))
local macro_rules | `(tactic| walk_at "bnd") => `(tactic| (apply B.mulW; walk_at "bd"; decide))
/-- the digits at which a row of coefficients is nought -/
def rts (n : Nat) (f : List Int) (j : Nat) : List Nat := (List.range j).filter fun (k : Nat) => decide (ev f (k : Int) % (n : Int) = 0)
theorem rts_succ (n : Nat) (f : List Int) (j : Nat) : rts n f (j + 1) = rts n f j ++ (if ev f (j : Int) % (n : Int) = 0 then [j] else []) := by
  unfold rts
  rw [List.range_succ, List.filter_append]
  congr 1
  by_cases h : ev f (j : Int) % (n : Int) = 0
  · rw [if_pos h]
    simp [h]
  · rw [if_neg h]
    simp [h]
theorem rts_len (n : Nat) (f : List Int) (j : Nat) : (rts n f j).length ≤ j := by
  unfold rts
  refine Nat.le_trans (List.length_filter_le ..) ?_
  rw [List.length_range]
  exact Nat.le_refl _
theorem ev_md (p : Int) (x : Int) : ∀ f : List Int, Mo p (ev (f.map fun c => c % p) x) (ev f x)
  | [] => Mo.rfl'
  | c :: f => by
    rw [List.map_cons, ev_cons, ev_cons]
    exact ((ev_md p x f).mul Mo.rfl').add Mo.mod
section
variable {P : Program} {w : World} {K : PySem.W.Frag} {mg : Str → Option Value} {base : Heap}
abbrev s_inverse_mod : Stmt := topS 3
def sp_inverse_mod (K : PySem.W.Frag) : Sp := fun _ _ _ _ => False
abbrev s_monic : Stmt := topS 52
def sp_monic (K : PySem.W.Frag) : Sp := fun _ _ _ _ => False
theorem sc_monic : FnScope ["f", "p", "turn", "c"] ["f", "p"] (defScope s_monic) := ⟨rfl, rfl, rfl, by decide +kernel, rfl, by decide +kernel, by decide +kernel⟩
theorem k_monic (D : Df K mg "monic" s_monic ["f", "p"]) : Kl P w K mg base 2 "monic" (sp_monic K) :=
  Kl.by_body D sc_monic (fun _ _ _ _ h => h.elim) (fun _ _ _ _ _ _ _ _ _ _ h => h.elim)
abbrev s_divided : Stmt := topS 53
def sp_divided (K : PySem.W.Frag) : Sp := fun _ _ _ _ => False
abbrev s_product_rest : Stmt := topS 54
def sp_product_rest (K : PySem.W.Frag) : Sp := fun _ _ _ _ => False
abbrev s_power_rest : Stmt := topS 55
def sp_power_rest (K : PySem.W.Frag) : Sp := fun _ _ _ _ => False
theorem sc_power_rest : FnScope ["f", "e", "h", "p", "result"] ["f", "e", "h", "p"] (defScope s_power_rest) := ⟨rfl, rfl, rfl, by decide +kernel, rfl, by decide +kernel, by decide +kernel⟩
theorem k_power_rest (D : Df K mg "power_rest" s_power_rest ["f", "e", "h", "p"]) : Kl P w K mg base 4 "power_rest" (sp_power_rest K) :=
  Kl.by_body D sc_power_rest (fun _ _ _ _ h => h.elim) (fun _ _ _ _ _ _ _ _ _ _ h => h.elim)
abbrev s_less_term : Stmt := topS 56
def sp_less_term (K : PySem.W.Frag) : Sp := fun _ _ _ _ => False
theorem sc_less_term : FnScope ["f", "k", "p", "out"] ["f", "k", "p"] (defScope s_less_term) := ⟨rfl, rfl, rfl, by decide +kernel, rfl, by decide +kernel, by decide +kernel⟩
theorem k_less_term (D : Df K mg "less_term" s_less_term ["f", "k", "p"]) : Kl P w K mg base 2 "less_term" (sp_less_term K) :=
  Kl.by_body D sc_less_term (fun _ _ _ _ h => h.elim) (fun _ _ _ _ _ _ _ _ _ _ h => h.elim)
abbrev s_common_over : Stmt := topS 57
def sp_common_over (K : PySem.W.Frag) : Sp := fun _ _ _ _ => False
theorem sc_common_over : FnScope ["f", "g", "p"] ["f", "g", "p"] (defScope s_common_over) := ⟨rfl, rfl, rfl, by decide +kernel, rfl, by decide +kernel, by decide +kernel⟩
theorem k_common_over (D : Df K mg "common_over" s_common_over ["f", "g", "p"]) : Kl P w K mg base 3 "common_over" (sp_common_over K) :=
  Kl.by_body D sc_common_over (fun _ _ _ _ h => h.elim) (fun _ _ _ _ _ _ _ _ _ _ h => h.elim)
abbrev s_parted_roots : Stmt := topS 58
def sp_parted_roots (K : PySem.W.Frag) : Sp := fun _ _ _ _ => False
theorem sc_parted_roots : FnScope ["h", "p", "found", "todo", "part", "shift", "half", "left", "right"] ["h", "p"] (defScope s_parted_roots) := ⟨rfl, rfl, rfl, by decide +kernel, rfl, by decide +kernel, by decide +kernel⟩
theorem k_parted_roots (D : Df K mg "parted_roots" s_parted_roots ["h", "p"]) : Kl P w K mg base 5 "parted_roots" (sp_parted_roots K) :=
  Kl.by_body D sc_parted_roots (fun _ _ _ _ h => h.elim) (fun _ _ _ _ _ _ _ _ _ _ h => h.elim)
/-! ### roots by going through all digits -/
def sp_trimmed (K : PySem.W.Frag) : Sp := fun vs H Q _ => ∃ (a : Addr) (f : List Int) (l : Int) (p : Int), vs = [.ref a, .int p] ∧ SqT K H a ((f ++ [l]).map V.int) ∧ f.length ≤ 4 ∧ 0 < p ∧ ¬ l % p = 0 ∧ ∀ H' t, Same H H' → H' t = some (.lst (((f ++ [l]).map fun c => c % p).map V.int)) → Q (.ref t) H'
abbrev s_trimmed : Stmt := topS 51
theorem sc_trimmed : FnScope ["f", "p", "out", "c"] ["f", "p"] (defScope s_trimmed) := ⟨rfl, rfl, rfl, by decide +kernel, rfl, by decide +kernel, by decide +kernel⟩
theorem k_trimmed (T : Tx K mg) (D : Df K mg "trimmed" s_trimmed ["f", "p"])  : Kl P w K mg base 1 "trimmed" (sp_trimmed K) := by
  have nd := sc_trimmed.nd
  refine Kl.by_body D sc_trimmed (fun vs H Q E h => ?_) (fun f cdv A outer s H vs Q E hr h => ?_)
  · obtain ⟨_, _, _, _, rfl, _⟩ := h
    rfl
  · obtain ⟨a, f, l, p, rfl, hf, hl, hp, hne, q⟩ := h
    have hu1 := hu_of hr
    refine ⟨_, (pss_cons (ps_setLc (i := 2) (own := [("c", 3)]) (g := gName 3) rfl nd rfl rfl (sw_true rfl rfl rfl (by decide +kernel)) (pi_tup (pv 0)) (blkOk_by (N := ["f", "p", "out", "c"]) (sc := defScope s_trimmed) (by decide +kernel)) (fun _ _ _ _ _ => (pg_name (i := 3) nd rfl (by first | exact Or.inl rfl | exact Or.inr rfl))) (fun _ _ _ _ _ => pts_nil) (fun _ _ _ _ _ => (pe_op op_mod (pv 3) (pv 1))))
      (pss_cons (ps_while PassesOwn.never (PW.pt (pw_and (pt_truth (pv 2) (fun _ => rfl)) (pw_and1 (pt_cmpR op_eq (pe_ix ix_list (pv 2) (pe_un un_neg pe_int) (fun _ _ => rfl)) pe_int (nomark _))))) (pss_one (ps_expr (pe_bm0 PySem.F.plainAttrs_list PySem.F.slot_list_pop PySem.F.type_list_pop mt_pop (pv 2)))))
      (pss_one (ps_ret (pv 2))))), ?_⟩
    refine ⟨_, rfl, a, rfl, ⟨_, hf⟩, fun D nD => ?_⟩
    have hlen : (f ++ [l]).length ≤ 5 := by
      rw [List.length_append]
      show f.length + 1 ≤ 5
      omega
    refine lc_tup (K := K) (a := a) (xs := (f ++ [l]).map V.int) (fun i H4 => Same H H4 ∧ H4 D = some (.lst ((((f ++ [l]).take i).map fun c => c % p).map V.int))) ⟨Same.new nD, upd_same⟩ (fun i H4 _ z => Same.tup z.1 hf) (fun i x H4 hi z => ?_) (fun H4 z => ?_)
    · obtain ⟨s4, g4⟩ := z
      obtain ⟨y, hy, rfl⟩ := map_int hi
      refine ⟨rfl, _, rfl, _, rfl, _, _, rfl, rfl, hp, ?_⟩
      refine ⟨_, g4, ?_, Same.put s4 nD, ?_⟩
      · rw [List.length_map, List.length_map, List.length_take]
        exact small1000 (by omega)
      · rw [upd_same, List.take_add_one, hy, List.map_append, List.map_append]
        rfl
    · obtain ⟨s4, g4⟩ := z
      rw [List.length_map, List.take_length] at g4
      first | refine sigN [some (.ref a), some (.int (p)), some (.ref D), none] (by rfl) ?_ | refine sig [some (.ref a), some (.int (p)), some (.ref D), none] (by rfl) ?_
      have gl : SqL K H4 D (((f ++ [l]).map fun c => c % p).map V.int) := lst_of g4
      have hlast : atI (((f ++ [l]).map fun c => c % p).map V.int) (-1) = some (.int (l % p)) := by
        rw [List.map_append, List.map_append]
        exact atI_last _ _
      have hpos : (((f ++ [l]).map fun c => c % p).map V.int).length ≠ 0 := by
        rw [List.length_map, List.length_map, List.length_append]
        show f.length + 1 ≠ 0
        omega
      refine while_by (fun σ H2 => H2 = H4 ∧ σ = [some (.ref a), some (.int p), some (.ref D), none]) (fun _ _ => 0) ⟨rfl, rfl⟩ ?_ ?_
      · rintro σ H2 ⟨rfl, rfl⟩
        refine ⟨.ref D, rfl, true, ?_, ?_⟩
        · refine .inl ⟨_, gl, ?_⟩
          cases f <;> rfl
        refine iteT ?_
        refine ⟨_, rfl, _, rfl, D, _, -1, _, rfl, rfl, gl, hlast, rfl, _, rfl, ?_⟩
        rw [dec_int]
        refine iteN (by simpa using hne) ?_
        exact ⟨_, rfl, q _ D s4 g4⟩
      · rintro σ H2 Q1 Q2 i ⟨v, hv, k, tr, h⟩
        refine ⟨v, hv, k, tr, ?_⟩
        cases k with
        | false => exact i _ _ h
        | true =>
          obtain ⟨v2, hv2, y, hy, a, xs, j, z, e1, e2, e3, e4, e5, b, e6, w⟩ := h
          exact ⟨v2, hv2, y, hy, a, xs, j, z, e1, e2, e3, e4, e5, b, e6, i _ _ w⟩
def sp_all_roots (K : PySem.W.Frag) : Sp := fun vs H Q _ => ∃ (a : Addr) (f : List Int) (l : Int) (n : Nat), vs = [.ref a, .int (n : Int)] ∧ SqT K H a ((f ++ [l]).map V.int) ∧ f.length ≤ 4 ∧ 0 < n ∧ n < 200 ∧ ¬ l % (n : Int) = 0 ∧ ∀ H' t, Same H H' → H' t = some (.lst (((rts n (f ++ [l]) n).map fun (k : Nat) => (k : Int)).map V.int)) → Q (.ref t) H'
abbrev s_all_roots : Stmt := topS 59
theorem sc_all_roots : FnScope ["f", "p", "x", "fermat"] ["f", "p"] (defScope s_all_roots) := ⟨rfl, rfl, rfl, by decide +kernel, rfl, by decide +kernel, by decide +kernel⟩
theorem k_all_roots (T : Tx K mg) (D : Df K mg "all_roots" s_all_roots ["f", "p"]) (c_trimmed : Kl P w K mg base 1 "trimmed" (sp_trimmed K)) (c_monic : Kl P w K mg base 2 "monic" (sp_monic K)) (c_less_term : Kl P w K mg base 2 "less_term" (sp_less_term K)) (c_parted_roots : Kl P w K mg base 5 "parted_roots" (sp_parted_roots K)) (c_power_rest : Kl P w K mg base 4 "power_rest" (sp_power_rest K)) (c_common_over : Kl P w K mg base 3 "common_over" (sp_common_over K)) (c_value_over : Kl P w K mg base 1 "value_over" (sp_value_over K)) : Kl P w K mg base 6 "all_roots" (sp_all_roots K) := by
  have nd := sc_all_roots.nd
  refine Kl.by_body D sc_all_roots (fun vs H Q E h => ?_) (fun f cdv A outer s H vs Q E hr h => ?_)
  · obtain ⟨_, _, _, _, rfl, _⟩ := h
    rfl
  · obtain ⟨a, f, l, n, rfl, hf, hl, hn, hn9, hne, q⟩ := h
    have hu1 := hu_of hr
    refine ⟨_, (pss_cons (ps_set (i := 0) nd rfl (by first | exact Or.inl rfl | exact Or.inr rfl) (pe_k c_trimmed  hr (by decide) (by rfl) (pa_cons (pv 0) (pa_cons (pv 1) pa_nil))))
      (pss_cons (ps_if (pt_cmpR op_lt (pv 1) (pe_kon (by rfl) T.c_TRIED_modpoly) (nomark _)) (pss_one (ps_ret (pe_lc (own := [("x", 2)]) (g := gName 2) rfl nd (pi_range1 (by rfl) T.range (pa_cons (pv 1) pa_nil)) (blkOk_by (N := ["f", "p", "x", "fermat"]) (sc := defScope s_all_roots) (by decide +kernel)) (fun _ _ _ _ _ => (pg_name (i := 2) nd rfl (by first | exact Or.inl rfl | exact Or.inr rfl))) (fun _ _ _ _ _ => (pts_one (pt_cmpR op_eq (pe_k c_value_over  hr (by decide) (by rfl) (pa_cons (pv 0) (pa_cons (pv 2) (pa_cons (pv 1) pa_nil)))) pe_int (nomark _)))) (fun _ _ _ _ _ => (pv 2))))) pss_nil)
      (pss_cons (ps_set (i := 0) nd rfl (by first | exact Or.inl rfl | exact Or.inr rfl) (pe_k c_monic  hr (by decide) (by rfl) (pa_cons (pv 0) (pa_cons (pv 1) pa_nil))))
      (pss_cons (ps_set (i := 3) nd rfl (by first | exact Or.inl rfl | exact Or.inr rfl) (pe_k c_less_term  hr (by decide) (by rfl) (pa_cons (pe_k c_power_rest  hr (by decide) (by rfl) (pa_cons (pe_lst (pa_cons pe_int (pa_cons pe_int pa_nil))) (pa_cons (pv 1) (pa_cons (pv 0) (pa_cons (pv 1) pa_nil))))) (pa_cons pe_int (pa_cons (pv 1) pa_nil)))))
      (pss_one (ps_ret (pe_k c_parted_roots  hr (by decide) (by rfl) (pa_cons (pe_k c_common_over  hr (by decide) (by rfl) (pa_cons (pv 0) (pa_cons (pv 3) (pa_cons (pv 1) pa_nil)))) (pa_cons (pv 1) pa_nil))))))))), ?_⟩
    have hp : (0 : Int) < (n : Int) := by omega
    refine ⟨_, rfl, _, rfl, a, f, l, (n : Int), rfl, hf, hl, hp, hne, fun H1 t s1 gt => ?_⟩
    first | refine sigN [some (.ref t), some (.int ((n : Int))), none, none] (by rfl) ?_ | refine sig [some (.ref t), some (.int ((n : Int))), none, none] (by rfl) ?_
    refine ⟨_, rfl, _, _, rfl, rfl, _, rfl, iteY (by simp; omega) ?_⟩
    refine ⟨_, rfl, (n : Int), rfl, by omega, by omega, fun D nD => ?_⟩
    have hB : ∀ c ∈ (f ++ [l]).map fun c => c % (n : Int), B 60 c := fun c hc => by
      obtain ⟨z, _, rfl⟩ := List.mem_map.mp hc
      have h1 := Int.emod_nonneg z (show (n : Int) ≠ 0 by omega)
      have h2 := Int.emod_lt_of_pos z hp
      unfold Gd.B
      omega
    have h5 : ((f ++ [l]).map fun c => c % (n : Int)).length ≤ 5 := by
      rw [List.length_map, List.length_append]
      show f.length + 1 ≤ 5
      omega
    refine lc_range (lo := 0) (n := (n : Int).toNat) (fun j H4 => Same H1 H4 ∧ H4 D = some (.lst (((rts n (f ++ [l]) j).map fun (k : Nat) => (k : Int)).map V.int))) ⟨Same.new nD, upd_same⟩ (fun j H4 hj z => ?_) (fun H4 z => ?_)
    · obtain ⟨s4, g4⟩ := z
      rw [Int.zero_add]
      have jB : B 40 (j : Int) := by
        unfold Gd.B
        omega
      refine ⟨rfl, _, rfl, _, rfl, _, rfl, t, (f ++ [l]).map (fun c => c % (n : Int)), (j : Int), (n : Int), rfl, .inr (lst_of (s4 _ _ gt)), h5, hB, jB, hp, by omega, rfl, _, rfl, ?_⟩
      rw [dec_int, show ev ((f ++ [l]).map fun c => c % (n : Int)) (j : Int) % (n : Int) = ev (f ++ [l]) (j : Int) % (n : Int) from ev_md _ _ _]
      have hl2 := rts_len n (f ++ [l]) j
      by_cases h0 : ev (f ++ [l]) (j : Int) % (n : Int) = 0
      · refine iteY (by simpa using h0) ?_
        refine ⟨_, rfl, _, g4, by rw [List.length_map, List.length_map]; exact small1000 (by omega), Same.put s4 nD, ?_⟩
        rw [upd_same, rts_succ, if_pos h0, List.map_append, List.map_append]
        rfl
      · refine iteN (by simpa using h0) ?_
        refine ⟨s4, ?_⟩
        rw [rts_succ, if_neg h0, List.append_nil]
        exact g4
    · obtain ⟨s4, g4⟩ := z
      rw [Int.toNat_natCast] at g4
      exact q _ D (s1.trans s4) g4
def sp_roots_over (K : PySem.W.Frag) : Sp := fun vs H Q _ => ∃ (a : Addr) (f : List Int) (l : Int) (n : Nat), vs = [.ref a, .int (n : Int)] ∧ SqT K H a ((f ++ [l]).map V.int) ∧ f.length ≤ 4 ∧ 0 < n ∧ n < 200 ∧ ¬ l % (n : Int) = 0 ∧ ∀ H' t, Same H H' → H' t = some (.tup (((rts n (f ++ [l]) n).map fun (k : Nat) => (k : Int)).map V.int)) → Q (.ref t) H'
abbrev s_roots_over : Stmt := topS 61
theorem sc_roots_over : FnScope ["f", "p"] ["f", "p"] (defScope s_roots_over) := ⟨rfl, rfl, rfl, by decide +kernel, rfl, by decide +kernel, by decide +kernel⟩
theorem k_roots_over (T : Tx K mg) (D : Df K mg "roots_over" s_roots_over ["f", "p"]) (c_all_roots : Kl P w K mg base 6 "all_roots" (sp_all_roots K)) : Kl P w K mg base 7 "roots_over" (sp_roots_over K) := by
  have nd := sc_roots_over.nd
  refine Kl.by_body D sc_roots_over (fun vs H Q E h => ?_) (fun f cdv A outer s H vs Q E hr h => ?_)
  · obtain ⟨_, _, _, _, rfl, _⟩ := h
    rfl
  · obtain ⟨a, f, l, n, rfl, hf, hl, hn, hn9, hne, q⟩ := h
    have hu1 := hu_of hr
    refine ⟨_, (pss_one (ps_ret (pe_callTy call_tuple_of (by rfl) T.tuple (by decide +kernel) (pa_cons (pe_k c_all_roots  hr (by decide) (by rfl) (pa_cons (pv 0) (pa_cons (pv 1) pa_nil))) pa_nil)))), ?_⟩
    refine ⟨_, rfl, _, rfl, a, f, l, n, rfl, hf, hl, hn, hn9, hne, fun H1 t s1 gt => ?_⟩
    refine ⟨t, _, rfl, .inl ⟨lst_of gt, fun u nu => ?_⟩⟩
    exact q _ u (s1.trans (Same.new nu)) upd_same
/-! ### flat -/
def sp_is_flat (K : PySem.W.Frag) : Sp := fun vs H Q _ => ∃ (p : Int) (ca : Addr) (c : C5) (x y : Int), vs = [.int p, .ref ca, .int x, .int y] ∧ SqT K H ca (cL c) ∧ Sm c ∧ 0 < p ∧ B 10 x ∧ B 10 y ∧ Q (.bl (decide (FlM.f1 c x y % p = 0) && decide (FlM.f2 c x y % p = 0))) H
abbrev s_is_flat : Stmt := topS 63
theorem sc_is_flat : FnScope ["p", "curve", "x", "y", "a1", "a2", "a3", "a4", "_"] ["p", "curve", "x", "y"] (defScope s_is_flat) := ⟨rfl, rfl, rfl, by decide +kernel, rfl, by decide +kernel, by decide +kernel⟩
theorem k_is_flat (T : Tx K mg) (D : Df K mg "is_flat" s_is_flat ["p", "curve", "x", "y"])  : Kl P w K mg base 1 "is_flat" (sp_is_flat K) := by
  have nd := sc_is_flat.nd
  refine Kl.by_body D sc_is_flat (fun vs H Q E h => ?_) (fun f cdv A outer s H vs Q E hr h => ?_)
  · obtain ⟨_, _, _, _, _, rfl, _⟩ := h
    rfl
  · obtain ⟨p, ca, c, x, y, rfl, hc, hm, hp, hx, hy, q⟩ := h
    have hu1 := hu_of hr
    refine ⟨_, (pss_cons (ps_asg (pv 1) (pg_tup rfl (pgs_cons (pg_name (i := 4) nd rfl (by first | exact Or.inl rfl | exact Or.inr rfl)) (pgs_cons (pg_name (i := 5) nd rfl (by first | exact Or.inl rfl | exact Or.inr rfl)) (pgs_cons (pg_name (i := 6) nd rfl (by first | exact Or.inl rfl | exact Or.inr rfl)) (pgs_cons (pg_name (i := 7) nd rfl (by first | exact Or.inl rfl | exact Or.inr rfl)) (pgs_cons (pg_name (i := 8) nd rfl (by first | exact Or.inl rfl | exact Or.inr rfl)) pgs_nil)))))))
      (pss_one (ps_ret (pe_and (pe_cmpR op_eq (pe_op op_mod (pe_op op_add (pe_op op_add (pe_op op_mul pe_int (pv 3)) (pe_op op_mulW (pv 4) (pv 2))) (pv 6)) (pv 0)) pe_int (nomark _)) (pe_one (pe_cmpR op_eq (pe_op op_mod (pe_op op_sub (pe_op op_add (pe_op op_mulW (pv 2) (pe_op op_add (pe_op op_mul pe_int (pv 2)) (pe_op op_mul pe_int (pv 5)))) (pv 7)) (pe_op op_mulW (pv 4) (pv 3))) (pv 0)) pe_int (nomark _))))))), ?_⟩
    obtain ⟨h1, h2, h3, h4, h6⟩ := hm
    refine ⟨_, rfl, ca, _, rfl, hc, rfl, _, _, rfl, _, _, rfl, _, _, rfl, _, _, rfl, _, _, rfl, rfl, ?_⟩
    first | refine sigN [some (.int (p)), some (.ref ca), some (.int (x)), some (.int (y)), some (.int (c.a1)), some (.int (c.a2)), some (.int (c.a3)), some (.int (c.a4)), some (.int (c.a6))] (by rfl) ?_ | refine sig [some (.int (p)), some (.ref ca), some (.int (x)), some (.int (y)), some (.int (c.a1)), some (.int (c.a2)), some (.int (c.a3)), some (.int (c.a4)), some (.int (c.a6))] (by rfl) ?_
    refine ⟨_, rfl, _, _, rfl, rfl, (Or.inl ⟨by decide, by decide⟩), _, rfl, _, rfl, _, _, rfl, rfl, h1.mulW hx (by decide), _, _, rfl, rfl, _, rfl, _, _, rfl, rfl, _, rfl, _, _, rfl, rfl, hp, rfl, _, rfl, ?_⟩
    rw [dec_int, show 2 * y + c.a1 * x + c.a3 = FlM.f1 c x y from rfl]
    by_cases g1 : FlM.f1 c x y % p = 0
    · refine iteY (by simpa using g1) ?_
      rw [decide_eq_true g1, Bool.true_and] at q
      refine ⟨_, rfl, _, rfl, _, _, rfl, rfl, (Or.inl ⟨by decide, by decide⟩), _, rfl, _, _, rfl, rfl, (Or.inl ⟨by decide, by decide⟩), _, _, rfl, rfl, _, _, rfl, rfl, hx.mulW (((B.lit (n := 3) (by decide)).mul hx).add ((B.lit (n := 3) (by decide)).mul h2)) (by decide), _, rfl, _, _, rfl, rfl, _, rfl, _, rfl, _, _, rfl, rfl, h1.mulW hy (by decide), _, _, rfl, rfl, _, rfl, _, _, rfl, rfl, hp, rfl, ?_⟩
      rw [dec_int, show x * (3 * x + 2 * c.a2) + c.a4 - c.a1 * y = FlM.f2 c x y from rfl]
      exact q
    · refine iteN (by simpa using g1) ?_
      rw [decide_eq_false g1, Bool.false_and] at q
      exact q
end
end K15
set_option Elab.async false
set_option linter.all false
set_option maxRecDepth 100000
set_option maxHeartbeats 4000000
namespace K15
open PySem PySem.Spec PyProof.Rows L2 Gd QM K45M EcZ SvM PaM K40 DpM
local macro_rules | `(tactic| walk_at "bd") => `(tactic| (repeat (first | assumption | apply B.add | apply B.sub | apply B.mul | apply B.neg | exact B.lit (n := 8) (by decide))))
local macro_rules | `(tactic| walk_at "bnd") => `(tactic| (apply B.mulW; walk_at "bd"; decide))
/-- pairs among which all singular points stand -/
structure Near (n : Nat) (c : C5) (qs : List (Int × Int)) : Prop where
  nd : qs.Nodup
  on : ∀ x y, (x, y) ∈ qs → Dg (n : Int) x ∧ Dg (n : Int) y ∧ (FlM.f1 c x y % (n : Int) = 0 → lhs c x y % (n : Int) = 0)
  all : ∀ x y, FlM.Sg (n : Int) c x y → (x, y) ∈ qs
  le : qs.length ≤ 200
def flatB (n : Nat) (c : C5) (p : Int × Int) : Bool := decide (FlM.f1 c p.1 p.2 % (n : Int) = 0) && decide (FlM.f2 c p.1 p.2 % (n : Int) = 0)
theorem Near.mem {n : Nat} {c : C5} {qs : List (Int × Int)} (h : Near n c qs) {x y : Int} : (x, y) ∈ qs.filter (flatB n c) ↔ FlM.Sg (n : Int) c x y := by
  rw [List.mem_filter]
  unfold flatB
  rw [Bool.and_eq_true, decide_eq_true_iff, decide_eq_true_iff]
  constructor
  · rintro ⟨h1, h2, h3⟩
    obtain ⟨d1, d2, d3⟩ := h.on x y h1
    exact ⟨d1, d2, Int.dvd_of_emod_eq_zero (d3 h2), Int.dvd_of_emod_eq_zero h2, Int.dvd_of_emod_eq_zero h3⟩
  · intro s
    exact ⟨h.all x y s, Int.emod_eq_zero_of_dvd s.h1, Int.emod_eq_zero_of_dvd s.h2⟩
theorem Near.one {n : Nat} {c : C5} {qs : List (Int × Int)} (h : Near n c qs) {x y : Int} (f : FlM.Fl n c x y) : qs.filter (flatB n c) = [(x, y)] := by
  have hm : ∀ p, p ∈ qs.filter (flatB n c) ↔ p = (x, y) := by
    rintro ⟨u, v⟩
    rw [h.mem]
    constructor
    · intro s
      obtain ⟨rfl, rfl⟩ := f.uniq u v s
      rfl
    · intro e
      obtain ⟨rfl, rfl⟩ := Prod.mk.inj e
      exact f.sg
  have pm : (qs.filter (flatB n c)).Perm [(x, y)] := (List.perm_ext_iff_of_nodup (h.nd.filter _) (by simp)).mpr fun p => by rw [hm p, List.mem_singleton]
  exact List.perm_singleton.mp pm
theorem near_2 (c : C5) : Near 2 c (due 2 c 2) := by
  refine ⟨FlM.due_nodup 2 c 2, fun x y h => ?_, fun x y s => ?_, ?_⟩
  · obtain ⟨a, b, d, e, f⟩ := due_mem.mp h
    exact ⟨⟨a, b⟩, ⟨d, e⟩, fun _ => f⟩
  · exact due_mem.mpr ⟨s.dx.1, s.dx.2, s.dy.1, s.dy.2, Int.emod_eq_zero_of_dvd s.on⟩
  · have := due_le 2 c 2
    omega
/-- over each root of the cubic the y that makes it flat -/
def rp (n : Nat) (c : C5) (j : Nat) : List (Int × Int) := (rts n (fB (n : Int) c) j).map fun (x : Nat) => ((x : Int), yz (n : Int) c (x : Int) 0)
theorem near_odd {n : Nat} (ho : (n : Int) % 2 = 1) (h9 : n < 200) (c : C5) : Near n c (rp n c n) := by
  have hn : (0 : Int) < (n : Int) := by omega
  have rm : ∀ k : Nat, k ∈ rts n (fB (n : Int) c) n ↔ k < n ∧ cub c (k : Int) % (n : Int) = 0 := fun k => by
    unfold rts
    rw [List.mem_filter, List.mem_range, decide_eq_true_iff, show ev (fB (n : Int) c) (k : Int) % (n : Int) = cub c (k : Int) % (n : Int) from ev_cub n c k]
  have f0 : ∀ x : Int, Mo (n : Int) (FlM.f1 c x (yz (n : Int) c x 0)) 0 := fun x => by
    have h := yz_z (c := c) ho x 0
    refine (Mo.of_eq ?_).trans h
    unfold FlM.f1 sh
    omega
  refine ⟨?_, ?_, ?_, ?_⟩
  · unfold rp
    rw [List.Nodup, List.pairwise_map]
    refine List.Pairwise.imp_of_mem ?_ ((List.pairwise_lt_range (n := n)).filter _)
    intro i j _ _ hij e
    have := congrArg Prod.fst e
    simp only at this
    omega
  · intro x y h
    obtain ⟨k, hk, e⟩ := List.mem_map.mp h
    obtain ⟨rfl, rfl⟩ := Prod.mk.inj e
    obtain ⟨k1, k2⟩ := (rm k).mp hk
    refine ⟨⟨by omega, by omega⟩, Dg.mod hn, fun _ => ?_⟩
    have h1 : (n : Int) ∣ 4 * lhs c (k : Int) (yz (n : Int) c (k : Int) 0) := by
      rw [FlM.four]
      exact Int.dvd_sub (Int.dvd_mul_of_dvd_right (Mo.zero.mp (f0 (k : Int)))) (Int.dvd_of_emod_eq_zero k2)
    exact Int.emod_eq_zero_of_dvd (FlM.un_dvd (four_unit ho) h1)
  · intro x y s
    obtain ⟨k, rfl, hk⟩ := FlM.nat_dg s.dx
    refine List.mem_map.mpr ⟨k, (rm k).mpr ⟨hk, Int.emod_eq_zero_of_dvd ?_⟩, ?_⟩
    · have e := FlM.four c (k : Int) y
      have e2 : cub c (k : Int) = FlM.f1 c (k : Int) y * FlM.f1 c (k : Int) y - 4 * lhs c (k : Int) y := by omega
      rw [e2]
      exact Int.dvd_sub (Int.dvd_mul_of_dvd_right s.h1) (Int.dvd_mul_of_dvd_right s.on)
    · have e : yz (n : Int) c (k : Int) 0 = y := by
        refine yz_of ho hn s.dy ?_
        refine (Mo.of_eq ?_).trans (Mo.zero.mpr s.h1)
        unfold FlM.f1 sh
        omega
      rw [e]
  · unfold rp
    rw [List.length_map]
    have := rts_len n (fB (n : Int) c) n
    omega
theorem pa_at {H : Hp} : ∀ {ts : List V} {qs : List (Int × Int)} {i : Nat} {x : V}, PA H ts qs → ts[i]? = some x → ∃ (t : Addr) (u v : Int), x = .ref t ∧ qs[i]? = some (u, v) ∧ H t = some (.tup [.int u, .int v])
  | _, _, _, _, .nil, e => nomatch e
  | _, _, 0, _, .cons h r, e => ⟨_, _, _, (Option.some.inj e).symm, rfl, h⟩
  | _, _, i + 1, _, .cons h r, e => pa_at (i := i) r e
section
variable {P : Program} {w : World} {K : PySem.W.Frag} {mg : Str → Option Value} {base : Heap}
def sp_singular_places (K : PySem.W.Frag) : Sp := fun vs H Q _ => ∃ (n : Nat) (ca : Addr) (c : C5), vs = [.int (n : Int), .ref ca] ∧ SqT K H ca (cL c) ∧ Sm c ∧ (n = 2 ∨ (n : Int) % 2 = 1) ∧ 1 < n ∧ n < 200 ∧ ∀ H' t ts qs, Same H H' → H' t = some (.lst ts) → Near n c qs → PA H' ts (qs.filter (flatB n c)) → Q (.ref t) H'
abbrev s_singular_places : Stmt := topS 64
theorem sc_singular_places : FnScope ["p", "curve", "pairs", "x", "y", "half"] ["p", "curve"] (defScope s_singular_places) := ⟨rfl, rfl, rfl, by decide +kernel, rfl, by decide +kernel, by decide +kernel⟩
theorem k_singular_places (T : Tx K mg) (D : Df K mg "singular_places" s_singular_places ["p", "curve"]) (c_is_flat : Kl P w K mg base 1 "is_flat" (sp_is_flat K)) (c_is_solution : Kl P w K mg base 1 "is_solution" (sp_is_solution K)) (c_roots_over : Kl P w K mg base 7 "roots_over" (sp_roots_over K)) (c_cubic_of : Kl P w K mg base 3 "cubic_of" (sp_cubic_of K)) : Kl P w K mg base 8 "singular_places" (sp_singular_places K) := by
  have nd := sc_singular_places.nd
  refine Kl.by_body D sc_singular_places (fun vs H Q E h => ?_) (fun f cdv A outer s H vs Q E hr h => ?_)
  · obtain ⟨_, _, _, rfl, _⟩ := h
    rfl
  · obtain ⟨n, ca, c, rfl, hc, hm, hn, hn1, hn9, q⟩ := h
    have hu1 := hu_of hr
    refine ⟨_, (C8.pss_cut (ps_if (pt_cmpR op_eq (pv 0) pe_int (nomark _)) (pss_one (ps_setLc2 (i := 2) (own := [("x", 3), ("y", 4)]) (vs1 := [4]) (g := gName 3) (g1 := gName 4) rfl nd rfl rfl (sw_true rfl rfl rfl (by decide +kernel)) (pi_range1 (by rfl) T.range (pa_cons pe_int pa_nil)) (blkOk_by (N := ["p", "curve", "pairs", "x", "y", "half"]) (sc := defScope s_singular_places) (by decide +kernel)) (by decide) (fun _ _ _ _ _ => (pg_name (i := 3) nd rfl (by first | exact Or.inl rfl | exact Or.inr rfl))) (fun _ _ _ _ _ => pts_nil) (fun _ _ _ _ _ => (pi_range1 (by rfl) T.range (pa_cons pe_int pa_nil))) (fun _ _ _ _ _ => (pg_name (i := 4) nd rfl (by first | exact Or.inl rfl | exact Or.inr rfl))) (fun _ _ _ _ _ => (pts_one (pt_val (pe_k c_is_solution  hr (by decide) (by rfl) (pa_cons pe_int (pa_cons (pv 1) (pa_cons (pv 3) (pa_cons (pv 4) pa_nil)))))))) (fun _ _ _ _ _ => (pe_tup (pa_cons (pv 3) (pa_cons (pv 4) pa_nil)))))) (pss_cons (ps_set (i := 5) nd rfl (by first | exact Or.inl rfl | exact Or.inr rfl) (pe_op op_fdiv (pe_op op_add (pv 0) pe_int) pe_int))
      (pss_one (ps_setLc (i := 2) (own := [("x", 3)]) (g := gName 3) rfl nd rfl rfl (sw_true rfl rfl rfl (by decide +kernel)) (pi_tup (pe_k c_roots_over  hr (by decide) (by rfl) (pa_cons (pe_k c_cubic_of  hr (by decide) (by rfl) (pa_cons (pv 0) (pa_cons (pv 1) pa_nil))) (pa_cons (pv 0) pa_nil)))) (blkOk_by (N := ["p", "curve", "pairs", "x", "y", "half"]) (sc := defScope s_singular_places) (by decide +kernel)) (fun _ _ _ _ _ => (pg_name (i := 3) nd rfl (by first | exact Or.inl rfl | exact Or.inr rfl))) (fun _ _ _ _ _ => pts_nil) (fun _ _ _ _ _ => (pe_tup (pa_cons (pv 3) (pa_cons (pe_op op_mod (pe_op op_mulW (pe_un un_neg (pe_op op_add (pe_op op_mulW (pe_ix (ix_tupK (K := K) rfl) (pv 1) pe_int (fun _ _ => rfl)) (pv 3)) (pe_ix (ix_tupK (K := K) rfl) (pv 1) pe_int (fun _ _ => rfl)))) (pv 5)) (pv 0)) pa_nil))))))))
      (pss_one (ps_ret (pe_lc (own := [("x", 3), ("y", 4)]) (g := gTup K 2 (gCons (gName 3) (gCons (gName 4) gNil))) rfl nd (pi_list (pv 2)) (blkOk_by (N := ["p", "curve", "pairs", "x", "y", "half"]) (sc := defScope s_singular_places) (by decide +kernel)) (fun _ _ _ _ _ => (pg_tupK (K := K) rfl rfl (pgs_cons (pg_name (i := 3) nd rfl (by first | exact Or.inl rfl | exact Or.inr rfl)) (pgs_cons (pg_name (i := 4) nd rfl (by first | exact Or.inl rfl | exact Or.inr rfl)) pgs_nil)))) (fun _ _ _ _ _ => (pts_one (pt_val (pe_k c_is_flat  hr (by decide) (by rfl) (pa_cons (pv 0) (pa_cons (pv 1) (pa_cons (pv 3) (pa_cons (pv 4) pa_nil)))))))) (fun _ _ _ _ _ => (pe_tup (pa_cons (pv 3) (pa_cons (pv 4) pa_nil)))))))), ?_⟩
    refine ⟨fun σ' H' => Same H H' ∧ ∃ (D : Addr) (ts : List V) (qs : List (Int × Int)) (v5 : Option V), σ' = [some (.int (n : Int)), some (.ref ca), some (.ref D), none, none, v5] ∧ H' D = some (.lst ts) ∧ PA H' ts qs ∧ Near n c qs, ?_, ?_⟩
    · refine ⟨_, rfl, rfl, _, rfl, ?_⟩
      rw [dec_int]
      by_cases h2 : (n : Int) = 2
      · refine iteY (by simpa using h2) ?_
        obtain rfl : n = 2 := by omega
        refine ⟨2, rfl, by decide, by decide, fun D nD => ?_⟩
        refine it_range (lo := 0) (n := 2) (fun i H4 => Same H H4 ∧ ∃ ts, H4 D = some (.lst ts) ∧ PA H4 ts (due 2 c i)) ⟨Same.new nD, [], upd_same, .nil⟩ (fun i H4 hi z => ?_) (fun H4 z => ?_)
        · obtain ⟨s4, ts, g4, pa⟩ := z
          refine ⟨rfl, ?_⟩
          refine ⟨2, rfl, by decide, by decide, ?_⟩
          have iB : B 10 (0 + (i : Int)) := by
            unfold Gd.B
            omega
          refine it_range (lo := 0) (n := 2) (fun j H5 => Same H H5 ∧ ∃ ts, H5 D = some (.lst ts) ∧ PA H5 ts (due 2 c i ++ row 2 c i j)) ⟨s4, ts, g4, by rw [row_zero, List.append_nil]; exact pa⟩ (fun j H5 hj z => ?_) (fun H5 z => ?_)
          · obtain ⟨s5, ts, g5, pa⟩ := z
            have jB : B 10 (0 + (j : Int)) := by
              unfold Gd.B
              omega
            refine ⟨rfl, .ref ca, rfl, _, rfl, _, rfl, _, ca, c, _, _, rfl, Same.tup s5 hc, hm, by decide, iB, jB, ?_⟩
            rw [Int.zero_add, Int.zero_add]
            refine ⟨_, rfl, ?_⟩
            have r1 : (row 2 c i j).length ≤ 2 := row_le 2 c i (by omega)
            have r2 := due_le 2 c i
            have r3 := pa.len
            rw [List.length_append] at r3
            by_cases h0 : lhs c (i : Int) (j : Int) % ((2 : Nat) : Int) = 0
            · refine iteY (decide_eq_true h0) ?_
              refine ⟨_, rfl, _, rfl, (by show 2 ≤ sizeLine; decide), fun t nt => ?_⟩
              have s6 := Same.new (H := H5) (p := t) (o := .tup [.int (i : Int), .int (j : Int)]) nt
              have g6 : upd H5 t (.tup [.int (i : Int), .int (j : Int)]) t = some (.tup [.int (i : Int), .int (j : Int)]) := upd_same
              generalize upd H5 t (.tup [.int (i : Int), .int (j : Int)]) = H6 at s6 g6 ⊢
              have gD := s6 _ _ g5
              refine ⟨_, gD, small1000 (by omega), Same.put (s5.trans s6) nD, ts ++ [.ref t], upd_same, ?_⟩
              rw [row_step, if_pos h0, ← List.append_assoc]
              exact ((pa.same s6).put gD).app (.cons (by rw [upd_ne (ne_of g6 gD (by intro z; cases z))]; exact g6) .nil)
            · refine iteN (fun z => h0 (of_decide_eq_true z)) ?_
              refine ⟨s5, ts, g5, ?_⟩
              rw [row_step, if_neg h0, List.append_nil]
              exact pa
          · obtain ⟨s5, ts, g5, pa⟩ := z
            exact ⟨s5, ts, g5, by rw [due_succ]; exact pa⟩
        · obtain ⟨s4, ts, g4, pa⟩ := z
          exact ⟨s4, D, ts, due 2 c 2, none, rfl, g4, pa, near_2 c⟩
      · refine iteN (by simpa using h2) ?_
        have ho : (n : Int) % 2 = 1 := hn.resolve_left fun z => h2 (by omega)
        have hp0 : (0 : Int) < (n : Int) := by omega
        refine ⟨_, rfl, _, _, rfl, rfl, _, _, rfl, rfl, ⟨by decide, by decide⟩, ?_⟩
        first | refine sigN [some (.int ((n : Int))), some (.ref ca), none, none, none, some (.int (((n : Int) + 1) / 2))] (by rfl) ?_ | refine sig [some (.int ((n : Int))), some (.ref ca), none, none, none, some (.int (((n : Int) + 1) / 2))] (by rfl) ?_
        have hm' := hm
        obtain ⟨h1B, h2B, h3B, h4B, h6B⟩ := hm'
        refine ⟨_, rfl, .ref ca, rfl, (n : Int), ca, c, rfl, hc, hm, hp0, fun H1 t s1 gt => ?_⟩
        have f4 : ¬ (4 : Int) % (n : Int) = 0 := fun z => by
          have h1 : (n : Int) ∣ 4 * 1 := Int.dvd_of_emod_eq_zero z
          have h2 := Int.le_of_dvd (by decide) (FlM.un_dvd (four_unit ho) h1)
          omega
        refine ⟨_, rfl, t, [c.b6 % (n : Int), 2 * c.b4 % (n : Int), c.b2 % (n : Int)], 4, n, rfl, tup_of gt, (by show 3 ≤ 4; decide), by omega, hn9, f4, fun H2 u s2 gu => ?_⟩
        replace gu : H2 u = some (.tup (((rts n (fB (n : Int) c) n).map fun (k : Nat) => (k : Int)).map V.int)) := gu
        have s02 := s1.trans s2
        refine ⟨u, rfl, ⟨_, tup_of gu⟩, fun D nD => ?_⟩
        refine lc_tup (K := K) (a := u) (xs := ((rts n (fB (n : Int) c) n).map fun (k : Nat) => (k : Int)).map V.int) (fun i H4 => Same H2 H4 ∧ ∃ ts, H4 D = some (.lst ts) ∧ PA H4 ts (((rts n (fB (n : Int) c) n).take i).map fun (x : Nat) => ((x : Int), yz (n : Int) c (x : Int) 0))) ⟨Same.new nD, [], upd_same, .nil⟩ (fun i H4 _ z => tup_of (z.1 _ _ gu)) (fun i x H4 hi z => ?_) (fun H4 z => ?_)
        · obtain ⟨s4, ts, g4, pa⟩ := z
          obtain ⟨y, hy, rfl⟩ := map_int hi
          rw [List.getElem?_map] at hy
          obtain ⟨k, hk, rfl⟩ := Option.map_eq_some_iff.mp hy
          have hkn : k < n := by
            have := List.mem_of_getElem? hk
            unfold rts at this
            exact List.mem_range.mp (List.mem_filter.mp this).1
          have kB : B 10 (k : Int) := by
            unfold Gd.B
            omega
          have hB : B 10 (((n : Int) + 1) / 2) := by
            unfold Gd.B
            omega
          have hc4 := Same.tup (s02.trans s4) hc
          have ll := pa.len
          rw [List.length_map, List.length_take] at ll
          have l2 := rts_len n (fB (n : Int) c) n
          refine ⟨rfl, _, rfl, _, rfl, ca, _, 0, _, rfl, rfl, hc4, rfl, _, rfl, _, _, rfl, rfl, h1B.mulW kB (by decide), _, rfl, ca, _, 2, _, rfl, rfl, hc4, rfl, _, _, rfl, rfl, _, rfl, _, rfl, _, _, rfl, rfl, (((h1B.mul kB).add h3B).neg).mulW hB (by decide), _, rfl, _, _, rfl, rfl, hp0, (by show 2 ≤ sizeLine; decide), fun t2 nt2 => ?_⟩
          have ey : -(c.a1 * (k : Int) + c.a3) * (((n : Int) + 1) / 2) % (n : Int) = yz (n : Int) c (k : Int) 0 := by
            unfold yz sh
            rw [Int.zero_sub]
          rw [show upd H4 t2 (.tup [V.int (k : Int), V.int (-(c.a1 * (k : Int) + c.a3) * (((n : Int) + 1) / 2) % (n : Int))]) = upd H4 t2 (.tup [V.int (k : Int), V.int (yz (n : Int) c (k : Int) 0)]) by rw [ey]]
          have s5 := Same.new (H := H4) (p := t2) (o := .tup [V.int (k : Int), V.int (yz (n : Int) c (k : Int) 0)]) nt2
          have g5 : upd H4 t2 (.tup [V.int (k : Int), V.int (yz (n : Int) c (k : Int) 0)]) t2 = some (.tup [V.int (k : Int), V.int (yz (n : Int) c (k : Int) 0)]) := upd_same
          generalize upd H4 t2 (.tup [V.int (k : Int), V.int (yz (n : Int) c (k : Int) 0)]) = H5 at s5 g5 ⊢
          have gD := s5 _ _ g4
          refine ⟨_, gD, small1000 (by omega), Same.put (s4.trans s5) nD, ts ++ [.ref t2], upd_same, ?_⟩
          rw [List.take_add_one, hk, List.map_append]
          exact ((pa.same s5).put gD).app (.cons (by rw [upd_ne (ne_of g5 gD (by intro z; cases z))]; exact g5) .nil)
        · obtain ⟨s4, ts, g4, pa⟩ := z
          rw [List.length_map, List.length_map, List.take_length] at pa
          exact ⟨s02.trans s4, D, ts, rp n c n, _, rfl, g4, pa, near_odd ho hn9 c⟩
    · rintro σ' H' ⟨s1, D, ts, qs, v5, rfl, gD, pa, nr⟩
      have hc1 := Same.tup s1 hc
      have lq := pa.len
      have nle := nr.le
      refine ⟨.ref D, rfl, D, rfl, ⟨_, lst_of gD⟩, fun D2 nD2 => ?_⟩
      refine lc_list (K := K) (a := D) (xs := ts) (fun i H4 => Same H' H4 ∧ ∃ us, H4 D2 = some (.lst us) ∧ PA H4 us ((qs.take i).filter (flatB n c))) ⟨Same.new nD2, [], upd_same, .nil⟩ (fun i H4 _ z => lst_of (z.1 _ _ gD)) (fun i x H4 hi z => ?_) (fun H4 z => ?_)
      · obtain ⟨s4, us, g4, pb⟩ := z
        obtain ⟨t, u, v, rfl, hq, gt⟩ := pa_at pa hi
        have gt4 := s4 _ _ gt
        obtain ⟨du, dv, _⟩ := nr.on u v (List.mem_of_getElem? hq)
        have uB : B 10 u := by
          have := du.1
          have := du.2
          unfold Gd.B
          omega
        have vB : B 10 v := by
          have := dv.1
          have := dv.2
          unfold Gd.B
          omega
        have ll := pb.len
        have l2 : ((qs.take i).filter (flatB n c)).length ≤ 200 := by
          refine Nat.le_trans (List.length_filter_le ..) ?_
          rw [List.length_take]
          omega
        have et : (qs.take (i + 1)).filter (flatB n c) = (qs.take i).filter (flatB n c) ++ (if flatB n c (u, v) = true then [(u, v)] else []) := by
          rw [List.take_add_one, hq, List.filter_append]
          congr 1
          show List.filter (flatB n c) [(u, v)] = _
          rw [List.filter_cons]
          cases flatB n c (u, v) <;> rfl
        refine ⟨t, _, rfl, tup_of gt4, rfl, _, _, rfl, _, _, rfl, rfl, rfl, ?_⟩
        refine ⟨_, rfl, .ref ca, rfl, _, rfl, _, rfl, (n : Int), ca, c, u, v, rfl, Same.tup s4 hc1, hm, by omega, uB, vB, _, rfl, ?_⟩
        cases hb : flatB n c (u, v) with
        | true =>
          refine iteY hb ?_
          refine ⟨_, rfl, _, rfl, (by show 2 ≤ sizeLine; decide), fun t2 nt2 => ?_⟩
          have s5 := Same.new (H := H4) (p := t2) (o := .tup [V.int u, V.int v]) nt2
          have g5 : upd H4 t2 (.tup [V.int u, V.int v]) t2 = some (.tup [V.int u, V.int v]) := upd_same
          generalize upd H4 t2 (.tup [V.int u, V.int v]) = H5 at s5 g5 ⊢
          have gD2 := s5 _ _ g4
          refine ⟨_, gD2, small1000 (by omega), Same.put (s4.trans s5) nD2, us ++ [.ref t2], upd_same, ?_⟩
          rw [et, if_pos hb]
          exact ((pb.same s5).put gD2).app (.cons (by rw [upd_ne (ne_of g5 gD2 (by intro z; cases z))]; exact g5) .nil)
        | false =>
          refine iteN (by rw [show (decide (FlM.f1 c u v % (n : Int) = 0) && decide (FlM.f2 c u v % (n : Int) = 0)) = flatB n c (u, v) from rfl, hb]; decide) ?_
          refine ⟨s4, us, g4, ?_⟩
          rw [et, hb, if_neg (by decide), List.append_nil]
          exact pb
      · obtain ⟨s4, us, g4, pb⟩ := z
        rw [lq, List.take_length] at pb
        exact q _ D2 us qs (s1.trans s4) g4 nr pb
end
end K15
set_option Elab.async false
set_option linter.all false
set_option maxRecDepth 100000
set_option maxHeartbeats 4000000
namespace K15
open PySem PySem.Spec PyProof.Rows L2 Gd QM K45M EcZ SvM PaM K40 DpM
local macro_rules | `(tactic| walk_at "bd") => `(tactic| (repeat (first | assumption | apply B.add | apply B.sub | apply B.mul | apply B.neg | exact B.lit (n := 8) (by decide))))
local macro_rules | `(tactic| walk_at "bnd") => `(tactic| (apply B.mulW; walk_at "bd"; decide))
theorem fcd (d : Cv) : (fc d).disc = d.disc := by
  unfold C5.disc Cv.disc
  show 9 * d.b2 * d.b4 * d.b6 - d.b2 * d.b2 * d.b8 - 8 * (d.b4 * d.b4 * d.b4) - 27 * d.b6 * d.b6 = _
  rw [← Int.mul_assoc 8 (d.b4 * d.b4) d.b4, ← Int.mul_assoc 8 d.b4 d.b4]
theorem sm_md {p : Int} (c : C5) (h0 : 0 < p) (h1 : p ≤ 1000) : Sm (md p c) := by
  have k : ∀ z : Int, B 10 (z % p) := fun z => by
    have a := Int.emod_nonneg z (show p ≠ 0 by omega)
    have b := Int.emod_lt_of_pos z h0
    unfold Gd.B
    omega
  exact ⟨k _, k _, k _, k _, k _⟩
theorem rts_ways (n : Nat) (c : C5) (x : Int) : rts n [-c.a2 - 3 * x, c.a1, 1] n = FlM.ways n c x := by
  unfold rts FlM.ways
  refine List.filter_congr fun k _ => ?_
  have e : ev [-c.a2 - 3 * x, c.a1, 1] (k : Int) = FlM.qk c x (k : Int) := by
    show ((0 * (k : Int) + 1) * (k : Int) + c.a1) * (k : Int) + (-c.a2 - 3 * x) = _
    unfold FlM.qk
    grind
  rw [e]
theorem fl_md {n : Nat} {c : C5} {x y : Int} (f : FlM.Fl n c x y) : FlM.Fl n (md (n : Int) c) x y := by
  refine ⟨(FlM.sg_md c).mpr f.sg, fun u v s => f.uniq u v ((FlM.sg_md c).mp s), ?_, ?_⟩
  · show (FlM.ways n (FlM.mdc (n : Int) c) x).length ≤ 2
    rw [FlM.ways_md]
    exact f.le
  · show (FlM.ways n (FlM.mdc (n : Int) c) x).length = 1 ↔ (n : Int) ∣ FlM.c4 (FlM.mdc (n : Int) c)
    rw [FlM.ways_md, FlM.dvd_iff (FlM.c4_md c)]
    exact f.one
/-- the primes that are asked for -/
structure Pw (n : Nat) : Prop where
  pp : Pp (n : Int)
  lt : n < 200
  two : n = 2 ∨ (n : Int) % 2 = 1
  fl : ∀ c : C5, (n : Int) ∣ c.disc → ∃ x y, FlM.Fl n c x y
theorem Pq1 {n : Nat} (h : Pw n) : 1 < n := by
  have := h.pp.1
  omega
def wI (n : Nat) (d : Cv) (x : Int) : List V := ((FlM.ways n (fc d) x).map fun (k : Nat) => (k : Int)).map V.int
def wd (n : Nat) (d : Cv) (x : Int) : Str := if (FlM.ways n (fc d) x).length = 1 then "additive" else if (FlM.ways n (fc d) x).length = 2 then "split" else "unsplit"
section
variable {P : Program} {w : World} {K : PySem.W.Frag} {mg : Str → Option Value} {base : Heap}
def sp_tangents_at (K : PySem.W.Frag) : Sp := fun vs H Q _ => ∃ (a : Addr) (d : Cv) (n : Nat) (x y : Int), vs = [.ref a, .int (n : Int)] ∧ SqT K H a d.tup ∧ Pw n ∧ FlM.Fl n (fc d) x y ∧ ∀ H' t, Same H H' → H' t = some (.tup (wI n d x)) → Q (.ref t) H'
abbrev s_tangents_at : Stmt := topS 66
theorem sc_tangents_at : FnScope ["least", "p", "digits", "x"] ["least", "p"] (defScope s_tangents_at) := ⟨rfl, rfl, rfl, by decide +kernel, rfl, by decide +kernel, by decide +kernel⟩
theorem k_tangents_at (T : Tx K mg) (D : Df K mg "tangents_at" s_tangents_at ["least", "p"]) (c_digits_of : Kl P w K mg base 2 "digits_of" (sp_digits_of K)) (c_roots_over : Kl P w K mg base 7 "roots_over" (sp_roots_over K)) (c_singular_places : Kl P w K mg base 8 "singular_places" (sp_singular_places K)) : Kl P w K mg base 9 "tangents_at" (sp_tangents_at K) := by
  have nd := sc_tangents_at.nd
  refine Kl.by_body D sc_tangents_at (fun vs H Q E h => ?_) (fun f cdv A outer s H vs Q E hr h => ?_)
  · obtain ⟨_, _, _, _, _, rfl, _⟩ := h
    rfl
  · obtain ⟨a, d, n, x, y, rfl, hd, pq, fl, q⟩ := h
    have hu1 := hu_of hr
    refine ⟨_, (pss_cons (ps_set (i := 2) nd rfl (by first | exact Or.inl rfl | exact Or.inr rfl) (pe_k c_digits_of  hr (by decide) (by rfl) (pa_cons (pv 0) (pa_cons (pv 1) pa_nil))))
      (pss_cons (ps_set (i := 3) nd rfl (by first | exact Or.inl rfl | exact Or.inr rfl) (pe_ix ix_tup (pe_ix ix_list (pe_k c_singular_places  hr (by decide) (by rfl) (pa_cons (pv 1) (pa_cons (pv 2) pa_nil))) pe_int (fun _ _ => rfl)) pe_int (fun _ _ => rfl)))
      (pss_one (ps_ret (pe_k c_roots_over  hr (by decide) (by rfl) (pa_cons (pe_tup (pa_cons (pe_op op_sub (pe_un un_neg (pe_ix ix_tup (pv 2) pe_int (fun _ _ => rfl))) (pe_op op_mul pe_int (pv 3))) (pa_cons (pe_ix ix_tup (pv 2) pe_int (fun _ _ => rfl)) (pa_cons pe_int pa_nil)))) (pa_cons (pv 1) pa_nil))))))), ?_⟩
    have hn1 := Pq1 pq
    have hn9 := pq.lt
    have hp0 : (0 : Int) < (n : Int) := by omega
    refine ⟨.ref a, rfl, _, rfl, a, fc d, (n : Int), rfl, hd, hp0, fun H1 t s1 gt => ?_⟩
    first | refine sigN [some (.ref a), some (.int ((n : Int))), some (.ref t), none] (by rfl) ?_ | refine sig [some (.ref a), some (.int ((n : Int))), some (.ref t), none] (by rfl) ?_
    have hm := sm_md (p := (n : Int)) (fc d) hp0 (by omega)
    refine ⟨_, rfl, .ref t, rfl, n, t, md (n : Int) (fc d), rfl, tup_of gt, hm, pq.two, hn1, hn9, fun H2 l ts qs s2 gl nr pa => ?_⟩
    rw [nr.one (fl_md fl)] at pa
    obtain ⟨pr, rfl, gp⟩ : ∃ pr : Addr, ts = [.ref pr] ∧ H2 pr = some (.tup [.int x, .int y]) := by
      cases pa with
      | cons h r =>
        cases r
        exact ⟨_, rfl, h⟩
    refine ⟨l, _, 0, .ref pr, rfl, rfl, lst_of gl, rfl, pr, _, 0, .int x, rfl, rfl, tup_of gp, rfl, ?_⟩
    first | refine sigN [some (.ref a), some (.int ((n : Int))), some (.ref t), some (.int (x))] (by rfl) ?_ | refine sig [some (.ref a), some (.int ((n : Int))), some (.ref t), some (.int (x))] (by rfl) ?_
    have gt2 := s2 _ _ gt
    refine ⟨.ref t, rfl, t, _, 1, _, rfl, rfl, tup_of gt2, rfl, _, rfl, _, rfl, _, _, rfl, rfl, (Or.inl ⟨by decide, by decide⟩), _, _, rfl, rfl, .ref t, rfl, t, _, 0, _, rfl, rfl, tup_of gt2, rfl, (by show 3 ≤ sizeLine; decide), fun u nu => ?_⟩
    refine ⟨_, rfl, u, [-(md (n : Int) (fc d)).a2 - 3 * x, (md (n : Int) (fc d)).a1], 1, n, rfl, tup_of (upd_same (o := .tup [V.int (-(md (n : Int) (fc d)).a2 - 3 * x), V.int (md (n : Int) (fc d)).a1, V.int 1])), (by show 2 ≤ 4; decide), by omega, hn9, (by rw [Int.emod_eq_of_lt (by decide) (by omega)]; decide), fun H3 r s3 gr => ?_⟩
    replace gr : H3 r = some (.tup (((rts n [-(md (n : Int) (fc d)).a2 - 3 * x, (md (n : Int) (fc d)).a1, 1] n).map fun (k : Nat) => (k : Int)).map V.int)) := gr
    rw [rts_ways, show FlM.ways n (md (n : Int) (fc d)) x = FlM.ways n (fc d) x from FlM.ways_md n (fc d) x] at gr
    exact q _ r (s1.trans (s2.trans ((Same.new nu).trans s3))) gr
def sp_word_at (K : PySem.W.Frag) : Sp := fun vs H Q _ => ∃ (a : Addr) (d : Cv) (n : Nat), vs = [.ref a, .int (n : Int)] ∧ SqT K H a d.tup ∧ d.Md ∧ Pw n ∧ (¬ (n : Int) ∣ d.disc → ∀ H', Same H H' → Q (.str "smooth") H') ∧ ((n : Int) ∣ d.disc → ∀ x y, FlM.Fl n (fc d) x y → ∀ H', Same H H' → Q (.str (wd n d x)) H')
abbrev s_word_at : Stmt := topS 68
theorem sc_word_at : FnScope ["least", "p", "_", "c4", "d"] ["least", "p"] (defScope s_word_at) := ⟨rfl, rfl, rfl, by decide +kernel, rfl, by decide +kernel, by decide +kernel⟩
theorem k_word_at (T : Tx K mg) (D : Df K mg "word_at" s_word_at ["least", "p"]) (c_numbers_of : Kl P w K mg base 2 "numbers_of" (sp_numbers_of K)) (c_tangents_at : Kl P w K mg base 9 "tangents_at" (sp_tangents_at K)) : Kl P w K mg base 10 "word_at" (sp_word_at K) := by
  have nd := sc_word_at.nd
  refine Kl.by_body D sc_word_at (fun vs H Q E h => ?_) (fun f cdv A outer s H vs Q E hr h => ?_)
  · obtain ⟨_, _, _, rfl, _⟩ := h
    rfl
  · obtain ⟨a, d, n, rfl, hd, hmd, pq, q0, q1⟩ := h
    have hu1 := hu_of hr
    refine ⟨_, (pss_cons (ps_asg (pe_k c_numbers_of  hr (by decide) (by rfl) (pa_cons (pv 0) pa_nil)) (pg_tup rfl (pgs_cons (pg_name (i := 2) nd rfl (by first | exact Or.inl rfl | exact Or.inr rfl)) (pgs_cons (pg_name (i := 2) nd rfl (by first | exact Or.inl rfl | exact Or.inr rfl)) (pgs_cons (pg_name (i := 2) nd rfl (by first | exact Or.inl rfl | exact Or.inr rfl)) (pgs_cons (pg_name (i := 2) nd rfl (by first | exact Or.inl rfl | exact Or.inr rfl)) (pgs_cons (pg_name (i := 3) nd rfl (by first | exact Or.inl rfl | exact Or.inr rfl)) (pgs_cons (pg_name (i := 2) nd rfl (by first | exact Or.inl rfl | exact Or.inr rfl)) (pgs_cons (pg_name (i := 4) nd rfl (by first | exact Or.inl rfl | exact Or.inr rfl)) pgs_nil)))))))))
      (pss_cons (ps_if (pt_cmpR op_ne (pe_op op_mod (pv 4) (pv 1)) pe_int (nomark _)) (pss_one (ps_ret pe_str)) pss_nil)
      (pss_cons (ps_if (pt_cmpR op_eq (pe_op op_mod (pv 3) (pv 1)) pe_int (nomark _)) (pss_one (ps_ret pe_str)) pss_nil)
      (pss_one (ps_ret (pe_ifExp (pt_cmpR op_eq (pe_callB call_len_seq (by rfl) T.len (by decide +kernel) (pa_cons (pe_k c_tangents_at  hr (by decide) (by rfl) (pa_cons (pv 0) (pa_cons (pv 1) pa_nil))) pa_nil)) pe_int (nomark _)) pe_str pe_str)))))), ?_⟩
    have hn1 := Pq1 pq
    have hp0 : (0 : Int) < (n : Int) := by omega
    refine ⟨.ref a, rfl, a, d, rfl, hd, hmd, fun t nt => ?_⟩
    have s1 := Same.new (H := H) (p := t) (o := .tup d.nums) nt
    have gt : upd H t (.tup d.nums) t = some (.tup d.nums) := upd_same
    generalize upd H t (.tup d.nums) = H1 at s1 gt ⊢
    refine ⟨t, _, rfl, tup_of gt, rfl, _, _, rfl, _, _, rfl, _, _, rfl, _, _, rfl, _, _, rfl, _, _, rfl, _, _, rfl, rfl, ?_⟩
    first | refine sigN [some (.ref a), some (.int ((n : Int))), some (.int (d.c6)), some (.int (d.c4)), some (.int (d.disc))] (by rfl) ?_ | refine sig [some (.ref a), some (.int ((n : Int))), some (.int (d.c6)), some (.int (d.c4)), some (.int (d.disc))] (by rfl) ?_
    refine ⟨_, rfl, _, rfl, _, _, rfl, rfl, hp0, rfl, _, rfl, ?_⟩
    rw [dec_int]
    by_cases hdv : (n : Int) ∣ d.disc
    · refine iteN (by simpa using Int.emod_eq_zero_of_dvd hdv) ?_
      obtain ⟨x, y, fl⟩ := pq.fl (fc d) (by rw [fcd]; exact hdv)
      have qq := q1 hdv x y fl
      refine ⟨_, rfl, _, rfl, _, _, rfl, rfl, hp0, rfl, _, rfl, ?_⟩
      rw [dec_int]
      have ec : d.c4 = FlM.c4 (fc d) := rfl
      by_cases h4 : (n : Int) ∣ d.c4
      · refine iteY (by simpa using Int.emod_eq_zero_of_dvd h4) ?_
        have := qq _ s1
        unfold wd at this
        rw [if_pos (fl.one.mpr h4)] at this
        exact this
      · have h1 : ¬ (FlM.ways n (fc d) x).length = 1 := fun z => h4 (fl.one.mp z)
        refine iteN (by simpa using fun z => h4 (Int.dvd_of_emod_eq_zero z)) ?_
        refine ⟨.ref a, rfl, _, rfl, a, d, n, x, y, rfl, Same.tup s1 hd, pq, fl, fun H2 u s2 gu => ?_⟩
        have qq2 := qq _ (s1.trans s2)
        unfold wd at qq2
        rw [if_neg h1] at qq2
        refine ⟨u, _, rfl, .inr (tup_of gu), rfl, _, rfl, ?_⟩
        have el : ((wI n d x).length : Int) = ((FlM.ways n (fc d) x).length : Int) := by
          unfold wI
          rw [List.length_map, List.length_map]
        rw [dec_int, el]
        by_cases h2 : (FlM.ways n (fc d) x).length = 2
        · refine iteY (by simp; omega) ?_
          rw [if_pos h2] at qq2
          exact qq2
        · refine iteN (by simp; omega) ?_
          rw [if_neg h2] at qq2
          exact qq2
    · refine iteY (by simpa using fun z => hdv (Int.dvd_of_emod_eq_zero z)) ?_
      exact q0 hdv _ s1
/-- a curve and its least one -/
def Has (c d : Cv) : Prop := c.Ok ∧ ∃ v, Lst c.c4 c.c6 v d
theorem Has.md {c d : Cv} (h : Has c d) : d.Md := by
  obtain ⟨ok, v, hl⟩ := h
  exact hl.md ok.h4 ok.h6
def sp_singular_point (K : PySem.W.Frag) : Sp := fun vs H Q _ => ∃ (a : Addr) (c d : Cv) (n : Nat), vs = [.ref a, .int (n : Int)] ∧ SqT K H a c.tup ∧ Has c d ∧ Pw n ∧ (¬ (n : Int) ∣ d.disc → ∀ H', Same H H' → Q .non H') ∧ ((n : Int) ∣ d.disc → ∀ x y H' t, FlM.Fl n (fc d) x y → Same H H' → H' t = some (.tup [.int x, .int y]) → Q (.ref t) H')
abbrev s_singular_point : Stmt := topS 65
theorem sc_singular_point : FnScope ["curve", "p", "least"] ["curve", "p"] (defScope s_singular_point) := ⟨rfl, rfl, rfl, by decide +kernel, rfl, by decide +kernel, by decide +kernel⟩
theorem k_singular_point (T : Tx K mg) (D : Df K mg "singular_point" s_singular_point ["curve", "p"]) (c_least_and_scale : Kl P w K mg base 9 "least_and_scale" (sp_least_and_scale K)) (c_singular_places : Kl P w K mg base 8 "singular_places" (sp_singular_places K)) (c_digits_of : Kl P w K mg base 2 "digits_of" (sp_digits_of K)) (c_numbers_of : Kl P w K mg base 2 "numbers_of" (sp_numbers_of K)) : Kl P w K mg base 10 "singular_point" (sp_singular_point K) := by
  have nd := sc_singular_point.nd
  refine Kl.by_body D sc_singular_point (fun vs H Q E h => ?_) (fun f cdv A outer s H vs Q E hr h => ?_)
  · obtain ⟨_, _, _, _, rfl, _⟩ := h
    rfl
  · obtain ⟨a, c, d, n, rfl, hc, hh, pq, q0, q1⟩ := h
    have hu1 := hu_of hr
    refine ⟨_, (pss_cons (ps_set (i := 2) nd rfl (by first | exact Or.inl rfl | exact Or.inr rfl) (pe_ix ix_tup (pe_k c_least_and_scale  hr (by decide) (by rfl) (pa_cons (pv 0) pa_nil)) pe_int (fun _ _ => rfl)))
      (pss_cons (ps_if (pt_cmpR op_ne (pe_op op_mod (pe_ix ix_tup (pe_k c_numbers_of  hr (by decide) (by rfl) (pa_cons (pv 2) pa_nil)) pe_int (fun _ _ => rfl)) (pv 1)) pe_int (nomark _)) (pss_one (ps_ret pe_non)) pss_nil)
      (pss_one (ps_ret (pe_ix ix_list (pe_k c_singular_places  hr (by decide) (by rfl) (pa_cons (pv 1) (pa_cons (pe_k c_digits_of  hr (by decide) (by rfl) (pa_cons (pv 2) (pa_cons (pv 1) pa_nil))) pa_nil))) pe_int (fun _ _ => rfl)))))), ?_⟩
    have hn1 := Pq1 pq
    have hn9 := pq.lt
    have hp0 : (0 : Int) < (n : Int) := by omega
    have hmd := hh.md
    obtain ⟨⟨h1, h2, h3, h4⟩, v, hl⟩ := hh
    refine ⟨.ref a, rfl, a, c, rfl, hc, h1, h2, h3, h4, fun H1 t l v' d' s1 gt gl hl' => ?_⟩
    obtain ⟨rfl, rfl⟩ := hl.uniq hl'
    refine ⟨t, _, 0, .ref l, rfl, rfl, tup_of gt, rfl, ?_⟩
    first | refine sigN [some (.ref a), some (.int ((n : Int))), some (.ref l)] (by rfl) ?_ | refine sig [some (.ref a), some (.int ((n : Int))), some (.ref l)] (by rfl) ?_
    refine ⟨.ref l, rfl, l, d, rfl, tup_of gl, hmd, fun u nu => ?_⟩
    have s2 := Same.new (H := H1) (p := u) (o := .tup d.nums) nu
    have gu : upd H1 u (.tup d.nums) u = some (.tup d.nums) := upd_same
    generalize upd H1 u (.tup d.nums) = H2 at s2 gu ⊢
    refine ⟨u, _, 6, _, rfl, rfl, tup_of gu, rfl, _, rfl, _, _, rfl, rfl, hp0, rfl, _, rfl, ?_⟩
    rw [dec_int]
    by_cases hdv : (n : Int) ∣ d.disc
    · refine iteN (by simpa using Int.emod_eq_zero_of_dvd hdv) ?_
      obtain ⟨x, y, fl⟩ := pq.fl (fc d) (by rw [fcd]; exact hdv)
      refine ⟨_, rfl, .ref l, rfl, _, rfl, l, fc d, (n : Int), rfl, tup_of (s2 _ _ gl), hp0, fun H3 r s3 gr => ?_⟩
      refine ⟨n, r, md (n : Int) (fc d), rfl, tup_of gr, sm_md (fc d) hp0 (by omega), pq.two, hn1, hn9, fun H4 g ts qs s4 gg nr pa => ?_⟩
      rw [nr.one (fl_md fl)] at pa
      obtain ⟨pr, rfl, gp⟩ : ∃ pr : Addr, ts = [.ref pr] ∧ H4 pr = some (.tup [.int x, .int y]) := by
        cases pa with
        | cons h r =>
          cases r
          exact ⟨_, rfl, h⟩
      refine ⟨g, _, 0, .ref pr, rfl, rfl, lst_of gg, rfl, ?_⟩
      exact q1 hdv x y _ pr fl (s1.trans (s2.trans (s3.trans s4))) gp
    · refine iteY (by simpa using fun z => hdv (Int.dvd_of_emod_eq_zero z)) ?_
      exact q0 hdv _ (s1.trans s2)
def sp_tangents (K : PySem.W.Frag) : Sp := fun vs H Q _ => ∃ (a : Addr) (c d : Cv) (n : Nat), vs = [.ref a, .int (n : Int)] ∧ SqT K H a c.tup ∧ Has c d ∧ Pw n ∧ (¬ (n : Int) ∣ d.disc → ∀ H' t, Same H H' → H' t = some (.tup []) → Q (.ref t) H') ∧ ((n : Int) ∣ d.disc → ∀ x y H' t, FlM.Fl n (fc d) x y → Same H H' → H' t = some (.tup (wI n d x)) → Q (.ref t) H')
abbrev s_tangents : Stmt := topS 67
theorem sc_tangents : FnScope ["curve", "p", "least"] ["curve", "p"] (defScope s_tangents) := ⟨rfl, rfl, rfl, by decide +kernel, rfl, by decide +kernel, by decide +kernel⟩
theorem k_tangents (T : Tx K mg) (D : Df K mg "tangents" s_tangents ["curve", "p"]) (c_least_and_scale : Kl P w K mg base 9 "least_and_scale" (sp_least_and_scale K)) (c_tangents_at : Kl P w K mg base 9 "tangents_at" (sp_tangents_at K)) (c_numbers_of : Kl P w K mg base 2 "numbers_of" (sp_numbers_of K)) : Kl P w K mg base 10 "tangents" (sp_tangents K) := by
  have nd := sc_tangents.nd
  refine Kl.by_body D sc_tangents (fun vs H Q E h => ?_) (fun f cdv A outer s H vs Q E hr h => ?_)
  · obtain ⟨_, _, _, _, rfl, _⟩ := h
    rfl
  · obtain ⟨a, c, d, n, rfl, hc, hh, pq, q0, q1⟩ := h
    have hu1 := hu_of hr
    refine ⟨_, (pss_cons (ps_set (i := 2) nd rfl (by first | exact Or.inl rfl | exact Or.inr rfl) (pe_ix ix_tup (pe_k c_least_and_scale  hr (by decide) (by rfl) (pa_cons (pv 0) pa_nil)) pe_int (fun _ _ => rfl)))
      (pss_one (ps_ret (pe_ifExp (pt_cmpR op_ne (pe_op op_mod (pe_ix ix_tup (pe_k c_numbers_of  hr (by decide) (by rfl) (pa_cons (pv 2) pa_nil)) pe_int (fun _ _ => rfl)) (pv 1)) pe_int (nomark _)) (pe_tup pa_nil) (pe_k c_tangents_at  hr (by decide) (by rfl) (pa_cons (pv 2) (pa_cons (pv 1) pa_nil))))))), ?_⟩
    have hp0 : (0 : Int) < (n : Int) := by
      have := Pq1 pq
      omega
    have hmd := hh.md
    obtain ⟨⟨h1, h2, h3, h4⟩, v, hl⟩ := hh
    refine ⟨.ref a, rfl, a, c, rfl, hc, h1, h2, h3, h4, fun H1 t l v' d' s1 gt gl hl' => ?_⟩
    obtain ⟨rfl, rfl⟩ := hl.uniq hl'
    refine ⟨t, _, 0, .ref l, rfl, rfl, tup_of gt, rfl, ?_⟩
    first | refine sigN [some (.ref a), some (.int ((n : Int))), some (.ref l)] (by rfl) ?_ | refine sig [some (.ref a), some (.int ((n : Int))), some (.ref l)] (by rfl) ?_
    refine ⟨.ref l, rfl, l, d, rfl, tup_of gl, hmd, fun u nu => ?_⟩
    have s2 := Same.new (H := H1) (p := u) (o := .tup d.nums) nu
    have gu : upd H1 u (.tup d.nums) u = some (.tup d.nums) := upd_same
    generalize upd H1 u (.tup d.nums) = H2 at s2 gu ⊢
    refine ⟨u, _, 6, _, rfl, rfl, tup_of gu, rfl, _, rfl, _, _, rfl, rfl, hp0, rfl, _, rfl, ?_⟩
    rw [dec_int]
    by_cases hdv : (n : Int) ∣ d.disc
    · refine iteN (by simpa using Int.emod_eq_zero_of_dvd hdv) ?_
      obtain ⟨x, y, fl⟩ := pq.fl (fc d) (by rw [fcd]; exact hdv)
      refine ⟨.ref l, rfl, _, rfl, l, d, n, x, y, rfl, tup_of (s2 _ _ gl), pq, fl, fun H3 r s3 gr => ?_⟩
      exact q1 hdv x y _ r fl (s1.trans (s2.trans s3)) gr
    · refine iteY (by simpa using fun z => hdv (Int.dvd_of_emod_eq_zero z)) ?_
      refine ⟨(by show 0 ≤ sizeLine; decide), fun r nr => ?_⟩
      exact q0 hdv _ r (s1.trans (s2.trans (Same.new nr))) upd_same
def sp_fall_at (K : PySem.W.Frag) : Sp := fun vs H Q _ => ∃ (a : Addr) (c d : Cv) (n : Nat), vs = [.ref a, .int (n : Int)] ∧ SqT K H a c.tup ∧ Has c d ∧ Pw n ∧ (¬ (n : Int) ∣ d.disc → ∀ H', Same H H' → Q (.str "smooth") H') ∧ ((n : Int) ∣ d.disc → ∀ x y, FlM.Fl n (fc d) x y → ∀ H', Same H H' → Q (.str (wd n d x)) H')
abbrev s_fall_at : Stmt := topS 69
theorem sc_fall_at : FnScope ["curve", "p"] ["curve", "p"] (defScope s_fall_at) := ⟨rfl, rfl, rfl, by decide +kernel, rfl, by decide +kernel, by decide +kernel⟩
theorem k_fall_at (T : Tx K mg) (D : Df K mg "fall_at" s_fall_at ["curve", "p"]) (c_word_at : Kl P w K mg base 10 "word_at" (sp_word_at K)) (c_least_and_scale : Kl P w K mg base 9 "least_and_scale" (sp_least_and_scale K)) : Kl P w K mg base 11 "fall_at" (sp_fall_at K) := by
  have nd := sc_fall_at.nd
  refine Kl.by_body D sc_fall_at (fun vs H Q E h => ?_) (fun f cdv A outer s H vs Q E hr h => ?_)
  · obtain ⟨_, _, _, _, rfl, _⟩ := h
    rfl
  · obtain ⟨a, c, d, n, rfl, hc, hh, pq, q0, q1⟩ := h
    have hu1 := hu_of hr
    refine ⟨_, (pss_one (ps_ret (pe_k c_word_at  hr (by decide) (by rfl) (pa_cons (pe_ix ix_tup (pe_k c_least_and_scale  hr (by decide) (by rfl) (pa_cons (pv 0) pa_nil)) pe_int (fun _ _ => rfl)) (pa_cons (pv 1) pa_nil))))), ?_⟩
    have hmd := hh.md
    obtain ⟨⟨h1, h2, h3, h4⟩, v, hl⟩ := hh
    refine ⟨.ref a, rfl, a, c, rfl, hc, h1, h2, h3, h4, fun H1 t l v' d' s1 gt gl hl' => ?_⟩
    obtain ⟨rfl, rfl⟩ := hl.uniq hl'
    refine ⟨t, _, 0, .ref l, rfl, rfl, tup_of gt, rfl, _, rfl, l, d, n, rfl, tup_of gl, hmd, pq, fun hdv H2 s2 => q0 hdv _ (s1.trans s2), fun hdv x y fl H2 s2 => q1 hdv x y fl _ (s1.trans s2)⟩
theorem wd_cases {n : Nat} {d : Cv} {x y : Int} (fl : FlM.Fl n (fc d) x y) (pq : Pw n) : (wd n d x = "additive" ∧ (due n (fc d) n).length = n) ∨ (wd n d x = "split" ∧ (due n (fc d) n).length + 1 = n) ∨ (wd n d x = "unsplit" ∧ (due n (fc d) n).length = n + 1) := by
  have h := FlM.count_sg pq.pp fl.sg
  have hl := fl.le
  unfold wd
  by_cases h1 : (FlM.ways n (fc d) x).length = 1
  · rw [if_pos h1]
    exact .inl ⟨rfl, by omega⟩
  · rw [if_neg h1]
    by_cases h2 : (FlM.ways n (fc d) x).length = 2
    · rw [if_pos h2]
      exact .inr (.inl ⟨rfl, by omega⟩)
    · rw [if_neg h2]
      exact .inr (.inr ⟨rfl, by omega⟩)
def sp_smooth_count (K : PySem.W.Frag) : Sp := fun vs H Q _ => ∃ (a : Addr) (c d : Cv) (n : Nat), vs = [.ref a, .int (n : Int)] ∧ SqT K H a c.tup ∧ Has c d ∧ Pw n ∧ (n : Int) ∣ d.disc ∧ ∀ x y, FlM.Fl n (fc d) x y → ∀ H', Same H H' → Q (.int (((due n (fc d) n).length : Nat) : Int)) H'
abbrev s_smooth_count : Stmt := topS 71
theorem sc_smooth_count : FnScope ["curve", "p", "least", "word"] ["curve", "p"] (defScope s_smooth_count) := ⟨rfl, rfl, rfl, by decide +kernel, rfl, by decide +kernel, by decide +kernel⟩
theorem k_smooth_count (T : Tx K mg) (D : Df K mg "smooth_count" s_smooth_count ["curve", "p"]) (c_word_at : Kl P w K mg base 10 "word_at" (sp_word_at K)) (c_least_and_scale : Kl P w K mg base 9 "least_and_scale" (sp_least_and_scale K)) (c_count_over : Kl P w K mg base 5 "count_over" (sp_count_over K)) (c_digits_of : Kl P w K mg base 2 "digits_of" (sp_digits_of K)) : Kl P w K mg base 11 "smooth_count" (sp_smooth_count K) := by
  have nd := sc_smooth_count.nd
  refine Kl.by_body D sc_smooth_count (fun vs H Q E h => ?_) (fun f cdv A outer s H vs Q E hr h => ?_)
  · obtain ⟨_, _, _, _, rfl, _⟩ := h
    rfl
  · obtain ⟨a, c, d, n, rfl, hc, hh, pq, hdv, q1⟩ := h
    have hu1 := hu_of hr
    refine ⟨_, (pss_cons (ps_set (i := 2) nd rfl (by first | exact Or.inl rfl | exact Or.inr rfl) (pe_ix ix_tup (pe_k c_least_and_scale  hr (by decide) (by rfl) (pa_cons (pv 0) pa_nil)) pe_int (fun _ _ => rfl)))
      (C8.pss_cut (ps_set (i := 3) nd rfl (by first | exact Or.inl rfl | exact Or.inr rfl) (pe_k c_word_at  hr (by decide) (by rfl) (pa_cons (pv 2) (pa_cons (pv 1) pa_nil))))
      (pss_cons (ps_if (pt_cmpR op_eq (pv 3) pe_str (nomark _)) (pss_one (ps_ret (pe_k c_count_over  hr (by decide) (by rfl) (pa_cons (pv 1) (pa_cons (pe_k c_digits_of  hr (by decide) (by rfl) (pa_cons (pv 2) (pa_cons (pv 1) pa_nil))) pa_nil))))) pss_nil)
      (pss_cons (ps_if (pt_cmpR op_eq (pv 3) pe_str (nomark _)) (pss_one (ps_ret (pv 1))) pss_nil)
      (pss_one (ps_ret (pe_ifExp (pt_cmpR op_eq (pv 3) pe_str (nomark _)) (pe_op op_sub (pv 1) pe_int) (pe_op op_add (pv 1) pe_int)))))))), ?_⟩
    have hn9 := pq.lt
    have hp0 : (0 : Int) < (n : Int) := by
      have := Pq1 pq
      omega
    have hmd := hh.md
    obtain ⟨⟨h1, h2, h3, h4⟩, v, hl⟩ := hh
    refine ⟨.ref a, rfl, a, c, rfl, hc, h1, h2, h3, h4, fun H1 t l v' d' s1 gt gl hl' => ?_⟩
    obtain ⟨rfl, rfl⟩ := hl.uniq hl'
    refine ⟨t, _, 0, .ref l, rfl, rfl, tup_of gt, rfl, ?_⟩
    first | refine sigN [some (.ref a), some (.int ((n : Int))), some (.ref l), none] (by rfl) ?_ | refine sig [some (.ref a), some (.int ((n : Int))), some (.ref l), none] (by rfl) ?_
    refine ⟨fun σ' H' => ∃ W : Str, Same H1 H' ∧ σ' = [some (.ref a), some (.int (n : Int)), some (.ref l), some (.str W)] ∧ ∃ x y, FlM.Fl n (fc d) x y ∧ W = wd n d x, ?_, ?_⟩
    · refine ⟨.ref l, rfl, _, rfl, l, d, n, rfl, tup_of gl, hmd, pq, fun z => (z hdv).elim, fun _ x y fl H2 s2 => ?_⟩
      exact ⟨_, s2, rfl, x, y, fl, rfl⟩
    rintro σ' H' ⟨W, s2, rfl, hw⟩
    have s02 := s1.trans s2
    obtain ⟨x, y, fl, rfl⟩ := hw
    · have q2 := q1 x y fl _ s02
      rcases wd_cases fl pq with ⟨e, k⟩ | ⟨e, k⟩ | ⟨e, k⟩
      · rw [e]
        refine ⟨_, rfl, rfl, _, rfl, iteN (by decide +kernel) ?_⟩
        refine ⟨_, rfl, rfl, _, rfl, iteY (by decide +kernel) ?_⟩
        rw [k] at q2
        exact ⟨_, rfl, q2⟩
      · rw [e]
        refine ⟨_, rfl, rfl, _, rfl, iteN (by decide +kernel) ?_⟩
        refine ⟨_, rfl, rfl, _, rfl, iteN (by decide +kernel) ?_⟩
        refine ⟨_, rfl, rfl, _, rfl, iteY (by decide +kernel) ?_⟩
        refine ⟨_, rfl, _, _, rfl, rfl, ?_⟩
        rw [show (((due n (fc d) n).length : Nat) : Int) = (n : Int) - 1 by omega] at q2
        exact q2
      · rw [e]
        refine ⟨_, rfl, rfl, _, rfl, iteN (by decide +kernel) ?_⟩
        refine ⟨_, rfl, rfl, _, rfl, iteN (by decide +kernel) ?_⟩
        refine ⟨_, rfl, rfl, _, rfl, iteN (by decide +kernel) ?_⟩
        refine ⟨_, rfl, _, _, rfl, rfl, ?_⟩
        rw [show (((due n (fc d) n).length : Nat) : Int) = (n : Int) + 1 by omega] at q2
        exact q2
end
end K15
set_option Elab.async false
set_option linter.all false
set_option maxRecDepth 100000
set_option maxHeartbeats 4000000
namespace K15
open PySem PySem.Spec PyProof.Rows L2 Gd QM K45M EcZ SvM PaM K40 DpM
local macro_rules | `(tactic| walk_at "bd") => `(tactic| (repeat (first | assumption | apply B.add | apply B.sub | apply B.mul | apply B.neg | exact B.lit (n := 8) (by decide))))
local macro_rules | `(tactic| walk_at "bnd") => `(tactic| (apply B.mulW; walk_at "bd"; decide))
theorem side_eq (d : Cv) (x y : Int) : y * (y + d.a1 * x + d.a3) - x ^ 3 - d.a2 * x * x - d.a4 * x - d.a6 = lhs (fc d) x y := by
  show _ = y * (y + d.a1 * x + d.a3) - (x ^ 3 + d.a2 * x * x + d.a4 * x + d.a6)
  omega
theorem slope_eq (d : Cv) (x y : Int) : d.a1 * y - 3 * x * x - 2 * d.a2 * x - d.a4 = -FlM.f2 (fc d) x y := by
  show _ = -(x * (3 * x + 2 * d.a2) + d.a4 - d.a1 * y)
  grind
section
variable {P : Program} {w : World} {K : PySem.W.Frag} {mg : Str → Option Value} {base : Heap}
def sp_law_least_of (K : PySem.W.Frag) : Sp := fun vs H Q _ => ∃ (p : Addr) (c d : Cv), vs = [.ref p] ∧ SqT K H p c.tup ∧ Has c d ∧ ∀ H' t, Same H H' → SqT K H' t d.tup → Q (.ref t) H'
abbrev s__law_least_of : Stmt := topS 89
theorem sc__law_least_of : FnScope ["five_v", "c4", "c6", "w"] ["five_v"] (defScope s__law_least_of) := ⟨rfl, rfl, rfl, by decide +kernel, rfl, by decide +kernel, by decide +kernel⟩
theorem k_law_least_of (T : Tx K mg) (D : Df K mg "_law_least_of" s__law_least_of ["five_v"]) (c_law_numbers : Kl P w K mg base 1 "_law_numbers" (sp_law_numbers K)) (c_law_lets : Kl P w K mg base 3 "_law_lets" (sp_law_lets K)) (c_law_pair : Kl P w K mg base 2 "_law_pair" (sp_law_pair K)) : Kl P w K mg base 4 "_law_least_of" (sp_law_least_of K) := by
  have nd := sc__law_least_of.nd
  refine Kl.by_body D sc__law_least_of (fun vs H Q E h => ?_) (fun f cdv A outer s H vs Q E hr h => ?_)
  · obtain ⟨_, _, _, rfl, _⟩ := h
    rfl
  · obtain ⟨p, c, d, rfl, hp, ⟨⟨hmd, hd0, h4, h6⟩, v, hl⟩, q⟩ := h
    have hu1 := hu_of hr
    refine ⟨_, (pss_cons (ps_asg (pe_slice sl_tupA (pe_k c_law_numbers  hr (by decide) (by rfl) (pa_cons (pv 0) pa_nil)) (po_some pe_int) (po_some pe_int)) (pg_tup rfl (pgs_cons (pg_name (i := 1) nd rfl (by first | exact Or.inl rfl | exact Or.inr rfl)) (pgs_cons (pg_name (i := 2) nd rfl (by first | exact Or.inl rfl | exact Or.inr rfl)) pgs_nil))))
      (pss_cons (ps_set (i := 3) nd rfl (by first | exact Or.inl rfl | exact Or.inr rfl) (pe_ix ix_list (pe_k c_law_lets  hr (by decide) (by rfl) (pa_cons (pv 1) (pa_cons (pv 2) pa_nil))) (pe_un un_neg pe_int) (fun _ _ => rfl)))
      (pss_one (ps_ret (pe_ix ix_list (pe_k c_law_pair  hr (by decide) (by rfl) (pa_cons (pe_op op_fdivAny (pv 1) (pe_op op_pow (pv 3) pe_int)) (pa_cons (pe_op op_fdivAny (pv 2) (pe_op op_pow (pv 3) pe_int)) pa_nil))) pe_int (fun _ _ => rfl)))))), ?_⟩
    have hz := nz_of_d hd0
    have hisp := isp_of_d hd0
    have hdok := hl.okd h4 h6
    refine ⟨_, rfl, p, c, rfl, hp, hmd, fun t1 n1 => ?_⟩
    have s1 := Same.new (H := H) (p := t1) (o := .tup c.nums) n1
    have g1 : upd H t1 (.tup c.nums) t1 = some (.tup c.nums) := upd_same
    generalize upd H t1 (.tup c.nums) = H1 at s1 g1 ⊢
    refine ⟨4, rfl, 6, rfl, slA_any (tup_of g1) fun p1 H2 s2 e1 => ?_⟩
    rw [show cutV c.nums (some 4) (some 6) = [.int c.c4, .int c.c6] from rfl] at e1
    refine ⟨p1, _, rfl, e1, rfl, _, _, rfl, _, _, rfl, rfl, ?_⟩
    first | refine sigN [some (.ref p), some (.int (c.c4)), some (.int (c.c6)), none] (by rfl) ?_ | refine sig [some (.ref p), some (.int (c.c4)), some (.int (c.c6)), none] (by rfl) ?_
    refine ⟨_, rfl, _, rfl, c.c4, c.c6, rfl, hz, h4, h6, hisp, fun H3 D v' s3 hv v0 v177 gD => ?_⟩
    have ev' : v' = v := by
      obtain ⟨_, x, y, e4, e6, hxy⟩ := (hv v').mpr ⟨v0, Nat.dvd_refl v'⟩
      obtain ⟨d', hd'⟩ := isp_curve.mp hxy
      exact (Lst.uniq ⟨v0, hv, x, y, e4, e6, hd'⟩ hl).1
    subst ev'
    have hlast : atI (dvs v' v') (-1) = some (.int (v' : Int)) := by
      obtain ⟨k, rfl⟩ : ∃ k, v' = k + 1 := ⟨v' - 1, by omega⟩
      rw [dvs_yes (Nat.dvd_refl _)]
      exact atI_last _ _
    refine ⟨_, rfl, D, _, -1, .int (v' : Int), rfl, rfl, lst_of gD, hlast, ?_⟩
    first | refine sigN [some (.ref p), some (.int (c.c4)), some (.int (c.c6)), some (.int ((v' : Int)))] (by rfl) ?_ | refine sig [some (.ref p), some (.int (c.c4)), some (.int (c.c6)), some (.int ((v' : Int)))] (by rfl) ?_
    have vB : B 8 (v' : Int) := by
      unfold B
      omega
    obtain ⟨e4, e6, hdd⟩ := hl.nums
    have v4 : (v' : Int) ^ 4 ≠ 0 := Int.pow_ne_zero (by omega)
    have v6 : (v' : Int) ^ 6 ≠ 0 := Int.pow_ne_zero (by omega)
    have f4 : c.c4.fdiv ((v' : Int) ^ 4) = d.c4 := by rw [e4]; exact Int.mul_fdiv_cancel_left _ v4
    have f6 : c.c6.fdiv ((v' : Int) ^ 6) = d.c6 := by rw [e6]; exact Int.mul_fdiv_cancel_left _ v6
    have v4B : B 33 ((v' : Int) ^ 4) := (vB.pow 4).up (by decide)
    have v6B : B 49 ((v' : Int) ^ 6) := (vB.pow 6).up (by decide)
    have bx : B 59 (c.c4.fdiv ((v' : Int) ^ 4)) := by
      rw [f4]
      have := hdok.h4
      unfold B
      omega
    have bY : B 104 (c.c6.fdiv ((v' : Int) ^ 6)) := by
      rw [f6]
      have := hdok.h6
      unfold B
      omega
    refine ⟨_, rfl, _, rfl, _, _, rfl, rfl, ⟨by decide, by decide, vB.up (by decide)⟩, _, _, rfl, rfl, div_any (v4 : (v' : Int) ^ 4 ≠ 0) v4B (by decide), _, rfl, _, rfl, _, _, rfl, rfl, ⟨by decide, by decide, vB.up (by decide)⟩, _, _, rfl, rfl, div_any (v6 : (v' : Int) ^ 6 ≠ 0) v6B (by decide), _, _, rfl, bx, bY, fun H6 F s6 hF => ?_⟩
    replace hF : CvL K H6 F (pairN (c.c4.fdiv ((v' : Int) ^ 4)) (c.c6.fdiv ((v' : Int) ^ 6)) 12) := hF
    rw [f4, f6, pair_one hl.rc hdd] at hF
    obtain ⟨L, gF, hlen, hall⟩ := hF
    match L, hlen, gF, hall with
    | [pd], _, gF, hall =>
      obtain ⟨c', ec, hpd⟩ := hall 0 pd rfl
      obtain rfl := Option.some.inj ec
      refine ⟨F, _, 0, .ref pd, rfl, rfl, lst_of gF, rfl, ?_⟩
      exact q _ pd (s1.trans (s2.trans (s3.trans s6))) hpd
def sp_law_side (K : PySem.W.Frag) : Sp := fun vs H Q _ => ∃ (p : Addr) (d : Cv) (x y : Int), vs = [.ref p, .int x, .int y] ∧ SqT K H p d.tup ∧ d.Md ∧ B 20 x ∧ B 20 y ∧ Q (.int (lhs (fc d) x y)) H
abbrev s__law_side : Stmt := topS 91
theorem sc__law_side : FnScope ["five_v", "x", "y", "a", "b", "c", "d", "e", "left"] ["five_v", "x", "y"] (defScope s__law_side) := ⟨rfl, rfl, rfl, by decide +kernel, rfl, by decide +kernel, by decide +kernel⟩
theorem k_law_side (T : Tx K mg) (D : Df K mg "_law_side" s__law_side ["five_v", "x", "y"])  : Kl P w K mg base 1 "_law_side" (sp_law_side K) := by
  have nd := sc__law_side.nd
  refine Kl.by_body D sc__law_side (fun vs H Q E h => ?_) (fun f cdv A outer s H vs Q E hr h => ?_)
  · obtain ⟨_, _, _, _, rfl, _⟩ := h
    rfl
  · obtain ⟨p, d, x, y, rfl, hp, hm, hx, hy, q⟩ := h
    have hu1 := hu_of hr
    refine ⟨_, (pss_cons (ps_asg (pv 0) (pg_tup rfl (pgs_cons (pg_name (i := 3) nd rfl (by first | exact Or.inl rfl | exact Or.inr rfl)) (pgs_cons (pg_name (i := 4) nd rfl (by first | exact Or.inl rfl | exact Or.inr rfl)) (pgs_cons (pg_name (i := 5) nd rfl (by first | exact Or.inl rfl | exact Or.inr rfl)) (pgs_cons (pg_name (i := 6) nd rfl (by first | exact Or.inl rfl | exact Or.inr rfl)) (pgs_cons (pg_name (i := 7) nd rfl (by first | exact Or.inl rfl | exact Or.inr rfl)) pgs_nil)))))))
      (pss_cons (ps_set (i := 8) nd rfl (by first | exact Or.inl rfl | exact Or.inr rfl) (pe_op op_mulW (pv 2) (pe_op op_add (pe_op op_add (pv 2) (pe_op op_mulW (pv 3) (pv 1))) (pv 5))))
      (pss_one (ps_ret (pe_op op_sub (pe_op op_sub (pe_op op_sub (pe_op op_sub (pv 8) (pe_op op_pow (pv 1) pe_int)) (pe_op op_mulW (pe_op op_mulW (pv 4) (pv 1)) (pv 1))) (pe_op op_mulW (pv 6) (pv 1))) (pv 7)))))), ?_⟩
    obtain ⟨h1, h2, h3, h4, h6⟩ := hm
    have p3 : B 70 (x ^ (3 : Int).toNat) := (hx.pow 3).up (by decide)
    refine ⟨_, rfl, p, _, rfl, hp, rfl, _, _, rfl, _, _, rfl, _, _, rfl, _, _, rfl, _, _, rfl, rfl, ?_⟩
    first | refine sigN [some (.ref p), some (.int (x)), some (.int (y)), some (.int (d.a1)), some (.int (d.a2)), some (.int (d.a3)), some (.int (d.a4)), some (.int (d.a6)), none] (by rfl) ?_ | refine sig [some (.ref p), some (.int (x)), some (.int (y)), some (.int (d.a1)), some (.int (d.a2)), some (.int (d.a3)), some (.int (d.a4)), some (.int (d.a6)), none] (by rfl) ?_
    refine ⟨_, rfl, _, rfl, _, rfl, _, rfl, _, _, rfl, rfl, h1.mulW hx (by decide), _, _, rfl, rfl, _, rfl, _, _, rfl, rfl, _, _, rfl, rfl, hy.mulW ((hy.add (h1.mul hx)).add h3) (by decide), ?_⟩
    first | refine sigN [some (.ref p), some (.int (x)), some (.int (y)), some (.int (d.a1)), some (.int (d.a2)), some (.int (d.a3)), some (.int (d.a4)), some (.int (d.a6)), some (.int (y * (y + d.a1 * x + d.a3)))] (by rfl) ?_ | refine sig [some (.ref p), some (.int (x)), some (.int (y)), some (.int (d.a1)), some (.int (d.a2)), some (.int (d.a3)), some (.int (d.a4)), some (.int (d.a6)), some (.int (y * (y + d.a1 * x + d.a3)))] (by rfl) ?_
    refine ⟨_, rfl, _, rfl, _, _, rfl, rfl, ⟨by decide, by decide, hx.up (by decide)⟩, _, _, rfl, rfl, _, rfl, _, rfl, _, _, rfl, rfl, h2.mulW hx (by decide), _, rfl, _, _, rfl, rfl, (h2.mul hx).mulW hx (by decide), _, _, rfl, rfl, _, rfl, _, rfl, _, _, rfl, rfl, h4.mulW hx (by decide), _, _, rfl, rfl, _, rfl, _, _, rfl, rfl, ?_⟩
    have e := side_eq d x y
    rw [← e] at q
    exact q
def sp_law_slopes (K : PySem.W.Frag) : Sp := fun vs H Q _ => ∃ (p : Addr) (d : Cv) (x y : Int), vs = [.ref p, .int x, .int y] ∧ SqT K H p d.tup ∧ d.Md ∧ B 20 x ∧ B 20 y ∧ ∀ t, H t = none → Q (.ref t) (upd H t (.tup [.int (-FlM.f2 (fc d) x y), .int (FlM.f1 (fc d) x y)]))
abbrev s__law_slopes : Stmt := topS 92
theorem sc__law_slopes : FnScope ["five_v", "x", "y", "a", "b", "c", "d", "e"] ["five_v", "x", "y"] (defScope s__law_slopes) := ⟨rfl, rfl, rfl, by decide +kernel, rfl, by decide +kernel, by decide +kernel⟩
theorem k_law_slopes (T : Tx K mg) (D : Df K mg "_law_slopes" s__law_slopes ["five_v", "x", "y"])  : Kl P w K mg base 1 "_law_slopes" (sp_law_slopes K) := by
  have nd := sc__law_slopes.nd
  refine Kl.by_body D sc__law_slopes (fun vs H Q E h => ?_) (fun f cdv A outer s H vs Q E hr h => ?_)
  · obtain ⟨_, _, _, _, rfl, _⟩ := h
    rfl
  · obtain ⟨p, d, x, y, rfl, hp, hm, hx, hy, q⟩ := h
    have hu1 := hu_of hr
    refine ⟨_, (pss_cons (ps_asg (pv 0) (pg_tup rfl (pgs_cons (pg_name (i := 3) nd rfl (by first | exact Or.inl rfl | exact Or.inr rfl)) (pgs_cons (pg_name (i := 4) nd rfl (by first | exact Or.inl rfl | exact Or.inr rfl)) (pgs_cons (pg_name (i := 5) nd rfl (by first | exact Or.inl rfl | exact Or.inr rfl)) (pgs_cons (pg_name (i := 6) nd rfl (by first | exact Or.inl rfl | exact Or.inr rfl)) (pgs_cons (pg_name (i := 7) nd rfl (by first | exact Or.inl rfl | exact Or.inr rfl)) pgs_nil)))))))
      (pss_one (ps_ret (pe_tup (pa_cons (pe_op op_sub (pe_op op_sub (pe_op op_sub (pe_op op_mulW (pv 3) (pv 2)) (pe_op op_mulW (pe_op op_mul pe_int (pv 1)) (pv 1))) (pe_op op_mulW (pe_op op_mul pe_int (pv 4)) (pv 1))) (pv 6)) (pa_cons (pe_op op_add (pe_op op_add (pe_op op_mul pe_int (pv 2)) (pe_op op_mulW (pv 3) (pv 1))) (pv 5)) pa_nil)))))), ?_⟩
    obtain ⟨h1, h2, h3, h4, h6⟩ := hm
    refine ⟨_, rfl, p, _, rfl, hp, rfl, _, _, rfl, _, _, rfl, _, _, rfl, _, _, rfl, _, _, rfl, rfl, ?_⟩
    first | refine sigN [some (.ref p), some (.int (x)), some (.int (y)), some (.int (d.a1)), some (.int (d.a2)), some (.int (d.a3)), some (.int (d.a4)), some (.int (d.a6))] (by rfl) ?_ | refine sig [some (.ref p), some (.int (x)), some (.int (y)), some (.int (d.a1)), some (.int (d.a2)), some (.int (d.a3)), some (.int (d.a4)), some (.int (d.a6))] (by rfl) ?_
    refine ⟨_, rfl, _, rfl, _, _, rfl, rfl, (by walk_at "bnd"), _, rfl, _, _, rfl, rfl, (Or.inl ⟨by decide, by decide⟩), _, rfl, _, _, rfl, rfl, (by walk_at "bnd"), _, _, rfl, rfl, _, rfl, _, _, rfl, rfl, (Or.inl ⟨by decide, by decide⟩), _, rfl, _, _, rfl, rfl, (by walk_at "bnd"), _, _, rfl, rfl, _, rfl, _, _, rfl, rfl, _, rfl, _, _, rfl, rfl, (Or.inl ⟨by decide, by decide⟩), _, rfl, _, rfl, _, _, rfl, rfl, (by walk_at "bnd"), _, _, rfl, rfl, _, rfl, _, _, rfl, rfl, (by show 2 ≤ sizeLine; decide), fun t nt => ?_⟩
    have := q t nt
    rw [← slope_eq] at this
    exact this
end
end K15
set_option linter.all false
/-! points of y y = x x x + a x x + b x + c over the fractions: plain Lean -/
namespace EcM
open QM
structure Ec where
  a : Int
  b : Int
  c : Int
abbrev Pt := Option (Rat × Rat)
def Ec.f (e : Ec) (x : Rat) : Rat := x * x * x + (e.a : Rat) * x * x + (e.b : Rat) * x + (e.c : Rat)
def On (e : Ec) : Pt → Prop
  | none => True
  | some (x, y) => y * y = e.f x
def neg : Pt → Pt
  | none => none
  | some (x, y) => some (x, -y)
/-- the slope -/
def slo (e : Ec) (x y u v : Rat) : Rat := if x = u ∧ y = v then (3 * (x * x) + (((2 * e.a : Int) : Rat) * x + (e.b : Rat))) / (2 * y) else (v - y) / (u - x)
def px (e : Ec) (k x u : Rat) : Rat := k * k - (e.a : Rat) - x - u
def sum (e : Ec) : Pt → Pt → Pt
  | none, Q => Q
  | some P, none => some P
  | some (x, y), some (u, v) => if x = u ∧ -y = v then none else
      some (px e (slo e x y u v) x u, -(y + slo e x y u v * (px e (slo e x y u v) x u - x)))
theorem On.neg {e : Ec} {P : Pt} (h : On e P) : On e (neg P) := by
  match P, h with
  | none, _ => trivial
  | some (x, y), h =>
    show -y * -y = e.f x
    have h' : y * y = e.f x := h
    grind
theorem same_x {e : Ec} {x y v : Rat} (h : y * y = e.f x) (k : v * v = e.f x) : y = v ∨ -y = v := by
  have h1 : (y - v) * (y + v) = 0 := by grind
  rcases Rat.mul_eq_zero.mp h1 with z | z
  · left; grind
  · right; grind
theorem sl_dbl {e : Ec} {x y : Rat} : slo e x y x y = (3 * (x * x) + (((2 * e.a : Int) : Rat) * x + (e.b : Rat))) / (2 * y) := if_pos ⟨rfl, rfl⟩
theorem sl_two {e : Ec} {x y u v : Rat} (h : ¬ (x = u ∧ y = v)) : slo e x y u v = (v - y) / (u - x) := if_neg h
/-- what the slope is, without a fraction -/
theorem slope_is {e : Ec} {x y u v : Rat} (h : y * y = e.f x) (k : v * v = e.f u) (n : ¬ (x = u ∧ -y = v)) :
    (x ≠ u ∧ slo e x y u v * (u - x) = v - y) ∨ (x = u ∧ y = v ∧ y ≠ 0 ∧ slo e x y u v * (2 * y) = 3 * (x * x) + 2 * (e.a : Rat) * x + (e.b : Rat)) := by
  by_cases hx : x = u
  · subst hx
    right
    have hy : y = v := by
      rcases same_x h k with z | z
      · exact z
      · exact absurd ⟨rfl, z⟩ n
    subst hy
    have y0 : y ≠ 0 := fun z => n ⟨rfl, by rw [z]; rfl⟩
    refine ⟨rfl, rfl, y0, ?_⟩
    rw [sl_dbl]
    have e2 : ((2 * e.a : Int) : Rat) = 2 * (e.a : Rat) := by rw [Rat.intCast_mul]; rfl
    rw [e2]
    have h2 : (2 * y : Rat) ≠ 0 := by grind
    rw [Rat.div_mul_cancel h2]
    grind
  · left
    refine ⟨hx, ?_⟩
    rw [sl_two (fun z => hx z.1)]
    have h2 : (u - x : Rat) ≠ 0 := by grind
    rw [Rat.div_mul_cancel h2]
theorem on_two {a b c x y u v k : Rat} (h : y * y = x * x * x + a * x * x + b * x + c) (h2 : v * v = u * u * u + a * u * u + b * u + c) (hx : x ≠ u) (hk : k * (u - x) = v - y) :
    (y + k * ((k * k - a - x - u) - x)) * (y + k * ((k * k - a - x - u) - x)) = (k * k - a - x - u) * (k * k - a - x - u) * (k * k - a - x - u) + a * (k * k - a - x - u) * (k * k - a - x - u) + b * (k * k - a - x - u) + c := by
  have h0 : (u - x : Rat) ≠ 0 := by grind
  have e1 : k * (v + y) = u * u + u * x + x * x + a * (u + x) + b := by
    have : (u - x) * (k * (v + y) - (u * u + u * x + x * x + a * (u + x) + b)) = 0 := by grind
    rcases Rat.mul_eq_zero.mp this with z | z
    · exact absurd z h0
    · grind
  have e2 : v = y + k * (u - x) := by grind
  subst e2
  grind
theorem on_dbl {a b c x y k : Rat} (h : y * y = x * x * x + a * x * x + b * x + c) (hk : k * (2 * y) = 3 * (x * x) + 2 * a * x + b) :
    (y + k * ((k * k - a - x - x) - x)) * (y + k * ((k * k - a - x - x) - x)) = (k * k - a - x - x) * (k * k - a - x - x) * (k * k - a - x - x) + a * (k * k - a - x - x) * (k * k - a - x - x) + b * (k * k - a - x - x) + c := by
  grind
theorem On.sum {e : Ec} {P Q : Pt} (h : On e P) (k : On e Q) : On e (sum e P Q) := by
  match P, Q, h, k with
  | none, Q, _, k => exact k
  | some P, none, h, _ => exact h
  | some (x, y), some (u, v), h, k =>
    show On e (if x = u ∧ -y = v then none else _)
    split
    · trivial
    · rename_i n
      show -(y + _) * -(y + _) = _
      have h' : y * y = x * x * x + (e.a : Rat) * x * x + (e.b : Rat) * x + (e.c : Rat) := h
      have k' : v * v = u * u * u + (e.a : Rat) * u * u + (e.b : Rat) * u + (e.c : Rat) := k
      rcases slope_is h k n with ⟨hx, hk⟩ | ⟨rfl, rfl, y0, hk⟩
      · have := on_two h' k' hx hk
        unfold px Ec.f
        rw [Rat.neg_mul, Rat.mul_neg, Rat.neg_neg]
        exact this
      · have := on_dbl h' hk
        unfold px Ec.f
        rw [Rat.neg_mul, Rat.mul_neg, Rat.neg_neg]
        exact this
end EcM
set_option linter.all false
/-! sizes of points: plain Lean -/
namespace EcM
open QM
/-- below 2 ^ n -/
def Z (n : Nat) (x : Int) : Prop := x.natAbs < 2 ^ n
theorem Z.up {m n : Nat} {x : Int} (h : Z m x) (k : m ≤ n) : Z n x := Nat.lt_of_lt_of_le h (Nat.pow_le_pow_right (by decide) k)
theorem Z.mul {m n : Nat} {x y : Int} (h : Z m x) (k : Z n y) : Z (m + n) (x * y) := by
  unfold Z
  rw [Int.natAbs_mul]
  exact pmul h k
theorem Z.add {m n : Nat} {x y : Int} (h : Z m x) (k : Z m y) (e : m + 1 ≤ n) : Z n (x + y) := by
  refine Z.up (m := m + 1) ?_ e
  unfold Z at *
  rw [Nat.pow_succ]
  omega
theorem Z.sub {m n : Nat} {x y : Int} (h : Z m x) (k : Z m y) (e : m + 1 ≤ n) : Z n (x - y) := by
  refine Z.up (m := m + 1) ?_ e
  unfold Z at *
  rw [Nat.pow_succ]
  omega
theorem Z.lit {n : Nat} {x : Int} (h : x.natAbs < 2 ^ n) : Z n x := h
structure Ec.Bd (e : Ec) (g : Nat) : Prop where
  g2 : 2 ≤ g
  a : Z g e.a
  b : Z g e.b
  c : Z g e.c
def HB (h : Nat) : Pt → Prop
  | none => True
  | some (x, _) => RB h x
theorem HB.up {h k : Nat} {P : Pt} (z : HB h P) (l : h ≤ k) : HB k P := by
  match P, z with
  | none, _ => trivial
  | some (x, y), z => exact RB.up z l
/-! ### squares -/
/-- the whole root of n, if there is one -/
def SqR (n : Int) : Option Int → Prop
  | some r => 0 ≤ r ∧ r * r = n
  | none => ∀ r : Int, r * r ≠ n
theorem sq_inj {r s : Int} (h : 0 ≤ r) (k : 0 ≤ s) (e : r * r = s * s) : r = s := by
  have e2 : r.natAbs * r.natAbs = s.natAbs * s.natAbs := by rw [← Int.natAbs_mul, ← Int.natAbs_mul, e]
  have := Nat.mul_self_inj.mp e2
  omega
theorem SqR.uniq {n : Int} {o p : Option Int} (h : SqR n o) (k : SqR n p) : o = p := by
  match o, p, h, k with
  | none, none, _, _ => rfl
  | none, some r, h, k => exact absurd k.2 (h r)
  | some r, none, h, k => exact absurd h.2 (k r)
  | some r, some s, h, k => exact congrArg some (sq_inj h.1 k.1 (h.2.trans k.2.symm))
/-- the root of a fraction, if there is one -/
def SqQ (a : Rat) : Option Rat → Prop
  | some r => 0 ≤ r ∧ r * r = a
  | none => ∀ r : Rat, r * r ≠ a
theorem nn_num {r : Rat} (h : 0 ≤ r) : 0 ≤ r.num := Rat.num_nonneg.mpr h
theorem sq_num (r : Rat) : (r * r).num = r.num * r.num ∧ (((r * r).den : Nat) : Int) = (r.den : Int) * (r.den : Int) := by
  have e : r * r = r ^ 2 := by rw [Rat.pow_succ, Rat.pow_succ, Rat.pow_zero, Rat.one_mul]
  rw [e, npow, dpow]
  refine ⟨by rw [Int.pow_succ, Int.pow_succ, Int.pow_zero, Int.one_mul], ?_⟩
  rw [Nat.pow_succ, Nat.pow_succ, Nat.pow_zero, Nat.one_mul]
  exact_mod_cast rfl
theorem SqQ.uniq {n : Rat} {o p : Option Rat} (h : SqQ n o) (k : SqQ n p) : o = p := by
  match o, p, h, k with
  | none, none, _, _ => rfl
  | none, some r, h, k => exact absurd k.2 (h r)
  | some r, none, h, k => exact absurd h.2 (k r)
  | some r, some s, h, k =>
    have e := h.2.trans k.2.symm
    obtain ⟨a1, a2⟩ := sq_num r
    obtain ⟨b1, b2⟩ := sq_num s
    rw [e] at a1 a2
    have e1 := sq_inj (nn_num h.1) (nn_num k.1) (a1.symm.trans b1)
    have e2 := sq_inj (r := (r.den : Int)) (s := (s.den : Int)) (by omega) (by omega) (a2.symm.trans b2)
    exact congrArg some (Rat.ext e1 (by omega))
/-- out of the roots of its numbers -/
theorem SqQ.of {a : Rat} {n d : Int} (h : SqR a.num (some n)) (k : SqR (a.den : Int) (some d)) : ∃ r : Rat, SqQ a (some r) ∧ r.num = n ∧ (r.den : Int) = d := by
  obtain ⟨h1, h2⟩ := h
  obtain ⟨k1, k2⟩ := k
  have d0 : d ≠ 0 := fun z => den_ne a (by rw [← k2, z]; rfl)
  have c : Nat.Coprime n.natAbs d.natAbs := by
    have e1 : n.natAbs * n.natAbs = a.num.natAbs := by rw [← Int.natAbs_mul, h2]
    have e2 : d.natAbs * d.natAbs = a.den := by
      have := congrArg Int.natAbs k2
      rw [Int.natAbs_mul, Int.natAbs_natCast] at this
      exact this
    have c0 : Nat.Coprime (n.natAbs * n.natAbs) (d.natAbs * d.natAbs) := by
      rw [e1, e2]
      exact a.reduced
    exact Nat.Coprime.coprime_dvd_left (Nat.dvd_mul_left _ _) (Nat.Coprime.coprime_dvd_right (Nat.dvd_mul_left _ _) c0)
  refine ⟨⟨n, d.natAbs, by omega, c⟩, ⟨Rat.num_nonneg.mp h1, ?_⟩, rfl, by show ((d.natAbs : Nat) : Int) = d; omega⟩
  obtain ⟨a1, a2⟩ := sq_num (⟨n, d.natAbs, by omega, c⟩ : Rat)
  refine Rat.ext (a1.trans h2) ?_
  have e3 : ((d.natAbs : Nat) : Int) * ((d.natAbs : Nat) : Int) = d * d := by rw [Int.natAbs_mul_self']
  have : (((⟨n, d.natAbs, by omega, c⟩ : Rat) * ⟨n, d.natAbs, by omega, c⟩).den : Int) = (a.den : Int) := a2.trans (e3.trans k2)
  omega
end EcM
set_option Elab.async false
set_option linter.all false
set_option maxRecDepth 100000
/-! None in a list of tuples and None -/
namespace L2
open PySem PySem.Spec PyProof.Rows
def NoneT (K : PySem.W.Frag) (H : Hp) (z : V) : Prop := z = .non ∨ ∃ a xs, z = .ref a ∧ SqT K H a xs
section
variable {X : Cx}
def rNoneInT (K : PySem.W.Frag) : R2 := fun x y H Q => ∃ p xs, x = .non ∧ y = .ref p ∧ SqL K H p xs ∧ (∀ z ∈ xs, NoneT K H z) ∧ Q (.bl (xs.any isNon)) H
end
end L2
set_option Elab.async false
set_option linter.all false
set_option maxRecDepth 100000
set_option maxHeartbeats 4000000
namespace EcP
open PySem PySem.Spec PyProof.Rows L2 Gd QM EcM
/-! ### points as they stand -/
def PtT (K : PySem.W.Frag) (H : Hp) (p : Addr) : Pt → Prop
  | none => SqT K H p []
  | some (x, y) => ∃ a b, SqT K H p [.ref a, .ref b] ∧ SqT K H a (fq x) ∧ SqT K H b (fq y)
theorem PtT.same {K : PySem.W.Frag} {H H' : Hp} {p : Addr} {P : Pt} (h : PtT K H p P) (s : Same H H') : PtT K H' p P := by
  match P, h with
  | none, h => exact Same.tup s h
  | some (x, y), ⟨a, b, h1, h2, h3⟩ => exact ⟨a, b, Same.tup s h1, Same.tup s h2, Same.tup s h3⟩
def dP : Pt → PyData
  | none => .tuple []
  | some (x, y) => .tuple [dq x, dq y]
theorem ix_tupK {X : Cx} {K : PySem.W.Frag} (h : X.K = K) : IxR X (rIxT K) := h ▸ ix_tup
theorem op_eqDK {X : Cx} {K : PySem.W.Frag} (h : X.K = K) (hu : X.A.units + 64 < cLine) : OpR X (compareOp .Eq) (rEqD K) := h ▸ op_eqD hu
/-! ### a concord -/
abbrev C3 := Rat × Rat × Rat
def comb : Option Rat → Option Rat → Option Rat → Option C3
  | some a, some b, some c => some (a, b, c)
  | _, _, _ => none
def Con (m n : Int) : Pt → Option C3 → Prop
  | none, o => o = none
  | some (x, _), o => (x = 0 ∧ o = none) ∨ (x ≠ 0 ∧ ∃ r0 r1 r2, SqQ x r0 ∧ SqQ (x + (m : Rat)) r1 ∧ SqQ (x + (n : Rat)) r2 ∧ o = comb r0 r1 r2)
theorem Con.uniq {m n : Int} {P : Pt} {o p : Option C3} (h : Con m n P o) (k : Con m n P p) : o = p := by
  match P, h, k with
  | none, h, k => exact h.trans k.symm
  | some (x, y), h, k =>
    rcases h with ⟨h0, rfl⟩ | ⟨h0, r0, r1, r2, a0, a1, a2, rfl⟩ <;> rcases k with ⟨k0, rfl⟩ | ⟨k0, s0, s1, s2, b0, b1, b2, rfl⟩
    · rfl
    · exact absurd h0 k0
    · exact absurd k0 h0
    · rw [a0.uniq b0, a1.uniq b1, a2.uniq b2]
def TrT (K : PySem.W.Frag) (H : Hp) (p : Addr) (c : C3) : Prop := ∃ a b d, SqT K H p [.ref a, .ref b, .ref d] ∧ SqT K H a (fq c.1) ∧ SqT K H b (fq c.2.1) ∧ SqT K H d (fq c.2.2)
theorem TrT.same {K : PySem.W.Frag} {H H' : Hp} {p : Addr} {c : C3} (h : TrT K H p c) (s : Same H H') : TrT K H' p c := by
  obtain ⟨a, b, d, h1, h2, h3, h4⟩ := h
  exact ⟨a, b, d, Same.tup s h1, Same.tup s h2, Same.tup s h3, Same.tup s h4⟩
def TrO (K : PySem.W.Frag) (H : Hp) (v : V) : Option C3 → Prop
  | none => v = .non
  | some c => ∃ p, v = .ref p ∧ TrT K H p c
theorem TrO.same {K : PySem.W.Frag} {H H' : Hp} {v : V} {c : Option C3} (h : TrO K H v c) (s : Same H H') : TrO K H' v c := by
  match c, h with
  | none, h => exact h
  | some c, ⟨p, h1, h2⟩ => exact ⟨p, h1, h2.same s⟩
/-- a root as it stands -/
def RtO (H : Hp) (v : V) : Option Rat → Prop
  | none => v = .non
  | some r => ∃ a, v = .ref a ∧ H a = some (.tup (fq r))
theorem RtO.same {H H' : Hp} {v : V} {o : Option Rat} (h : RtO H v o) (s : Same H H') : RtO H' v o := by
  match o, h with
  | none, h => exact h
  | some c, ⟨p, h1, h2⟩ => exact ⟨p, h1, s _ _ h2⟩
theorem RtO.put {H : Hp} {D : Addr} {l : List V} {o : HO} {v : V} {c : Option Rat} (h : RtO H v c) (hD : H D = some (.lst l)) : RtO (upd H D o) v c := by
  match c, h with
  | none, h => exact h
  | some c, ⟨p, h1, h2⟩ =>
    refine ⟨p, h1, ?_⟩
    rw [upd_ne (ne_of h2 hD (by intro z; cases z))]
    exact h2
theorem RtO.nt {K : PySem.W.Frag} {H : Hp} {v : V} {o : Option Rat} (h : RtO H v o) : NoneT K H v := by
  match o, h with
  | none, h => exact .inl h
  | some c, ⟨p, h1, h2⟩ => exact .inr ⟨p, _, h1, tup_of h2⟩
/-- the list of roots that is being made -/
def RtD (H : Hp) (D : Addr) (x : Rat) (ks : List Int) (i : Nat) : Prop := ∃ L : List V, H D = some (.lst L) ∧ L.length = i ∧ ∀ (j : Nat) (k : Int) (v : V), ks[j]? = some k → L[j]? = some v → ∃ o, SqQ (x + (k : Rat)) o ∧ RtO H v o
theorem RtD.new {H : Hp} {D : Addr} {x : Rat} {ks : List Int} : RtD (upd H D (.lst [])) D x ks 0 := ⟨[], upd_same, rfl, fun j k v _ h => by simp at h⟩
theorem RtD.push {H H' : Hp} {D : Addr} {x : Rat} {ks : List Int} {i : Nat} {k : Int} {v : V} {o : Option Rat} (h : RtD H D x ks i) (s : Same H H') (hk : ks[i]? = some k) (hq : SqQ (x + (k : Rat)) o) (hv : RtO H' v o) (hi : i < 1000) :
    ∃ acc, H' D = some (.lst acc) ∧ acc.length < sizeLine ∧ RtD (upd H' D (.lst (acc ++ [v]))) D x ks (i + 1) := by
  obtain ⟨L, h1, h2, h3⟩ := h
  have h1' := s _ _ h1
  refine ⟨L, h1', small1000 (by omega), L ++ [v], upd_same, by rw [List.length_append, h2]; rfl, fun j k' v' hk' hj => ?_⟩
  rcases Nat.lt_or_ge j L.length with z | z
  · rw [List.getElem?_append_left z] at hj
    obtain ⟨o', q1, q2⟩ := h3 j k' v' hk' hj
    exact ⟨o', q1, (q2.same s).put h1'⟩
  · rw [List.getElem?_append_right z] at hj
    have ej : j - L.length = 0 := by
      rcases Nat.eq_zero_or_pos (j - L.length) with q | q
      · exact q
      · rw [List.getElem?_eq_none (by simp; omega)] at hj
        cases hj
    rw [ej] at hj
    obtain rfl := Option.some.inj hj
    have e2 : j = i := by omega
    subst e2
    rw [hk] at hk'
    obtain rfl := Option.some.inj hk'
    exact ⟨o, hq, hv.put h1'⟩
theorem RtD.three {H : Hp} {D : Addr} {x : Rat} {a b c : Int} (h : RtD H D x [a, b, c] 3) : ∃ u v w o p q, H D = some (.lst [u, v, w]) ∧ SqQ (x + (a : Rat)) o ∧ SqQ (x + (b : Rat)) p ∧ SqQ (x + (c : Rat)) q ∧ RtO H u o ∧ RtO H v p ∧ RtO H w q := by
  obtain ⟨L, h1, h2, h3⟩ := h
  match L, h2 with
  | [u, v, w], _ =>
    obtain ⟨o, o1, o2⟩ := h3 0 a u rfl rfl
    obtain ⟨p, p1, p2⟩ := h3 1 b v rfl rfl
    obtain ⟨q, q1, q2⟩ := h3 2 c w rfl rfl
    exact ⟨u, v, w, o, p, q, h1, o1, p1, q1, o2, p2, q2⟩
end EcP
set_option Elab.async false
set_option linter.all false
set_option maxRecDepth 100000
set_option maxHeartbeats 4000000
namespace K15
open PySem PySem.Spec PyProof.Rows L2 Gd QM K45M EcZ SvM PaM K40 DpM
/-! ### the primes below 200 -/
def bad (p j : Nat) : List Nat := ((List.range j).map (2 + ·)).filter fun q => decide (q * q ≤ p) && decide (p % q = 0)
def PLt (j : Nat) : List Nat := ((List.range j).map (2 + ·)).filter fun p => (bad p (p - 2)).isEmpty
def PL : List Nat := [2, 3, 5, 7, 11, 13, 17, 19, 23, 29, 31, 37, 41, 43, 47, 53, 59, 61, 67, 71, 73, 79, 83, 89, 97, 101, 103, 107, 109, 113, 127, 131, 137, 139, 149, 151, 157, 163, 167, 173, 179, 181, 191, 193, 197, 199]
theorem pl_is : PLt 198 = PL := by decide +kernel
theorem bad_succ (p j : Nat) : bad p (j + 1) = bad p j ++ (if (2 + j) * (2 + j) ≤ p ∧ p % (2 + j) = 0 then [2 + j] else []) := by
  unfold bad
  rw [List.range_succ, List.map_append, List.filter_append]
  congr 1
  show List.filter _ [2 + j] = _
  rw [List.filter_cons]
  by_cases h1 : (2 + j) * (2 + j) ≤ p
  · by_cases h2 : p % (2 + j) = 0
    · simp [h1, h2]
    · simp [h1, h2]
  · simp [h1]
theorem plt_succ (j : Nat) : PLt (j + 1) = PLt j ++ (if bad (2 + j) j = [] then [2 + j] else []) := by
  unfold PLt
  rw [List.range_succ, List.map_append, List.filter_append]
  congr 1
  show List.filter _ [2 + j] = _
  rw [List.filter_cons, show 2 + j - 2 = j by omega]
  by_cases h1 : bad (2 + j) j = []
  · simp [h1]
  · simp [h1]
theorem bad_len (p j : Nat) : (bad p j).length ≤ j := by
  unfold bad
  refine Nat.le_trans (List.length_filter_le ..) ?_
  rw [List.length_map, List.length_range]
  exact Nat.le_refl _
theorem plt_len (j : Nat) : (PLt j).length ≤ j := by
  unfold PLt
  refine Nat.le_trans (List.length_filter_le ..) ?_
  rw [List.length_map, List.length_range]
  exact Nat.le_refl _
def chkL : Bool := PL.all fun n => FlM.chkP n && decide (1 < n) && decide (n < 200) && (n == 2 || n == 3 || (n % 2 == 1 && decide (12 % n ≠ 0)))
theorem chk_l : chkL = true := by decide +kernel
theorem pw_of {n : Nat} (h : n ∈ PL) : Pw n := by
  have k := List.all_eq_true.mp chk_l n h
  simp only [Bool.and_eq_true, Bool.or_eq_true, decide_eq_true_iff, beq_iff_eq] at k
  obtain ⟨⟨⟨k1, k2⟩, k3⟩, k4⟩ := k
  have pp := FlM.pp_of k2 k1
  rcases k4 with (rfl | rfl) | ⟨k5, k6⟩
  · exact ⟨pp, k3, .inl rfl, FlM.pq_2.fl⟩
  · exact ⟨pp, k3, .inr rfl, FlM.pq_3.fl⟩
  · have ho : (n : Int) % 2 = 1 := by omega
    refine ⟨pp, k3, .inr ho, fun c hd => FlM.fl_5 ⟨pp, ho, pp.2 12 fun z => k6 ?_⟩ hd⟩
    have h1 := Int.emod_eq_zero_of_dvd (Mo.zero.mp z)
    have h2 : ((12 % n : Nat) : Int) = 0 := by rw [Int.natCast_emod]; exact h1
    omega
theorem ints_nil (ns : List Nat) : PyData.eqv (.list ((ns.map fun (k : Nat) => (k : Int)).map PyData.int)) (.list []) = ns.isEmpty := by
  cases ns <;> rfl
section
variable {P : Program} {w : World} {K : PySem.W.Frag} {mg : Str → Option Value} {base : Heap}
def natV (ns : List Nat) : List V := (ns.map fun (k : Nat) => (k : Int)).map V.int
def sp_law_primes (K : PySem.W.Frag) : Sp := fun vs H Q _ => vs = [.int 199] ∧ ∀ H' t, Same H H' → H' t = some (.lst (natV PL)) → Q (.ref t) H'
abbrev s__law_primes : Stmt := topS 90
theorem sc__law_primes : FnScope ["most", "p", "q"] ["most"] (defScope s__law_primes) := ⟨rfl, rfl, rfl, by decide +kernel, rfl, by decide +kernel, by decide +kernel⟩
theorem k_law_primes (T : Tx K mg) (D : Df K mg "_law_primes" s__law_primes ["most"])  : Kl P w K mg base 1 "_law_primes" (sp_law_primes K) := by
  have nd := sc__law_primes.nd
  refine Kl.by_body D sc__law_primes (fun vs H Q E h => ?_) (fun f cdv A outer s H vs Q E hr h => ?_)
  · obtain ⟨rfl, _⟩ := h
    rfl
  · obtain ⟨rfl, q⟩ := h
    have hu1 := hu_of hr
    refine ⟨_, (pss_one (ps_ret (pe_lc (own := [("p", 1)]) (g := gName 1) rfl nd (pi_range2 (by rfl) T.range (pa_cons pe_int (pa_cons (pe_op op_add (pv 0) pe_int) pa_nil))) (blkOk_by (N := ["most", "p", "q"]) (sc := defScope s__law_primes) (by decide +kernel)) (fun _ _ _ _ _ => (pg_name (i := 1) nd rfl (by first | exact Or.inl rfl | exact Or.inr rfl))) (fun _ _ _ _ _ => (pts_one (pt_cmpR (EcP.op_eqDK (K:=K) rfl hr.units) (pe_lc (own := [("q", 2)]) (g := gName 2) rfl nd (pi_range2 (by rfl) T.range (pa_cons pe_int (pa_cons (pv 1) pa_nil))) (by refine blkOk_by (N := ["most", "p", "q"]) (sc := relS _ (defScope s__law_primes)) ?_; decide +kernel) (fun _ _ _ _ _ => (pg_name (i := 2) nd rfl (by first | exact Or.inl rfl | exact Or.inr rfl))) (fun _ _ _ _ _ => (pts_one (PW.pt (pw_and (pt_cmpR op_le (pe_op op_mulW (pv 2) (pv 2)) (pv 1) (nomark _)) (pw_and1 (pt_cmpR op_eq (pe_op op_mod (pe_callTy call_intI (by rfl) T.int (by decide +kernel) (pa_cons (pv 1) pa_nil)) (pv 2)) pe_int (nomark _))))))) (fun _ _ _ _ _ => (pv 2))) (pe_lst pa_nil) (nomark _)))) (fun _ _ _ _ _ => (pv 1))))), ?_⟩
    refine ⟨_, rfl, _, _, rfl, rfl, _, _, rfl, ⟨by decide, by decide, by decide, by decide⟩, fun D nD => ?_⟩
    refine lc_range (lo := 2) (n := 198) (fun i H4 => Same H H4 ∧ H4 D = some (.lst (natV (PLt i)))) ⟨Same.new nD, upd_same⟩ (fun i H4 hi z => ?_) (fun H4 z => ?_)
    · obtain ⟨s4, g4⟩ := z
      refine ⟨rfl, _, rfl, _, _, rfl, ⟨by decide, by decide, by omega, by omega⟩, fun E nE => ?_⟩
      refine lc_range (lo := 2) (n := ((2 : Int) + (i : Int) - 2).toNat) (fun j H5 => Same H4 H5 ∧ H5 E = some (.lst (natV (bad (2 + i) j)))) ⟨Same.new nE, upd_same⟩ (fun j H5 hj z => ?_) (fun H5 z => ?_)
      · obtain ⟨s5, g5⟩ := z
        have jB : B 10 ((2 : Int) + (j : Int)) := by
          unfold Gd.B
          omega
        have bl := bad_len (2 + i) j
        refine ⟨rfl, _, rfl, _, rfl, _, _, rfl, rfl, jB.mulW jB (by decide), _, rfl, _, _, rfl, rfl, _, rfl, ?_⟩
        have e1 : (2 + (j : Int)) * (2 + (j : Int)) = (((2 + j) * (2 + j) : Nat) : Int) := by
          rw [Int.natCast_mul]
          rfl
        have no : ¬ ((2 + j) * (2 + j) ≤ 2 + i ∧ (2 + i) % (2 + j) = 0) → Same H4 H5 ∧ H5 E = some (.lst (natV (bad (2 + i) (j + 1)))) := fun z => ⟨s5, by rw [bad_succ, if_neg z, List.append_nil]; exact g5⟩
        by_cases h1 : (2 + j) * (2 + j) ≤ 2 + i
        · refine iteY (decide_eq_true (by rw [e1]; omega)) ?_
          refine ⟨_, rfl, _, rfl, _, rfl, _, _, rfl, rfl, (by omega : (0 : Int) < 2 + (j : Int)), rfl, _, rfl, ?_⟩
          rw [dec_int]
          have e2 : ((2 : Int) + (i : Int)) % (2 + (j : Int)) = (((2 + i) % (2 + j) : Nat) : Int) := by
            rw [Int.natCast_emod]
            rfl
          by_cases h2 : (2 + i) % (2 + j) = 0
          · refine iteY (by rw [e2, h2]; rfl) ?_
            refine ⟨_, rfl, _, g5, ?_, Same.put s5 nE, ?_⟩
            · unfold natV
              rw [List.length_map, List.length_map]
              exact small1000 (by omega)
            · rw [upd_same, bad_succ, if_pos ⟨h1, h2⟩]
              unfold natV
              rw [List.map_append, List.map_append]
              rfl
          · refine iteN (by rw [e2]; simp only [beq_iff_eq]; omega) ?_
            exact no fun z => h2 z.2
        · refine iteN (by simp; rw [e1]; omega) ?_
          exact no fun z => h1 z.1
      · obtain ⟨s5, g5⟩ := z
        rw [show ((2 : Int) + (i : Int) - 2).toNat = i by omega] at g5
        refine ⟨(by show 0 ≤ sizeLine; decide), fun t nt => ?_⟩
        have s6 := Same.new (H := H5) (p := t) (o := .lst []) nt
        have g6 : upd H5 t (.lst []) t = some (.lst []) := upd_same
        generalize upd H5 t (.lst []) = H6 at s6 g6 ⊢
        have s46 := s5.trans s6
        have gD := s46 _ _ g4
        have pl := plt_len i
        refine ⟨_, _, .lst (lst_of (s6 _ _ g5)) (DpM.ofInts _), .lst (lst_of g6) .nil, ints_sh _, rfl, _, rfl, ?_⟩
        rw [ints_nil]
        by_cases h : bad (2 + i) i = []
        · refine iteY (by rw [h]; rfl) ?_
          refine ⟨_, rfl, _, gD, ?_, Same.put (s4.trans s46) nD, ?_⟩
          · unfold natV
            rw [List.length_map, List.length_map]
            exact small1000 (by omega)
          · rw [upd_same, plt_succ, if_pos h]
            unfold natV
            rw [List.map_append, List.map_append]
            rfl
        · refine iteN (by simpa using h) ?_
          refine ⟨s4.trans s46, ?_⟩
          rw [plt_succ, if_neg h, List.append_nil]
          exact gD
    · obtain ⟨s4, g4⟩ := z
      rw [pl_is] at g4
      exact q _ D s4 g4
end
end K15
set_option Elab.async false
set_option linter.all false
set_option maxRecDepth 100000
set_option maxHeartbeats 4000000
namespace K15
open PySem PySem.Spec PyProof.Rows L2 Gd QM K45M EcZ SvM PaM K40 DpM
local macro_rules | `(tactic| walk_at "bd") => `(tactic| (repeat (first | assumption | apply B.add | apply B.sub | apply B.mul | apply B.neg | exact B.lit (n := 8) (by decide))))
local macro_rules | `(tactic| walk_at "bnd") => `(tactic| (apply B.mulW; walk_at "bd"; decide))
/-- the law's three sides -/
def sides (d : Cv) (x y : Int) : List Int := [lhs (fc d) x y, -FlM.f2 (fc d) x y, FlM.f1 (fc d) x y]
def left (n : Nat) (zs : List Int) : List Int := zs.filter fun z => !decide (z % (n : Int) = 0)
def sgB (n : Nat) (d : Cv) (p : Int × Int) : Bool := (left n (sides d p.1 p.2)).isEmpty
theorem sgB_iff {n : Nat} {d : Cv} {x y : Int} : sgB n d (x, y) = true ↔ (n : Int) ∣ lhs (fc d) x y ∧ (n : Int) ∣ FlM.f1 (fc d) x y ∧ (n : Int) ∣ FlM.f2 (fc d) x y := by
  unfold sgB left sides
  rw [List.isEmpty_iff, List.filter_eq_nil_iff]
  simp only [List.mem_cons, List.not_mem_nil, or_false, forall_eq_or_imp, forall_eq, Bool.not_eq_true', decide_eq_false_iff_not, Classical.not_not, Int.dvd_iff_emod_eq_zero]
  have e : (-FlM.f2 (fc d) x y) % (n : Int) = 0 ↔ FlM.f2 (fc d) x y % (n : Int) = 0 := by
    rw [← Int.dvd_iff_emod_eq_zero, ← Int.dvd_iff_emod_eq_zero, Int.dvd_neg]
  rw [e]
  exact ⟨fun h => ⟨h.1, h.2.2, h.2.1⟩, fun h => ⟨h.1, h.2.2, h.2.1⟩⟩
theorem left_nil (ns : List Int) : PyData.eqv (.list (ns.map PyData.int)) (.list []) = ns.isEmpty := by
  cases ns <;> rfl
/-- pairs of digits among which all singular points stand -/
structure Nr (n : Nat) (c : C5) (qs : List (Int × Int)) : Prop where
  nd : qs.Nodup
  dg : ∀ x y, (x, y) ∈ qs → Dg (n : Int) x ∧ Dg (n : Int) y
  all : ∀ x y, FlM.Sg (n : Int) c x y → (x, y) ∈ qs
theorem Nr.one {n : Nat} {d : Cv} {qs : List (Int × Int)} (h : Nr n (fc d) qs) {x y : Int} (f : FlM.Fl n (fc d) x y) : qs.filter (sgB n d) = [(x, y)] := by
  have hm : ∀ p, p ∈ qs.filter (sgB n d) ↔ p = (x, y) := by
    rintro ⟨u, v⟩
    rw [List.mem_filter, sgB_iff]
    constructor
    · rintro ⟨h1, h2, h3, h4⟩
      obtain ⟨k1, k2⟩ := h.dg u v h1
      obtain ⟨rfl, rfl⟩ := f.uniq u v ⟨k1, k2, h2, h3, h4⟩
      rfl
    · intro e
      obtain ⟨rfl, rfl⟩ := Prod.mk.inj e
      exact ⟨h.all u v f.sg, f.sg.on, f.sg.h1, f.sg.h2⟩
  exact List.perm_singleton.mp ((List.perm_ext_iff_of_nodup (h.nd.filter _) (by simp)).mpr fun p => by rw [hm p, List.mem_singleton])
theorem nr_2 (c : C5) : Nr 2 c [(0, 0), (0, 1), (1, 0), (1, 1)] := by
  refine ⟨by decide, fun x y h => ?_, fun x y s => ?_⟩
  · simp only [List.mem_cons, Prod.mk.injEq, List.not_mem_nil, or_false] at h
    rcases h with ⟨rfl, rfl⟩ | ⟨rfl, rfl⟩ | ⟨rfl, rfl⟩ | ⟨rfl, rfl⟩ <;> exact ⟨⟨by decide, by decide⟩, ⟨by decide, by decide⟩⟩
  · obtain ⟨x0, x1⟩ := s.dx
    obtain ⟨y0, y1⟩ := s.dy
    have hx : x = 0 ∨ x = 1 := by omega
    have hy : y = 0 ∨ y = 1 := by omega
    rcases hx with rfl | rfl <;> rcases hy with rfl | rfl <;> simp
theorem nr_odd {n : Nat} (ho : (n : Int) % 2 = 1) (h9 : n < 200) (c : C5) : Nr n c (rp n c n) := by
  have h := near_odd ho h9 c
  exact ⟨h.nd, fun x y m => ⟨(h.on x y m).1, (h.on x y m).2.1⟩, h.all⟩
section
variable {P : Program} {w : World} {K : PySem.W.Frag} {mg : Str → Option Value} {base : Heap}
def sp_law_is_singular (K : PySem.W.Frag) : Sp := fun vs H Q _ => ∃ (n : Nat) (p : Addr) (d : Cv) (x y : Int), vs = [.ref p, .int (n : Int), .int x, .int y] ∧ SqT K H p d.tup ∧ d.Md ∧ B 20 x ∧ B 20 y ∧ 0 < n ∧ ∀ H', Same H H' → Q (.bl (sgB n d (x, y))) H'
abbrev s__law_is_singular : Stmt := topS 93
theorem sc__law_is_singular : FnScope ["five_v", "p", "x", "y", "one", "two", "side"] ["five_v", "p", "x", "y"] (defScope s__law_is_singular) := ⟨rfl, rfl, rfl, by decide +kernel, rfl, by decide +kernel, by decide +kernel⟩
theorem k_law_is_singular (T : Tx K mg) (D : Df K mg "_law_is_singular" s__law_is_singular ["five_v", "p", "x", "y"]) (c_law_slopes : Kl P w K mg base 1 "_law_slopes" (sp_law_slopes K)) (c_law_side : Kl P w K mg base 1 "_law_side" (sp_law_side K)) : Kl P w K mg base 2 "_law_is_singular" (sp_law_is_singular K) := by
  have nd := sc__law_is_singular.nd
  refine Kl.by_body D sc__law_is_singular (fun vs H Q E h => ?_) (fun f cdv A outer s H vs Q E hr h => ?_)
  · obtain ⟨_, _, _, _, _, rfl, _⟩ := h
    rfl
  · obtain ⟨n, p, d, x, y, rfl, hp, hm, xB, yB, hn, q⟩ := h
    have hu1 := hu_of hr
    refine ⟨_, (pss_cons (ps_asg (pe_k c_law_slopes  hr (by decide) (by rfl) (pa_cons (pv 0) (pa_cons (pv 2) (pa_cons (pv 3) pa_nil)))) (pg_tup rfl (pgs_cons (pg_name (i := 4) nd rfl (by first | exact Or.inl rfl | exact Or.inr rfl)) (pgs_cons (pg_name (i := 5) nd rfl (by first | exact Or.inl rfl | exact Or.inr rfl)) pgs_nil))))
      (pss_one (ps_ret (pe_cmpR (op_eqD hr.units) (pe_lc (own := [("side", 6)]) (g := gName 6) rfl nd (pi_tup (pe_tup (pa_cons (pe_k c_law_side  hr (by decide) (by rfl) (pa_cons (pv 0) (pa_cons (pv 2) (pa_cons (pv 3) pa_nil)))) (pa_cons (pv 4) (pa_cons (pv 5) pa_nil))))) (blkOk_by (N := ["five_v", "p", "x", "y", "one", "two", "side"]) (sc := defScope s__law_is_singular) (by decide +kernel)) (fun _ _ _ _ _ => (pg_name (i := 6) nd rfl (by first | exact Or.inl rfl | exact Or.inr rfl))) (fun _ _ _ _ _ => (pts_one (pt_cmpR op_ne (pe_op op_mod (pe_callTy call_intI (by rfl) T.int (by decide +kernel) (pa_cons (pv 6) pa_nil)) (pv 1)) pe_int (nomark _)))) (fun _ _ _ _ _ => (pv 6))) (pe_lst pa_nil) (nomark _))))), ?_⟩
    have hp0 : (0 : Int) < (n : Int) := by omega
    refine ⟨_, rfl, _, rfl, _, rfl, p, d, x, y, rfl, hp, hm, xB, yB, fun t nt => ?_⟩
    have s1 := Same.new (H := H) (p := t) (o := .tup [.int (-FlM.f2 (fc d) x y), .int (FlM.f1 (fc d) x y)]) nt
    have gt : upd H t (.tup [.int (-FlM.f2 (fc d) x y), .int (FlM.f1 (fc d) x y)]) t = some (.tup [.int (-FlM.f2 (fc d) x y), .int (FlM.f1 (fc d) x y)]) := upd_same
    generalize upd H t (.tup [.int (-FlM.f2 (fc d) x y), .int (FlM.f1 (fc d) x y)]) = H1 at s1 gt ⊢
    refine ⟨t, _, rfl, tup_of gt, rfl, _, _, rfl, _, _, rfl, rfl, ?_⟩
    first | refine sigN [some (.ref p), some (.int ((n : Int))), some (.int (x)), some (.int (y)), some (.int (-FlM.f2 (fc d) x y)), some (.int (FlM.f1 (fc d) x y)), none] (by rfl) ?_ | refine sig [some (.ref p), some (.int ((n : Int))), some (.int (x)), some (.int (y)), some (.int (-FlM.f2 (fc d) x y)), some (.int (FlM.f1 (fc d) x y)), none] (by rfl) ?_
    refine ⟨_, rfl, _, rfl, _, rfl, p, d, x, y, rfl, Same.tup s1 hp, hm, xB, yB, _, rfl, _, rfl, (by show 3 ≤ sizeLine; decide), fun u nu => ?_⟩
    have s2 := Same.new (H := H1) (p := u) (o := .tup [.int (lhs (fc d) x y), .int (-FlM.f2 (fc d) x y), .int (FlM.f1 (fc d) x y)]) nu
    have gu : upd H1 u (.tup [.int (lhs (fc d) x y), .int (-FlM.f2 (fc d) x y), .int (FlM.f1 (fc d) x y)]) u = some (.tup [.int (lhs (fc d) x y), .int (-FlM.f2 (fc d) x y), .int (FlM.f1 (fc d) x y)]) := upd_same
    generalize upd H1 u (.tup [.int (lhs (fc d) x y), .int (-FlM.f2 (fc d) x y), .int (FlM.f1 (fc d) x y)]) = H2 at s2 gu ⊢
    replace gu : H2 u = some (.tup ((sides d x y).map V.int)) := gu
    refine ⟨u, rfl, ⟨_, tup_of gu⟩, fun D nD => ?_⟩
    refine lc_tup (K := K) (a := u) (xs := (sides d x y).map V.int) (fun i H4 => Same H2 H4 ∧ H4 D = some (.lst ((left n ((sides d x y).take i)).map V.int))) ⟨Same.new nD, upd_same⟩ (fun i H4 _ z => tup_of (z.1 _ _ gu)) (fun i z0 H4 hi z => ?_) (fun H4 z => ?_)
    · obtain ⟨s4, g4⟩ := z
      obtain ⟨z1, hz, rfl⟩ := map_int hi
      have hl : (left n ((sides d x y).take i)).length ≤ 3 := by
        unfold left
        refine Nat.le_trans (List.length_filter_le ..) ?_
        rw [List.length_take]
        show min i 3 ≤ 3
        omega
      have et : left n ((sides d x y).take (i + 1)) = left n ((sides d x y).take i) ++ (if z1 % (n : Int) = 0 then [] else [z1]) := by
        unfold left
        rw [List.take_add_one, hz, List.filter_append]
        congr 1
        show List.filter _ [z1] = _
        rw [List.filter_cons]
        by_cases h : z1 % (n : Int) = 0 <;> simp [h]
      refine ⟨rfl, _, rfl, _, rfl, _, rfl, _, _, rfl, rfl, hp0, rfl, _, rfl, ?_⟩
      rw [dec_int]
      by_cases h : z1 % (n : Int) = 0
      · refine iteN (by simpa using h) ?_
        exact ⟨s4, by rw [et, if_pos h, List.append_nil]; exact g4⟩
      · refine iteY (by simpa using h) ?_
        refine ⟨_, rfl, _, g4, ?_, Same.put s4 nD, ?_⟩
        · rw [List.length_map]
          exact small1000 (by omega)
        · rw [upd_same, et, if_neg h, List.map_append]
          rfl
    · obtain ⟨s4, g4⟩ := z
      rw [List.length_map, List.take_length] at g4
      refine ⟨(by show 0 ≤ sizeLine; decide), fun t2 n2 => ?_⟩
      have s5 := Same.new (H := H4) (p := t2) (o := .lst []) n2
      have g5 : upd H4 t2 (.lst []) t2 = some (.lst []) := upd_same
      generalize upd H4 t2 (.lst []) = H5 at s5 g5 ⊢
      refine ⟨_, _, .lst (lst_of (s5 _ _ g4)) (DpM.ofInts _), .lst (lst_of g5) .nil, ints_sh _, rfl, ?_⟩
      rw [left_nil]
      exact q _ (s1.trans (s2.trans (s4.trans s5)))
end
end K15
set_option Elab.async false
set_option linter.all false
set_option maxRecDepth 100000
set_option maxHeartbeats 4000000
namespace K15
open PySem PySem.Spec PyProof.Rows L2 Gd QM K45M EcZ SvM PaM K40 DpM
local macro_rules | `(tactic| walk_at "bd") => `(tactic| (repeat (first | assumption | apply B.add | apply B.sub | apply B.mul | apply B.neg | exact B.lit (n := 8) (by decide))))
local macro_rules | `(tactic| walk_at "bnd") => `(tactic| (apply B.mulW; walk_at "bd"; decide))
theorem word_get (n : Nat) (d : Cv) (x : Int) (h : (FlM.ways n (fc d) x).length ≤ 2) : valV (mergeK [] [(Sum.inl 0, V.str "unsplit"), (Sum.inl 1, V.str "additive"), (Sum.inl 2, V.str "split")]) (Sum.inl (((FlM.ways n (fc d) x).length : Nat) : Int)) = some (.str (wd n d x)) := by
  unfold wd
  generalize (FlM.ways n (fc d) x).length = m at h ⊢
  match m, h with
  | 0, _ => rfl
  | 1, _ => rfl
  | 2, _ => rfl
section
variable {P : Program} {w : World} {K : PySem.W.Frag} {mg : Str → Option Value} {base : Heap}
def sp_law_word (K : PySem.W.Frag) : Sp := fun vs H Q _ => ∃ (n : Nat) (p : Addr) (d : Cv), vs = [.ref p, .int (n : Int)] ∧ SqT K H p d.tup ∧ d.Md ∧ Pw n ∧ (n : Int) ∣ d.disc ∧ ∀ x y H' t a b, FlM.Fl n (fc d) x y → Same H H' → H' t = some (.tup [.ref a, .ref b, .str (wd n d x)]) → H' a = some (.tup [.int x, .int y]) → H' b = some (.tup (wI n d x)) → Q (.ref t) H'
abbrev s__law_word : Stmt := topS 94
theorem sc__law_word : FnScope ["five_v", "p", "a", "c", "two", "four", "six", "some", "xs", "x", "y", "pair", "ways", "k"] ["five_v", "p"] (defScope s__law_word) := ⟨rfl, rfl, rfl, by decide +kernel, rfl, by decide +kernel, by decide +kernel⟩
theorem k_law_word (T : Tx K mg) (D : Df K mg "_law_word" s__law_word ["five_v", "p"]) (c_law_numbers : Kl P w K mg base 1 "_law_numbers" (sp_law_numbers K)) (c_law_is_singular : Kl P w K mg base 2 "_law_is_singular" (sp_law_is_singular K)) : Kl P w K mg base 3 "_law_word" (sp_law_word K) := by
  have nd := sc__law_word.nd
  refine Kl.by_body D sc__law_word (fun vs H Q E h => ?_) (fun f cdv A outer s H vs Q E hr h => ?_)
  · obtain ⟨_, _, _, rfl, _⟩ := h
    rfl
  · obtain ⟨n, p, d, rfl, hp, hm, pw, hdv, q⟩ := h
    have hu1 := hu_of hr
    refine ⟨_, (pss_cons (ps_asg (pe_tup (pa_cons (pe_ix ix_tup (pv 0) pe_int (fun _ _ => rfl)) (pa_cons (pe_ix ix_tup (pv 0) pe_int (fun _ _ => rfl)) pa_nil))) (pg_tup rfl (pgs_cons (pg_name (i := 2) nd rfl (by first | exact Or.inl rfl | exact Or.inr rfl)) (pgs_cons (pg_name (i := 3) nd rfl (by first | exact Or.inl rfl | exact Or.inr rfl)) pgs_nil))))
      (pss_cons (ps_asg (pe_slice sl_tupA (pe_k c_law_numbers  hr (by decide) (by rfl) (pa_cons (pv 0) pa_nil)) po_none (po_some pe_int)) (pg_tup rfl (pgs_cons (pg_name (i := 4) nd rfl (by first | exact Or.inl rfl | exact Or.inr rfl)) (pgs_cons (pg_name (i := 5) nd rfl (by first | exact Or.inl rfl | exact Or.inr rfl)) (pgs_cons (pg_name (i := 6) nd rfl (by first | exact Or.inl rfl | exact Or.inr rfl)) pgs_nil)))))
      (pss_cons (ps_set (i := 7) nd rfl (by first | exact Or.inl rfl | exact Or.inr rfl) (pe_lst (pa_cons (pe_tup (pa_cons pe_int (pa_cons pe_int pa_nil))) (pa_cons (pe_tup (pa_cons pe_int (pa_cons pe_int pa_nil))) (pa_cons (pe_tup (pa_cons pe_int (pa_cons pe_int pa_nil))) (pa_cons (pe_tup (pa_cons pe_int (pa_cons pe_int pa_nil))) pa_nil))))))
      (C8.pss_cut (ps_if (pt_cmpR op_gt (pv 1) pe_int (nomark _)) (pss_cons (ps_setLc (i := 8) (own := [("x", 9)]) (g := gName 9) rfl nd rfl rfl (sw_true rfl rfl rfl (by decide +kernel)) (pi_range1 (by rfl) T.range (pa_cons (pv 1) pa_nil)) (blkOk_by (N := ["five_v", "p", "a", "c", "two", "four", "six", "some", "xs", "x", "y", "pair", "ways", "k"]) (sc := defScope s__law_word) (by decide +kernel)) (fun _ _ _ _ _ => (pg_name (i := 9) nd rfl (by first | exact Or.inl rfl | exact Or.inr rfl))) (fun _ _ _ _ _ => (pts_one (pt_cmpR op_eq (pe_op op_mod (pe_callTy call_intI (by rfl) T.int (by decide +kernel) (pa_cons (pe_op op_add (pe_op op_add (pe_op op_add (pe_op op_mul pe_int (pe_op op_pow (pv 9) pe_int)) (pe_op op_mulW (pe_op op_mulW (pv 4) (pv 9)) (pv 9))) (pe_op op_mulW (pe_op op_mul pe_int (pv 5)) (pv 9))) (pv 6)) pa_nil)) (pv 1)) pe_int (nomark _)))) (fun _ _ _ _ _ => (pv 9)))
      (pss_one (ps_setLc (i := 7) (own := [("x", 9)]) (g := gName 9) rfl nd rfl rfl (sw_true rfl rfl rfl (by decide +kernel)) (pi_list (pv 8)) (blkOk_by (N := ["five_v", "p", "a", "c", "two", "four", "six", "some", "xs", "x", "y", "pair", "ways", "k"]) (sc := defScope s__law_word) (by decide +kernel)) (fun _ _ _ _ _ => (pg_name (i := 9) nd rfl (by first | exact Or.inl rfl | exact Or.inr rfl))) (fun _ _ _ _ _ => pts_nil) (fun _ _ _ _ _ => (pe_tup (pa_cons (pv 9) (pa_cons (pe_op op_mod (pe_callTy call_intI (by rfl) T.int (by decide +kernel) (pa_cons (pe_op op_mulW (pe_un un_neg (pe_op op_add (pe_op op_mulW (pv 2) (pv 9)) (pv 3))) (pe_op op_fdiv (pe_op op_add (pv 1) pe_int) pe_int)) pa_nil)) (pv 1)) pa_nil))))))) pss_nil)
      (pss_cons (ps_asg (pe_ix ix_list (pe_lc (own := [("pair", 11)]) (g := gName 11) rfl nd (pi_list (pv 7)) (blkOk_by (N := ["five_v", "p", "a", "c", "two", "four", "six", "some", "xs", "x", "y", "pair", "ways", "k"]) (sc := defScope s__law_word) (by decide +kernel)) (fun _ _ _ _ _ => (pg_name (i := 11) nd rfl (by first | exact Or.inl rfl | exact Or.inr rfl))) (fun _ _ _ _ _ => (pts_one (pt_val (pe_k c_law_is_singular  hr (by decide) (by rfl) (pa_cons (pv 0) (pa_cons (pv 1) (pa_cons (pe_ix (ix_tupK (K := K) rfl) (pv 11) pe_int (fun _ _ => rfl)) (pa_cons (pe_ix (ix_tupK (K := K) rfl) (pv 11) pe_int (fun _ _ => rfl)) pa_nil)))))))) (fun _ _ _ _ _ => (pv 11))) pe_int (fun _ _ => rfl)) (pg_tup rfl (pgs_cons (pg_name (i := 9) nd rfl (by first | exact Or.inl rfl | exact Or.inr rfl)) (pgs_cons (pg_name (i := 10) nd rfl (by first | exact Or.inl rfl | exact Or.inr rfl)) pgs_nil))))
      (pss_cons (ps_setLc (i := 12) (own := [("k", 13)]) (g := gName 13) rfl nd rfl rfl (sw_true rfl rfl rfl (by decide +kernel)) (pi_range1 (by rfl) T.range (pa_cons (pv 1) pa_nil)) (blkOk_by (N := ["five_v", "p", "a", "c", "two", "four", "six", "some", "xs", "x", "y", "pair", "ways", "k"]) (sc := defScope s__law_word) (by decide +kernel)) (fun _ _ _ _ _ => (pg_name (i := 13) nd rfl (by first | exact Or.inl rfl | exact Or.inr rfl))) (fun _ _ _ _ _ => (pts_one (pt_cmpR op_eq (pe_op op_mod (pe_callTy call_intI (by rfl) T.int (by decide +kernel) (pa_cons (pe_op op_sub (pe_op op_sub (pe_op op_add (pe_op op_mulW (pv 13) (pv 13)) (pe_op op_mulW (pv 2) (pv 13))) (pe_ix (ix_tupK (K := K) rfl) (pv 0) pe_int (fun _ _ => rfl))) (pe_op op_mul pe_int (pv 9))) pa_nil)) (pv 1)) pe_int (nomark _)))) (fun _ _ _ _ _ => (pv 13)))
      (pss_one (ps_ret (pe_tup (pa_cons (pe_tup (pa_cons (pv 9) (pa_cons (pv 10) pa_nil))) (pa_cons (pe_callTy call_tuple_of (by rfl) T.tuple (by decide +kernel) (pa_cons (pv 12) pa_nil)) (pa_cons (pe_dget hu1 (pe_disp (pps_cons pe_int pe_str (pps_cons pe_int pe_str (pps_cons pe_int pe_str pps_nil))) (by rfl) (by rfl) (fun z => by cases z) (by decide)) (pe_callB call_len_seq (by rfl) T.len (by decide +kernel) (pa_cons (pv 12) pa_nil)) (fun _ _ => rfl)) pa_nil)))))))))))), ?_⟩
    have hn1 := Pq1 pw
    have hn9 := pw.lt
    have hp0 : (0 : Int) < (n : Int) := by omega
    obtain ⟨x0, y0, fl⟩ := pw.fl (fc d) (by rw [fcd]; exact hdv)
    have hmd := hm
    obtain ⟨h1, h2, h3, h4, h6⟩ := hm
    have eb2 : (fc d).b2 = d.b2 := rfl
    have eb4 : (fc d).b4 = d.b4 := rfl
    have eb6 : (fc d).b6 = d.b6 := rfl
    refine ⟨_, rfl, p, _, 0, _, rfl, rfl, hp, rfl, _, rfl, p, _, 2, _, rfl, rfl, hp, rfl, (by show 2 ≤ sizeLine; decide), fun t1 n1 => ?_⟩
    have s1 := Same.new (H := H) (p := t1) (o := .tup [.int d.a1, .int d.a3]) n1
    have g1 : upd H t1 (.tup [.int d.a1, .int d.a3]) t1 = some (.tup [.int d.a1, .int d.a3]) := upd_same
    generalize upd H t1 (.tup [.int d.a1, .int d.a3]) = H1 at s1 g1 ⊢
    refine ⟨t1, _, rfl, tup_of g1, rfl, _, _, rfl, _, _, rfl, rfl, ?_⟩
    first | refine sigN [some (.ref p), some (.int ((n : Int))), some (.int (d.a1)), some (.int (d.a3)), none, none, none, none, none, none, none, none, none, none] (by rfl) ?_ | refine sig [some (.ref p), some (.int ((n : Int))), some (.int (d.a1)), some (.int (d.a3)), none, none, none, none, none, none, none, none, none, none] (by rfl) ?_
    refine ⟨_, rfl, p, d, rfl, Same.tup s1 hp, hmd, fun t2 n2 => ?_⟩
    have s2 := Same.new (H := H1) (p := t2) (o := .tup d.nums) n2
    have g2 : upd H1 t2 (.tup d.nums) t2 = some (.tup d.nums) := upd_same
    generalize upd H1 t2 (.tup d.nums) = H2 at s2 g2 ⊢
    refine ⟨3, rfl, slA_any (tup_of g2) fun p1 H3 s3 e1 => ?_⟩
    rw [show cutV d.nums none (some 3) = [.int d.b2, .int d.b4, .int d.b6] from rfl] at e1
    refine ⟨p1, _, rfl, e1, rfl, _, _, rfl, _, _, rfl, _, _, rfl, rfl, ?_⟩
    first | refine sigN [some (.ref p), some (.int ((n : Int))), some (.int (d.a1)), some (.int (d.a3)), some (.int (d.b2)), some (.int (d.b4)), some (.int (d.b6)), none, none, none, none, none, none, none] (by rfl) ?_ | refine sig [some (.ref p), some (.int ((n : Int))), some (.int (d.a1)), some (.int (d.a3)), some (.int (d.b2)), some (.int (d.b4)), some (.int (d.b6)), none, none, none, none, none, none, none] (by rfl) ?_
    refine ⟨(by show 2 ≤ sizeLine; decide), fun u1 m1 => ?_⟩
    have sa := Same.new (H := H3) (p := u1) (o := .tup [.int 0, .int 0]) m1
    have ga : upd H3 u1 (.tup [.int 0, .int 0]) u1 = some (.tup [.int 0, .int 0]) := upd_same
    generalize upd H3 u1 (.tup [.int 0, .int 0]) = Ha at sa ga ⊢
    refine ⟨(by show 2 ≤ sizeLine; decide), fun u2 m2 => ?_⟩
    have sb := Same.new (H := Ha) (p := u2) (o := .tup [.int 0, .int 1]) m2
    have gb : upd Ha u2 (.tup [.int 0, .int 1]) u2 = some (.tup [.int 0, .int 1]) := upd_same
    generalize upd Ha u2 (.tup [.int 0, .int 1]) = Hb at sb gb ⊢
    refine ⟨(by show 2 ≤ sizeLine; decide), fun u3 m3 => ?_⟩
    have sc := Same.new (H := Hb) (p := u3) (o := .tup [.int 1, .int 0]) m3
    have gc : upd Hb u3 (.tup [.int 1, .int 0]) u3 = some (.tup [.int 1, .int 0]) := upd_same
    generalize upd Hb u3 (.tup [.int 1, .int 0]) = Hc at sc gc ⊢
    refine ⟨(by show 2 ≤ sizeLine; decide), fun u4 m4 => ?_⟩
    have sd := Same.new (H := Hc) (p := u4) (o := .tup [.int 1, .int 1]) m4
    have gd : upd Hc u4 (.tup [.int 1, .int 1]) u4 = some (.tup [.int 1, .int 1]) := upd_same
    generalize upd Hc u4 (.tup [.int 1, .int 1]) = Hd at sd gd ⊢
    refine ⟨(by show 4 ≤ sizeLine; decide), fun l1 k1 => ?_⟩
    have se := Same.new (H := Hd) (p := l1) (o := .lst [.ref u1, .ref u2, .ref u3, .ref u4]) k1
    have ge : upd Hd l1 (.lst [.ref u1, .ref u2, .ref u3, .ref u4]) l1 = some (.lst [.ref u1, .ref u2, .ref u3, .ref u4]) := upd_same
    generalize upd Hd l1 (.lst [.ref u1, .ref u2, .ref u3, .ref u4]) = He at se ge ⊢
    first | refine sigN [some (.ref p), some (.int ((n : Int))), some (.int (d.a1)), some (.int (d.a3)), some (.int (d.b2)), some (.int (d.b4)), some (.int (d.b6)), some (.ref l1), none, none, none, none, none, none] (by rfl) ?_ | refine sig [some (.ref p), some (.int ((n : Int))), some (.int (d.a1)), some (.int (d.a3)), some (.int (d.b2)), some (.int (d.b4)), some (.int (d.b6)), some (.ref l1), none, none, none, none, none, none] (by rfl) ?_
    have s0e : Same H He := s1.trans (s2.trans (s3.trans (sa.trans (sb.trans (sc.trans (sd.trans se))))))
    have pa4 : PA He [.ref u1, .ref u2, .ref u3, .ref u4] [(0, 0), (0, 1), (1, 0), (1, 1)] := .cons ((sb.trans (sc.trans (sd.trans se))) _ _ ga) (.cons ((sc.trans (sd.trans se)) _ _ gb) (.cons ((sd.trans se) _ _ gc) (.cons (se _ _ gd) .nil)))
    clear s1 s2 s3 sa sb sc sd se ga gb gc gd g1 g2 e1 n1 n2 m1 m2 m3 m4 k1
    refine ⟨fun σ' H' => Same He H' ∧ ∃ (D : Addr) (ts : List V) (qs : List (Int × Int)) (v8 v9 : Option V), σ' = [some (.ref p), some (.int (n : Int)), some (.int d.a1), some (.int d.a3), some (.int d.b2), some (.int d.b4), some (.int d.b6), some (.ref D), v8, v9, none, none, none, none] ∧ H' D = some (.lst ts) ∧ PA H' ts qs ∧ Nr n (fc d) qs ∧ qs.length ≤ 200, ?_, ?_⟩
    · refine ⟨_, rfl, _, _, rfl, rfl, _, rfl, ?_⟩
      by_cases h2n : n = 2
      · subst h2n
        refine iteN (by decide) ?_
        exact ⟨Same.refl _, l1, _, _, none, none, rfl, ge, pa4, nr_2 (fc d), by decide⟩
      · have ho : (n : Int) % 2 = 1 := pw.two.resolve_left h2n
        refine iteY (decide_eq_true (by omega)) ?_
        refine ⟨_, rfl, (n : Int), rfl, by omega, by omega, fun D nD => ?_⟩
        refine lc_range (lo := 0) (n := (n : Int).toNat) (fun j H4 => Same He H4 ∧ H4 D = some (.lst (natV (rts n (fB (n : Int) (fc d)) j)))) ⟨Same.new nD, upd_same⟩ (fun j H4 hj z => ?_) (fun H4 z => ?_)
        · obtain ⟨s4, g4⟩ := z
          rw [Int.zero_add]
          have jB : B 10 (j : Int) := by
            unfold Gd.B
            omega
          have jl := rts_len n (fB (n : Int) (fc d)) j
          refine ⟨rfl, _, rfl, _, _, rfl, rfl, ⟨by decide, by decide, jB.up (by decide)⟩, _, _, rfl, rfl, (Or.inl ⟨by decide, by decide⟩), _, rfl, _, rfl, _, _, rfl, rfl, hmd.b2.mulW jB (by decide), _, rfl, _, _, rfl, rfl, (hmd.b2.mul jB).mulW jB (by decide), _, _, rfl, rfl, _, rfl, _, _, rfl, rfl, (Or.inl ⟨by decide, by decide⟩), _, rfl, _, _, rfl, rfl, ((B.lit (n := 3) (by decide)).mul hmd.b4).mulW jB (by decide), _, _, rfl, rfl, _, rfl, _, _, rfl, rfl, _, rfl, _, rfl, _, _, rfl, rfl, hp0, rfl, _, rfl, ?_⟩
          rw [dec_int]
          have ec : 4 * (j : Int) ^ (3 : Int).toNat + d.b2 * (j : Int) * (j : Int) + 2 * d.b4 * (j : Int) + d.b6 = cub (fc d) (j : Int) := by
            unfold cub
            rw [eb2, eb4, eb6, show (j : Int) ^ (3 : Int).toNat = (j : Int) * (j : Int) * (j : Int) by rw [show (3 : Int).toNat = 3 from rfl]; grind]
            grind
          rw [ec]
          have ev1 : ev (fB (n : Int) (fc d)) (j : Int) % (n : Int) = cub (fc d) (j : Int) % (n : Int) := ev_cub _ _ _
          by_cases h0 : cub (fc d) (j : Int) % (n : Int) = 0
          · refine iteY (by simpa using h0) ?_
            refine ⟨_, rfl, _, g4, ?_, Same.put s4 nD, ?_⟩
            · unfold natV
              rw [List.length_map, List.length_map]
              exact small1000 (by omega)
            · rw [upd_same, rts_succ, if_pos (by rw [ev1]; exact h0)]
              unfold natV
              rw [List.map_append, List.map_append]
              rfl
          · refine iteN (by simpa using h0) ?_
            refine ⟨s4, ?_⟩
            rw [rts_succ, if_neg (by rw [ev1]; exact h0), List.append_nil]
            exact g4
        · obtain ⟨s4, g4⟩ := z
          rw [Int.toNat_natCast] at g4
          first | refine sigN [some (.ref p), some (.int ((n : Int))), some (.int (d.a1)), some (.int (d.a3)), some (.int (d.b2)), some (.int (d.b4)), some (.int (d.b6)), some (.ref l1), some (.ref D), none, none, none, none, none] (by rfl) ?_ | refine sig [some (.ref p), some (.int ((n : Int))), some (.int (d.a1)), some (.int (d.a3)), some (.int (d.b2)), some (.int (d.b4)), some (.int (d.b6)), some (.ref l1), some (.ref D), none, none, none, none, none] (by rfl) ?_
          have e4 := s4
          refine ⟨.ref D, rfl, D, rfl, ⟨_, lst_of g4⟩, fun E nE => ?_⟩
          refine lc_list (K := K) (a := D) (xs := natV (rts n (fB (n : Int) (fc d)) n)) (fun i H5 => Same H4 H5 ∧ ∃ ts, H5 E = some (.lst ts) ∧ PA H5 ts (((rts n (fB (n : Int) (fc d)) n).take i).map fun (x : Nat) => ((x : Int), yz (n : Int) (fc d) (x : Int) 0))) ⟨Same.new nE, [], upd_same, .nil⟩ (fun i H5 _ z => lst_of (z.1 _ _ g4)) (fun i x H5 hi z => ?_) (fun H5 z => ?_)
          · obtain ⟨s5, ts, g5, pa⟩ := z
            obtain ⟨y, hy, rfl⟩ := map_int hi
            rw [List.getElem?_map] at hy
            obtain ⟨k, hk, rfl⟩ := Option.map_eq_some_iff.mp hy
            have hkn : k < n := by
              have := List.mem_of_getElem? hk
              unfold rts at this
              exact List.mem_range.mp (List.mem_filter.mp this).1
            have kB : B 10 (k : Int) := by
              unfold Gd.B
              omega
            have hB : B 10 (((n : Int) + 1) / 2) := by
              unfold Gd.B
              omega
            have ll := pa.len
            rw [List.length_map, List.length_take] at ll
            have l2 := rts_len n (fB (n : Int) (fc d)) n
            refine ⟨rfl, _, rfl, _, rfl, _, rfl, _, _, rfl, rfl, h1.mulW kB (by decide), _, rfl, _, _, rfl, rfl, _, rfl, _, rfl, _, _, rfl, rfl, _, _, rfl, rfl, ⟨by decide, by decide⟩, _, _, rfl, rfl, (((h1.mul kB).add h3).neg).mulW hB (by decide), _, rfl, _, rfl, _, _, rfl, rfl, hp0, (by show 2 ≤ sizeLine; decide), fun t2 nt2 => ?_⟩
            have ey : -(d.a1 * (k : Int) + d.a3) * (((n : Int) + 1) / 2) % (n : Int) = yz (n : Int) (fc d) (k : Int) 0 := by
              unfold yz sh
              rw [Int.zero_sub]
              rfl
            rw [show upd H5 t2 (.tup [V.int (k : Int), V.int (-(d.a1 * (k : Int) + d.a3) * (((n : Int) + 1) / 2) % (n : Int))]) = upd H5 t2 (.tup [V.int (k : Int), V.int (yz (n : Int) (fc d) (k : Int) 0)]) by rw [ey]]
            have s6 := Same.new (H := H5) (p := t2) (o := .tup [V.int (k : Int), V.int (yz (n : Int) (fc d) (k : Int) 0)]) nt2
            have g6 : upd H5 t2 (.tup [V.int (k : Int), V.int (yz (n : Int) (fc d) (k : Int) 0)]) t2 = some (.tup [V.int (k : Int), V.int (yz (n : Int) (fc d) (k : Int) 0)]) := upd_same
            generalize upd H5 t2 (.tup [V.int (k : Int), V.int (yz (n : Int) (fc d) (k : Int) 0)]) = H6 at s6 g6 ⊢
            have gE := s6 _ _ g5
            refine ⟨_, gE, small1000 (by omega), Same.put (s5.trans s6) nE, ts ++ [.ref t2], upd_same, ?_⟩
            rw [List.take_add_one, hk, List.map_append]
            exact ((pa.same s6).put gE).app (.cons (by rw [upd_ne (ne_of g6 gE (by intro z; cases z))]; exact g6) .nil)
          · obtain ⟨s5, ts, g5, pa⟩ := z
            have el : (natV (rts n (fB (n : Int) (fc d)) n)).length = (rts n (fB (n : Int) (fc d)) n).length := by
              unfold natV
              rw [List.length_map, List.length_map]
            rw [el, List.take_length] at pa
            have l2 := rts_len n (fB (n : Int) (fc d)) n
            exact ⟨e4.trans s5, E, ts, rp n (fc d) n, _, none, rfl, g5, pa, nr_odd ho hn9 (fc d), by unfold rp; rw [List.length_map]; omega⟩
    · rintro σ' H' ⟨sE, D, ts, qs, v8, v9, rfl, gD, pa, nr, nle⟩
      have s0 := s0e.trans sE
      have lq := pa.len
      refine ⟨.ref D, rfl, D, rfl, ⟨_, lst_of gD⟩, fun D2 nD2 => ?_⟩
      refine lc_list (K := K) (a := D) (xs := ts) (fun i H4 => Same H' H4 ∧ ∃ us, H4 D2 = some (.lst us) ∧ PA H4 us ((qs.take i).filter (sgB n d))) ⟨Same.new nD2, [], upd_same, .nil⟩ (fun i H4 _ z => lst_of (z.1 _ _ gD)) (fun i x H4 hi z => ?_) (fun H4 z => ?_)
      · obtain ⟨s4, us, g4, pb⟩ := z
        obtain ⟨t, u, v, rfl, hq, gt⟩ := pa_at pa hi
        have gt4 := s4 _ _ gt
        obtain ⟨du, dv⟩ := nr.dg u v (List.mem_of_getElem? hq)
        have uB : B 20 u := by
          obtain ⟨h1, h2⟩ := du
          unfold Gd.B
          omega
        have vB : B 20 v := by
          obtain ⟨h1, h2⟩ := dv
          unfold Gd.B
          omega
        have ll := pb.len
        have l2 : ((qs.take i).filter (sgB n d)).length ≤ 200 := by
          refine Nat.le_trans (List.length_filter_le ..) ?_
          rw [List.length_take]
          omega
        have et : (qs.take (i + 1)).filter (sgB n d) = (qs.take i).filter (sgB n d) ++ (if sgB n d (u, v) = true then [(u, v)] else []) := by
          rw [List.take_add_one, hq, List.filter_append]
          congr 1
          show List.filter (sgB n d) [(u, v)] = _
          rw [List.filter_cons]
          cases sgB n d (u, v) <;> rfl
        refine ⟨rfl, _, rfl, _, rfl, .ref t, rfl, t, _, 0, _, rfl, rfl, tup_of gt4, rfl, .ref t, rfl, t, _, 1, _, rfl, rfl, tup_of gt4, rfl, ?_⟩
        refine ⟨n, p, d, u, v, rfl, Same.tup (s0.trans s4) hp, hmd, uB, vB, by omega, fun H5 s5 => ?_⟩
        have g5 := s5 _ _ g4
        refine ⟨_, rfl, ?_⟩
        cases hb : sgB n d (u, v) with
        | true =>
          refine iteY rfl ?_
          refine ⟨.ref t, rfl, ?_⟩
          refine ⟨_, g5, small1000 (by omega), Same.put (s4.trans s5) nD2, us ++ [.ref t], upd_same, ?_⟩
          rw [et, if_pos hb]
          exact ((pb.same s5).put g5).app (.cons (by rw [upd_ne (ne_of (s5 _ _ gt4) g5 (by intro z; cases z))]; exact s5 _ _ gt4) .nil)
        | false =>
          refine iteN (by decide) ?_
          refine ⟨s4.trans s5, us, g5, ?_⟩
          rw [et, hb, if_neg (by decide), List.append_nil]
          exact pb.same s5
      · obtain ⟨s4, us, g4, pb⟩ := z
        rw [lq, List.take_length, nr.one fl] at pb
        obtain ⟨pr, rfl, gp⟩ : ∃ pr : Addr, us = [.ref pr] ∧ H4 pr = some (.tup [.int x0, .int y0]) := by
          cases pb with
          | cons h r =>
            cases r
            exact ⟨_, rfl, h⟩
        refine ⟨D2, _, 0, .ref pr, rfl, rfl, lst_of g4, rfl, ?_⟩
        refine ⟨pr, _, rfl, tup_of gp, rfl, _, _, rfl, _, _, rfl, rfl, ?_⟩
        first | refine sigN [some (.ref p), some (.int ((n : Int))), some (.int (d.a1)), some (.int (d.a3)), some (.int (d.b2)), some (.int (d.b4)), some (.int (d.b6)), some (.ref D), v8, some (.int (x0)), some (.int (y0)), none, none, none] (by rfl) ?_ | refine sig [some (.ref p), some (.int ((n : Int))), some (.int (d.a1)), some (.int (d.a3)), some (.int (d.b2)), some (.int (d.b4)), some (.int (d.b6)), some (.ref D), v8, some (.int (x0)), some (.int (y0)), none, none, none] (by rfl) ?_
        have s04 := s0.trans s4
        refine ⟨_, rfl, (n : Int), rfl, by omega, by omega, fun E nE => ?_⟩
        refine lc_range (lo := 0) (n := (n : Int).toNat) (fun j H5 => Same H4 H5 ∧ H5 E = some (.lst ((((List.range j).filter fun (k : Nat) => decide (FlM.qk (fc d) x0 (k : Int) % (n : Int) = 0)).map fun (k : Nat) => (k : Int)).map V.int))) ⟨Same.new nE, upd_same⟩ (fun j H5 hj z => ?_) (fun H5 z => ?_)
        · obtain ⟨s5, g5⟩ := z
          rw [Int.zero_add]
          have kB : B 20 (j : Int) := by
            unfold Gd.B
            omega
          have hp5 := Same.tup (s04.trans s5) hp
          have ll : ((List.range j).filter fun (k : Nat) => decide (FlM.qk (fc d) x0 (k : Int) % (n : Int) = 0)).length ≤ j := by
            refine Nat.le_trans (List.length_filter_le ..) ?_
            rw [List.length_range]
            exact Nat.le_refl _
          refine ⟨rfl, _, rfl, _, rfl, _, _, rfl, rfl, kB.mulW kB (by decide), _, rfl, _, rfl, _, _, rfl, rfl, h1.mulW kB (by decide), _, _, rfl, rfl, _, rfl, p, _, 1, _, rfl, rfl, hp5, rfl, _, _, rfl, rfl, _, rfl, _, _, rfl, rfl, (Or.inl ⟨by decide, by decide⟩), _, _, rfl, rfl, _, rfl, _, rfl, _, _, rfl, rfl, hp0, rfl, _, rfl, ?_⟩
          rw [dec_int, show (j : Int) * (j : Int) + d.a1 * (j : Int) - d.a2 - 3 * x0 = FlM.qk (fc d) x0 (j : Int) from rfl]
          by_cases h0 : FlM.qk (fc d) x0 (j : Int) % (n : Int) = 0
          · refine iteY (by simpa using h0) ?_
            refine ⟨_, rfl, _, g5, by rw [List.length_map, List.length_map]; exact small1000 (by omega), Same.put s5 nE, ?_⟩
            have ef : ([j].filter fun (k : Nat) => decide (FlM.qk (fc d) x0 (k : Int) % (n : Int) = 0)) = [j] := by
              rw [List.filter_cons, decide_eq_true h0]
              rfl
            rw [upd_same, List.range_succ, List.filter_append, ef, List.map_append, List.map_append]
            rfl
          · refine iteN (by simpa using h0) ?_
            refine ⟨s5, ?_⟩
            have ef : ([j].filter fun (k : Nat) => decide (FlM.qk (fc d) x0 (k : Int) % (n : Int) = 0)) = [] := by
              rw [List.filter_cons, decide_eq_false h0]
              rfl
            rw [List.range_succ, List.filter_append, ef, List.append_nil]
            exact g5
        · obtain ⟨s5, g5⟩ := z
          rw [Int.toNat_natCast] at g5
          replace g5 : H5 E = some (.lst (wI n d x0)) := g5
          first | refine sigN [some (.ref p), some (.int ((n : Int))), some (.int (d.a1)), some (.int (d.a3)), some (.int (d.b2)), some (.int (d.b4)), some (.int (d.b6)), some (.ref D), v8, some (.int (x0)), some (.int (y0)), none, some (.ref E), none] (by rfl) ?_ | refine sig [some (.ref p), some (.int ((n : Int))), some (.int (d.a1)), some (.int (d.a3)), some (.int (d.b2)), some (.int (d.b4)), some (.int (d.b6)), some (.ref D), v8, some (.int (x0)), some (.int (y0)), none, some (.ref E), none] (by rfl) ?_
          refine ⟨_, rfl, _, rfl, (by show 2 ≤ sizeLine; decide), fun a na => ?_⟩
          have s6 := Same.new (H := H5) (p := a) (o := .tup [.int x0, .int y0]) na
          have ga : upd H5 a (.tup [.int x0, .int y0]) a = some (.tup [.int x0, .int y0]) := upd_same
          generalize upd H5 a (.tup [.int x0, .int y0]) = H6 at s6 ga ⊢
          refine ⟨_, rfl, E, _, rfl, .inl ⟨lst_of (s6 _ _ g5), fun b nb => ?_⟩⟩
          have s7 := Same.new (H := H6) (p := b) (o := .tup (wI n d x0)) nb
          have gb : upd H6 b (.tup (wI n d x0)) b = some (.tup (wI n d x0)) := upd_same
          generalize upd H6 b (.tup (wI n d x0)) = H7 at s7 gb ⊢
          refine fun C nC => ?_
          have s8 := Same.new (H := H7) (p := C) (o := .dK []) nC
          have gC : upd H7 C (.dK []) C = some (.dK []) := upd_same
          generalize upd H7 C (.dK []) = H8 at s8 gC ⊢
          refine ⟨gC, [(Sum.inl 0, .str "unsplit"), (Sum.inl 1, .str "additive"), (Sum.inl 2, .str "split")], rfl, by decide, ?_⟩
          have s9 : Same H7 (upd H8 C (.dK (mergeK [] [(Sum.inl 0, .str "unsplit"), (Sum.inl 1, .str "additive"), (Sum.inl 2, .str "split")]))) := Same.put s8 nC
          have gCb : (upd H8 C (.dK (mergeK [] [(Sum.inl 0, .str "unsplit"), (Sum.inl 1, .str "additive"), (Sum.inl 2, .str "split")]))) C = some (.dK (mergeK [] [(Sum.inl 0, .str "unsplit"), (Sum.inl 1, .str "additive"), (Sum.inl 2, .str "split")])) := upd_same
          generalize upd H8 C (.dK (mergeK [] [(Sum.inl 0, .str "unsplit"), (Sum.inl 1, .str "additive"), (Sum.inl 2, .str "split")])) = H9 at s9 gCb ⊢
          have gE9 := (s6.trans (s7.trans s9)) _ _ g5
          have lw : (wI n d x0).length = (FlM.ways n (fc d) x0).length := by
            unfold wI
            rw [List.length_map, List.length_map]
          have hget : DGet H9 C (.int (((wI n d x0).length : Nat) : Int)) (some (.str (wd n d x0))) := by
            rw [lw, ← word_get n d x0 fl.le]
            exact DGet.k (k := Sum.inl (((FlM.ways n (fc d) x0).length : Nat) : Int)) gCb
          refine ⟨_, rfl, E, _, rfl, .inl (lst_of gE9), C, _, rfl, hget, (by show 3 ≤ sizeLine; decide), fun t3 n3 => ?_⟩
          have sz := Same.new (H := H9) (p := t3) (o := .tup [.ref a, .ref b, .str (wd n d x0)]) n3
          have gt3 : upd H9 t3 (.tup [.ref a, .ref b, .str (wd n d x0)]) t3 = some (.tup [.ref a, .ref b, .str (wd n d x0)]) := upd_same
          generalize upd H9 t3 (.tup [.ref a, .ref b, .str (wd n d x0)]) = Hz at sz gt3 ⊢
          exact q x0 y0 _ t3 a b fl (s04.trans (s5.trans (s6.trans (s7.trans (s9.trans sz))))) gt3 ((s7.trans (s9.trans sz)) _ _ ga) ((s9.trans sz) _ _ gb)
end
end K15
set_option Elab.async false
set_option linter.all false
set_option maxRecDepth 100000
set_option maxHeartbeats 4000000
namespace K15
open PySem PySem.Spec PyProof.Rows L2 Gd QM K45M EcZ SvM PaM K40 DpM
/-! ### triples of two ints and a text in the heap -/
inductive TA (H : Hp) : List V → List (Int × Int × Str) → Prop
  | nil : TA H [] []
  | cons {t : Addr} {a b : Int} {W : Str} {ts zs} : H t = some (.tup [.int a, .int b, .str W]) → TA H ts zs → TA H (.ref t :: ts) ((a, b, W) :: zs)
theorem TA.same {H H' : Hp} (s : Same H H') : ∀ {ts zs}, TA H ts zs → TA H' ts zs
  | _, _, .nil => .nil
  | _, _, .cons h r => .cons (s _ _ h) (TA.same s r)
theorem TA.put {H : Hp} {D : Addr} {o : HO} {us : List V} (hD : H D = some (.lst us)) : ∀ {ts zs}, TA H ts zs → TA (upd H D o) ts zs
  | _, _, .nil => .nil
  | _, _, .cons h r => .cons (by rw [upd_ne (ne_of h hD (by intro z; cases z))]; exact h) (TA.put hD r)
theorem TA.app {H : Hp} : ∀ {ts zs us ws}, TA H ts zs → TA H us ws → TA H (ts ++ us) (zs ++ ws)
  | _, _, _, _, .nil, k => k
  | _, _, _, _, .cons h r, k => .cons h (TA.app r k)
theorem TA.len {H : Hp} : ∀ {ts zs}, TA H ts zs → ts.length = zs.length
  | _, _, .nil => rfl
  | _, _, .cons _ r => congrArg (· + 1) (TA.len r)
def dts (zs : List (Int × Int × Str)) : List PyData := zs.map fun z => .tuple [.int z.1, .int z.2.1, .str z.2.2]
theorem TA.dp {K : PySem.W.Frag} {H : Hp} : ∀ {ts zs}, TA H ts zs → DpAll K H ts (dts zs)
  | _, _, .nil => .nil
  | _, _, .cons h r => .cons (.tup (tup_of h) (.cons (.int _) (.cons (.int _) (.cons (.str _) .nil)))) (TA.dp r)
/-! ### how often a prime divides -/
theorem val_uniq {p : Int} (hp : p ≠ 0) {m m' : Int} (h1 : ¬ p ∣ m) (h2 : ¬ p ∣ m') : ∀ {k k' : Nat}, p ^ k * m = p ^ k' * m' → k = k'
  | 0, 0, _ => rfl
  | 0, k' + 1, h => by
    rw [Int.pow_zero, Int.one_mul, Int.pow_succ] at h
    exact (h1 ⟨p ^ k' * m', by rw [h]; grind⟩).elim
  | k + 1, 0, h => by
    rw [Int.pow_zero, Int.one_mul, Int.pow_succ] at h
    exact (h2 ⟨p ^ k * m, by rw [← h]; grind⟩).elim
  | k + 1, k' + 1, h => by
    have e : p * (p ^ k * m) = p * (p ^ k' * m') := by
      rw [Int.pow_succ, Int.pow_succ] at h
      grind
    rw [val_uniq hp h1 h2 (Int.eq_of_mul_eq_mul_left hp e)]
theorem val_int {p : Nat} (hp : 2 ≤ p) {n : Int} (hn : n ≠ 0) : ∃ (k : Nat) (m : Int), n = (p : Int) ^ k * m ∧ ¬ (p : Int) ∣ m := by
  obtain ⟨k, m, hk, hm, _⟩ := val_is hp (show 0 < n.natAbs by omega)
  have hm' : ¬ (p : Int) ∣ (m : Int) := fun z => hm (Int.natCast_dvd_natCast.mp z)
  have e : (n.natAbs : Int) = (p : Int) ^ k * (m : Int) := by rw [hk, Int.natCast_mul, Int.natCast_pow]
  rcases Int.natAbs_eq n with h | h
  · exact ⟨k, m, by rw [h, e], hm'⟩
  · exact ⟨k, -m, by rw [h, e, Int.mul_neg], fun z => hm' (Int.dvd_neg.mp z)⟩
/-- what is told of a prime -/
def Ent (d : Cv) (p : Nat) (e : Int × Int × Str) : Prop := ∃ (k : Nat) (m x y : Int), d.disc = (p : Int) ^ k * m ∧ ¬ (p : Int) ∣ m ∧ FlM.Fl p (fc d) x y ∧ e = ((p : Int), (k : Int), wd p d x)
theorem Ent.uniq {d : Cv} {p : Nat} {e f : Int × Int × Str} (hp : 2 ≤ p) (h : Ent d p e) (k : Ent d p f) : e = f := by
  obtain ⟨k1, m1, x1, y1, a1, b1, c1, rfl⟩ := h
  obtain ⟨k2, m2, x2, y2, a2, b2, c2, rfl⟩ := k
  obtain ⟨rfl, rfl⟩ := c1.uniq x2 y2 c2.sg
  rw [val_uniq (show (p : Int) ≠ 0 by omega) b1 b2 (a1.symm.trans a2)]
inductive FR (d : Cv) : List Nat → List (Int × Int × Str) → Prop
  | nil : FR d [] []
  | cons {p e ps es} : Ent d p e → FR d ps es → FR d (p :: ps) (e :: es)
theorem FR.app {d : Cv} : ∀ {ps es qs fs}, FR d ps es → FR d qs fs → FR d (ps ++ qs) (es ++ fs)
  | _, _, _, _, .nil, k => k
  | _, _, _, _, .cons h r, k => .cons h (FR.app r k)
theorem FR.uniq {d : Cv} : ∀ {ps es fs}, (∀ p ∈ ps, 2 ≤ p) → FR d ps es → FR d ps fs → es = fs
  | _, _, _, _, .nil, .nil => rfl
  | _, _, _, h2, .cons h r, .cons k s => by
    rw [h.uniq (h2 _ (List.mem_cons_self ..)) k, FR.uniq (fun p hp => h2 p (List.mem_cons_of_mem _ hp)) r s]
theorem FR.len {d : Cv} : ∀ {ps es}, FR d ps es → ps.length = es.length
  | _, _, .nil => rfl
  | _, _, .cons _ r => congrArg (· + 1) (FR.len r)
theorem k_lt {p k : Nat} {D m : Int} (hp : 2 ≤ p) (hk : D = (p : Int) ^ k * m) (hB : B 900 D) (h0 : D ≠ 0) : k < 900 := by
  have h1 : p ^ k ≤ D.natAbs := by
    rw [hk, Int.natAbs_mul, Int.natAbs_pow, Int.natAbs_natCast]
    refine Nat.le_mul_of_pos_right _ (Nat.pos_of_ne_zero fun z => h0 ?_)
    rw [hk, Int.natAbs_eq_zero.mp z, Int.mul_zero]
  have h2 : 2 ^ k ≤ p ^ k := Nat.pow_le_pow_left hp k
  have h3 : 2 ^ k < 2 ^ 900 := Nat.lt_of_le_of_lt (Nat.le_trans h2 h1) hB
  exact (Nat.pow_lt_pow_iff_right (by decide)).mp h3
theorem Ent.ok {d : Cv} {p : Nat} {e : Int × Int × Str} (hp : 2 ≤ p) (hp2 : p < 200) (hB : B 900 d.disc) (h0 : d.disc ≠ 0) (h : Ent d p e) : B 30 e.1 ∧ B 30 e.2.1 ∧ (e.2.2 = "additive" ∨ e.2.2 = "split" ∨ e.2.2 = "unsplit") := by
  obtain ⟨k, m, x, y, hk, hm, fl, rfl⟩ := h
  refine ⟨?_, ?_, ?_⟩
  · show B 30 (p : Int)
    unfold Gd.B
    omega
  · have h1 : p ^ k ≤ d.disc.natAbs := by
      rw [hk, Int.natAbs_mul, Int.natAbs_pow, Int.natAbs_natCast]
      refine Nat.le_mul_of_pos_right _ (Nat.pos_of_ne_zero fun z => h0 ?_)
      rw [hk, Int.natAbs_eq_zero.mp z, Int.mul_zero]
    have h2 : 2 ^ k ≤ p ^ k := Nat.pow_le_pow_left hp k
    have h3 : 2 ^ k < 2 ^ 900 := Nat.lt_of_le_of_lt (Nat.le_trans h2 h1) hB
    have h4 : k < 900 := (Nat.pow_lt_pow_iff_right (by decide)).mp h3
    show B 30 (k : Int)
    unfold Gd.B
    omega
  · show wd p d x = _ ∨ _
    unfold wd
    split
    · exact .inl rfl
    · split
      · exact .inr (.inl rfl)
      · exact .inr (.inr rfl)
/-! ### what is left -/
theorem pl_two {n : Nat} (h : n ∈ PL) : 2 ≤ n := (pw_of h).two.elim (fun e => by omega) fun _ => Pq1 (pw_of h)
def chkC : Bool := (List.range 200).all fun p => decide (p < 2) || PL.contains p || PL.any fun q => decide (q < p) && decide (p % q = 0)
theorem chk_c : chkC = true := by decide +kernel
theorem comp_of {p : Nat} (h2 : 2 ≤ p) (h9 : p < 200) (h : p ∉ PL) : ∃ q ∈ PL, q < p ∧ q ∣ p := by
  have k := List.all_eq_true.mp chk_c p (List.mem_range.mpr h9)
  simp only [Bool.or_eq_true, decide_eq_true_iff, List.contains_iff_mem, List.any_eq_true, Bool.and_eq_true] at k
  rcases k with (k | k) | ⟨q, hq, h3, h4⟩
  · omega
  · exact (h k).elim
  · exact ⟨q, hq, h3, Nat.dvd_of_mod_eq_zero h4⟩
structure Rs (D rest : Int) (j : Nat) : Prop where
  at_ : ∃ A, D = rest * A ∧ ∀ n ∈ PL, j ≤ n → ¬ (n : Int) ∣ A
  no : ∀ n ∈ PL, n < j → ¬ (n : Int) ∣ rest
theorem Rs.new (D : Int) : Rs D D 2 := ⟨⟨1, by rw [Int.mul_one], fun n h _ z => by
  have := pl_two h
  have := Int.le_of_dvd (by decide) z
  omega⟩, fun n h z => by
  have := pl_two h
  omega⟩
theorem Rs.dvd {D rest : Int} {j : Nat} (h : Rs D rest j) (hj : j ∈ PL) : (j : Int) ∣ rest ↔ (j : Int) ∣ D := by
  obtain ⟨A, rfl, hA⟩ := h.at_
  constructor
  · intro z
    exact Int.dvd_mul_of_dvd_left z
  · intro z
    rcases FlM.pp_dvd (pw_of hj).pp z with k | k
    · exact k
    · exact (hA j hj (Nat.le_refl _) k).elim
theorem Rs.comp {D rest : Int} {j : Nat} (h : Rs D rest j) (h2 : 2 ≤ j) (h9 : j < 200) (hj : j ∉ PL) : ¬ (j : Int) ∣ rest ∧ Rs D rest (j + 1) := by
  obtain ⟨q, hq, h3, h4⟩ := comp_of h2 h9 hj
  obtain ⟨A, hD, hA⟩ := h.at_
  refine ⟨fun z => h.no q hq h3 (Int.dvd_trans (Int.natCast_dvd_natCast.mpr h4) z), ⟨A, hD, fun n hn k => hA n hn (by omega)⟩, fun n hn k => ?_⟩
  by_cases e : n = j
  · exact (hj (e ▸ hn)).elim
  · exact h.no n hn (by omega)
theorem Rs.skip {D rest : Int} {j : Nat} (h : Rs D rest j) (hj : j ∈ PL) (hn : ¬ (j : Int) ∣ rest) : Rs D rest (j + 1) := by
  obtain ⟨A, hD, hA⟩ := h.at_
  refine ⟨⟨A, hD, fun n hn k => hA n hn (by omega)⟩, fun n hn' k => ?_⟩
  by_cases e : n = j
  · rw [e]
    exact hn
  · exact h.no n hn' (by omega)
theorem pp_pow {n j : Nat} (h : Pp (n : Int)) : ∀ {k : Nat}, (n : Int) ∣ (j : Int) ^ k → (n : Int) ∣ (j : Int)
  | 0, z => by
    rw [Int.pow_zero] at z
    have h1 := Int.le_of_dvd (by decide) z
    have h2 := h.1
    omega
  | k + 1, z => by
    rw [Int.pow_succ] at z
    rcases FlM.pp_dvd h z with q | q
    · exact pp_pow h q
    · exact q
theorem Rs.take {D m : Int} {j k : Nat} (h : Rs D ((j : Int) ^ k * m) j) (hj : j ∈ PL) (hm : ¬ (j : Int) ∣ m) : Rs D m (j + 1) ∧ ∃ m', D = (j : Int) ^ k * m' ∧ ¬ (j : Int) ∣ m' := by
  obtain ⟨A, hD, hA⟩ := h.at_
  refine ⟨⟨⟨A * (j : Int) ^ k, by rw [hD]; grind, fun n hn hk z => ?_⟩, fun n hn hk z => ?_⟩, m * A, by rw [hD, Int.mul_assoc], fun z => ?_⟩
  · rcases FlM.pp_dvd (pw_of hn).pp z with q | q
    · exact hA n hn (by omega) q
    · have h1 := Int.le_of_dvd (by have := pl_two hj; omega) (pp_pow (pw_of hn).pp q)
      omega
  · by_cases e : n = j
    · exact hm (e ▸ z)
    · exact h.no n hn (by omega) (Int.dvd_mul_of_dvd_right z)
  · rcases FlM.pp_dvd (pw_of hj).pp z with q | q
    · exact hm q
    · exact hA j hj (Nat.le_refl _) q
/-- the primes that divide, from 2 on -/
def fl (D : Int) (j : Nat) : List Nat := ((List.range j).map (2 + ·)).filter fun p => PL.contains p && decide (D % (p : Int) = 0)
theorem fl_succ (D : Int) (j : Nat) : fl D (j + 1) = fl D j ++ (if 2 + j ∈ PL ∧ D % ((2 + j : Nat) : Int) = 0 then [2 + j] else []) := by
  unfold fl
  rw [List.range_succ, List.map_append, List.filter_append]
  congr 1
  show List.filter _ [2 + j] = _
  rw [List.filter_cons]
  by_cases h1 : 2 + j ∈ PL
  · by_cases h2 : D % ((2 + j : Nat) : Int) = 0
    · simp only [h1, h2, List.contains_iff_mem, and_self, decide_true, Bool.and_true, if_true, List.filter_nil]
    · simp only [h1, h2, and_false, decide_false, Bool.and_false, if_false, List.filter_nil, Bool.false_eq_true]
  · have : PL.contains (2 + j) = false := Bool.eq_false_iff.mpr fun z => h1 (List.contains_iff_mem.mp z)
    simp only [h1, this, false_and, Bool.false_and, if_false, List.filter_nil, Bool.false_eq_true]
theorem fl_two {D : Int} {j : Nat} : ∀ p ∈ fl D j, 2 ≤ p := fun p h => by
  unfold fl at h
  obtain ⟨k, _, rfl⟩ := List.mem_map.mp (List.mem_filter.mp h).1
  omega
theorem fl_len (D : Int) (j : Nat) : (fl D j).length ≤ j := by
  unfold fl
  refine Nat.le_trans (List.length_filter_le ..) ?_
  rw [List.length_map, List.length_range]
  exact Nat.le_refl _
end K15
set_option Elab.async false
set_option linter.all false
set_option maxRecDepth 100000
set_option maxHeartbeats 4000000
namespace K15
open PySem PySem.Spec PyProof.Rows L2 Gd QM K45M EcZ SvM PaM K40 DpM
section
variable {P : Program} {w : World} {K : PySem.W.Frag} {mg : Str → Option Value} {base : Heap}
def sp_falls (K : PySem.W.Frag) : Sp := fun vs H Q _ => ∃ (a : Addr) (c d : Cv) (M : Nat), vs = [.ref a, .int ((M + 1 : Nat) : Int)] ∧ SqT K H a c.tup ∧ Has c d ∧ d.disc ≠ 0 ∧ M ≤ 198 ∧ ∀ H' t ts zs, Same H H' → H' t = some (.tup ts) → TA H' ts zs → FR d (fl d.disc M) zs → Q (.ref t) H'
abbrev s_falls : Stmt := topS 70
theorem sc_falls : FnScope ["curve", "most", "least", "d", "rest", "found", "p", "e", "_"] ["curve", "most"] (defScope s_falls) := ⟨rfl, rfl, rfl, by decide +kernel, rfl, by decide +kernel, by decide +kernel⟩
theorem k_falls (T : Tx K mg) (D : Df K mg "falls" s_falls ["curve", "most"]) (c_least_and_scale : Kl P w K mg base 9 "least_and_scale" (sp_least_and_scale K)) (c_numbers_of : Kl P w K mg base 2 "numbers_of" (sp_numbers_of K)) (c_valuation : Kl P w K mg base 1 "valuation" (sp_valuation K)) (c_word_at : Kl P w K mg base 10 "word_at" (sp_word_at K)) : Kl P w K mg base 11 "falls" (sp_falls K) := by
  have nd := sc_falls.nd
  refine Kl.by_body D sc_falls (fun vs H Q E h => ?_) (fun f cdv A outer s H vs Q E hr h => ?_)
  · obtain ⟨_, _, _, _, rfl, _⟩ := h
    rfl
  · obtain ⟨a, c, d, M, rfl, hc, hh, hd0, hM, q⟩ := h
    have hu1 := hu_of hr
    refine ⟨_, (pss_cons (ps_set (i := 2) nd rfl (by first | exact Or.inl rfl | exact Or.inr rfl) (pe_ix ix_tup (pe_k c_least_and_scale  hr (by decide) (by rfl) (pa_cons (pv 0) pa_nil)) pe_int (fun _ _ => rfl)))
      (pss_cons (ps_set (i := 3) nd rfl (by first | exact Or.inl rfl | exact Or.inr rfl) (pe_ix ix_tup (pe_k c_numbers_of  hr (by decide) (by rfl) (pa_cons (pv 2) pa_nil)) pe_int (fun _ _ => rfl)))
      (pss_cons (ps_set (i := 4) nd rfl (by first | exact Or.inl rfl | exact Or.inr rfl) (pv 3))
      (pss_cons (ps_set (i := 5) nd rfl (by first | exact Or.inl rfl | exact Or.inr rfl) (pe_lst pa_nil))
      (pss_cons (ps_for PassesOwn.never rfl (pi_range2 (by rfl) T.range (pa_cons pe_int (pa_cons (pe_op op_add (pv 1) pe_int) pa_nil))) (pg_name (i := 6) nd rfl (by first | exact Or.inl rfl | exact Or.inr rfl)) (pss_one (ps_if (pt_cmpR op_eq (pe_op op_mod (pv 4) (pv 6)) pe_int (nomark _)) (pss_cons (ps_set (i := 7) nd rfl (by first | exact Or.inl rfl | exact Or.inr rfl) (pe_k c_valuation  hr (by decide) (by rfl) (pa_cons (pv 4) (pa_cons (pv 6) pa_nil))))
      (pss_cons (ps_for PassesOwn.never rfl (pi_range1 (by rfl) T.range (pa_cons (pv 7) pa_nil)) (pg_name (i := 8) nd rfl (by first | exact Or.inl rfl | exact Or.inr rfl)) (pss_one (ps_aug (i := 4) nd rfl (by first | exact Or.inl rfl | exact Or.inr rfl) (pv 6) ip_fdivAny)))
      (pss_one (ps_expr (pe_bm PySem.F.plainAttrs_list PySem.F.slot_list_append PySem.F.type_list_append mt_append (pv 5) (pa_cons (pe_tup (pa_cons (pv 6) (pa_cons (pv 7) (pa_cons (pe_k c_word_at  hr (by decide) (by rfl) (pa_cons (pv 2) (pa_cons (pv 6) pa_nil))) pa_nil)))) pa_nil)))))) pss_nil)))
      (pss_one (ps_ret (pe_callTy call_tuple_of (by rfl) T.tuple (by decide +kernel) (pa_cons (pv 5) pa_nil))))))))), ?_⟩
    have hmd := hh.md
    have hDB := disc_B hmd
    obtain ⟨⟨h1, h2, h3, h4⟩, v, hl⟩ := hh
    refine ⟨.ref a, rfl, a, c, rfl, hc, h1, h2, h3, h4, fun H1 t l v' d' s1 gt gl hl' => ?_⟩
    obtain ⟨rfl, rfl⟩ := hl.uniq hl'
    refine ⟨t, _, 0, .ref l, rfl, rfl, tup_of gt, rfl, ?_⟩
    first | refine sigN [some (.ref a), some (.int (((M + 1 : Nat) : Int))), some (.ref l), none, none, none, none, none, none] (by rfl) ?_ | refine sig [some (.ref a), some (.int (((M + 1 : Nat) : Int))), some (.ref l), none, none, none, none, none, none] (by rfl) ?_
    refine ⟨.ref l, rfl, l, d, rfl, tup_of gl, hmd, fun u nu => ?_⟩
    have s2 := Same.new (H := H1) (p := u) (o := .tup d.nums) nu
    have gu : upd H1 u (.tup d.nums) u = some (.tup d.nums) := upd_same
    generalize upd H1 u (.tup d.nums) = H2 at s2 gu ⊢
    refine ⟨u, _, 6, _, rfl, rfl, tup_of gu, rfl, ?_⟩
    first | refine sigN [some (.ref a), some (.int (((M + 1 : Nat) : Int))), some (.ref l), some (.int (d.disc)), none, none, none, none, none] (by rfl) ?_ | refine sig [some (.ref a), some (.int (((M + 1 : Nat) : Int))), some (.ref l), some (.int (d.disc)), none, none, none, none, none] (by rfl) ?_
    refine ⟨_, rfl, ?_⟩
    first | refine sigN [some (.ref a), some (.int (((M + 1 : Nat) : Int))), some (.ref l), some (.int (d.disc)), some (.int (d.disc)), none, none, none, none] (by rfl) ?_ | refine sig [some (.ref a), some (.int (((M + 1 : Nat) : Int))), some (.ref l), some (.int (d.disc)), some (.int (d.disc)), none, none, none, none] (by rfl) ?_
    have gl2 := s2 _ _ gl
    refine ⟨(by show 0 ≤ sizeLine; decide), fun D nD => ?_⟩
    have s3 := Same.new (H := H2) (p := D) (o := .lst []) nD
    have gD : upd H2 D (.lst []) D = some (.lst []) := upd_same
    generalize upd H2 D (.lst []) = H3 at s3 gD ⊢
    first | refine sigN [some (.ref a), some (.int (((M + 1 : Nat) : Int))), some (.ref l), some (.int (d.disc)), some (.int (d.disc)), some (.ref D), none, none, none] (by rfl) ?_ | refine sig [some (.ref a), some (.int (((M + 1 : Nat) : Int))), some (.ref l), some (.int (d.disc)), some (.int (d.disc)), some (.ref D), none, none, none] (by rfl) ?_
    refine ⟨_, rfl, _, _, rfl, rfl, _, _, rfl, ⟨by decide, by decide, by omega, by omega⟩, for_range (lo := 2) (n := (((M + 1 : Nat) : Int) + 1 - 2).toNat) (fun i σ H' => Same H2 H' ∧ ∃ (rest : Int) (ts : List V) (zs : List (Int × Int × Str)) (v6 v7 v8 : Option V), σ = [some (.ref a), some (.int ((M + 1 : Nat) : Int)), some (.ref l), some (.int d.disc), some (.int rest), some (.ref D), v6, v7, v8] ∧ H' D = some (.lst ts) ∧ TA H' ts zs ∧ FR d (fl d.disc i) zs ∧ Rs d.disc rest (2 + i)) ⟨s3, d.disc, [], [], none, none, none, rfl, gD, .nil, .nil, Rs.new _⟩ ?_ ?_⟩
    · rintro i σ H' hi ⟨s4, rest, ts, zs, v6, v7, v8, rfl, g4, ta, fr, rs⟩
      rw [show (2 : Int) + (i : Int) = ((2 + i : Nat) : Int) by omega]
      first | refine sigN [some (.ref a), some (.int (((M + 1 : Nat) : Int))), some (.ref l), some (.int (d.disc)), some (.int (rest)), some (.ref D), some (.int (((2 + i : Nat) : Int))), v7, v8] (by rfl) ?_ | refine sig [some (.ref a), some (.int (((M + 1 : Nat) : Int))), some (.ref l), some (.int (d.disc)), some (.int (rest)), some (.ref D), some (.int (((2 + i : Nat) : Int))), v7, v8] (by rfl) ?_
      have hp0 : (0 : Int) < ((2 + i : Nat) : Int) := by omega
      have no : ¬ (2 + i ∈ PL ∧ d.disc % ((2 + i : Nat) : Int) = 0) → FR d (fl d.disc (i + 1)) zs := fun z => by
        rw [fl_succ, if_neg z, List.append_nil]
        exact fr
      refine ⟨_, rfl, _, rfl, _, _, rfl, rfl, hp0, rfl, _, rfl, ?_⟩
      rw [dec_int]
      by_cases hj : 2 + i ∈ PL
      · by_cases hz : ((2 + i : Nat) : Int) ∣ rest
        · refine iteY (by simpa using Int.emod_eq_zero_of_dvd hz) ?_
          have hdD := (rs.dvd hj).mp hz
          have hr0 : rest ≠ 0 := fun z => by
            obtain ⟨A, hA, _⟩ := rs.at_
            exact hd0 (by rw [hA, z, Int.zero_mul])
          obtain ⟨k, m, hk, hm⟩ := val_int (pl_two hj) hr0
          subst hk
          obtain ⟨rs2, m', hD, hm'⟩ := rs.take hj hm
          have hk9 := k_lt (pl_two hj) hD hDB hd0
          refine ⟨_, rfl, _, rfl, 2 + i, k, _, m, rfl, rfl, by omega, by omega, hm, ?_⟩
          first | refine sigN [some (.ref a), some (.int (((M + 1 : Nat) : Int))), some (.ref l), some (.int (d.disc)), some (.int (((2 + i : Nat) : Int) ^ k * m)), some (.ref D), some (.int (((2 + i : Nat) : Int))), some (.int ((k : Int))), v8] (by rfl) ?_ | refine sig [some (.ref a), some (.int (((M + 1 : Nat) : Int))), some (.ref l), some (.int (d.disc)), some (.int (((2 + i : Nat) : Int) ^ k * m)), some (.ref D), some (.int (((2 + i : Nat) : Int))), some (.int ((k : Int))), v8] (by rfl) ?_
          refine ⟨_, rfl, (k : Int), rfl, by omega, by omega, for_range (lo := 0) (n := (k : Int).toNat) (fun y σ Hy => Hy = H' ∧ ∃ (v8 : Option V), σ = [some (.ref a), some (.int ((M + 1 : Nat) : Int)), some (.ref l), some (.int d.disc), some (.int (((2 + i : Nat) : Int) ^ (k - y) * m)), some (.ref D), some (.int ((2 + i : Nat) : Int)), some (.int (k : Int)), v8]) ⟨rfl, v8, rfl⟩ ?_ ?_⟩
          · rintro y σ Hy hy ⟨rfl, v8, rfl⟩
            rw [Int.toNat_natCast] at hy
            obtain ⟨w', hw⟩ : ∃ w', k - y = w' + 1 := ⟨k - y - 1, by omega⟩
            have bp : B 14 ((2 + i : Nat) : Int) := by
              unfold Gd.B
              omega
            have e : ((2 + i : Nat) : Int) ^ (k - y) * m = ((2 + i : Nat) : Int) * (((2 + i : Nat) : Int) ^ (k - (y + 1)) * m) := by
              rw [hw, show k - (y + 1) = w' by omega, Int.pow_succ]
              grind
            rw [e]
            first | refine sigN [some (.ref a), some (.int (((M + 1 : Nat) : Int))), some (.ref l), some (.int (d.disc)), some (.int (((2 + i : Nat) : Int) * (((2 + i : Nat) : Int) ^ (k - (y + 1)) * m))), some (.ref D), some (.int (((2 + i : Nat) : Int))), some (.int ((k : Int))), some (.int (0 + (y : Int)))] (by rfl) ?_ | refine sig [some (.ref a), some (.int (((M + 1 : Nat) : Int))), some (.ref l), some (.int (d.disc)), some (.int (((2 + i : Nat) : Int) * (((2 + i : Nat) : Int) ^ (k - (y + 1)) * m))), some (.ref D), some (.int (((2 + i : Nat) : Int))), some (.int ((k : Int))), some (.int (0 + (y : Int)))] (by rfl) ?_
            refine ⟨_, rfl, _, rfl, _, _, rfl, rfl, div_any (by omega) bp (by decide), ?_⟩
            have ed : (((2 + i : Nat) : Int) * (((2 + i : Nat) : Int) ^ (k - (y + 1)) * m)).fdiv ((2 + i : Nat) : Int) = ((2 + i : Nat) : Int) ^ (k - (y + 1)) * m := Int.mul_fdiv_cancel_left _ (by omega)
            refine ⟨rfl, some (.int (0 + (y : Int))), ?_⟩
            show [some (V.ref a), some (V.int ((M + 1 : Nat) : Int)), some (V.ref l), some (V.int d.disc), some (V.int ((((2 + i : Nat) : Int) * (((2 + i : Nat) : Int) ^ (k - (y + 1)) * m)).fdiv ((2 + i : Nat) : Int))), some (V.ref D), some (V.int ((2 + i : Nat) : Int)), some (V.int (k : Int)), some (V.int (0 + (y : Int)))] = _
            rw [ed]
          · rintro σ Hy ⟨rfl, v8, rfl⟩
            rw [Int.toNat_natCast, Nat.sub_self, Int.pow_zero, Int.one_mul]
            obtain ⟨x, y, flx⟩ := (pw_of hj).fl (fc d) (by rw [fcd]; exact hdD)
            have hl4 : ts.length ≤ 198 := by
              have h1 := ta.len
              have h2 := fr.len
              have h3 := fl_len d.disc i
              omega
            refine ⟨_, rfl, .inl ⟨rfl, _, lst_of g4⟩, _, rfl, _, rfl, _, rfl, _, rfl, l, d, 2 + i, rfl, tup_of (s4 _ _ gl2), hmd, pw_of hj, fun z => (z hdD).elim, fun _ x2 y2 fl2 H5 s5 => ?_⟩
            refine ⟨(by show 3 ≤ sizeLine; decide), fun t2 n2 => ?_⟩
            have s6 := Same.new (H := H5) (p := t2) (o := .tup [.int ((2 + i : Nat) : Int), .int (k : Int), .str (wd (2 + i) d x2)]) n2
            have g6 : upd H5 t2 (.tup [.int ((2 + i : Nat) : Int), .int (k : Int), .str (wd (2 + i) d x2)]) t2 = some (.tup [.int ((2 + i : Nat) : Int), .int (k : Int), .str (wd (2 + i) d x2)]) := upd_same
            generalize upd H5 t2 (.tup [.int ((2 + i : Nat) : Int), .int (k : Int), .str (wd (2 + i) d x2)]) = H6 at s6 g6 ⊢
            have s56 := s5.trans s6
            have g7 := s56 _ _ g4
            refine ⟨D, _, _, rfl, rfl, g7, (by rw [sizeLine_eq]; omega), ?_⟩
            refine ⟨Same.put (s4.trans s56) nD, m, ts ++ [.ref t2], zs ++ [(((2 + i : Nat) : Int), (k : Int), wd (2 + i) d x2)], _, _, _, rfl, upd_same, ?_, ?_, rs2⟩
            · exact ((ta.same s56).put g7).app (.cons (by rw [upd_ne (ne_of g6 g7 (by intro z; cases z))]; exact g6) .nil)
            · rw [fl_succ, if_pos ⟨hj, Int.emod_eq_zero_of_dvd hdD⟩]
              exact fr.app (.cons ⟨k, m', x2, y2, hD, hm', fl2, rfl⟩ .nil)
        · refine iteN (by simpa using fun z => hz (Int.dvd_of_emod_eq_zero z)) ?_
          exact ⟨s4, rest, ts, zs, _, _, _, rfl, g4, ta, no fun z => hz ((rs.dvd hj).mpr (Int.dvd_of_emod_eq_zero z.2)), rs.skip hj hz⟩
      · obtain ⟨hz, rs2⟩ := rs.comp (by omega) (by omega) hj
        refine iteN (by simpa using fun z => hz (Int.dvd_of_emod_eq_zero z)) ?_
        exact ⟨s4, rest, ts, zs, _, _, _, rfl, g4, ta, no fun z => hj z.1, rs2⟩
    · rintro σ H' ⟨s4, rest, ts, zs, v6, v7, v8, rfl, g4, ta, fr, rs⟩
      rw [show (((M + 1 : Nat) : Int) + 1 - 2).toNat = M by omega] at fr
      refine ⟨_, rfl, D, _, rfl, .inl ⟨lst_of g4, fun r nr => ?_⟩⟩
      have s5 := Same.new (o := .tup ts) nr
      exact q _ r ts zs ((s1.trans s2).trans (s4.trans s5)) upd_same (ta.same s5) fr
end
end K15
set_option Elab.async false
set_option linter.all false
set_option maxRecDepth 100000
set_option maxHeartbeats 4000000
namespace K15
open PySem PySem.Spec PyProof.Rows L2 Gd QM K45M EcZ SvM PaM K40 DpM
theorem Lst.ex {c : Cv} (hd : c.disc ≠ 0) : ∃ v d, Lst c.c4 c.c6 v d := by
  have l1 : Lets c.c4 c.c6 1 := ⟨by decide, c.c4, c.c6, by simp, by simp, isp_of_d hd⟩
  obtain ⟨w, lw, hw⟩ := lets_of (nz_of_d hd) l1
  obtain ⟨w0, a, b, f4, f6, ha⟩ := lw
  obtain ⟨d, hd⟩ := isp_curve.mp ha
  exact ⟨w, d, w0, hw, a, b, f4, f6, hd⟩
/-! ### what is shown -/
theorem ok_i {k : Int} {m : Nat} (h : B m k) (hm : m ≤ 1900) : okD (.int k) = true := by
  show decide (k.natAbs.log2 < 1920) = true
  exact decide_eq_true (h.log hm)
theorem ok_w {W : Str} (h : W = "additive" ∨ W = "split" ∨ W = "unsplit") : okD (.str W) = true ∧ wt (.str W) ≤ 1000 := by
  rcases h with rfl | rfl | rfl <;> exact ⟨by decide +kernel, by decide +kernel⟩
theorem wd_is (n : Nat) (d : Cv) (x : Int) : wd n d x = "additive" ∨ wd n d x = "split" ∨ wd n d x = "unsplit" := by
  unfold wd
  split
  · exact .inl rfl
  · split
    · exact .inr (.inl rfl)
    · exact .inr (.inr rfl)
def t4 (x y : Int) (ns : List Int) (W : Str) (z : Int) : PyData := .list [.tuple [.int x, .int y], .tuple (ns.map PyData.int), .str W, .int z]
theorem t4_ok {x y : Int} {ns : List Int} {W : Str} {z : Int} (hx : B 30 x) (hy : B 30 y) (h1 : ns.length ≤ 2) (h2 : ∀ k ∈ ns, B 30 k) (h3 : W = "additive" ∨ W = "split" ∨ W = "unsplit") (h4 : B 30 z) : okD (t4 x y ns W z) = true ∧ (t4 x y ns W z).depth ≤ 40 ∧ wt (t4 x y ns W z) ≤ 1000000 := by
  obtain ⟨k1, k2⟩ := ok_w h3
  have kx := ok_i hx (by decide)
  have ky := ok_i hy (by decide)
  have kz := ok_i h4 (by decide)
  match ns, h1, h2 with
  | [], _, _ =>
    refine ⟨?_, by simp [t4, PyData.depth, PyData.depthAll], ?_⟩
    · simp [t4, okD, okAll] at k1 kx ky kz ⊢
      exact ⟨⟨kx, ky⟩, k1, kz⟩
    · simp [t4, wt, wtAll] at k2 ⊢
      omega
  | [a], _, h2 =>
    have ka := ok_i (h2 a (by simp)) (by decide)
    refine ⟨?_, by simp [t4, PyData.depth, PyData.depthAll], ?_⟩
    · simp [t4, okD, okAll] at k1 kx ky kz ka ⊢
      exact ⟨⟨kx, ky⟩, ka, k1, kz⟩
    · simp [t4, wt, wtAll] at k2 ⊢
      omega
  | [a, b], _, h2 =>
    have ka := ok_i (h2 a (by simp)) (by decide)
    have kb := ok_i (h2 b (by simp)) (by decide)
    refine ⟨?_, by simp [t4, PyData.depth, PyData.depthAll], ?_⟩
    · simp [t4, okD, okAll] at k1 kx ky kz ka kb ⊢
      exact ⟨⟨kx, ky⟩, ⟨ka, kb⟩, k1, kz⟩
    · simp [t4, wt, wtAll] at k2 ⊢
      omega
theorem dts_ok : ∀ {zs : List (Int × Int × Str)}, (∀ z ∈ zs, B 30 z.1 ∧ B 30 z.2.1 ∧ (z.2.2 = "additive" ∨ z.2.2 = "split" ∨ z.2.2 = "unsplit")) → okAll (dts zs) = true ∧ PyData.depthAll (dts zs) ≤ 2 ∧ wtAll (dts zs) ≤ 4900 * zs.length
  | [], _ => ⟨rfl, by simp [dts, PyData.depthAll], by simp [dts, wtAll]⟩
  | (a, b, W) :: zs, h => by
    obtain ⟨i1, i2, i3⟩ := dts_ok (zs := zs) fun z hz => h z (List.mem_cons_of_mem _ hz)
    obtain ⟨h1, h2, h3⟩ := h (a, b, W) (List.mem_cons_self ..)
    obtain ⟨k1, k2⟩ := ok_w h3
    have ka := ok_i h1 (by decide)
    have kb := ok_i h2 (by decide)
    refine ⟨?_, ?_, ?_⟩
    · simp [dts, okD, okAll] at k1 ka kb i1 ⊢
      exact ⟨⟨ka, kb, k1⟩, i1⟩
    · simp [dts, PyData.depth, PyData.depthAll] at i2 ⊢
      omega
    · simp [dts, wt, wtAll] at k2 i3 ⊢
      omega
theorem FR.all {d : Cv} (hB : B 900 d.disc) (h0 : d.disc ≠ 0) : ∀ {ps zs}, (∀ p ∈ ps, 2 ≤ p ∧ p < 200) → FR d ps zs → ∀ z ∈ zs, B 30 z.1 ∧ B 30 z.2.1 ∧ (z.2.2 = "additive" ∨ z.2.2 = "split" ∨ z.2.2 = "unsplit")
  | _, _, _, .nil, z, hz => by cases hz
  | _, _, hp, .cons h r, z, hz => by
    rcases List.mem_cons.mp hz with rfl | hz
    · have := hp _ (List.mem_cons_self ..)
      exact h.ok this.1 this.2 hB h0
    · exact FR.all hB h0 (fun p hp' => hp p (List.mem_cons_of_mem _ hp')) r z hz
/-! ### the primes up to a bound that divide -/
theorem base_is {M : Nat} (hM : M = 1 ∨ M = 2 ∨ M = 39 ∨ M = 198) : (PL.filter fun p => decide (p ≤ M + 1)) = ((List.range M).map (2 + ·)).filter fun p => PL.contains p := by
  rcases hM with rfl | rfl | rfl | rfl <;> decide +kernel
theorem pl_fl (D : Int) {M : Nat} (hM : M = 1 ∨ M = 2 ∨ M = 39 ∨ M = 198) : (PL.filter fun p => decide (p ≤ M + 1) && decide (D % (p : Int) = 0)) = fl D M := by
  have h := congrArg (fun l => l.filter fun (p : Nat) => decide (D % (p : Int) = 0)) (base_is hM)
  simp only [List.filter_filter] at h
  unfold fl
  rw [List.filter_congr (fun p _ => Bool.and_comm _ _), h]
  exact List.filter_congr fun p _ => Bool.and_comm _ _
theorem fl_mem {D : Int} {M p : Nat} (h : p ∈ fl D M) : p ∈ PL ∧ (p : Int) ∣ D := by
  unfold fl at h
  have h2 := (List.mem_filter.mp h).2
  rw [Bool.and_eq_true, decide_eq_true_iff] at h2
  exact ⟨List.contains_iff_mem.mp h2.1, Int.dvd_of_emod_eq_zero h2.2⟩
theorem pl_lt {p : Nat} (h : p ∈ PL) : p < 200 := (pw_of h).lt
/-! ### a prime that does not divide -/
theorem disc_le {c : Cv} (h : c.Tn) : c.disc.natAbs ≤ 10000000 := by
  have h4 := h.c4
  have h6 := h.c6
  have e := disc_eq c
  have k4 := mul_na (mul_na h4 h4) h4
  have k6 := mul_na h6 h6
  omega
theorem free_ex {D : Int} (h0 : D ≠ 0) (h1 : D.natAbs ≤ 10000000) : ∃ p ∈ PL, ¬ D % (p : Int) = 0 := by
  refine Classical.byContradiction fun hn => ?_
  have hd : ∀ p ∈ PL, p ∣ D.natAbs := fun p hp => by
    have : D % (p : Int) = 0 := Classical.byContradiction fun z => hn ⟨p, hp, z⟩
    simpa using Int.natAbs_dvd_natAbs.mpr (Int.dvd_of_emod_eq_zero this)
  have d2 := hd 2 (by decide)
  have d6 := Nat.Coprime.mul_dvd_of_dvd_of_dvd (by decide) d2 (hd 3 (by decide))
  have d30 := Nat.Coprime.mul_dvd_of_dvd_of_dvd (by decide) d6 (hd 5 (by decide))
  have d210 := Nat.Coprime.mul_dvd_of_dvd_of_dvd (by decide) d30 (hd 7 (by decide))
  have d11 := Nat.Coprime.mul_dvd_of_dvd_of_dvd (by decide) d210 (hd 11 (by decide))
  have d13 := Nat.Coprime.mul_dvd_of_dvd_of_dvd (by decide) d11 (hd 13 (by decide))
  have d17 := Nat.Coprime.mul_dvd_of_dvd_of_dvd (by decide) d13 (hd 17 (by decide))
  have d19 := Nat.Coprime.mul_dvd_of_dvd_of_dvd (by decide) d17 (hd 19 (by decide))
  have d23 := Nat.Coprime.mul_dvd_of_dvd_of_dvd (by decide) d19 (hd 23 (by decide))
  have := Nat.le_of_dvd (by omega) d23
  omega
theorem smo_get {n : Nat} {d : Cv} {x y : Int} (flx : FlM.Fl n (fc d) x y) (pw : Pw n) : valV (mergeK [] [(Sum.inr "split", V.int ((n : Int) - 1)), (Sum.inr "unsplit", V.int ((n : Int) + 1)), (Sum.inr "additive", V.int (n : Int))]) (Sum.inr (wd n d x)) = some (.int (((due n (fc d) n).length : Nat) : Int)) := by
  rcases wd_cases flx pw with ⟨e, k⟩ | ⟨e, k⟩ | ⟨e, k⟩
  · rw [e, k]
    rfl
  · rw [e, show (((due n (fc d) n).length : Nat) : Int) = (n : Int) - 1 by omega]
    rfl
  · rw [e, show (((due n (fc d) n).length : Nat) : Int) = (n : Int) + 1 by omega]
    rfl
end K15
set_option Elab.async false
set_option linter.all false
set_option maxRecDepth 100000
set_option maxHeartbeats 4000000
namespace K15
open PySem PySem.Spec PyProof.Rows L2 Gd QM K45M EcZ SvM PaM K40 DpM
theorem TA.but {H H' : Hp} {m cl : Addr} {n : Nat} (b : But m H H') (hm : MAt H m cl n) : ∀ {ts zs}, TA H ts zs → TA H' ts zs
  | _, _, .nil => .nil
  | _, _, .cons h r => .cons (b.tup hm h) (TA.but b hm r)
section
variable {P : Program} {w : World} {K : PySem.W.Frag} {mg : Str → Option Value} {base : Heap}
def sp_law (K : PySem.W.Frag) : Sp := fun vs H Q _ => ∃ (a : Addr) (ns : List Int), vs = [.ref a] ∧ SqL K H a (ns.map V.int) ∧ ns.length ≤ 63 ∧ ∀ H', Q (.bl true) H'
abbrev s_law : Stmt := topS 95
theorem sc_law : FnScope ["script", "primes", "k", "m", "five_v", "least", "d", "most", "due", "p", "often", "left", "point", "ways", "word", "smooth", "told", "curve", "one"] ["script"] (defScope s_law) := ⟨rfl, rfl, rfl, by decide +kernel, rfl, by decide +kernel, by decide +kernel⟩
theorem k_law {fl : Addr} {fdl : FuncData} (T : Tx K mg) (Fl : Fun K "law" "law" s_law fl fdl) (c_law_primes : Kl P w K mg base 1 "_law_primes" (sp_law_primes K)) (c_law_begun : Kl P w K mg base 1 "_law_begun" (sp_law_begun K)) (c_law_curve : Kl P w K mg base 3 "_law_curve" (sp_law_curve K)) (c_law_least_of : Kl P w K mg base 4 "_law_least_of" (sp_law_least_of K)) (c_law_of : Kl P w K mg base 2 "_law_of" (sp_law_of K)) (c_law_word : Kl P w K mg base 3 "_law_word" (sp_law_word K)) (c_law_moved : Kl P w K mg base 5 "_law_moved" (sp_law_moved K)) (c_law_numbers : Kl P w K mg base 1 "_law_numbers" (sp_law_numbers K)) (c_singular_point : Kl P w K mg base 10 "singular_point" (sp_singular_point K)) (c_tangents : Kl P w K mg base 10 "tangents" (sp_tangents K)) (c_fall_at : Kl P w K mg base 11 "fall_at" (sp_fall_at K)) (c_smooth_count : Kl P w K mg base 11 "smooth_count" (sp_smooth_count K)) (c_falls : Kl P w K mg base 11 "falls" (sp_falls K)) : FnG P w K mg base 12 fl fdl ["script"] (sp_law K) := by
  have nd := sc_law.nd
  refine FnG.by_body Fl sc_law (fun vs H Q E h => ?_) (fun cdv A outer s H vs Q E hgd hr h => ?_)
  · obtain ⟨_, _, rfl, _⟩ := h
    rfl
  · obtain ⟨a, ns, rfl, hx, hl, q⟩ := h
    have hu1 := hu_of hr
    refine ⟨_, (pss_cons (ps_set (i := 1) nd rfl (by first | exact Or.inl rfl | exact Or.inr rfl) (pe_k c_law_primes  hr (by decide) (by rfl) (pa_cons pe_int pa_nil)))
      (pss_cons (ps_for PassesOwn.never rfl (pi_range1 (by rfl) T.range (pa_cons pe_int pa_nil)) (pg_name (i := 2) nd rfl (by first | exact Or.inl rfl | exact Or.inr rfl)) (pss_cons (ps_set (i := 3) nd rfl (by first | exact Or.inl rfl | exact Or.inr rfl) (pe_k c_law_begun  hr (by decide) (by rfl) (pa_cons (pv 0) (pa_cons (pv 2) pa_nil))))
      (pss_cons (ps_set (i := 4) nd rfl (by first | exact Or.inl rfl | exact Or.inr rfl) (pe_k c_law_curve  hr (by decide) (by rfl) (pa_cons (pv 3) (pa_cons (pe_k c_law_of  hr (by decide) (by rfl) (pa_cons (pv 3) (pa_cons (pe_lst (pa_cons pe_int (pa_cons pe_int (pa_cons pe_int pa_nil)))) pa_nil))) pa_nil))))
      (pss_cons (ps_set (i := 5) nd rfl (by first | exact Or.inl rfl | exact Or.inr rfl) (pe_k c_law_least_of  hr (by decide) (by rfl) (pa_cons (pv 4) pa_nil)))
      (pss_cons (ps_asg (pe_tup (pa_cons (pe_ix ix_tup (pe_k c_law_numbers  hr (by decide) (by rfl) (pa_cons (pv 5) pa_nil)) pe_int (fun _ _ => rfl)) (pa_cons (pe_k c_law_of  hr (by decide) (by rfl) (pa_cons (pv 3) (pa_cons (pe_lst (pa_cons pe_int (pa_cons pe_int (pa_cons pe_int (pa_cons pe_int (pa_cons pe_int pa_nil)))))) pa_nil))) (pa_cons (pe_lst pa_nil) pa_nil)))) (pg_tup rfl (pgs_cons (pg_name (i := 6) nd rfl (by first | exact Or.inl rfl | exact Or.inr rfl)) (pgs_cons (pg_name (i := 7) nd rfl (by first | exact Or.inl rfl | exact Or.inr rfl)) (pgs_cons (pg_name (i := 8) nd rfl (by first | exact Or.inl rfl | exact Or.inr rfl)) pgs_nil)))))
      (pss_cons (ps_for PassesOwn.never rfl (pi_list (pe_lc (own := [("p", 9)]) (g := gName 9) rfl nd (pi_list (pv 1)) (blkOk_by (N := ["script", "primes", "k", "m", "five_v", "least", "d", "most", "due", "p", "often", "left", "point", "ways", "word", "smooth", "told", "curve", "one"]) (sc := defScope s_law) (by decide +kernel)) (fun _ _ _ _ _ => (pg_name (i := 9) nd rfl (by first | exact Or.inl rfl | exact Or.inr rfl))) (fun _ _ _ _ _ => (pts_one (PW.pt (pw_and (pt_cmpR op_le (pv 9) (pv 7) (nomark _)) (pw_and1 (pt_cmpR op_eq (pe_op op_mod (pe_callTy call_intI (by rfl) T.int (by decide +kernel) (pa_cons (pv 6) pa_nil)) (pv 9)) pe_int (nomark _))))))) (fun _ _ _ _ _ => (pv 9)))) (pg_name (i := 9) nd rfl (by first | exact Or.inl rfl | exact Or.inr rfl)) (pss_cons (ps_par (i := 10) (j := 11) (by rfl) nd rfl rfl (by decide) rfl rfl (pa_cons pe_int (pa_cons (pv 6) pa_nil)) (by rfl))
      (pss_cons (ps_while PassesOwn.never (pt_cmpR op_eq (pe_op op_mod (pe_callTy call_intI (by rfl) T.int (by decide +kernel) (pa_cons (pv 11) pa_nil)) (pv 9)) pe_int (nomark _)) (pss_one (ps_par (i := 10) (j := 11) (by rfl) nd rfl rfl (by decide) rfl rfl (pa_cons (pe_op op_add (pv 10) pe_int) (pa_cons (pe_op op_fdivAny (pv 11) (pv 9)) pa_nil)) (by rfl))))
      (pss_cons (ps_asg (pe_k c_law_word  hr (by decide) (by rfl) (pa_cons (pv 5) (pa_cons (pv 9) pa_nil))) (pg_tup rfl (pgs_cons (pg_name (i := 12) nd rfl (by first | exact Or.inl rfl | exact Or.inr rfl)) (pgs_cons (pg_name (i := 13) nd rfl (by first | exact Or.inl rfl | exact Or.inr rfl)) (pgs_cons (pg_name (i := 14) nd rfl (by first | exact Or.inl rfl | exact Or.inr rfl)) pgs_nil)))))
      (pss_cons (ps_expr (pe_bm PySem.F.plainAttrs_list PySem.F.slot_list_append PySem.F.type_list_append mt_append (pv 8) (pa_cons (pe_tup (pa_cons (pv 9) (pa_cons (pv 10) (pa_cons (pv 14) pa_nil)))) pa_nil)))
      (pss_cons (ps_set (i := 15) nd rfl (by first | exact Or.inl rfl | exact Or.inr rfl) (pe_dget hu1 (pe_disp (pps_cons pe_str (pe_op op_sub (pv 9) pe_int) (pps_cons pe_str (pe_op op_add (pv 9) pe_int) (pps_cons pe_str (pv 9) pps_nil))) (by rfl) (by rfl) (fun z => by cases z) (by decide)) (pv 14) (fun _ _ => rfl)))
      (pss_cons (ps_set (i := 16) nd rfl (by first | exact Or.inl rfl | exact Or.inr rfl) (pe_lst (pa_cons (pe_k c_singular_point  hr (by decide) (by rfl) (pa_cons (pv 4) (pa_cons (pv 9) pa_nil))) (pa_cons (pe_k c_tangents  hr (by decide) (by rfl) (pa_cons (pv 4) (pa_cons (pv 9) pa_nil))) (pa_cons (pe_k c_fall_at  hr (by decide) (by rfl) (pa_cons (pv 4) (pa_cons (pv 9) pa_nil))) (pa_cons (pe_k c_smooth_count  hr (by decide) (by rfl) (pa_cons (pv 4) (pa_cons (pv 9) pa_nil))) pa_nil))))))
      (pss_one (ps_if (pt_cmpR op_ne (pe_callB (call_reprD hgd hr.units) (by rfl) T.repr (by decide +kernel) (pa_cons (pv 16) pa_nil)) (pe_callB (call_reprD hgd hr.units) (by rfl) T.repr (by decide +kernel) (pa_cons (pe_lst (pa_cons (pv 12) (pa_cons (pv 13) (pa_cons (pv 14) (pa_cons (pv 15) pa_nil))))) pa_nil)) (nomark _)) (pss_one (ps_ret pe_bl)) pss_nil)))))))))
      (pss_cons (ps_for PassesOwn.never rfl (pi_tup (pe_tup (pa_cons (pv 4) (pa_cons (pe_k c_law_moved  hr (by decide) (by rfl) (pa_cons (pv 3) (pa_cons (pv 4) (pa_cons (pe_k c_law_of  hr (by decide) (by rfl) (pa_cons (pv 3) (pa_cons (pe_lst (pa_cons pe_int (pa_cons pe_int (pa_cons pe_int (pa_cons pe_int pa_nil))))) pa_nil))) pa_nil)))) (pa_cons (pv 5) pa_nil))))) (pg_name (i := 17) nd rfl (by first | exact Or.inl rfl | exact Or.inr rfl)) (pss_one (ps_if (pt_cmpR op_ne (pe_callB (call_reprD hgd hr.units) (by rfl) T.repr (by decide +kernel) (pa_cons (pe_k c_falls  hr (by decide) (by rfl) (pa_cons (pv 17) (pa_cons (pv 7) pa_nil))) pa_nil)) (pe_callB (call_reprD hgd hr.units) (by rfl) T.repr (by decide +kernel) (pa_cons (pe_callTy call_tuple_of (by rfl) T.tuple (by decide +kernel) (pa_cons (pv 8) pa_nil)) pa_nil)) (nomark _)) (pss_one (ps_ret pe_bl)) pss_nil)))
      (pss_cons (ps_set (i := 9) nd rfl (by first | exact Or.inl rfl | exact Or.inr rfl) (pe_k c_law_of  hr (by decide) (by rfl) (pa_cons (pv 3) (pa_cons (pe_lc (own := [("one", 18)]) (g := gName 18) rfl nd (pi_list (pv 1)) (blkOk_by (N := ["script", "primes", "k", "m", "five_v", "least", "d", "most", "due", "p", "often", "left", "point", "ways", "word", "smooth", "told", "curve", "one"]) (sc := defScope s_law) (by decide +kernel)) (fun _ _ _ _ _ => (pg_name (i := 18) nd rfl (by first | exact Or.inl rfl | exact Or.inr rfl))) (fun _ _ _ _ _ => (pts_one (pt_cmpR op_ne (pe_op op_mod (pe_callTy call_intI (by rfl) T.int (by decide +kernel) (pa_cons (pv 6) pa_nil)) (pv 18)) pe_int (nomark _)))) (fun _ _ _ _ _ => (pv 18))) pa_nil))))
      (pss_one (ps_if (pt_cmpR op_ne (pe_callB (call_reprD hgd hr.units) (by rfl) T.repr (by decide +kernel) (pa_cons (pe_lst (pa_cons (pe_k c_singular_point  hr (by decide) (by rfl) (pa_cons (pv 4) (pa_cons (pv 9) pa_nil))) (pa_cons (pe_k c_tangents  hr (by decide) (by rfl) (pa_cons (pv 4) (pa_cons (pv 9) pa_nil))) (pa_cons (pe_k c_fall_at  hr (by decide) (by rfl) (pa_cons (pv 4) (pa_cons (pv 9) pa_nil))) pa_nil)))) pa_nil)) (pe_callB (call_reprD hgd hr.units) (by rfl) T.repr (by decide +kernel) (pa_cons (pe_lst (pa_cons pe_non (pa_cons (pe_tup pa_nil) (pa_cons pe_str pa_nil)))) pa_nil)) (nomark _)) (pss_one (ps_ret pe_bl)) pss_nil))))))))))
      (pss_one (ps_ret pe_bl)))), ?_⟩
    refine ⟨rfl, fun H0 lp s0 glp => ?_⟩
    first | refine sigN [some (.ref a), some (.ref lp), none, none, none, none, none, none, none, none, none, none, none, none, none, none, none, none, none] (by rfl) ?_ | refine sig [some (.ref a), some (.ref lp), none, none, none, none, none, none, none, none, none, none, none, none, none, none, none, none, none] (by rfl) ?_
    refine ⟨2, rfl, by decide, by decide, for_range (lo := 0) (n := 2) (fun i σ H2 => Same H0 H2 ∧ ∃ v2 v3 v4 v5 v6 v7 v8 v9 v10 v11 v12 v13 v14 v15 v16 v17 v18 : Option V, σ = [some (.ref a), some (.ref lp), v2, v3, v4, v5, v6, v7, v8, v9, v10, v11, v12, v13, v14, v15, v16, v17, v18]) ⟨Same.refl _, none, none, none, none, none, none, none, none, none, none, none, none, none, none, none, none, none, rfl⟩ ?_ ?_⟩
    · rintro i σ H2 hi ⟨s2, v2, v3, v4, v5, v6, v7, v8, v9, v10, v11, v12, v13, v14, v15, v16, v17, v18, rfl⟩
      refine ⟨_, rfl, _, rfl, a, _, ns, rfl, (s0.trans s2).seq hx, hl, by omega, by omega, fun H3 m cl s3 nm ncl hM => ?_⟩
      first | refine sigN [some (.ref a), some (.ref lp), some (.int (0 + (i : Int))), some (.ref m), v4, v5, v6, v7, v8, v9, v10, v11, v12, v13, v14, v15, v16, v17, v18] (by rfl) ?_ | refine sig [some (.ref a), some (.ref lp), some (.int (0 + (i : Int))), some (.ref m), v4, v5, v6, v7, v8, v9, v10, v11, v12, v13, v14, v15, v16, v17, v18] (by rfl) ?_
      refine ⟨_, rfl, _, rfl, (by show 3 ≤ sizeLine; decide), fun l nl => ?_⟩
      have s4 := Same.new (H := H3) (p := l) (o := .lst [.int 3, .int 8, .int 25]) nl
      have gl : upd H3 l (.lst [.int 3, .int 8, .int 25]) l = some (.lst [.int 3, .int 8, .int 25]) := upd_same
      generalize upd H3 l (.lst [.int 3, .int 8, .int 25]) = H4 at s4 gl ⊢
      refine ⟨m, cl, l, _, 0, rfl, lst_of gl, by show 0 < 3; decide, by show 3 ≤ 1000; decide, by decide, hM.same s4, fun H5 xx b5 m5 hxx => ?_⟩
      obtain ⟨z, rfl, z0, z1⟩ : ∃ z : Int, xx = .int z ∧ 0 ≤ z ∧ z ≤ 30 := by
        simp only [List.mem_cons, List.not_mem_nil, or_false] at hxx
        rcases hxx with rfl | rfl | rfl
        · exact ⟨3, rfl, by decide, by decide⟩
        · exact ⟨8, rfl, by decide, by decide⟩
        · exact ⟨25, rfl, by decide, by decide⟩
      refine ⟨m, cl, z, 1, rfl, z0, z1, by decide, m5, fun H6 tc c b6 m6 htc hT hd => ?_⟩
      first | refine sigN [some (.ref a), some (.ref lp), some (.int (0 + (i : Int))), some (.ref m), some (.ref tc), v5, v6, v7, v8, v9, v10, v11, v12, v13, v14, v15, v16, v17, v18] (by rfl) ?_ | refine sig [some (.ref a), some (.ref lp), some (.int (0 + (i : Int))), some (.ref m), some (.ref tc), v5, v6, v7, v8, v9, v10, v11, v12, v13, v14, v15, v16, v17, v18] (by rfl) ?_
      have hlk := hT.lk hd
      obtain ⟨v, d, hlst⟩ := Lst.ex hd
      have hh : Has c d := ⟨hlk.ok, v, hlst⟩
      have hmd := hh.md
      have hDB := disc_B hmd
      have hdisc := hlst.disc
      have hd0 : d.disc ≠ 0 := fun z => hd (by rw [← hdisc, z, Int.zero_mul])
      have hdle : d.disc.natAbs ≤ 10000000 := by
        have h1 := disc_le hT
        rw [← hdisc, Int.natAbs_mul] at h1
        have h2 : 0 < ((v : Int) ^ 12).natAbs := Nat.pos_of_ne_zero fun z => hd (by rw [← hdisc, Int.natAbs_eq_zero.mp z, Int.mul_zero])
        exact Nat.le_trans (Nat.le_mul_of_pos_right _ h2) h1
      have hhd : Has d d := ⟨hlst.okd hlk.ok.h4 hlk.ok.h6, 1, hlst.self⟩
      refine ⟨_, rfl, tc, c, d, rfl, htc, hh, fun H7 tl s7 htl => ?_⟩
      first | refine sigN [some (.ref a), some (.ref lp), some (.int (0 + (i : Int))), some (.ref m), some (.ref tc), some (.ref tl), v6, v7, v8, v9, v10, v11, v12, v13, v14, v15, v16, v17, v18] (by rfl) ?_ | refine sig [some (.ref a), some (.ref lp), some (.int (0 + (i : Int))), some (.ref m), some (.ref tc), some (.ref tl), v6, v7, v8, v9, v10, v11, v12, v13, v14, v15, v16, v17, v18] (by rfl) ?_
      refine ⟨_, rfl, tl, d, rfl, htl, hmd, fun tn ntn => ?_⟩
      have s8 := Same.new (H := H7) (p := tn) (o := .tup d.nums) ntn
      have gn : upd H7 tn (.tup d.nums) tn = some (.tup d.nums) := upd_same
      generalize upd H7 tn (.tup d.nums) = H8 at s8 gn ⊢
      refine ⟨tn, _, 6, _, rfl, rfl, tup_of gn, rfl, ?_⟩
      refine ⟨_, rfl, (by show 5 ≤ sizeLine; decide), fun l2 nl2 => ?_⟩
      have s9 := Same.new (H := H8) (p := l2) (o := .lst [.int 2, .int 3, .int 40, .int 199, .int 199]) nl2
      have g2 : upd H8 l2 (.lst [.int 2, .int 3, .int 40, .int 199, .int 199]) l2 = some (.lst [.int 2, .int 3, .int 40, .int 199, .int 199]) := upd_same
      generalize upd H8 l2 (.lst [.int 2, .int 3, .int 40, .int 199, .int 199]) = H9 at s9 g2 ⊢
      have m9 := (m6.same (s7.trans (s8.trans s9))).up (show 1 + 300 ≤ 301 by omega)
      refine ⟨m, cl, l2, _, 301, rfl, lst_of g2, by show 0 < 5; decide, by show 5 ≤ 1000; decide, by decide, m9, fun Ha xm ba ma hxm => ?_⟩
      obtain ⟨M, rfl, hM4⟩ : ∃ M : Nat, xm = .int ((M + 1 : Nat) : Int) ∧ (M = 1 ∨ M = 2 ∨ M = 39 ∨ M = 198) := by
        simp only [List.mem_cons, List.not_mem_nil, or_false] at hxm
        rcases hxm with rfl | rfl | rfl | rfl | rfl
        · exact ⟨1, rfl, by decide⟩
        · exact ⟨2, rfl, by decide⟩
        · exact ⟨39, rfl, by decide⟩
        · exact ⟨198, rfl, by decide⟩
        · exact ⟨198, rfl, by decide⟩
      have htca := ba.seqT m9 (Same.tup (s7.trans (s8.trans s9)) htc)
      have htla := ba.seqT m9 (Same.tup (s8.trans s9) htl)
      have b3a : But m H3 Ha := (But.of s4).trans (b5.trans (b6.trans ((But.of (s7.trans (s8.trans s9))).trans ba)))
      have s2a : Same H2 Ha := But.same s3 b3a nm
      have glpa : Ha lp = some (.lst (natV PL)) := s2a _ _ (s2 _ _ glp)
      clear s4 gl b5 m5 b6 m6 s7 s8 gn s9 g2 ba htc htl nl nl2 ntn m9
      refine ⟨(by show 0 ≤ sizeLine; decide), fun E nE => ?_⟩
      have sb := Same.new (H := Ha) (p := E) (o := .lst []) nE
      have gE : upd Ha E (.lst []) E = some (.lst []) := upd_same
      generalize upd Ha E (.lst []) = Hb at sb gE ⊢
      refine ⟨(by show 3 ≤ sizeLine; decide), fun tt ntt => ?_⟩
      have sc := Same.new (H := Hb) (p := tt) (o := .tup [.int d.disc, .int ((M + 1 : Nat) : Int), .ref E]) ntt
      have gt : upd Hb tt (.tup [.int d.disc, .int ((M + 1 : Nat) : Int), .ref E]) tt = some (.tup [.int d.disc, .int ((M + 1 : Nat) : Int), .ref E]) := upd_same
      generalize upd Hb tt (.tup [.int d.disc, .int ((M + 1 : Nat) : Int), .ref E]) = Hc at sc gt ⊢
      refine ⟨tt, _, rfl, tup_of gt, rfl, _, _, rfl, _, _, rfl, _, _, rfl, rfl, ?_⟩
      first | refine sigN [some (.ref a), some (.ref lp), some (.int (0 + (i : Int))), some (.ref m), some (.ref tc), some (.ref tl), some (.int (d.disc)), some (.int (((M + 1 : Nat) : Int))), some (.ref E), v9, v10, v11, v12, v13, v14, v15, v16, v17, v18] (by rfl) ?_ | refine sig [some (.ref a), some (.ref lp), some (.int (0 + (i : Int))), some (.ref m), some (.ref tc), some (.ref tl), some (.int (d.disc)), some (.int (((M + 1 : Nat) : Int))), some (.ref E), v9, v10, v11, v12, v13, v14, v15, v16, v17, v18] (by rfl) ?_
      have gEc := sc _ _ gE
      have glpc := (sb.trans sc) _ _ glpa
      have sac := sb.trans sc
      clear gt ntt
      refine ⟨.ref lp, rfl, lp, rfl, ⟨_, lst_of glpc⟩, fun D nD => ?_⟩
      refine lc_list (K := K) (a := lp) (xs := natV PL) (fun j Hd => Same Hc Hd ∧ Hd D = some (.lst (natV ((PL.take j).filter fun p => decide (p ≤ M + 1) && decide (d.disc % (p : Int) = 0))))) ⟨Same.new nD, upd_same⟩ (fun j Hd _ z => lst_of (z.1 _ _ glpc)) (fun j x Hd hj z => ?_) (fun Hd z => ?_)
      · obtain ⟨sd, gd⟩ := z
        obtain ⟨y, hy, rfl⟩ := map_int hj
        rw [List.getElem?_map] at hy
        obtain ⟨n, hn, rfl⟩ := Option.map_eq_some_iff.mp hy
        have hnP := List.mem_of_getElem? hn
        have hn2 := pl_two hnP
        have et : (PL.take (j + 1)).filter (fun p => decide (p ≤ M + 1) && decide (d.disc % (p : Int) = 0)) = (PL.take j).filter (fun p => decide (p ≤ M + 1) && decide (d.disc % (p : Int) = 0)) ++ (if n ≤ M + 1 ∧ d.disc % (n : Int) = 0 then [n] else []) := by
          rw [List.take_add_one, hn, List.filter_append]
          congr 1
          show List.filter _ [n] = _
          rw [List.filter_cons]
          by_cases h1 : n ≤ M + 1
          · by_cases h2 : d.disc % (n : Int) = 0 <;> simp [h1, h2]
          · simp [h1]
        have ll : ((PL.take j).filter fun p => decide (p ≤ M + 1) && decide (d.disc % (p : Int) = 0)).length ≤ 46 := by
          refine Nat.le_trans (List.length_filter_le ..) ?_
          rw [List.length_take]
          show min j 46 ≤ 46
          omega
        have no : ¬ (n ≤ M + 1 ∧ d.disc % (n : Int) = 0) → Same Hc Hd ∧ Hd D = some (.lst (natV ((PL.take (j + 1)).filter fun p => decide (p ≤ M + 1) && decide (d.disc % (p : Int) = 0)))) := fun z => ⟨sd, by rw [et, if_neg z, List.append_nil]; exact gd⟩
        refine ⟨rfl, _, rfl, _, rfl, _, _, rfl, rfl, _, rfl, ?_⟩
        by_cases h1 : n ≤ M + 1
        · refine iteY (decide_eq_true (by omega)) ?_
          refine ⟨_, rfl, _, rfl, _, rfl, _, _, rfl, rfl, (by omega : (0 : Int) < (n : Int)), rfl, _, rfl, ?_⟩
          rw [dec_int]
          by_cases h2 : d.disc % (n : Int) = 0
          · refine iteY (by simpa using h2) ?_
            refine ⟨_, rfl, _, gd, ?_, Same.put sd nD, ?_⟩
            · unfold natV
              rw [List.length_map, List.length_map]
              exact small1000 (by omega)
            · rw [upd_same, et, if_pos ⟨h1, h2⟩]
              unfold natV
              rw [List.map_append, List.map_append]
              rfl
          · refine iteN (by simpa using h2) ?_
            exact no fun z => h2 z.2
        · refine iteN (by simp; omega) ?_
          exact no fun z => h1 z.1
      obtain ⟨sd, gd⟩ := z
      rw [show (natV PL).length = 46 from rfl, show PL.take 46 = PL from rfl, pl_fl d.disc hM4] at gd
      have gEd := sd _ _ gEc
      have nDE : D ≠ E := fun z => by
        rw [z, gEc] at nD
        cases nD
      refine ⟨D, rfl, ⟨_, lst_of gd⟩, for_list (K := K) (a := D) (xs := natV (K15.fl d.disc M)) (fun y σ He => But E Hd He ∧ ∃ (ts : List V) (zs : List (Int × Int × Str)) (v9 v10 v11 v12 v13 v14 v15 v16 : Option V), σ = [some (.ref a), some (.ref lp), some (.int (0 + (i : Int))), some (.ref m), some (.ref tc), some (.ref tl), some (.int (d.disc)), some (.int (((M + 1 : Nat) : Int))), some (.ref E), v9, v10, v11, v12, v13, v14, v15, v16, v17, v18] ∧ He E = some (.lst ts) ∧ TA He ts zs ∧ FR d ((K15.fl d.disc M).take y) zs) ⟨But.refl _ _, [], [], v9, v10, v11, v12, v13, v14, v15, v16, rfl, gEd, .nil, .nil⟩ (fun y σ He _ z => lst_of (z.1 _ _ gd nDE)) ?_ ?_⟩
      · rintro y xv σ He hy ⟨be, ts, zs, v9, v10, v11, v12, v13, v14, v15, v16, rfl, gEe, ta, fr⟩
        obtain ⟨y1, hy1, rfl⟩ := map_int hy
        rw [List.getElem?_map] at hy1
        obtain ⟨n, hn, rfl⟩ := Option.map_eq_some_iff.mp hy1
        obtain ⟨hnP, hdv⟩ := fl_mem (List.mem_of_getElem? hn)
        have pw := pw_of hnP
        have hn2 := pl_two hnP
        have hn9 := pw.lt
        have hp0 : (0 : Int) < (n : Int) := by omega
        obtain ⟨k, mm, hk, hm⟩ := val_int hn2 hd0
        first | refine sigN [some (.ref a), some (.ref lp), some (.int (0 + (i : Int))), some (.ref m), some (.ref tc), some (.ref tl), some (.int (d.disc)), some (.int (((M + 1 : Nat) : Int))), some (.ref E), some (.int ((n : Int))), v10, v11, v12, v13, v14, v15, v16, v17, v18] (by rfl) ?_ | refine sig [some (.ref a), some (.ref lp), some (.int (0 + (i : Int))), some (.ref m), some (.ref tc), some (.ref tl), some (.int (d.disc)), some (.int (((M + 1 : Nat) : Int))), some (.ref E), some (.int ((n : Int))), v10, v11, v12, v13, v14, v15, v16, v17, v18] (by rfl) ?_
        have sae : Same Ha He := But.same (sac.trans sd) be nE
        have htce := Same.tup sae htca
        have htle := Same.tup sae htla
        refine ⟨_, rfl, _, _, rfl, ?_⟩
        first | refine sigN [some (.ref a), some (.ref lp), some (.int (0 + (i : Int))), some (.ref m), some (.ref tc), some (.ref tl), some (.int (d.disc)), some (.int (((M + 1 : Nat) : Int))), some (.ref E), some (.int ((n : Int))), some (.int (0)), some (.int (d.disc)), v12, v13, v14, v15, v16, v17, v18] (by rfl) ?_ | refine sig [some (.ref a), some (.ref lp), some (.int (0 + (i : Int))), some (.ref m), some (.ref tc), some (.ref tl), some (.int (d.disc)), some (.int (((M + 1 : Nat) : Int))), some (.ref E), some (.int ((n : Int))), some (.int (0)), some (.int (d.disc)), v12, v13, v14, v15, v16, v17, v18] (by rfl) ?_
        refine while_by (fun σ H2 => ∃ g j : Nat, g + j = k ∧ σ = [some (.ref a), some (.ref lp), some (.int (0 + (i : Int))), some (.ref m), some (.ref tc), some (.ref tl), some (.int (d.disc)), some (.int (((M + 1 : Nat) : Int))), some (.ref E), some (.int ((n : Int))), some (.int ((j : Int))), some (.int ((n : Int) ^ g * mm)), v12, v13, v14, v15, v16, v17, v18] ∧ He = H2)
          (fun σ _ => match σ with | [_, _, _, _, _, _, _, _, _, _, some (.int j), _, _, _, _, _, _, _, _] => k - j.toNat | _ => 0) ⟨k, 0, rfl, by rw [← hk]; rfl, rfl⟩ ?_ ?_
        · rintro σ H2 ⟨g, j, hij, rfl, rfl⟩
          refine ⟨_, rfl, _, rfl, _, rfl, _, _, rfl, rfl, hp0, rfl, _, rfl, ?_⟩
          rw [dec_int]
          cases g with
          | succ g =>
            have e : (n : Int) ^ (g + 1) * mm = (n : Int) * ((n : Int) ^ g * mm) := by rw [Int.pow_succ]; grind
            rw [e]
            refine iteY (by simp) ?_
            have bp : B 14 (n : Int) := by
              unfold Gd.B
              omega
            refine ⟨_, rfl, _, _, rfl, rfl, _, rfl, _, rfl, _, _, rfl, rfl, div_any (by omega) bp (by decide), _, _, rfl, ?_⟩
            have ed : ((n : Int) * ((n : Int) ^ g * mm)).fdiv (n : Int) = (n : Int) ^ g * mm := Int.mul_fdiv_cancel_left _ (by omega)
            refine ⟨⟨g, j + 1, by omega, ?_, rfl⟩, ?_⟩
            · exact congrArg (fun z : Int => [some (.ref a), some (.ref lp), some (.int (0 + (i : Int))), some (.ref m), some (.ref tc), some (.ref tl), some (.int (d.disc)), some (.int (((M + 1 : Nat) : Int))), some (.ref E), some (.int ((n : Int))), some (.int (((j + 1 : Nat) : Int))), some (.int (z)), v12, v13, v14, v15, v16, v17, v18]) ed
            · show k - ((j : Int) + 1).toNat < k - (j : Int).toNat
              omega
          | zero =>
            obtain rfl : j = k := by omega
            have e : (n : Int) ^ 0 * mm = mm := by rw [Int.pow_zero, Int.one_mul]
            rw [e]
            refine iteN (fun z => hm (Int.dvd_of_emod_eq_zero (beq_iff_eq.mp z))) ?_
            first | refine sigN [some (.ref a), some (.ref lp), some (.int (0 + (i : Int))), some (.ref m), some (.ref tc), some (.ref tl), some (.int (d.disc)), some (.int (((M + 1 : Nat) : Int))), some (.ref E), some (.int ((n : Int))), some (.int ((j : Int))), some (.int (mm)), v12, v13, v14, v15, v16, v17, v18] (by rfl) ?_ | refine sig [some (.ref a), some (.ref lp), some (.int (0 + (i : Int))), some (.ref m), some (.ref tc), some (.ref tl), some (.int (d.disc)), some (.int (((M + 1 : Nat) : Int))), some (.ref E), some (.int ((n : Int))), some (.int ((j : Int))), some (.int (mm)), v12, v13, v14, v15, v16, v17, v18] (by rfl) ?_
            refine ⟨_, rfl, _, rfl, n, tl, d, rfl, htle, hmd, pw, hdv, fun x y2 H5 t pA pB flx s5 gt5 gA gB => ?_⟩
            refine ⟨t, _, rfl, tup_of gt5, rfl, _, _, rfl, _, _, rfl, _, _, rfl, rfl, ?_⟩
            first | refine sigN [some (.ref a), some (.ref lp), some (.int (0 + (i : Int))), some (.ref m), some (.ref tc), some (.ref tl), some (.int (d.disc)), some (.int (((M + 1 : Nat) : Int))), some (.ref E), some (.int ((n : Int))), some (.int ((j : Int))), some (.int (mm)), some (.ref pA), some (.ref pB), some (.str (wd n d x)), v15, v16, v17, v18] (by rfl) ?_ | refine sig [some (.ref a), some (.ref lp), some (.int (0 + (i : Int))), some (.ref m), some (.ref tc), some (.ref tl), some (.int (d.disc)), some (.int (((M + 1 : Nat) : Int))), some (.ref E), some (.int ((n : Int))), some (.int ((j : Int))), some (.int (mm)), some (.ref pA), some (.ref pB), some (.str (wd n d x)), v15, v16, v17, v18] (by rfl) ?_
            have gE5 := s5 _ _ gEe
            have hl4 : ts.length ≤ 198 := by
              have h1 := ta.len
              have h2 := fr.len
              rw [List.length_take] at h2
              have h3 := fl_len d.disc M
              omega
            refine ⟨_, rfl, .inl ⟨rfl, _, lst_of gE5⟩, _, rfl, _, rfl, _, rfl, (by show 3 ≤ sizeLine; decide), fun t2 n2 => ?_⟩
            have s6 := Same.new (H := H5) (p := t2) (o := .tup [.int (n : Int), .int (j : Int), .str (wd n d x)]) n2
            have g6 : upd H5 t2 (.tup [.int (n : Int), .int (j : Int), .str (wd n d x)]) t2 = some (.tup [.int (n : Int), .int (j : Int), .str (wd n d x)]) := upd_same
            generalize upd H5 t2 (.tup [.int (n : Int), .int (j : Int), .str (wd n d x)]) = H6 at s6 g6 ⊢
            have s56 := s5.trans s6
            have gE6 := s56 _ _ gEe
            refine ⟨E, _, _, rfl, rfl, gE6, (by rw [sizeLine_eq]; omega), ?_⟩
            have b7 : But E H6 (upd H6 E (.lst (ts ++ [.ref t2]))) := But.upd
            have g7 : (upd H6 E (.lst (ts ++ [.ref t2]))) E = some (.lst (ts ++ [.ref t2])) := upd_same
            have ta7 : TA (upd H6 E (.lst (ts ++ [.ref t2]))) (ts ++ [.ref t2]) (zs ++ [((n : Int), (j : Int), wd n d x)]) := ((ta.same s56).put gE6).app (.cons (by rw [upd_ne (ne_of g6 gE6 (by intro z; cases z))]; exact g6) .nil)
            have fr7 : FR d ((K15.fl d.disc M).take (y + 1)) (zs ++ [((n : Int), (j : Int), wd n d x)]) := by
              rw [List.take_add_one, hn]
              exact fr.app (.cons ⟨j, mm, x, y2, hk, hm, flx, rfl⟩ .nil)
            generalize upd H6 E (.lst (ts ++ [.ref t2])) = H7 at b7 g7 ta7 ⊢
            have b47 : But E He H7 := (But.of s56).trans b7
            have sa7 : Same Ha H7 := But.same (sac.trans sd) (be.trans b47) nE
            have gA7 := b7 _ _ (s6 _ _ gA) (ne_of (s6 _ _ gA) gE6 (by intro z; cases z))
            have gB7 := b7 _ _ (s6 _ _ gB) (ne_of (s6 _ _ gB) gE6 (by intro z; cases z))
            have bd7 := be.trans b47
            clear s5 s6 gt5 gE5 g6 gE6 b7 s56 gA gB be b47 ta fr gEe
            refine fun C nC => ?_
            have s8 := Same.new (H := H7) (p := C) (o := .dK []) nC
            have gC : upd H7 C (.dK []) C = some (.dK []) := upd_same
            generalize upd H7 C (.dK []) = H8 at s8 gC ⊢
            refine ⟨_, rfl, _, _, rfl, rfl, _, rfl, _, _, rfl, rfl, _, rfl, gC, [(Sum.inr "split", .int ((n : Int) - 1)), (Sum.inr "unsplit", .int ((n : Int) + 1)), (Sum.inr "additive", .int (n : Int))], rfl, (by show 3 ≤ 15; decide), ?_⟩
            have s9 : Same H7 (upd H8 C (.dK (mergeK [] [(Sum.inr "split", .int ((n : Int) - 1)), (Sum.inr "unsplit", .int ((n : Int) + 1)), (Sum.inr "additive", .int (n : Int))]))) := Same.put s8 nC
            have gCb : (upd H8 C (.dK (mergeK [] [(Sum.inr "split", .int ((n : Int) - 1)), (Sum.inr "unsplit", .int ((n : Int) + 1)), (Sum.inr "additive", .int (n : Int))]))) C = some (.dK (mergeK [] [(Sum.inr "split", .int ((n : Int) - 1)), (Sum.inr "unsplit", .int ((n : Int) + 1)), (Sum.inr "additive", .int (n : Int))])) := upd_same
            generalize upd H8 C (.dK (mergeK [] [(Sum.inr "split", .int ((n : Int) - 1)), (Sum.inr "unsplit", .int ((n : Int) + 1)), (Sum.inr "additive", .int (n : Int))])) = H9 at s9 gCb ⊢
            have hget : DGet H9 C (.str (wd n d x)) (some (.int (((due n (fc d) n).length : Nat) : Int))) := by
              rw [← smo_get flx pw]
              exact DGet.k (k := Sum.inr (wd n d x)) gCb
            refine ⟨_, rfl, C, _, rfl, hget, ?_⟩
            first | refine sigN [some (.ref a), some (.ref lp), some (.int (0 + (i : Int))), some (.ref m), some (.ref tc), some (.ref tl), some (.int (d.disc)), some (.int (((M + 1 : Nat) : Int))), some (.ref E), some (.int ((n : Int))), some (.int ((j : Int))), some (.int (mm)), some (.ref pA), some (.ref pB), some (.str (wd n d x)), some (.int ((((due n (fc d) n).length : Nat) : Int))), v16, v17, v18] (by rfl) ?_ | refine sig [some (.ref a), some (.ref lp), some (.int (0 + (i : Int))), some (.ref m), some (.ref tc), some (.ref tl), some (.int (d.disc)), some (.int (((M + 1 : Nat) : Int))), some (.ref E), some (.int ((n : Int))), some (.int ((j : Int))), some (.int (mm)), some (.ref pA), some (.ref pB), some (.str (wd n d x)), some (.int ((((due n (fc d) n).length : Nat) : Int))), v16, v17, v18] (by rfl) ?_
            clear hget gCb s8 gC
            have sa9 := sa7.trans s9
            refine ⟨_, rfl, _, rfl, tc, c, d, n, rfl, Same.tup sa9 htca, hh, pw, fun z => (z hdv).elim, fun _ x3 y3 Hf w3 fl3 sf g3 => ?_⟩
            obtain ⟨rfl, rfl⟩ := flx.uniq x3 y3 fl3.sg
            have saf := sa9.trans sf
            refine ⟨_, rfl, _, rfl, tc, c, d, n, rfl, Same.tup saf htca, hh, pw, fun z => (z hdv).elim, fun _ x4 y4 Hg w4 fl4 sg g4 => ?_⟩
            obtain ⟨rfl, rfl⟩ := fl3.uniq x4 y4 fl4.sg
            have sag := saf.trans sg
            refine ⟨_, rfl, _, rfl, tc, c, d, n, rfl, Same.tup sag htca, hh, pw, fun z => (z hdv).elim, fun _ x5 y5 fl5 Hh sh => ?_⟩
            obtain ⟨rfl, rfl⟩ := fl4.uniq x5 y5 fl5.sg
            have sah := sag.trans sh
            refine ⟨_, rfl, _, rfl, tc, c, d, n, rfl, Same.tup sah htca, hh, pw, hdv, fun x6 y6 fl6 Hi si => ?_⟩
            refine ⟨(by show 4 ≤ sizeLine; decide), fun L nL => ?_⟩
            have sj := Same.new (H := Hi) (p := L) (o := .lst [.ref w3, .ref w4, .str (wd n d x5), .int (((due n (fc d) n).length : Nat) : Int)]) nL
            have gL : upd Hi L (.lst [.ref w3, .ref w4, .str (wd n d x5), .int (((due n (fc d) n).length : Nat) : Int)]) L = some (.lst [.ref w3, .ref w4, .str (wd n d x5), .int (((due n (fc d) n).length : Nat) : Int)]) := upd_same
            generalize upd Hi L (.lst [.ref w3, .ref w4, .str (wd n d x5), .int (((due n (fc d) n).length : Nat) : Int)]) = Hj at sj gL ⊢
            first | refine sigN [some (.ref a), some (.ref lp), some (.int (0 + (i : Int))), some (.ref m), some (.ref tc), some (.ref tl), some (.int (d.disc)), some (.int (((M + 1 : Nat) : Int))), some (.ref E), some (.int ((n : Int))), some (.int ((j : Int))), some (.int (mm)), some (.ref pA), some (.ref pB), some (.str (wd n d x5)), some (.int ((((due n (fc d) n).length : Nat) : Int))), some (.ref L), v17, v18] (by rfl) ?_ | refine sig [some (.ref a), some (.ref lp), some (.int (0 + (i : Int))), some (.ref m), some (.ref tc), some (.ref tl), some (.int (d.disc)), some (.int (((M + 1 : Nat) : Int))), some (.ref E), some (.int ((n : Int))), some (.int ((j : Int))), some (.int (mm)), some (.ref pA), some (.ref pB), some (.str (wd n d x5)), some (.int ((((due n (fc d) n).length : Nat) : Int))), some (.ref L), v17, v18] (by rfl) ?_
            have xB : B 30 x5 := by
              obtain ⟨h1, h2⟩ := fl5.sg.dx
              unfold Gd.B
              omega
            have yB : B 30 y5 := by
              obtain ⟨h1, h2⟩ := fl5.sg.dy
              unfold Gd.B
              omega
            have zB : B 30 (((due n (fc d) n).length : Nat) : Int) := by
              have h1 := due_le n (fc d) n
              have h2 : n * n ≤ 199 * 199 := Nat.mul_le_mul (by omega) (by omega)
              unfold Gd.B
              omega
            have nsB : ∀ k ∈ (FlM.ways n (fc d) x5).map (fun (k : Nat) => (k : Int)), B 30 k := by
              intro k hk
              obtain ⟨j, hj, rfl⟩ := List.mem_map.mp hk
              have := (FlM.ways_mem.mp hj).1
              unfold Gd.B
              omega
            obtain ⟨o1, o2, o3⟩ := t4_ok xB yB (ns := (FlM.ways n (fc d) x5).map fun (k : Nat) => (k : Int)) (by rw [List.length_map]; exact fl5.le) nsB (wd_is n d x5) zB
            have wdp : ∀ {H' : Hp} {L' a' b' : Addr}, H' L' = some (.lst [.ref a', .ref b', .str (wd n d x5), .int (((due n (fc d) n).length : Nat) : Int)]) → H' a' = some (.tup [.int x5, .int y5]) → H' b' = some (.tup (wI n d x5)) → Dp K H' (.ref L') (t4 x5 y5 ((FlM.ways n (fc d) x5).map fun (k : Nat) => (k : Int)) (wd n d x5) (((due n (fc d) n).length : Nat) : Int)) := fun h h2 h3 => .lst (lst_of h) (.cons (.tup (tup_of h2) (.cons (.int _) (.cons (.int _) .nil))) (.cons (.tup (tup_of h3) (DpM.ofInts _)) (.cons (.str _) (.cons (.int _) .nil))))
            generalize t4 x5 y5 ((FlM.ways n (fc d) x5).map fun (k : Nat) => (k : Int)) (wd n d x5) (((due n (fc d) n).length : Nat) : Int) = td at o1 o2 o3 wdp
            refine ⟨_, rfl, .ref L, td, rfl, wdp gL ((sg.trans (sh.trans (si.trans sj))) _ _ g3) ((sh.trans (si.trans sj)) _ _ g4), o1, o2, o3, ?_⟩
            refine ⟨_, rfl, _, rfl, _, rfl, _, rfl, (by show 4 ≤ sizeLine; decide), fun N nN => ?_⟩
            have sk := Same.new (H := Hj) (p := N) (o := .lst [.ref pA, .ref pB, .str (wd n d x5), .int (((due n (fc d) n).length : Nat) : Int)]) nN
            have gN : upd Hj N (.lst [.ref pA, .ref pB, .str (wd n d x5), .int (((due n (fc d) n).length : Nat) : Int)]) N = some (.lst [.ref pA, .ref pB, .str (wd n d x5), .int (((due n (fc d) n).length : Nat) : Int)]) := upd_same
            generalize upd Hj N (.lst [.ref pA, .ref pB, .str (wd n d x5), .int (((due n (fc d) n).length : Nat) : Int)]) = Hk at sk gN ⊢
            have s7k := s9.trans (sf.trans (sg.trans (sh.trans (si.trans (sj.trans sk)))))
            refine ⟨.ref N, td, rfl, wdp gN (s7k _ _ gA7) (s7k _ _ gB7), o1, o2, o3, rfl, _, rfl, ?_⟩
            generalize td.shown = zz
            refine iteNS rfl ?_
            exact ⟨bd7.trans (But.of s7k), ts ++ [.ref t2], _, _, _, _, _, _, _, _, _, rfl, s7k _ _ g7, ta7.same s7k, fr7⟩
        · rintro σ H2 Q1 Q2 i ⟨v1, e1, a0, e1', v0, e0, a1, b1, e2, e3, hc, e4, kk, e5, z⟩
          exact ⟨v1, e1, a0, e1', v0, e0, a1, b1, e2, e3, hc, e4, kk, e5, i _ _ z⟩
      · rintro σ He ⟨be, ts, zs, v9, v10, v11, v12, v13, v14, v15, v16, rfl, gEe, ta, fr⟩
        rw [show (natV (K15.fl d.disc M)).length = (K15.fl d.disc M).length by unfold natV; rw [List.length_map, List.length_map], List.take_length] at fr
        have sae : Same Ha He := But.same (sac.trans sd) be nE
        have me := ma.same sae
        have b3e := b3a.trans (But.of sae)
        have htce := Same.tup sae htca
        have htle := Same.tup sae htla
        clear be sd gd nD gEc glpc sac sb gE nE gEd
        refine ⟨_, rfl, _, rfl, _, rfl, _, rfl, (by show 4 ≤ sizeLine; decide), fun l4 nl4 => ?_⟩
        have sf := Same.new (H := He) (p := l4) (o := .lst [.int 1, .int 2, .int 3, .int 6]) nl4
        have g4 : upd He l4 (.lst [.int 1, .int 2, .int 3, .int 6]) l4 = some (.lst [.int 1, .int 2, .int 3, .int 6]) := upd_same
        generalize upd He l4 (.lst [.int 1, .int 2, .int 3, .int 6]) = Hf at sf g4 ⊢
        have mf := me.same sf
        refine ⟨m, cl, l4, _, 302, rfl, lst_of g4, by show 0 < 4; decide, by show 4 ≤ 1000; decide, by decide, mf, fun Hg xx bg mg' hxx => ?_⟩
        obtain ⟨S, rfl, S0, S1⟩ : ∃ z : Int, xx = .int z ∧ 1 ≤ z ∧ z ≤ 6 := by
          simp only [List.mem_cons, List.not_mem_nil, or_false] at hxx
          rcases hxx with rfl | rfl | rfl | rfl <;> exact ⟨_, rfl, by decide, by decide⟩
        have htcg := bg.seqT mf (Same.tup sf htce)
        have htlg := bg.seqT mf (Same.tup sf htle)
        have gEg := bg.lst mf (sf _ _ gEe)
        have tag := (ta.same sf).but bg mf
        refine ⟨m, cl, tc, c, S, 303, rfl, by decide, mg', htcg, hT, S0, S1, fun Hh tm r s z bh mh htm r0 r1 u0 u1 w0 w1 => ?_⟩
        have htch := bh.seqT mg' htcg
        have htlh := bh.seqT mg' htlg
        have gEh := bh.lst mg' gEg
        have tah := tag.but bh mg'
        have hmo : Has (mvd S r s z c) d := by
          refine ⟨(mvd_lk hT hd S0 S1 r0 r1 u0 u1 w0 w1).ok, ?_⟩
          obtain ⟨k, rfl⟩ : ∃ k : Nat, S = (k : Int) := ⟨S.toNat, by omega⟩
          refine ⟨k * v, ?_⟩
          rw [mvd_c4, mvd_c6]
          exact hlst.up (S := k) (by omega)
        have b3h := b3e.trans ((But.of sf).trans (bg.trans bh))
        refine ⟨_, rfl, (by show 3 ≤ sizeLine; decide), fun tt2 ntt2 => ?_⟩
        have si := Same.new (H := Hh) (p := tt2) (o := .tup [.ref tc, .ref tm, .ref tl]) ntt2
        have gt2 : upd Hh tt2 (.tup [.ref tc, .ref tm, .ref tl]) tt2 = some (.tup [.ref tc, .ref tm, .ref tl]) := upd_same
        generalize upd Hh tt2 (.tup [.ref tc, .ref tm, .ref tl]) = Hi at si gt2 ⊢
        have htci := Same.tup si htch
        have htli := Same.tup si htlh
        have htmi := Same.tup si htm
        have gEi := si _ _ gEh
        have tai := tah.same si
        have mi := mh.same si
        have b3i := b3h.trans (But.of si)
        clear me b3e sf g4 mf bg mg' htcg htlg gEg tag bh mh htm htch htlh gEh tah b3h si htce htle ta gEe nl4 ntt2
        have pl9 : ∀ p ∈ K15.fl d.disc M, 2 ≤ p ∧ p < 200 := fun p hp => ⟨fl_two p hp, pl_lt (fl_mem hp).1⟩
        obtain ⟨q1, q2, q3⟩ := dts_ok (FR.all hDB hd0 pl9 fr)
        have zl : zs.length ≤ 198 := by
          have h2 := fr.len
          have h3 := fl_len d.disc M
          omega
        have o1 : okD (.tuple (dts zs)) = true := by
          simp only [okD]
          exact q1
        have o2 : (PyData.tuple (dts zs)).depth ≤ 40 := by
          simp only [PyData.depth]
          omega
        have o3 : wt (.tuple (dts zs)) ≤ 1000000 := by
          simp only [wt]
          omega
        refine ⟨tt2, rfl, ⟨_, tup_of gt2⟩, for_tup (K := K) (a := tt2) (xs := [.ref tc, .ref tm, .ref tl]) (fun j σ Hj => Same Hi Hj ∧ ∃ v17 : Option V, σ = [some (.ref a), some (.ref lp), some (.int (0 + (i : Int))), some (.ref m), some (.ref tc), some (.ref tl), some (.int (d.disc)), some (.int (((M + 1 : Nat) : Int))), some (.ref E), v9, v10, v11, v12, v13, v14, v15, v16, v17, v18]) ⟨Same.refl _, v17, rfl⟩ (fun j σ Hj _ z => tup_of (z.1 _ _ gt2)) ?_ ?_⟩
        · rintro j x σ Hj hj ⟨sj, v17, rfl⟩
          obtain ⟨tx, cx, rfl, htx, hhx⟩ : ∃ (tx : Addr) (cx : Cv), x = .ref tx ∧ SqT K Hj tx cx.tup ∧ Has cx d := by
            match j, hj with
            | 0, hj => exact ⟨tc, c, (Option.some.inj hj).symm, Same.tup sj htci, hh⟩
            | 1, hj => exact ⟨tm, _, (Option.some.inj hj).symm, Same.tup sj htmi, hmo⟩
            | 2, hj => exact ⟨tl, d, (Option.some.inj hj).symm, Same.tup sj htli, hhd⟩
            | j + 3, hj => cases hj
          first | refine sigN [some (.ref a), some (.ref lp), some (.int (0 + (i : Int))), some (.ref m), some (.ref tc), some (.ref tl), some (.int (d.disc)), some (.int (((M + 1 : Nat) : Int))), some (.ref E), v9, v10, v11, v12, v13, v14, v15, v16, some (.ref tx), v18] (by rfl) ?_ | refine sig [some (.ref a), some (.ref lp), some (.int (0 + (i : Int))), some (.ref m), some (.ref tc), some (.ref tl), some (.int (d.disc)), some (.int (((M + 1 : Nat) : Int))), some (.ref E), v9, v10, v11, v12, v13, v14, v15, v16, some (.ref tx), v18] (by rfl) ?_
          refine ⟨_, rfl, _, rfl, tx, cx, d, M, rfl, htx, hhx, hd0, by omega, fun Hk t ts2 zs2 sk gtk ta2 fr2 => ?_⟩
          obtain rfl := FR.uniq fl_two fr2 fr
          generalize hdz : PyData.tuple (dts zs2) = dz at o1 o2 o3
          refine ⟨.ref t, dz, rfl, by rw [← hdz]; exact .tup (tup_of gtk) ta2.dp, o1, o2, o3, ?_⟩
          refine ⟨_, rfl, E, _, rfl, .inl ⟨lst_of ((sj.trans sk) _ _ gEi), fun r2 nr2 => ?_⟩⟩
          have sl := Same.new (H := Hk) (p := r2) (o := .tup ts) nr2
          have gr : upd Hk r2 (.tup ts) r2 = some (.tup ts) := upd_same
          generalize upd Hk r2 (.tup ts) = Hl at sl gr ⊢
          refine ⟨.ref r2, dz, rfl, by rw [← hdz]; exact .tup (tup_of gr) (tai.same (sj.trans (sk.trans sl))).dp, o1, o2, o3, rfl, _, rfl, ?_⟩
          generalize dz.shown = zz
          refine iteNS rfl ?_
          exact ⟨sj.trans (sk.trans sl), _, rfl⟩
        · rintro σ Hj ⟨sj, v17, rfl⟩
          have glpi : Hi lp = some (.lst (natV PL)) := (But.same s3 b3i nm) _ _ (s2 _ _ glp)
          have glpj := sj _ _ glpi
          have mj := mi.same sj
          obtain ⟨pf, hpf, hnf⟩ := free_ex hd0 hdle
          refine ⟨_, rfl, .ref lp, rfl, lp, rfl, ⟨_, lst_of glpj⟩, fun D2 nD2 => ?_⟩
          refine lc_list (K := K) (a := lp) (xs := natV PL) (fun j Hk => Same Hj Hk ∧ Hk D2 = some (.lst (natV ((PL.take j).filter fun (p : Nat) => !decide (d.disc % (p : Int) = 0))))) ⟨Same.new nD2, upd_same⟩ (fun j Hk _ z => lst_of (z.1 _ _ glpj)) (fun j x Hk hj z => ?_) (fun Hk z => ?_)
          · obtain ⟨sk, gk⟩ := z
            obtain ⟨y, hy, rfl⟩ := map_int hj
            rw [List.getElem?_map] at hy
            obtain ⟨n, hn, rfl⟩ := Option.map_eq_some_iff.mp hy
            have hn2 := pl_two (List.mem_of_getElem? hn)
            have et : (PL.take (j + 1)).filter (fun (p : Nat) => !decide (d.disc % (p : Int) = 0)) = (PL.take j).filter (fun (p : Nat) => !decide (d.disc % (p : Int) = 0)) ++ (if d.disc % (n : Int) = 0 then [] else [n]) := by
              rw [List.take_add_one, hn, List.filter_append]
              congr 1
              show List.filter _ [n] = _
              rw [List.filter_cons]
              by_cases h2 : d.disc % (n : Int) = 0 <;> simp [h2]
            have ll : ((PL.take j).filter fun (p : Nat) => !decide (d.disc % (p : Int) = 0)).length ≤ 46 := by
              refine Nat.le_trans (List.length_filter_le ..) ?_
              rw [List.length_take]
              show min j 46 ≤ 46
              omega
            refine ⟨rfl, _, rfl, _, rfl, _, rfl, _, _, rfl, rfl, (by omega : (0 : Int) < (n : Int)), rfl, _, rfl, ?_⟩
            rw [dec_int]
            by_cases h2 : d.disc % (n : Int) = 0
            · refine iteN (by simpa using h2) ?_
              exact ⟨sk, by rw [et, if_pos h2, List.append_nil]; exact gk⟩
            · refine iteY (by simpa using h2) ?_
              refine ⟨_, rfl, _, gk, ?_, Same.put sk nD2, ?_⟩
              · unfold natV
                rw [List.length_map, List.length_map]
                exact small1000 (by omega)
              · rw [upd_same, et, if_neg h2]
                unfold natV
                rw [List.map_append, List.map_append]
                rfl
          obtain ⟨sk, gk⟩ := z
          rw [show (natV PL).length = 46 from rfl, show PL.take 46 = PL from rfl] at gk
          have hpm : pf ∈ PL.filter fun (p : Nat) => !decide (d.disc % (p : Int) = 0) := List.mem_filter.mpr ⟨hpf, by simpa using hnf⟩
          have hlen : (PL.filter fun (p : Nat) => !decide (d.disc % (p : Int) = 0)).length ≤ 46 := List.length_filter_le ..
          have hpos : 0 < (PL.filter fun (p : Nat) => !decide (d.disc % (p : Int) = 0)).length := List.length_pos_of_mem hpm
          have hmem : ∀ v ∈ natV (PL.filter fun (p : Nat) => !decide (d.disc % (p : Int) = 0)), ∃ n : Nat, v = .int (n : Int) ∧ n ∈ PL ∧ ¬ (n : Int) ∣ d.disc := fun v hv => by
            unfold natV at hv
            obtain ⟨z, hz, rfl⟩ := List.mem_map.mp hv
            obtain ⟨n, hn, rfl⟩ := List.mem_map.mp hz
            obtain ⟨h1, h2⟩ := List.mem_filter.mp hn
            exact ⟨n, rfl, h1, fun z => by simp [Int.emod_eq_zero_of_dvd z] at h2⟩
          have nl46 : (natV (PL.filter fun (p : Nat) => !decide (d.disc % (p : Int) = 0))).length = (PL.filter fun (p : Nat) => !decide (d.disc % (p : Int) = 0)).length := by
            unfold natV
            rw [List.length_map, List.length_map]
          generalize natV (PL.filter fun (p : Nat) => !decide (d.disc % (p : Int) = 0)) = fs at gk hmem nl46
          have mk := mj.same sk
          refine ⟨m, cl, D2, fs, _, rfl, lst_of gk, by omega, by omega, (by decide), mk, fun Hm xp bm mm' hxp => ?_⟩
          obtain ⟨n, rfl, hnP, hnd⟩ := hmem xp hxp
          have pw := pw_of hnP
          first | refine sigN [some (.ref a), some (.ref lp), some (.int (0 + (i : Int))), some (.ref m), some (.ref tc), some (.ref tl), some (.int (d.disc)), some (.int (((M + 1 : Nat) : Int))), some (.ref E), some (.int ((n : Int))), v10, v11, v12, v13, v14, v15, v16, v17, v18] (by rfl) ?_ | refine sig [some (.ref a), some (.ref lp), some (.int (0 + (i : Int))), some (.ref m), some (.ref tc), some (.ref tl), some (.int (d.disc)), some (.int (((M + 1 : Nat) : Int))), some (.ref E), some (.int ((n : Int))), v10, v11, v12, v13, v14, v15, v16, v17, v18] (by rfl) ?_
          have htcm := bm.seqT mk (Same.tup (sj.trans sk) htci)
          refine ⟨_, rfl, _, rfl, tc, c, d, n, rfl, htcm, hh, pw, fun _ Hn sn => ?_, fun z => (hnd z).elim⟩
          refine ⟨_, rfl, _, rfl, tc, c, d, n, rfl, Same.tup sn htcm, hh, pw, fun _ Ho w4 so gw => ?_, fun z => (hnd z).elim⟩
          refine ⟨_, rfl, _, rfl, tc, c, d, n, rfl, Same.tup (sn.trans so) htcm, hh, pw, fun _ Hp' sp => ?_, fun z => (hnd z).elim⟩
          refine ⟨(by show 3 ≤ sizeLine; decide), fun L nL => ?_⟩
          have sq := Same.new (H := Hp') (p := L) (o := .lst [.non, .ref w4, .str "smooth"]) nL
          have gL : upd Hp' L (.lst [.non, .ref w4, .str "smooth"]) L = some (.lst [.non, .ref w4, .str "smooth"]) := upd_same
          generalize upd Hp' L (.lst [.non, .ref w4, .str "smooth"]) = Hq at sq gL ⊢
          have k1 : okD (.list [.none, .tuple [], .str "smooth"]) = true := by decide +kernel
          have k2 : (PyData.list [.none, .tuple [], .str "smooth"]).depth ≤ 40 := by simp [PyData.depth, PyData.depthAll]
          have k3 : wt (.list [.none, .tuple [], .str "smooth"]) ≤ 1000000 := by decide +kernel
          have wdp : ∀ {H' : Hp} {L' t' : Addr}, H' L' = some (.lst [.non, .ref t', .str "smooth"]) → H' t' = some (.tup []) → Dp K H' (.ref L') (.list [.none, .tuple [], .str "smooth"]) := fun h h2 => .lst (lst_of h) (.cons .non (.cons (.tup (tup_of h2) .nil) (.cons (.str _) .nil)))
          generalize PyData.list [.none, .tuple [], .str "smooth"] = td at k1 k2 k3 wdp
          refine ⟨.ref L, td, rfl, wdp gL ((sp.trans sq) _ _ gw), k1, k2, k3, ?_⟩
          refine ⟨(by show 0 ≤ sizeLine; decide), fun w5 nw5 => ?_⟩
          have sr := Same.new (H := Hq) (p := w5) (o := .tup []) nw5
          have g5 : upd Hq w5 (.tup []) w5 = some (.tup []) := upd_same
          generalize upd Hq w5 (.tup []) = Hr at sr g5 ⊢
          refine ⟨(by show 3 ≤ sizeLine; decide), fun N nN => ?_⟩
          have ss := Same.new (H := Hr) (p := N) (o := .lst [.non, .ref w5, .str "smooth"]) nN
          have gN : upd Hr N (.lst [.non, .ref w5, .str "smooth"]) N = some (.lst [.non, .ref w5, .str "smooth"]) := upd_same
          generalize upd Hr N (.lst [.non, .ref w5, .str "smooth"]) = Hs at ss gN ⊢
          refine ⟨.ref N, td, rfl, wdp gN (ss _ _ g5), k1, k2, k3, rfl, _, rfl, ?_⟩
          generalize td.shown = zz
          refine iteNS rfl ?_
          have bz : But m H3 Hs := b3i.trans ((But.of (sj.trans sk)).trans (bm.trans (But.of (sn.trans (so.trans (sp.trans (sq.trans (sr.trans ss))))))))
          exact ⟨s2.trans (But.same s3 bz nm), _, _, _, _, _, _, _, _, _, _, _, _, _, _, _, _, _, rfl⟩
    · rintro σ H2 ⟨s2, v2, v3, v4, v5, v6, v7, v8, v9, v10, v11, v12, v13, v14, v15, v16, v17, v18, rfl⟩
      exact q _
end
end K15
set_option Elab.async false
set_option linter.all false
set_option maxRecDepth 100000
set_option maxHeartbeats 4000000
namespace K15
open PySem PySem.Spec PyProof.Rows L2 Gd QM
section
variable {P : Program} {w : World} {K : PySem.W.Frag} {mg : Str → Option Value} {base : Heap}
/-! ### never entered -/
abbrev s_without_great_powers : Stmt := topS 29
theorem sc_without_great_powers : FnScope ["a", "b", "rest", "least", "p", "_"] ["a", "b", "rest", "least"] (defScope s_without_great_powers) := ⟨rfl, rfl, rfl, by decide +kernel, rfl, by decide +kernel, by decide +kernel⟩
theorem k_without_great_powers (D : Df K mg "without_great_powers" s_without_great_powers ["a", "b", "rest", "least"]) : Kl P w K mg base 6 "without_great_powers" (sp_without_great_powers K) :=
  Kl.by_body D sc_without_great_powers (fun _ _ _ _ h => h.elim) (fun _ _ _ _ _ _ _ _ _ _ h => h.elim)
end
end K15
set_option Elab.async false
set_option linter.all false
set_option maxRecDepth 100000
set_option maxHeartbeats 4000000
namespace K15
open PySem PySem.Spec PyProof.Rows L2 Gd
theorem all_mk {P : Program} {w : World} {K : PySem.W.Frag} {h : Heap} {mg : Str → Option Value} {fa : Addr} (X : K.In h) (G : h.Ns mainGlobals mg) (hfa : mg "law" = some (.ref fa))
    {f5 : Addr} {od5 an5 : Option Addr} {sl5 : Array (Option Value)} {oc5 kV5 dc5 pm5 cd5 ct5 : Value}
    {f7 : Addr} {od7 an7 : Option Addr} {sl7 : Array (Option Value)} {oc7 kV7 dc7 pm7 cd7 ct7 : Value}
    {f8 : Addr} {od8 an8 : Option Addr} {sl8 : Array (Option Value)} {oc8 kV8 dc8 pm8 cd8 ct8 : Value}
    {f9 : Addr} {od9 an9 : Option Addr} {sl9 : Array (Option Value)} {oc9 kV9 dc9 pm9 cd9 ct9 : Value}
    {f26 : Addr} {od26 an26 : Option Addr} {sl26 : Array (Option Value)} {oc26 kV26 dc26 pm26 cd26 ct26 : Value}
    {f27 : Addr} {od27 an27 : Option Addr} {sl27 : Array (Option Value)} {oc27 kV27 dc27 pm27 cd27 ct27 : Value}
    {f29 : Addr} {od29 an29 : Option Addr} {sl29 : Array (Option Value)} {oc29 kV29 dc29 pm29 cd29 ct29 : Value}
    {f31 : Addr} {od31 an31 : Option Addr} {sl31 : Array (Option Value)} {oc31 kV31 dc31 pm31 cd31 ct31 : Value}
    {f32 : Addr} {od32 an32 : Option Addr} {sl32 : Array (Option Value)} {oc32 kV32 dc32 pm32 cd32 ct32 : Value}
    {f34 : Addr} {od34 an34 : Option Addr} {sl34 : Array (Option Value)} {oc34 kV34 dc34 pm34 cd34 ct34 : Value}
    {f36 : Addr} {od36 an36 : Option Addr} {sl36 : Array (Option Value)} {oc36 kV36 dc36 pm36 cd36 ct36 : Value}
    {f37 : Addr} {od37 an37 : Option Addr} {sl37 : Array (Option Value)} {oc37 kV37 dc37 pm37 cd37 ct37 : Value}
    {f39 : Addr} {od39 an39 : Option Addr} {sl39 : Array (Option Value)} {oc39 kV39 dc39 pm39 cd39 ct39 : Value}
    {f41 : Addr} {od41 an41 : Option Addr} {sl41 : Array (Option Value)} {oc41 kV41 dc41 pm41 cd41 ct41 : Value}
    {f44 : Addr} {od44 an44 : Option Addr} {sl44 : Array (Option Value)} {oc44 kV44 dc44 pm44 cd44 ct44 : Value}
    {f45 : Addr} {od45 an45 : Option Addr} {sl45 : Array (Option Value)} {oc45 kV45 dc45 pm45 cd45 ct45 : Value}
    {f46 : Addr} {od46 an46 : Option Addr} {sl46 : Array (Option Value)} {oc46 kV46 dc46 pm46 cd46 ct46 : Value}
    {f47 : Addr} {od47 an47 : Option Addr} {sl47 : Array (Option Value)} {oc47 kV47 dc47 pm47 cd47 ct47 : Value}
    {f48 : Addr} {od48 an48 : Option Addr} {sl48 : Array (Option Value)} {oc48 kV48 dc48 pm48 cd48 ct48 : Value}
    {f51 : Addr} {od51 an51 : Option Addr} {sl51 : Array (Option Value)} {oc51 kV51 dc51 pm51 cd51 ct51 : Value}
    {f52 : Addr} {od52 an52 : Option Addr} {sl52 : Array (Option Value)} {oc52 kV52 dc52 pm52 cd52 ct52 : Value}
    {f55 : Addr} {od55 an55 : Option Addr} {sl55 : Array (Option Value)} {oc55 kV55 dc55 pm55 cd55 ct55 : Value}
    {f56 : Addr} {od56 an56 : Option Addr} {sl56 : Array (Option Value)} {oc56 kV56 dc56 pm56 cd56 ct56 : Value}
    {f57 : Addr} {od57 an57 : Option Addr} {sl57 : Array (Option Value)} {oc57 kV57 dc57 pm57 cd57 ct57 : Value}
    {f58 : Addr} {od58 an58 : Option Addr} {sl58 : Array (Option Value)} {oc58 kV58 dc58 pm58 cd58 ct58 : Value}
    {f59 : Addr} {od59 an59 : Option Addr} {sl59 : Array (Option Value)} {oc59 kV59 dc59 pm59 cd59 ct59 : Value}
    {f61 : Addr} {od61 an61 : Option Addr} {sl61 : Array (Option Value)} {oc61 kV61 dc61 pm61 cd61 ct61 : Value}
    {f63 : Addr} {od63 an63 : Option Addr} {sl63 : Array (Option Value)} {oc63 kV63 dc63 pm63 cd63 ct63 : Value}
    {f64 : Addr} {od64 an64 : Option Addr} {sl64 : Array (Option Value)} {oc64 kV64 dc64 pm64 cd64 ct64 : Value}
    {f65 : Addr} {od65 an65 : Option Addr} {sl65 : Array (Option Value)} {oc65 kV65 dc65 pm65 cd65 ct65 : Value}
    {f66 : Addr} {od66 an66 : Option Addr} {sl66 : Array (Option Value)} {oc66 kV66 dc66 pm66 cd66 ct66 : Value}
    {f67 : Addr} {od67 an67 : Option Addr} {sl67 : Array (Option Value)} {oc67 kV67 dc67 pm67 cd67 ct67 : Value}
    {f68 : Addr} {od68 an68 : Option Addr} {sl68 : Array (Option Value)} {oc68 kV68 dc68 pm68 cd68 ct68 : Value}
    {f69 : Addr} {od69 an69 : Option Addr} {sl69 : Array (Option Value)} {oc69 kV69 dc69 pm69 cd69 ct69 : Value}
    {f70 : Addr} {od70 an70 : Option Addr} {sl70 : Array (Option Value)} {oc70 kV70 dc70 pm70 cd70 ct70 : Value}
    {f71 : Addr} {od71 an71 : Option Addr} {sl71 : Array (Option Value)} {oc71 kV71 dc71 pm71 cd71 ct71 : Value}
    {f73 : Addr} {od73 an73 : Option Addr} {sl73 : Array (Option Value)} {oc73 kV73 dc73 pm73 cd73 ct73 : Value}
    {f74 : Addr} {od74 an74 : Option Addr} {sl74 : Array (Option Value)} {oc74 kV74 dc74 pm74 cd74 ct74 : Value}
    {f75 : Addr} {od75 an75 : Option Addr} {sl75 : Array (Option Value)} {oc75 kV75 dc75 pm75 cd75 ct75 : Value}
    {f76 : Addr} {od76 an76 : Option Addr} {sl76 : Array (Option Value)} {oc76 kV76 dc76 pm76 cd76 ct76 : Value}
    {f77 : Addr} {od77 an77 : Option Addr} {sl77 : Array (Option Value)} {oc77 kV77 dc77 pm77 cd77 ct77 : Value}
    {f78 : Addr} {od78 an78 : Option Addr} {sl78 : Array (Option Value)} {oc78 kV78 dc78 pm78 cd78 ct78 : Value}
    {f79 : Addr} {od79 an79 : Option Addr} {sl79 : Array (Option Value)} {oc79 kV79 dc79 pm79 cd79 ct79 : Value}
    {f80 : Addr} {od80 an80 : Option Addr} {sl80 : Array (Option Value)} {oc80 kV80 dc80 pm80 cd80 ct80 : Value}
    {f81 : Addr} {od81 an81 : Option Addr} {sl81 : Array (Option Value)} {oc81 kV81 dc81 pm81 cd81 ct81 : Value}
    {f82 : Addr} {od82 an82 : Option Addr} {sl82 : Array (Option Value)} {oc82 kV82 dc82 pm82 cd82 ct82 : Value}
    {f83 : Addr} {od83 an83 : Option Addr} {sl83 : Array (Option Value)} {oc83 kV83 dc83 pm83 cd83 ct83 : Value}
    {f84 : Addr} {od84 an84 : Option Addr} {sl84 : Array (Option Value)} {oc84 kV84 dc84 pm84 cd84 ct84 : Value}
    {f85 : Addr} {od85 an85 : Option Addr} {sl85 : Array (Option Value)} {oc85 kV85 dc85 pm85 cd85 ct85 : Value}
    {f86 : Addr} {od86 an86 : Option Addr} {sl86 : Array (Option Value)} {oc86 kV86 dc86 pm86 cd86 ct86 : Value}
    {f87 : Addr} {od87 an87 : Option Addr} {sl87 : Array (Option Value)} {oc87 kV87 dc87 pm87 cd87 ct87 : Value}
    {f88 : Addr} {od88 an88 : Option Addr} {sl88 : Array (Option Value)} {oc88 kV88 dc88 pm88 cd88 ct88 : Value}
    {f89 : Addr} {od89 an89 : Option Addr} {sl89 : Array (Option Value)} {oc89 kV89 dc89 pm89 cd89 ct89 : Value}
    {f90 : Addr} {od90 an90 : Option Addr} {sl90 : Array (Option Value)} {oc90 kV90 dc90 pm90 cd90 ct90 : Value}
    {f91 : Addr} {od91 an91 : Option Addr} {sl91 : Array (Option Value)} {oc91 kV91 dc91 pm91 cd91 ct91 : Value}
    {f92 : Addr} {od92 an92 : Option Addr} {sl92 : Array (Option Value)} {oc92 kV92 dc92 pm92 cd92 ct92 : Value}
    {f93 : Addr} {od93 an93 : Option Addr} {sl93 : Array (Option Value)} {oc93 kV93 dc93 pm93 cd93 ct93 : Value}
    {f94 : Addr} {od94 an94 : Option Addr} {sl94 : Array (Option Value)} {oc94 kV94 dc94 pm94 cd94 ct94 : Value}
    {f95 : Addr} {od95 an95 : Option Addr} {sl95 : Array (Option Value)} {oc95 kV95 dc95 pm95 cd95 ct95 : Value}
    {aT_REDUCED_B2 : Addr} {odT_REDUCED_B2 : Option Addr} {nT_REDUCED_B2 : Nat} {slT_REDUCED_B2 : Array (Option Value)} {uT_REDUCED_B2_0 uT_REDUCED_B2_1 uT_REDUCED_B2_2 uT_REDUCED_B2_3 uT_REDUCED_B2_4 uT_REDUCED_B2_5 : Tok}
    (a5 : PySem.W.nsIn K mainGlobals "valuation" = some (some (.ref f5))) (l5 : K.lookup f5 = some ⟨oc5, od5, .func (PySem.W.fnOf "valuation" "valuation" (defArgs s_valuation) (defBody s_valuation) (defScope s_valuation) .none kV5 dc5 pm5 an5 cd5 ct5), sl5⟩) (c5 : PySem.W.codeIn K cd5 "valuation" = true) (k5 : PySem.W.keepIn K (.ref f5) = true)
    (a7 : PySem.W.nsIn K mainGlobals "power" = some (some (.ref f7))) (l7 : K.lookup f7 = some ⟨oc7, od7, .func (PySem.W.fnOf "power" "power" (defArgs s_power) (defBody s_power) (defScope s_power) .none kV7 dc7 pm7 an7 cd7 ct7), sl7⟩) (c7 : PySem.W.codeIn K cd7 "power" = true) (k7 : PySem.W.keepIn K (.ref f7) = true)
    (a8 : PySem.W.nsIn K mainGlobals "root_of" = some (some (.ref f8))) (l8 : K.lookup f8 = some ⟨oc8, od8, .func (PySem.W.fnOf "root_of" "root_of" (defArgs s_root_of) (defBody s_root_of) (defScope s_root_of) .none kV8 dc8 pm8 an8 cd8 ct8), sl8⟩) (c8 : PySem.W.codeIn K cd8 "root_of" = true) (k8 : PySem.W.keepIn K (.ref f8) = true)
    (a9 : PySem.W.nsIn K mainGlobals "exact_root" = some (some (.ref f9))) (l9 : K.lookup f9 = some ⟨oc9, od9, .func (PySem.W.fnOf "exact_root" "exact_root" (defArgs s_exact_root) (defBody s_exact_root) (defScope s_exact_root) .none kV9 dc9 pm9 an9 cd9 ct9), sl9⟩) (c9 : PySem.W.codeIn K cd9 "exact_root" = true) (k9 : PySem.W.keepIn K (.ref f9) = true)
    (a26 : PySem.W.nsIn K mainGlobals "divided_by" = some (some (.ref f26))) (l26 : K.lookup f26 = some ⟨oc26, od26, .func (PySem.W.fnOf "divided_by" "divided_by" (defArgs s_divided_by) (defBody s_divided_by) (defScope s_divided_by) .none kV26 dc26 pm26 an26 cd26 ct26), sl26⟩) (c26 : PySem.W.codeIn K cd26 "divided_by" = true) (k26 : PySem.W.keepIn K (.ref f26) = true)
    (a27 : PySem.W.nsIn K mainGlobals "without_powers" = some (some (.ref f27))) (l27 : K.lookup f27 = some ⟨oc27, od27, .func (PySem.W.fnOf "without_powers" "without_powers" (defArgs s_without_powers) (defBody s_without_powers) (defScope s_without_powers) .none kV27 dc27 pm27 an27 cd27 ct27), sl27⟩) (c27 : PySem.W.codeIn K cd27 "without_powers" = true) (k27 : PySem.W.keepIn K (.ref f27) = true)
    (a29 : PySem.W.nsIn K mainGlobals "without_great_powers" = some (some (.ref f29))) (l29 : K.lookup f29 = some ⟨oc29, od29, .func (PySem.W.fnOf "without_great_powers" "without_great_powers" (defArgs s_without_great_powers) (defBody s_without_great_powers) (defScope s_without_great_powers) .none kV29 dc29 pm29 an29 cd29 ct29), sl29⟩) (c29 : PySem.W.codeIn K cd29 "without_great_powers" = true) (k29 : PySem.W.keepIn K (.ref f29) = true)
    (a31 : PySem.W.nsIn K mainGlobals "five" = some (some (.ref f31))) (l31 : K.lookup f31 = some ⟨oc31, od31, .func (PySem.W.fnOf "five" "five" (defArgs s_five) (defBody s_five) (defScope s_five) .none kV31 dc31 pm31 an31 cd31 ct31), sl31⟩) (c31 : PySem.W.codeIn K cd31 "five" = true) (k31 : PySem.W.keepIn K (.ref f31) = true)
    (a32 : PySem.W.nsIn K mainGlobals "numbers_of" = some (some (.ref f32))) (l32 : K.lookup f32 = some ⟨oc32, od32, .func (PySem.W.fnOf "numbers_of" "numbers_of" (defArgs s_numbers_of) (defBody s_numbers_of) (defScope s_numbers_of) .none kV32 dc32 pm32 an32 cd32 ct32), sl32⟩) (c32 : PySem.W.codeIn K cd32 "numbers_of" = true) (k32 : PySem.W.keepIn K (.ref f32) = true)
    (a34 : PySem.W.nsIn K mainGlobals "value_over" = some (some (.ref f34))) (l34 : K.lookup f34 = some ⟨oc34, od34, .func (PySem.W.fnOf "value_over" "value_over" (defArgs s_value_over) (defBody s_value_over) (defScope s_value_over) .none kV34 dc34 pm34 an34 cd34 ct34), sl34⟩) (c34 : PySem.W.codeIn K cd34 "value_over" = true) (k34 : PySem.W.keepIn K (.ref f34) = true)
    (a36 : PySem.W.nsIn K mainGlobals "digits_of" = some (some (.ref f36))) (l36 : K.lookup f36 = some ⟨oc36, od36, .func (PySem.W.fnOf "digits_of" "digits_of" (defArgs s_digits_of) (defBody s_digits_of) (defScope s_digits_of) .none kV36 dc36 pm36 an36 cd36 ct36), sl36⟩) (c36 : PySem.W.codeIn K cd36 "digits_of" = true) (k36 : PySem.W.keepIn K (.ref f36) = true)
    (a37 : PySem.W.nsIn K mainGlobals "is_solution" = some (some (.ref f37))) (l37 : K.lookup f37 = some ⟨oc37, od37, .func (PySem.W.fnOf "is_solution" "is_solution" (defArgs s_is_solution) (defBody s_is_solution) (defScope s_is_solution) .none kV37 dc37 pm37 an37 cd37 ct37), sl37⟩) (c37 : PySem.W.codeIn K cd37 "is_solution" = true) (k37 : PySem.W.keepIn K (.ref f37) = true)
    (a39 : PySem.W.nsIn K mainGlobals "cubic_of" = some (some (.ref f39))) (l39 : K.lookup f39 = some ⟨oc39, od39, .func (PySem.W.fnOf "cubic_of" "cubic_of" (defArgs s_cubic_of) (defBody s_cubic_of) (defScope s_cubic_of) .none kV39 dc39 pm39 an39 cd39 ct39), sl39⟩) (c39 : PySem.W.codeIn K cd39 "cubic_of" = true) (k39 : PySem.W.keepIn K (.ref f39) = true)
    (a41 : PySem.W.nsIn K mainGlobals "count_over" = some (some (.ref f41))) (l41 : K.lookup f41 = some ⟨oc41, od41, .func (PySem.W.fnOf "count_over" "count_over" (defArgs s_count_over) (defBody s_count_over) (defScope s_count_over) .none kV41 dc41 pm41 an41 cd41 ct41), sl41⟩) (c41 : PySem.W.codeIn K cd41 "count_over" = true) (k41 : PySem.W.keepIn K (.ref f41) = true)
    (a44 : PySem.W.nsIn K mainGlobals "over_whole" = some (some (.ref f44))) (l44 : K.lookup f44 = some ⟨oc44, od44, .func (PySem.W.fnOf "over_whole" "over_whole" (defArgs s_over_whole) (defBody s_over_whole) (defScope s_over_whole) .none kV44 dc44 pm44 an44 cd44 ct44), sl44⟩) (c44 : PySem.W.codeIn K cd44 "over_whole" = true) (k44 : PySem.W.keepIn K (.ref f44) = true)
    (a45 : PySem.W.nsIn K mainGlobals "told_numbers" = some (some (.ref f45))) (l45 : K.lookup f45 = some ⟨oc45, od45, .func (PySem.W.fnOf "told_numbers" "told_numbers" (defArgs s_told_numbers) (defBody s_told_numbers) (defScope s_told_numbers) .none kV45 dc45 pm45 an45 cd45 ct45), sl45⟩) (c45 : PySem.W.codeIn K cd45 "told_numbers" = true) (k45 : PySem.W.keepIn K (.ref f45) = true)
    (a46 : PySem.W.nsIn K mainGlobals "curve_of" = some (some (.ref f46))) (l46 : K.lookup f46 = some ⟨oc46, od46, .func (PySem.W.fnOf "curve_of" "curve_of" (defArgs s_curve_of) (defBody s_curve_of) (defScope s_curve_of) .none kV46 dc46 pm46 an46 cd46 ct46), sl46⟩) (c46 : PySem.W.codeIn K cd46 "curve_of" = true) (k46 : PySem.W.keepIn K (.ref f46) = true)
    (a47 : PySem.W.nsIn K mainGlobals "greatest_scale" = some (some (.ref f47))) (l47 : K.lookup f47 = some ⟨oc47, od47, .func (PySem.W.fnOf "greatest_scale" "greatest_scale" (defArgs s_greatest_scale) (defBody s_greatest_scale) (defScope s_greatest_scale) .none kV47 dc47 pm47 an47 cd47 ct47), sl47⟩) (c47 : PySem.W.codeIn K cd47 "greatest_scale" = true) (k47 : PySem.W.keepIn K (.ref f47) = true)
    (a48 : PySem.W.nsIn K mainGlobals "least_and_scale" = some (some (.ref f48))) (l48 : K.lookup f48 = some ⟨oc48, od48, .func (PySem.W.fnOf "least_and_scale" "least_and_scale" (defArgs s_least_and_scale) (defBody s_least_and_scale) (defScope s_least_and_scale) .none kV48 dc48 pm48 an48 cd48 ct48), sl48⟩) (c48 : PySem.W.codeIn K cd48 "least_and_scale" = true) (k48 : PySem.W.keepIn K (.ref f48) = true)
    (a51 : PySem.W.nsIn K mainGlobals "trimmed" = some (some (.ref f51))) (l51 : K.lookup f51 = some ⟨oc51, od51, .func (PySem.W.fnOf "trimmed" "trimmed" (defArgs s_trimmed) (defBody s_trimmed) (defScope s_trimmed) .none kV51 dc51 pm51 an51 cd51 ct51), sl51⟩) (c51 : PySem.W.codeIn K cd51 "trimmed" = true) (k51 : PySem.W.keepIn K (.ref f51) = true)
    (a52 : PySem.W.nsIn K mainGlobals "monic" = some (some (.ref f52))) (l52 : K.lookup f52 = some ⟨oc52, od52, .func (PySem.W.fnOf "monic" "monic" (defArgs s_monic) (defBody s_monic) (defScope s_monic) .none kV52 dc52 pm52 an52 cd52 ct52), sl52⟩) (c52 : PySem.W.codeIn K cd52 "monic" = true) (k52 : PySem.W.keepIn K (.ref f52) = true)
    (a55 : PySem.W.nsIn K mainGlobals "power_rest" = some (some (.ref f55))) (l55 : K.lookup f55 = some ⟨oc55, od55, .func (PySem.W.fnOf "power_rest" "power_rest" (defArgs s_power_rest) (defBody s_power_rest) (defScope s_power_rest) .none kV55 dc55 pm55 an55 cd55 ct55), sl55⟩) (c55 : PySem.W.codeIn K cd55 "power_rest" = true) (k55 : PySem.W.keepIn K (.ref f55) = true)
    (a56 : PySem.W.nsIn K mainGlobals "less_term" = some (some (.ref f56))) (l56 : K.lookup f56 = some ⟨oc56, od56, .func (PySem.W.fnOf "less_term" "less_term" (defArgs s_less_term) (defBody s_less_term) (defScope s_less_term) .none kV56 dc56 pm56 an56 cd56 ct56), sl56⟩) (c56 : PySem.W.codeIn K cd56 "less_term" = true) (k56 : PySem.W.keepIn K (.ref f56) = true)
    (a57 : PySem.W.nsIn K mainGlobals "common_over" = some (some (.ref f57))) (l57 : K.lookup f57 = some ⟨oc57, od57, .func (PySem.W.fnOf "common_over" "common_over" (defArgs s_common_over) (defBody s_common_over) (defScope s_common_over) .none kV57 dc57 pm57 an57 cd57 ct57), sl57⟩) (c57 : PySem.W.codeIn K cd57 "common_over" = true) (k57 : PySem.W.keepIn K (.ref f57) = true)
    (a58 : PySem.W.nsIn K mainGlobals "parted_roots" = some (some (.ref f58))) (l58 : K.lookup f58 = some ⟨oc58, od58, .func (PySem.W.fnOf "parted_roots" "parted_roots" (defArgs s_parted_roots) (defBody s_parted_roots) (defScope s_parted_roots) .none kV58 dc58 pm58 an58 cd58 ct58), sl58⟩) (c58 : PySem.W.codeIn K cd58 "parted_roots" = true) (k58 : PySem.W.keepIn K (.ref f58) = true)
    (a59 : PySem.W.nsIn K mainGlobals "all_roots" = some (some (.ref f59))) (l59 : K.lookup f59 = some ⟨oc59, od59, .func (PySem.W.fnOf "all_roots" "all_roots" (defArgs s_all_roots) (defBody s_all_roots) (defScope s_all_roots) .none kV59 dc59 pm59 an59 cd59 ct59), sl59⟩) (c59 : PySem.W.codeIn K cd59 "all_roots" = true) (k59 : PySem.W.keepIn K (.ref f59) = true)
    (a61 : PySem.W.nsIn K mainGlobals "roots_over" = some (some (.ref f61))) (l61 : K.lookup f61 = some ⟨oc61, od61, .func (PySem.W.fnOf "roots_over" "roots_over" (defArgs s_roots_over) (defBody s_roots_over) (defScope s_roots_over) .none kV61 dc61 pm61 an61 cd61 ct61), sl61⟩) (c61 : PySem.W.codeIn K cd61 "roots_over" = true) (k61 : PySem.W.keepIn K (.ref f61) = true)
    (a63 : PySem.W.nsIn K mainGlobals "is_flat" = some (some (.ref f63))) (l63 : K.lookup f63 = some ⟨oc63, od63, .func (PySem.W.fnOf "is_flat" "is_flat" (defArgs s_is_flat) (defBody s_is_flat) (defScope s_is_flat) .none kV63 dc63 pm63 an63 cd63 ct63), sl63⟩) (c63 : PySem.W.codeIn K cd63 "is_flat" = true) (k63 : PySem.W.keepIn K (.ref f63) = true)
    (a64 : PySem.W.nsIn K mainGlobals "singular_places" = some (some (.ref f64))) (l64 : K.lookup f64 = some ⟨oc64, od64, .func (PySem.W.fnOf "singular_places" "singular_places" (defArgs s_singular_places) (defBody s_singular_places) (defScope s_singular_places) .none kV64 dc64 pm64 an64 cd64 ct64), sl64⟩) (c64 : PySem.W.codeIn K cd64 "singular_places" = true) (k64 : PySem.W.keepIn K (.ref f64) = true)
    (a65 : PySem.W.nsIn K mainGlobals "singular_point" = some (some (.ref f65))) (l65 : K.lookup f65 = some ⟨oc65, od65, .func (PySem.W.fnOf "singular_point" "singular_point" (defArgs s_singular_point) (defBody s_singular_point) (defScope s_singular_point) .none kV65 dc65 pm65 an65 cd65 ct65), sl65⟩) (c65 : PySem.W.codeIn K cd65 "singular_point" = true) (k65 : PySem.W.keepIn K (.ref f65) = true)
    (a66 : PySem.W.nsIn K mainGlobals "tangents_at" = some (some (.ref f66))) (l66 : K.lookup f66 = some ⟨oc66, od66, .func (PySem.W.fnOf "tangents_at" "tangents_at" (defArgs s_tangents_at) (defBody s_tangents_at) (defScope s_tangents_at) .none kV66 dc66 pm66 an66 cd66 ct66), sl66⟩) (c66 : PySem.W.codeIn K cd66 "tangents_at" = true) (k66 : PySem.W.keepIn K (.ref f66) = true)
    (a67 : PySem.W.nsIn K mainGlobals "tangents" = some (some (.ref f67))) (l67 : K.lookup f67 = some ⟨oc67, od67, .func (PySem.W.fnOf "tangents" "tangents" (defArgs s_tangents) (defBody s_tangents) (defScope s_tangents) .none kV67 dc67 pm67 an67 cd67 ct67), sl67⟩) (c67 : PySem.W.codeIn K cd67 "tangents" = true) (k67 : PySem.W.keepIn K (.ref f67) = true)
    (a68 : PySem.W.nsIn K mainGlobals "word_at" = some (some (.ref f68))) (l68 : K.lookup f68 = some ⟨oc68, od68, .func (PySem.W.fnOf "word_at" "word_at" (defArgs s_word_at) (defBody s_word_at) (defScope s_word_at) .none kV68 dc68 pm68 an68 cd68 ct68), sl68⟩) (c68 : PySem.W.codeIn K cd68 "word_at" = true) (k68 : PySem.W.keepIn K (.ref f68) = true)
    (a69 : PySem.W.nsIn K mainGlobals "fall_at" = some (some (.ref f69))) (l69 : K.lookup f69 = some ⟨oc69, od69, .func (PySem.W.fnOf "fall_at" "fall_at" (defArgs s_fall_at) (defBody s_fall_at) (defScope s_fall_at) .none kV69 dc69 pm69 an69 cd69 ct69), sl69⟩) (c69 : PySem.W.codeIn K cd69 "fall_at" = true) (k69 : PySem.W.keepIn K (.ref f69) = true)
    (a70 : PySem.W.nsIn K mainGlobals "falls" = some (some (.ref f70))) (l70 : K.lookup f70 = some ⟨oc70, od70, .func (PySem.W.fnOf "falls" "falls" (defArgs s_falls) (defBody s_falls) (defScope s_falls) .none kV70 dc70 pm70 an70 cd70 ct70), sl70⟩) (c70 : PySem.W.codeIn K cd70 "falls" = true) (k70 : PySem.W.keepIn K (.ref f70) = true)
    (a71 : PySem.W.nsIn K mainGlobals "smooth_count" = some (some (.ref f71))) (l71 : K.lookup f71 = some ⟨oc71, od71, .func (PySem.W.fnOf "smooth_count" "smooth_count" (defArgs s_smooth_count) (defBody s_smooth_count) (defScope s_smooth_count) .none kV71 dc71 pm71 an71 cd71 ct71), sl71⟩) (c71 : PySem.W.codeIn K cd71 "smooth_count" = true) (k71 : PySem.W.keepIn K (.ref f71) = true)
    (a73 : PySem.W.nsIn K mainGlobals "_law_begun" = some (some (.ref f73))) (l73 : K.lookup f73 = some ⟨oc73, od73, .func (PySem.W.fnOf "_law_begun" "_law_begun" (defArgs s__law_begun) (defBody s__law_begun) (defScope s__law_begun) .none kV73 dc73 pm73 an73 cd73 ct73), sl73⟩) (c73 : PySem.W.codeIn K cd73 "_law_begun" = true) (k73 : PySem.W.keepIn K (.ref f73) = true)
    (a74 : PySem.W.nsIn K mainGlobals "_law_draw" = some (some (.ref f74))) (l74 : K.lookup f74 = some ⟨oc74, od74, .func (PySem.W.fnOf "_law_draw" "_law_draw" (defArgs s__law_draw) (defBody s__law_draw) (defScope s__law_draw) .none kV74 dc74 pm74 an74 cd74 ct74), sl74⟩) (c74 : PySem.W.codeIn K cd74 "_law_draw" = true) (k74 : PySem.W.keepIn K (.ref f74) = true)
    (a75 : PySem.W.nsIn K mainGlobals "_law_of" = some (some (.ref f75))) (l75 : K.lookup f75 = some ⟨oc75, od75, .func (PySem.W.fnOf "_law_of" "_law_of" (defArgs s__law_of) (defBody s__law_of) (defScope s__law_of) .none kV75 dc75 pm75 an75 cd75 ct75), sl75⟩) (c75 : PySem.W.codeIn K cd75 "_law_of" = true) (k75 : PySem.W.keepIn K (.ref f75) = true)
    (a76 : PySem.W.nsIn K mainGlobals "_law_between" = some (some (.ref f76))) (l76 : K.lookup f76 = some ⟨oc76, od76, .func (PySem.W.fnOf "_law_between" "_law_between" (defArgs s__law_between) (defBody s__law_between) (defScope s__law_between) .none kV76 dc76 pm76 an76 cd76 ct76), sl76⟩) (c76 : PySem.W.codeIn K cd76 "_law_between" = true) (k76 : PySem.W.keepIn K (.ref f76) = true)
    (a77 : PySem.W.nsIn K mainGlobals "_law_common" = some (some (.ref f77))) (l77 : K.lookup f77 = some ⟨oc77, od77, .func (PySem.W.fnOf "_law_common" "_law_common" (defArgs s__law_common) (defBody s__law_common) (defScope s__law_common) .none kV77 dc77 pm77 an77 cd77 ct77), sl77⟩) (c77 : PySem.W.codeIn K cd77 "_law_common" = true) (k77 : PySem.W.keepIn K (.ref f77) = true)
    (a78 : PySem.W.nsIn K mainGlobals "_law_cut" = some (some (.ref f78))) (l78 : K.lookup f78 = some ⟨oc78, od78, .func (PySem.W.fnOf "_law_cut" "_law_cut" (defArgs s__law_cut) (defBody s__law_cut) (defScope s__law_cut) .none kV78 dc78 pm78 an78 cd78 ct78), sl78⟩) (c78 : PySem.W.codeIn K cd78 "_law_cut" = true) (k78 : PySem.W.keepIn K (.ref f78) = true)
    (a79 : PySem.W.nsIn K mainGlobals "_law_plus" = some (some (.ref f79))) (l79 : K.lookup f79 = some ⟨oc79, od79, .func (PySem.W.fnOf "_law_plus" "_law_plus" (defArgs s__law_plus) (defBody s__law_plus) (defScope s__law_plus) .none kV79 dc79 pm79 an79 cd79 ct79), sl79⟩) (c79 : PySem.W.codeIn K cd79 "_law_plus" = true) (k79 : PySem.W.keepIn K (.ref f79) = true)
    (a80 : PySem.W.nsIn K mainGlobals "_law_less" = some (some (.ref f80))) (l80 : K.lookup f80 = some ⟨oc80, od80, .func (PySem.W.fnOf "_law_less" "_law_less" (defArgs s__law_less) (defBody s__law_less) (defScope s__law_less) .none kV80 dc80 pm80 an80 cd80 ct80), sl80⟩) (c80 : PySem.W.codeIn K cd80 "_law_less" = true) (k80 : PySem.W.keepIn K (.ref f80) = true)
    (a81 : PySem.W.nsIn K mainGlobals "_law_by" = some (some (.ref f81))) (l81 : K.lookup f81 = some ⟨oc81, od81, .func (PySem.W.fnOf "_law_by" "_law_by" (defArgs s__law_by) (defBody s__law_by) (defScope s__law_by) .none kV81 dc81 pm81 an81 cd81 ct81), sl81⟩) (c81 : PySem.W.codeIn K cd81 "_law_by" = true) (k81 : PySem.W.keepIn K (.ref f81) = true)
    (a82 : PySem.W.nsIn K mainGlobals "_law_over" = some (some (.ref f82))) (l82 : K.lookup f82 = some ⟨oc82, od82, .func (PySem.W.fnOf "_law_over" "_law_over" (defArgs s__law_over) (defBody s__law_over) (defScope s__law_over) .none kV82 dc82 pm82 an82 cd82 ct82), sl82⟩) (c82 : PySem.W.codeIn K cd82 "_law_over" = true) (k82 : PySem.W.keepIn K (.ref f82) = true)
    (a83 : PySem.W.nsIn K mainGlobals "_law_numbers" = some (some (.ref f83))) (l83 : K.lookup f83 = some ⟨oc83, od83, .func (PySem.W.fnOf "_law_numbers" "_law_numbers" (defArgs s__law_numbers) (defBody s__law_numbers) (defScope s__law_numbers) .none kV83 dc83 pm83 an83 cd83 ct83), sl83⟩) (c83 : PySem.W.codeIn K cd83 "_law_numbers" = true) (k83 : PySem.W.keepIn K (.ref f83) = true)
    (a84 : PySem.W.nsIn K mainGlobals "_law_curve" = some (some (.ref f84))) (l84 : K.lookup f84 = some ⟨oc84, od84, .func (PySem.W.fnOf "_law_curve" "_law_curve" (defArgs s__law_curve) (defBody s__law_curve) (defScope s__law_curve) .none kV84 dc84 pm84 an84 cd84 ct84), sl84⟩) (c84 : PySem.W.codeIn K cd84 "_law_curve" = true) (k84 : PySem.W.keepIn K (.ref f84) = true)
    (a85 : PySem.W.nsIn K mainGlobals "_law_led" = some (some (.ref f85))) (l85 : K.lookup f85 = some ⟨oc85, od85, .func (PySem.W.fnOf "_law_led" "_law_led" (defArgs s__law_led) (defBody s__law_led) (defScope s__law_led) .none kV85 dc85 pm85 an85 cd85 ct85), sl85⟩) (c85 : PySem.W.codeIn K cd85 "_law_led" = true) (k85 : PySem.W.keepIn K (.ref f85) = true)
    (a86 : PySem.W.nsIn K mainGlobals "_law_pair" = some (some (.ref f86))) (l86 : K.lookup f86 = some ⟨oc86, od86, .func (PySem.W.fnOf "_law_pair" "_law_pair" (defArgs s__law_pair) (defBody s__law_pair) (defScope s__law_pair) .none kV86 dc86 pm86 an86 cd86 ct86), sl86⟩) (c86 : PySem.W.codeIn K cd86 "_law_pair" = true) (k86 : PySem.W.keepIn K (.ref f86) = true)
    (a87 : PySem.W.nsIn K mainGlobals "_law_moved" = some (some (.ref f87))) (l87 : K.lookup f87 = some ⟨oc87, od87, .func (PySem.W.fnOf "_law_moved" "_law_moved" (defArgs s__law_moved) (defBody s__law_moved) (defScope s__law_moved) .none kV87 dc87 pm87 an87 cd87 ct87), sl87⟩) (c87 : PySem.W.codeIn K cd87 "_law_moved" = true) (k87 : PySem.W.keepIn K (.ref f87) = true)
    (a88 : PySem.W.nsIn K mainGlobals "_law_lets" = some (some (.ref f88))) (l88 : K.lookup f88 = some ⟨oc88, od88, .func (PySem.W.fnOf "_law_lets" "_law_lets" (defArgs s__law_lets) (defBody s__law_lets) (defScope s__law_lets) .none kV88 dc88 pm88 an88 cd88 ct88), sl88⟩) (c88 : PySem.W.codeIn K cd88 "_law_lets" = true) (k88 : PySem.W.keepIn K (.ref f88) = true)
    (a89 : PySem.W.nsIn K mainGlobals "_law_least_of" = some (some (.ref f89))) (l89 : K.lookup f89 = some ⟨oc89, od89, .func (PySem.W.fnOf "_law_least_of" "_law_least_of" (defArgs s__law_least_of) (defBody s__law_least_of) (defScope s__law_least_of) .none kV89 dc89 pm89 an89 cd89 ct89), sl89⟩) (c89 : PySem.W.codeIn K cd89 "_law_least_of" = true) (k89 : PySem.W.keepIn K (.ref f89) = true)
    (a90 : PySem.W.nsIn K mainGlobals "_law_primes" = some (some (.ref f90))) (l90 : K.lookup f90 = some ⟨oc90, od90, .func (PySem.W.fnOf "_law_primes" "_law_primes" (defArgs s__law_primes) (defBody s__law_primes) (defScope s__law_primes) .none kV90 dc90 pm90 an90 cd90 ct90), sl90⟩) (c90 : PySem.W.codeIn K cd90 "_law_primes" = true) (k90 : PySem.W.keepIn K (.ref f90) = true)
    (a91 : PySem.W.nsIn K mainGlobals "_law_side" = some (some (.ref f91))) (l91 : K.lookup f91 = some ⟨oc91, od91, .func (PySem.W.fnOf "_law_side" "_law_side" (defArgs s__law_side) (defBody s__law_side) (defScope s__law_side) .none kV91 dc91 pm91 an91 cd91 ct91), sl91⟩) (c91 : PySem.W.codeIn K cd91 "_law_side" = true) (k91 : PySem.W.keepIn K (.ref f91) = true)
    (a92 : PySem.W.nsIn K mainGlobals "_law_slopes" = some (some (.ref f92))) (l92 : K.lookup f92 = some ⟨oc92, od92, .func (PySem.W.fnOf "_law_slopes" "_law_slopes" (defArgs s__law_slopes) (defBody s__law_slopes) (defScope s__law_slopes) .none kV92 dc92 pm92 an92 cd92 ct92), sl92⟩) (c92 : PySem.W.codeIn K cd92 "_law_slopes" = true) (k92 : PySem.W.keepIn K (.ref f92) = true)
    (a93 : PySem.W.nsIn K mainGlobals "_law_is_singular" = some (some (.ref f93))) (l93 : K.lookup f93 = some ⟨oc93, od93, .func (PySem.W.fnOf "_law_is_singular" "_law_is_singular" (defArgs s__law_is_singular) (defBody s__law_is_singular) (defScope s__law_is_singular) .none kV93 dc93 pm93 an93 cd93 ct93), sl93⟩) (c93 : PySem.W.codeIn K cd93 "_law_is_singular" = true) (k93 : PySem.W.keepIn K (.ref f93) = true)
    (a94 : PySem.W.nsIn K mainGlobals "_law_word" = some (some (.ref f94))) (l94 : K.lookup f94 = some ⟨oc94, od94, .func (PySem.W.fnOf "_law_word" "_law_word" (defArgs s__law_word) (defBody s__law_word) (defScope s__law_word) .none kV94 dc94 pm94 an94 cd94 ct94), sl94⟩) (c94 : PySem.W.codeIn K cd94 "_law_word" = true) (k94 : PySem.W.keepIn K (.ref f94) = true)
    (a95 : PySem.W.nsIn K mainGlobals "law" = some (some (.ref f95))) (l95 : K.lookup f95 = some ⟨oc95, od95, .func (PySem.W.fnOf "law" "law" (defArgs s_law) (defBody s_law) (defScope s_law) .none kV95 dc95 pm95 an95 cd95 ct95), sl95⟩) (c95 : PySem.W.codeIn K cd95 "law" = true) (k95 : PySem.W.keepIn K (.ref f95) = true)
    (z_gcd : PySem.W.nsIn K mainGlobals "gcd" = some (some (.builtin "math.gcd")))
    (z_isqrt : PySem.W.nsIn K mainGlobals "isqrt" = some (some (.builtin "math.isqrt")))
    (z_int : PySem.W.nsIn K mainGlobals "int" = some none)
    (z_len : PySem.W.nsIn K mainGlobals "len" = some none)
    (z_tuple : PySem.W.nsIn K mainGlobals "tuple" = some none)
    (z_sorted : PySem.W.nsIn K mainGlobals "sorted" = some none)
    (z_min : PySem.W.nsIn K mainGlobals "min" = some none)
    (z_abs : PySem.W.nsIn K mainGlobals "abs" = some none)
    (z_range : PySem.W.nsIn K mainGlobals "range" = some none)
    (z_enumerate : PySem.W.nsIn K mainGlobals "enumerate" = some none)
    (z_repr : PySem.W.nsIn K mainGlobals "repr" = some none)
    (z_list : PySem.W.nsIn K mainGlobals "list" = some none)
    (z_reversed : PySem.W.nsIn K mainGlobals "reversed" = some none)
    (z_sum : PySem.W.nsIn K mainGlobals "sum" = some none)
    {tk_TRIED_modpoly : Tok} (z_TRIED_modpoly : PySem.W.nsIn K mainGlobals "TRIED_modpoly" = some (some (.int 500 tk_TRIED_modpoly)))
    {tk_TRIED_shortening : Tok} (z_TRIED_shortening : PySem.W.nsIn K mainGlobals "TRIED_shortening" = some (some (.int 10000 tk_TRIED_shortening)))
    (z_REDUCED_B2 : PySem.W.nsIn K mainGlobals "REDUCED_B2" = some (some (.ref aT_REDUCED_B2))) (w_REDUCED_B2 : K.lookup aT_REDUCED_B2 = some ⟨.type "tuple", odT_REDUCED_B2, .seq #[.int (0) uT_REDUCED_B2_0, .int (1) uT_REDUCED_B2_1, .int (4) uT_REDUCED_B2_2, .int (5) uT_REDUCED_B2_3, .int (-4) uT_REDUCED_B2_4, .int (-3) uT_REDUCED_B2_5] nT_REDUCED_B2, slT_REDUCED_B2⟩)
    : ∃ fd : FuncData, (∀ (s : Shared) (v : Value), BindsTo s fd ⟨[v], []⟩ [("script", v)]) ∧ ∀ base : Heap, K.In base → base.Ns mainGlobals mg → FnG P w K mg base 12 fa fd ["script"] (sp_law K) := by
  have T : Tx K mg := ⟨PySem.W.mg_of X G z_gcd, PySem.W.mg_of X G z_isqrt, PySem.W.mg_none_of X G z_int, PySem.W.mg_none_of X G z_len, PySem.W.mg_none_of X G z_tuple, PySem.W.mg_none_of X G z_sorted, PySem.W.mg_none_of X G z_min, PySem.W.mg_none_of X G z_abs, PySem.W.mg_none_of X G z_range, PySem.W.mg_none_of X G z_enumerate, PySem.W.mg_none_of X G z_repr, PySem.W.mg_none_of X G z_list, PySem.W.mg_none_of X G z_reversed, PySem.W.mg_none_of X G z_sum, ⟨_, PySem.W.mg_of X G z_TRIED_modpoly, ⟨_, rfl⟩⟩, ⟨_, PySem.W.mg_of X G z_TRIED_shortening, ⟨_, rfl⟩⟩, ⟨_, ⟨_, PySem.W.mg_of X G z_REDUCED_B2, rfl⟩, fun _ => Or.inr ⟨_, _, _, w_REDUCED_B2, rfl, rfl, (by show 6 ≤ sizeLine; decide), (.cons ⟨_, rfl⟩ (.cons ⟨_, rfl⟩ (.cons ⟨_, rfl⟩ (.cons ⟨_, rfl⟩ (.cons ⟨_, rfl⟩ (.cons ⟨_, rfl⟩ .nil))))))⟩⟩⟩
  have d5 : Df K mg "valuation" s_valuation ["n", "p"] := df_mk X G a5 l5 c5 k5 (fun _ _ _ _ _ _ us hl => match us, hl with | [_, _], _ => rfl)
  have d7 : Df K mg "power" s_power ["a", "e"] := df_mk X G a7 l7 c7 k7 (fun _ _ _ _ _ _ us hl => match us, hl with | [_, _], _ => rfl)
  have d8 : Df K mg "root_of" s_root_of ["n", "k"] := df_mk X G a8 l8 c8 k8 (fun _ _ _ _ _ _ us hl => match us, hl with | [_, _], _ => rfl)
  have d9 : Df K mg "exact_root" s_exact_root ["n", "k"] := df_mk X G a9 l9 c9 k9 (fun _ _ _ _ _ _ us hl => match us, hl with | [_, _], _ => rfl)
  have d26 : Df K mg "divided_by" s_divided_by ["a", "b", "u"] := df_mk X G a26 l26 c26 k26 (fun _ _ _ _ _ _ us hl => match us, hl with | [_, _, _], _ => rfl)
  have d27 : Df K mg "without_powers" s_without_powers ["a", "b"] := df_mk X G a27 l27 c27 k27 (fun _ _ _ _ _ _ us hl => match us, hl with | [_, _], _ => rfl)
  have d29 : Df K mg "without_great_powers" s_without_great_powers ["a", "b", "rest", "least"] := df_mk X G a29 l29 c29 k29 (fun _ _ _ _ _ _ us hl => match us, hl with | [_, _, _, _], _ => rfl)
  have d31 : Df K mg "five" s_five ["curve"] := df_mk X G a31 l31 c31 k31 (fun _ _ _ _ _ _ us hl => match us, hl with | [_], _ => rfl)
  have d32 : Df K mg "numbers_of" s_numbers_of ["curve"] := df_mk X G a32 l32 c32 k32 (fun _ _ _ _ _ _ us hl => match us, hl with | [_], _ => rfl)
  have d34 : Df K mg "value_over" s_value_over ["f", "x", "m"] := df_mk X G a34 l34 c34 k34 (fun _ _ _ _ _ _ us hl => match us, hl with | [_, _, _], _ => rfl)
  have d36 : Df K mg "digits_of" s_digits_of ["curve", "p"] := df_mk X G a36 l36 c36 k36 (fun _ _ _ _ _ _ us hl => match us, hl with | [_, _], _ => rfl)
  have d37 : Df K mg "is_solution" s_is_solution ["p", "curve", "x", "y"] := df_mk X G a37 l37 c37 k37 (fun _ _ _ _ _ _ us hl => match us, hl with | [_, _, _, _], _ => rfl)
  have d39 : Df K mg "cubic_of" s_cubic_of ["p", "curve"] := df_mk X G a39 l39 c39 k39 (fun _ _ _ _ _ _ us hl => match us, hl with | [_, _], _ => rfl)
  have d41 : Df K mg "count_over" s_count_over ["p", "curve"] := df_mk X G a41 l41 c41 k41 (fun _ _ _ _ _ _ us hl => match us, hl with | [_, _], _ => rfl)
  have d44 : Df K mg "over_whole" s_over_whole ["n", "d"] := df_mk X G a44 l44 c44 k44 (fun _ _ _ _ _ _ us hl => match us, hl with | [_, _], _ => rfl)
  have d45 : Df K mg "told_numbers" s_told_numbers ["c4", "c6"] := df_mk X G a45 l45 c45 k45 (fun _ _ _ _ _ _ us hl => match us, hl with | [_, _], _ => rfl)
  have d46 : Df K mg "curve_of" s_curve_of ["c4", "c6"] := df_mk X G a46 l46 c46 k46 (fun _ _ _ _ _ _ us hl => match us, hl with | [_, _], _ => rfl)
  have d47 : Df K mg "greatest_scale" s_greatest_scale ["c4", "c6"] := df_mk X G a47 l47 c47 k47 (fun _ _ _ _ _ _ us hl => match us, hl with | [_, _], _ => rfl)
  have d48 : Df K mg "least_and_scale" s_least_and_scale ["curve"] := df_mk X G a48 l48 c48 k48 (fun _ _ _ _ _ _ us hl => match us, hl with | [_], _ => rfl)
  have d51 : Df K mg "trimmed" s_trimmed ["f", "p"] := df_mk X G a51 l51 c51 k51 (fun _ _ _ _ _ _ us hl => match us, hl with | [_, _], _ => rfl)
  have d52 : Df K mg "monic" s_monic ["f", "p"] := df_mk X G a52 l52 c52 k52 (fun _ _ _ _ _ _ us hl => match us, hl with | [_, _], _ => rfl)
  have d55 : Df K mg "power_rest" s_power_rest ["f", "e", "h", "p"] := df_mk X G a55 l55 c55 k55 (fun _ _ _ _ _ _ us hl => match us, hl with | [_, _, _, _], _ => rfl)
  have d56 : Df K mg "less_term" s_less_term ["f", "k", "p"] := df_mk X G a56 l56 c56 k56 (fun _ _ _ _ _ _ us hl => match us, hl with | [_, _, _], _ => rfl)
  have d57 : Df K mg "common_over" s_common_over ["f", "g", "p"] := df_mk X G a57 l57 c57 k57 (fun _ _ _ _ _ _ us hl => match us, hl with | [_, _, _], _ => rfl)
  have d58 : Df K mg "parted_roots" s_parted_roots ["h", "p"] := df_mk X G a58 l58 c58 k58 (fun _ _ _ _ _ _ us hl => match us, hl with | [_, _], _ => rfl)
  have d59 : Df K mg "all_roots" s_all_roots ["f", "p"] := df_mk X G a59 l59 c59 k59 (fun _ _ _ _ _ _ us hl => match us, hl with | [_, _], _ => rfl)
  have d61 : Df K mg "roots_over" s_roots_over ["f", "p"] := df_mk X G a61 l61 c61 k61 (fun _ _ _ _ _ _ us hl => match us, hl with | [_, _], _ => rfl)
  have d63 : Df K mg "is_flat" s_is_flat ["p", "curve", "x", "y"] := df_mk X G a63 l63 c63 k63 (fun _ _ _ _ _ _ us hl => match us, hl with | [_, _, _, _], _ => rfl)
  have d64 : Df K mg "singular_places" s_singular_places ["p", "curve"] := df_mk X G a64 l64 c64 k64 (fun _ _ _ _ _ _ us hl => match us, hl with | [_, _], _ => rfl)
  have d65 : Df K mg "singular_point" s_singular_point ["curve", "p"] := df_mk X G a65 l65 c65 k65 (fun _ _ _ _ _ _ us hl => match us, hl with | [_, _], _ => rfl)
  have d66 : Df K mg "tangents_at" s_tangents_at ["least", "p"] := df_mk X G a66 l66 c66 k66 (fun _ _ _ _ _ _ us hl => match us, hl with | [_, _], _ => rfl)
  have d67 : Df K mg "tangents" s_tangents ["curve", "p"] := df_mk X G a67 l67 c67 k67 (fun _ _ _ _ _ _ us hl => match us, hl with | [_, _], _ => rfl)
  have d68 : Df K mg "word_at" s_word_at ["least", "p"] := df_mk X G a68 l68 c68 k68 (fun _ _ _ _ _ _ us hl => match us, hl with | [_, _], _ => rfl)
  have d69 : Df K mg "fall_at" s_fall_at ["curve", "p"] := df_mk X G a69 l69 c69 k69 (fun _ _ _ _ _ _ us hl => match us, hl with | [_, _], _ => rfl)
  have d70 : Df K mg "falls" s_falls ["curve", "most"] := df_mk X G a70 l70 c70 k70 (fun _ _ _ _ _ _ us hl => match us, hl with | [_, _], _ => rfl)
  have d71 : Df K mg "smooth_count" s_smooth_count ["curve", "p"] := df_mk X G a71 l71 c71 k71 (fun _ _ _ _ _ _ us hl => match us, hl with | [_, _], _ => rfl)
  have d73 : Df K mg "_law_begun" s__law_begun ["script", "k"] := df_mk X G a73 l73 c73 k73 (fun _ _ _ _ _ _ us hl => match us, hl with | [_, _], _ => rfl)
  have d74 : Df K mg "_law_draw" s__law_draw ["m", "below"] := df_mk X G a74 l74 c74 k74 (fun _ _ _ _ _ _ us hl => match us, hl with | [_, _], _ => rfl)
  have d75 : Df K mg "_law_of" s__law_of ["m", "some"] := df_mk X G a75 l75 c75 k75 (fun _ _ _ _ _ _ us hl => match us, hl with | [_, _], _ => rfl)
  have d76 : Df K mg "_law_between" s__law_between ["m", "size"] := df_mk X G a76 l76 c76 k76 (fun _ _ _ _ _ _ us hl => match us, hl with | [_, _], _ => rfl)
  have d77 : Df K mg "_law_common" s__law_common ["a", "b"] := df_mk X G a77 l77 c77 k77 (fun _ _ _ _ _ _ us hl => match us, hl with | [_, _], _ => rfl)
  have d78 : Df K mg "_law_cut" s__law_cut ["n", "d"] := df_mk X G a78 l78 c78 k78 (fun _ _ _ _ _ _ us hl => match us, hl with | [_, _], _ => rfl)
  have d79 : Df K mg "_law_plus" s__law_plus ["f", "g"] := df_mk X G a79 l79 c79 k79 (fun _ _ _ _ _ _ us hl => match us, hl with | [_, _], _ => rfl)
  have d80 : Df K mg "_law_less" s__law_less ["f", "g"] := df_mk X G a80 l80 c80 k80 (fun _ _ _ _ _ _ us hl => match us, hl with | [_, _], _ => rfl)
  have d81 : Df K mg "_law_by" s__law_by ["f", "g"] := df_mk X G a81 l81 c81 k81 (fun _ _ _ _ _ _ us hl => match us, hl with | [_, _], _ => rfl)
  have d82 : Df K mg "_law_over" s__law_over ["f", "g"] := df_mk X G a82 l82 c82 k82 (fun _ _ _ _ _ _ us hl => match us, hl with | [_, _], _ => rfl)
  have d83 : Df K mg "_law_numbers" s__law_numbers ["five_v"] := df_mk X G a83 l83 c83 k83 (fun _ _ _ _ _ _ us hl => match us, hl with | [_], _ => rfl)
  have d84 : Df K mg "_law_curve" s__law_curve ["m", "size"] := df_mk X G a84 l84 c84 k84 (fun _ _ _ _ _ _ us hl => match us, hl with | [_, _], _ => rfl)
  have d85 : Df K mg "_law_led" s__law_led ["five_v", "change"] := df_mk X G a85 l85 c85 k85 (fun _ _ _ _ _ _ us hl => match us, hl with | [_, _], _ => rfl)
  have d86 : Df K mg "_law_pair" s__law_pair ["c4", "c6"] := df_mk X G a86 l86 c86 k86 (fun _ _ _ _ _ _ us hl => match us, hl with | [_, _], _ => rfl)
  have d87 : Df K mg "_law_moved" s__law_moved ["m", "five_v", "scale"] := df_mk X G a87 l87 c87 k87 (fun _ _ _ _ _ _ us hl => match us, hl with | [_, _, _], _ => rfl)
  have d88 : Df K mg "_law_lets" s__law_lets ["c4", "c6"] := df_mk X G a88 l88 c88 k88 (fun _ _ _ _ _ _ us hl => match us, hl with | [_, _], _ => rfl)
  have d89 : Df K mg "_law_least_of" s__law_least_of ["five_v"] := df_mk X G a89 l89 c89 k89 (fun _ _ _ _ _ _ us hl => match us, hl with | [_], _ => rfl)
  have d90 : Df K mg "_law_primes" s__law_primes ["most"] := df_mk X G a90 l90 c90 k90 (fun _ _ _ _ _ _ us hl => match us, hl with | [_], _ => rfl)
  have d91 : Df K mg "_law_side" s__law_side ["five_v", "x", "y"] := df_mk X G a91 l91 c91 k91 (fun _ _ _ _ _ _ us hl => match us, hl with | [_, _, _], _ => rfl)
  have d92 : Df K mg "_law_slopes" s__law_slopes ["five_v", "x", "y"] := df_mk X G a92 l92 c92 k92 (fun _ _ _ _ _ _ us hl => match us, hl with | [_, _, _], _ => rfl)
  have d93 : Df K mg "_law_is_singular" s__law_is_singular ["five_v", "p", "x", "y"] := df_mk X G a93 l93 c93 k93 (fun _ _ _ _ _ _ us hl => match us, hl with | [_, _, _, _], _ => rfl)
  have d94 : Df K mg "_law_word" s__law_word ["five_v", "p"] := df_mk X G a94 l94 c94 k94 (fun _ _ _ _ _ _ us hl => match us, hl with | [_, _], _ => rfl)
  refine law_fd X G hfa a95 l95 c95 k95 (fun _ _ _ _ _ _ us hl => match us, hl with | [_], _ => rfl) (fun fd F base => ?_)
  have c_valuation := k_valuation (P := P) (w := w) (base := base) T d5 
  have c_power := k_power (P := P) (w := w) (base := base) T d7 
  have c_divided_by := k_divided_by (P := P) (w := w) (base := base) T d26 
  have c_five := k_five (P := P) (w := w) (base := base) T d31 
  have c_value_over := k_value_over (P := P) (w := w) (base := base) T d34 
  have c_is_solution := k_is_solution (P := P) (w := w) (base := base) T d37 
  have c_over_whole := k_over_whole (P := P) (w := w) (base := base) T d44 
  have c_trimmed := k_trimmed (P := P) (w := w) (base := base) T d51 
  have c_is_flat := k_is_flat (P := P) (w := w) (base := base) T d63 
  have c_law_begun := k_law_begun (P := P) (w := w) (base := base) T d73 
  have c_law_draw := k_law_draw (P := P) (w := w) (base := base) T d74 
  have c_law_common := k_law_common (P := P) (w := w) (base := base) T d77 
  have c_law_numbers := k_law_numbers (P := P) (w := w) (base := base) T d83 
  have c_law_primes := k_law_primes (P := P) (w := w) (base := base) T d90 
  have c_law_side := k_law_side (P := P) (w := w) (base := base) T d91 
  have c_law_slopes := k_law_slopes (P := P) (w := w) (base := base) T d92 
  have c_root_of := k_root_of (P := P) (w := w) (base := base) T d8 c_power
  have c_numbers_of := k_numbers_of (P := P) (w := w) (base := base) T d32 c_five
  have c_digits_of := k_digits_of (P := P) (w := w) (base := base) T d36 c_five
  have c_told_numbers := k_told_numbers (P := P) (w := w) (base := base) T d45 c_over_whole
  have c_monic := k_monic (P := P) (w := w) (base := base) d52
  have c_less_term := k_less_term (P := P) (w := w) (base := base) d56
  have c_law_of := k_law_of (P := P) (w := w) (base := base) T d75 c_law_draw
  have c_law_between := k_law_between (P := P) (w := w) (base := base) T d76 c_law_draw
  have c_law_cut := k_law_cut (P := P) (w := w) (base := base) T d78 c_law_common
  have c_law_pair := k_law_pair (P := P) (w := w) (base := base) T d86 c_law_numbers
  have c_law_is_singular := k_law_is_singular (P := P) (w := w) (base := base) T d93 c_law_slopes c_law_side
  have c_exact_root := k_exact_root (P := P) (w := w) (base := base) T d9 c_root_of c_power
  have c_cubic_of := k_cubic_of (P := P) (w := w) (base := base) T d39 c_numbers_of
  have c_curve_of := k_curve_of (P := P) (w := w) (base := base) T d46 c_told_numbers c_over_whole
  have c_common_over := k_common_over (P := P) (w := w) (base := base) d57
  have c_law_plus := k_law_plus (P := P) (w := w) (base := base) T d79 c_law_cut
  have c_law_less := k_law_less (P := P) (w := w) (base := base) T d80 c_law_cut
  have c_law_by := k_law_by (P := P) (w := w) (base := base) T d81 c_law_cut
  have c_law_over := k_law_over (P := P) (w := w) (base := base) T d82 c_law_cut
  have c_law_curve := k_law_curve (P := P) (w := w) (base := base) T d84 c_law_between c_law_numbers
  have c_law_lets := k_law_lets (P := P) (w := w) (base := base) T d88 c_law_pair
  have c_law_word := k_law_word (P := P) (w := w) (base := base) T d94 c_law_numbers c_law_is_singular
  have c_power_rest := k_power_rest (P := P) (w := w) (base := base) d55
  have c_law_led := k_law_led (P := P) (w := w) (base := base) T d85 c_law_less c_law_plus c_law_by c_law_over
  have c_law_least_of := k_law_least_of (P := P) (w := w) (base := base) T d89 c_law_numbers c_law_lets c_law_pair
  have c_count_over := k_count_over (P := P) (w := w) (base := base) d41
  have c_parted_roots := k_parted_roots (P := P) (w := w) (base := base) d58
  have c_law_moved := k_law_moved (P := P) (w := w) (base := base) T d87 c_law_between c_law_led
  have c_without_great_powers := k_without_great_powers (P := P) (w := w) (base := base) d29
  have c_all_roots := k_all_roots (P := P) (w := w) (base := base) T d59 c_trimmed c_monic c_less_term c_parted_roots c_power_rest c_common_over c_value_over
  have c_without_powers := k_without_powers (P := P) (w := w) (base := base) T d27 c_root_of c_without_great_powers c_divided_by
  have c_roots_over := k_roots_over (P := P) (w := w) (base := base) T d61 c_all_roots
  have c_greatest_scale := k_greatest_scale (P := P) (w := w) (base := base) T d47 c_without_powers c_exact_root
  have c_singular_places := k_singular_places (P := P) (w := w) (base := base) T d64 c_is_flat c_is_solution c_roots_over c_cubic_of
  have c_least_and_scale := k_least_and_scale (P := P) (w := w) (base := base) T d48 c_numbers_of c_greatest_scale c_valuation c_curve_of c_power
  have c_tangents_at := k_tangents_at (P := P) (w := w) (base := base) T d66 c_digits_of c_roots_over c_singular_places
  have c_singular_point := k_singular_point (P := P) (w := w) (base := base) T d65 c_least_and_scale c_singular_places c_digits_of c_numbers_of
  have c_tangents := k_tangents (P := P) (w := w) (base := base) T d67 c_least_and_scale c_tangents_at c_numbers_of
  have c_word_at := k_word_at (P := P) (w := w) (base := base) T d68 c_numbers_of c_tangents_at
  have c_fall_at := k_fall_at (P := P) (w := w) (base := base) T d69 c_word_at c_least_and_scale
  have c_falls := k_falls (P := P) (w := w) (base := base) T d70 c_least_and_scale c_numbers_of c_valuation c_word_at
  have c_smooth_count := k_smooth_count (P := P) (w := w) (base := base) T d71 c_word_at c_least_and_scale c_count_over c_digits_of
  exact k_law T F c_law_primes c_law_begun c_law_curve c_law_least_of c_law_of c_law_word c_law_moved c_law_numbers c_singular_point c_tangents c_fall_at c_smooth_count c_falls
end K15
open PySem PySem.W PyProof.Rows
set_option maxRecDepth 100000 in
set_option maxHeartbeats 0 in
theorem PySem.Challenge.cw_pointsum_k15_whole_falls_of_alike_curves_holds : PySem.Challenge.rw_pointsum_k15_whole_falls_of_alike_curves.Holds := by
  w_on; o_law; k_head; (case hw => w_witness2)
  k_fill
  refine Gd.walk_g (l := PySem.Challenge.rw_pointsum_k15_whole_falls_of_alike_curves) (n := 63) (k := 12) (x := "script") (sp := fun K => K15.sp_law K) rfl (by decide) rfl ⟨rfl, by decide, by decide⟩ (fun w h Y => PySem.W.kIn_of Y) ?F (fun K H a ns hl hS => ⟨a, ns, rfl, hS, hl, fun _ => rfl⟩)
  case F =>
    intro w mg fa h KX G hmg
    refine' K15.all_mk KX G hmg ?a5 ?l5 ?c5 ?k5 ?a7 ?l7 ?c7 ?k7 ?a8 ?l8 ?c8 ?k8 ?a9 ?l9 ?c9 ?k9 ?a26 ?l26 ?c26 ?k26 ?a27 ?l27 ?c27 ?k27 ?a29 ?l29 ?c29 ?k29 ?a31 ?l31 ?c31 ?k31 ?a32 ?l32 ?c32 ?k32 ?a34 ?l34 ?c34 ?k34 ?a36 ?l36 ?c36 ?k36 ?a37 ?l37 ?c37 ?k37 ?a39 ?l39 ?c39 ?k39 ?a41 ?l41 ?c41 ?k41 ?a44 ?l44 ?c44 ?k44 ?a45 ?l45 ?c45 ?k45 ?a46 ?l46 ?c46 ?k46 ?a47 ?l47 ?c47 ?k47 ?a48 ?l48 ?c48 ?k48 ?a51 ?l51 ?c51 ?k51 ?a52 ?l52 ?c52 ?k52 ?a55 ?l55 ?c55 ?k55 ?a56 ?l56 ?c56 ?k56 ?a57 ?l57 ?c57 ?k57 ?a58 ?l58 ?c58 ?k58 ?a59 ?l59 ?c59 ?k59 ?a61 ?l61 ?c61 ?k61 ?a63 ?l63 ?c63 ?k63 ?a64 ?l64 ?c64 ?k64 ?a65 ?l65 ?c65 ?k65 ?a66 ?l66 ?c66 ?k66 ?a67 ?l67 ?c67 ?k67 ?a68 ?l68 ?c68 ?k68 ?a69 ?l69 ?c69 ?k69 ?a70 ?l70 ?c70 ?k70 ?a71 ?l71 ?c71 ?k71 ?a73 ?l73 ?c73 ?k73 ?a74 ?l74 ?c74 ?k74 ?a75 ?l75 ?c75 ?k75 ?a76 ?l76 ?c76 ?k76 ?a77 ?l77 ?c77 ?k77 ?a78 ?l78 ?c78 ?k78 ?a79 ?l79 ?c79 ?k79 ?a80 ?l80 ?c80 ?k80 ?a81 ?l81 ?c81 ?k81 ?a82 ?l82 ?c82 ?k82 ?a83 ?l83 ?c83 ?k83 ?a84 ?l84 ?c84 ?k84 ?a85 ?l85 ?c85 ?k85 ?a86 ?l86 ?c86 ?k86 ?a87 ?l87 ?c87 ?k87 ?a88 ?l88 ?c88 ?k88 ?a89 ?l89 ?c89 ?k89 ?a90 ?l90 ?c90 ?k90 ?a91 ?l91 ?c91 ?k91 ?a92 ?l92 ?c92 ?k92 ?a93 ?l93 ?c93 ?k93 ?a94 ?l94 ?c94 ?k94 ?a95 ?l95 ?c95 ?k95 ?z_gcd ?z_isqrt ?z_int ?z_len ?z_tuple ?z_sorted ?z_min ?z_abs ?z_range ?z_enumerate ?z_repr ?z_list ?z_reversed ?z_sum ?z_TRIED_modpoly ?z_TRIED_shortening ?w_REDUCED_B2 ?z_REDUCED_B2
    (case a5 => k_is); (case l5 => k_is); (case c5 => k_is); (case k5 => k_is); (case a7 => k_is); (case l7 => k_is); (case c7 => k_is); (case k7 => k_is)
    (case a8 => k_is); (case l8 => k_is); (case c8 => k_is); (case k8 => k_is); (case a9 => k_is); (case l9 => k_is); (case c9 => k_is); (case k9 => k_is)
    (case a26 => k_is); (case l26 => k_is); (case c26 => k_is); (case k26 => k_is); (case a27 => k_is); (case l27 => k_is); (case c27 => k_is); (case k27 => k_is)
    (case a29 => k_is); (case l29 => k_is); (case c29 => k_is); (case k29 => k_is); (case a31 => k_is); (case l31 => k_is); (case c31 => k_is); (case k31 => k_is)
    (case a32 => k_is); (case l32 => k_is); (case c32 => k_is); (case k32 => k_is); (case a34 => k_is); (case l34 => k_is); (case c34 => k_is); (case k34 => k_is)
    (case a36 => k_is); (case l36 => k_is); (case c36 => k_is); (case k36 => k_is); (case a37 => k_is); (case l37 => k_is); (case c37 => k_is); (case k37 => k_is)
    (case a39 => k_is); (case l39 => k_is); (case c39 => k_is); (case k39 => k_is); (case a41 => k_is); (case l41 => k_is); (case c41 => k_is); (case k41 => k_is)
    (case a44 => k_is); (case l44 => k_is); (case c44 => k_is); (case k44 => k_is); (case a45 => k_is); (case l45 => k_is); (case c45 => k_is); (case k45 => k_is)
    (case a46 => k_is); (case l46 => k_is); (case c46 => k_is); (case k46 => k_is); (case a47 => k_is); (case l47 => k_is); (case c47 => k_is); (case k47 => k_is)
    (case a48 => k_is); (case l48 => k_is); (case c48 => k_is); (case k48 => k_is); (case a51 => k_is); (case l51 => k_is); (case c51 => k_is); (case k51 => k_is)
    (case a52 => k_is); (case l52 => k_is); (case c52 => k_is); (case k52 => k_is); (case a55 => k_is); (case l55 => k_is); (case c55 => k_is); (case k55 => k_is)
    (case a56 => k_is); (case l56 => k_is); (case c56 => k_is); (case k56 => k_is); (case a57 => k_is); (case l57 => k_is); (case c57 => k_is); (case k57 => k_is)
    (case a58 => k_is); (case l58 => k_is); (case c58 => k_is); (case k58 => k_is); (case a59 => k_is); (case l59 => k_is); (case c59 => k_is); (case k59 => k_is)
    (case a61 => k_is); (case l61 => k_is); (case c61 => k_is); (case k61 => k_is); (case a63 => k_is); (case l63 => k_is); (case c63 => k_is); (case k63 => k_is)
    (case a64 => k_is); (case l64 => k_is); (case c64 => k_is); (case k64 => k_is); (case a65 => k_is); (case l65 => k_is); (case c65 => k_is); (case k65 => k_is)
    (case a66 => k_is); (case l66 => k_is); (case c66 => k_is); (case k66 => k_is); (case a67 => k_is); (case l67 => k_is); (case c67 => k_is); (case k67 => k_is)
    (case a68 => k_is); (case l68 => k_is); (case c68 => k_is); (case k68 => k_is); (case a69 => k_is); (case l69 => k_is); (case c69 => k_is); (case k69 => k_is)
    (case a70 => k_is); (case l70 => k_is); (case c70 => k_is); (case k70 => k_is); (case a71 => k_is); (case l71 => k_is); (case c71 => k_is); (case k71 => k_is)
    (case a73 => k_is); (case l73 => k_is); (case c73 => k_is); (case k73 => k_is); (case a74 => k_is); (case l74 => k_is); (case c74 => k_is); (case k74 => k_is)
    (case a75 => k_is); (case l75 => k_is); (case c75 => k_is); (case k75 => k_is); (case a76 => k_is); (case l76 => k_is); (case c76 => k_is); (case k76 => k_is)
    (case a77 => k_is); (case l77 => k_is); (case c77 => k_is); (case k77 => k_is); (case a78 => k_is); (case l78 => k_is); (case c78 => k_is); (case k78 => k_is)
    (case a79 => k_is); (case l79 => k_is); (case c79 => k_is); (case k79 => k_is); (case a80 => k_is); (case l80 => k_is); (case c80 => k_is); (case k80 => k_is)
    (case a81 => k_is); (case l81 => k_is); (case c81 => k_is); (case k81 => k_is); (case a82 => k_is); (case l82 => k_is); (case c82 => k_is); (case k82 => k_is)
    (case a83 => k_is); (case l83 => k_is); (case c83 => k_is); (case k83 => k_is); (case a84 => k_is); (case l84 => k_is); (case c84 => k_is); (case k84 => k_is)
    (case a85 => k_is); (case l85 => k_is); (case c85 => k_is); (case k85 => k_is); (case a86 => k_is); (case l86 => k_is); (case c86 => k_is); (case k86 => k_is)
    (case a87 => k_is); (case l87 => k_is); (case c87 => k_is); (case k87 => k_is); (case a88 => k_is); (case l88 => k_is); (case c88 => k_is); (case k88 => k_is)
    (case a89 => k_is); (case l89 => k_is); (case c89 => k_is); (case k89 => k_is); (case a90 => k_is); (case l90 => k_is); (case c90 => k_is); (case k90 => k_is)
    (case a91 => k_is); (case l91 => k_is); (case c91 => k_is); (case k91 => k_is); (case a92 => k_is); (case l92 => k_is); (case c92 => k_is); (case k92 => k_is)
    (case a93 => k_is); (case l93 => k_is); (case c93 => k_is); (case k93 => k_is); (case a94 => k_is); (case l94 => k_is); (case c94 => k_is); (case k94 => k_is)
    (case a95 => k_is); (case l95 => k_is); (case c95 => k_is); (case k95 => k_is); (case z_gcd => k_is); (case z_isqrt => k_is); (case z_int => k_is); (case z_len => k_is)
    (case z_tuple => k_is); (case z_sorted => k_is); (case z_min => k_is); (case z_abs => k_is); (case z_range => k_is); (case z_enumerate => k_is); (case z_repr => k_is); (case z_list => k_is)
    (case z_reversed => k_is); (case z_sum => k_is); (case z_TRIED_modpoly => k_is); (case z_TRIED_shortening => k_is); (case w_REDUCED_B2 => k_is); (case z_REDUCED_B2 => k_is)
