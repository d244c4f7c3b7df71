import PyProof.Rows.All
import Wide.All
import OpenK.AllK
import Wide.FinOn
import PyProof.ReprRoads
import HandS.ForMost
import HandS.Wide
import PyProof.StrLawsRepr
import PyProof.ReprLen
import HandS.TupAny
import HandS.Gcd
import HandS.More
import HandS.IsInst
import HandS.Style
import HandS.Defaults
import Flt.RightSqrt
import HandS.List
import HandS.WideBits
import HandS.SortRule
import HandS.Deep
import HandS.Codes
import HandS.TryOnly
import HandS.Rev
import HandS.Star
import PySem.Challenge.RW_pointsum_k40_whole_points_and_counts
set_option Elab.async false
set_option linter.all false
set_option maxRecDepth 100000
/-! Promises that know that no repr is under way around the call; repr of plain data. -/
namespace Gd
open PySem PySem.Spec PyProof.Rows L2
/-- as the layer's FnOk, for calls around which nothing is being shown -/
structure FnG (P : Program) (w : World) (K : PySem.W.Frag) (mg : Str → Option Value) (base : Heap) (k : Nat) (f : Addr) (fd : FuncData) (ps : List Str) (sp : Sp) : Prop where
  many : ∀ vs H Q E, sp vs H Q E → vs.length = ps.length
  goes : ∀ (A : Around) (outer : List Env) (s : Shared) (H : Hp) (args : Args) (us : List Value) (vs : List V) (Q : VK) (E : XK), A.guards = some [] → Room k A → Env0 P w K mg base A outer s H →
    BindsTo s fd args (ps.zip us) → Vals vs us → sp vs H Q E → codeAny (model P w) A (.call (.ref f) args) (CR CX0 outer P w H s Q E) s
section
variable {P : Program} {w : World} {K : PySem.W.Frag} {mg : Str → Option Value} {base : Heap}
theorem FnG.of {k : Nat} {f : Addr} {fd : FuncData} {ps : List Str} {sp : Sp} (F : FnOk P w K mg base CX0 k f fd ps sp) : FnG P w K mg base k f fd ps sp :=
  ⟨F.len, fun A outer s H args us vs Q E _ => F.run A outer s H args us vs Q E⟩
theorem FnG.up {j k : Nat} {f : Addr} {fd : FuncData} {ps : List Str} {sp : Sp} (F : FnG P w K mg base j f fd ps sp) (h : j ≤ k) : FnG P w K mg base k f fd ps sp :=
  ⟨F.many, fun A outer s H args us vs Q E hg hr => F.goes A outer s H args us vs Q E hg (hr.mono h)⟩
/-- a def by its body -/
theorem FnG.by_body {x qual : Str} {st : Stmt} {f : Addr} {fd : FuncData} {N ps : List Str} {k : Nat} {sp : Sp} (F : Fun K x qual st f fd) (S : FnScope N ps (defScope st)) (len : ∀ vs H Q E, sp vs H Q E → vs.length = ps.length)
    (hb : ∀ (cdv : Value) (A : Around) (outer : List Env) (s : Shared) (H : Hp) (vs : List V) (Q : VK) (E : XK), A.guards = some [] → Room k (A.deeper (envOfC qual (defScope st) s.heap.objs.size f cdv)) → sp vs H Q E →
      ∃ t, PSs (cxOf CX0 P w K mg base N qual (defScope st) f cdv A outer s H E).nox (defBody st) t ∧ t { nx := fun _ H' => Q .non H', rt := Q } (start N vs) H) : FnG P w K mg base (k + 1) f fd ps sp := by
  obtain ⟨oc, od, kV, doc, pm, an, cdv, ct, osl, rfl, lk, hcd⟩ := F.ex
  constructor
  · exact len
  · intro A outer s H args us vs Q E hg hr e0 hbi rv hsp
    have hlen := len _ _ _ _ hsp
    have lim : s.heap.NoLimit := e0.mod.nolimit.keeps fun b o e => (e0.bs b o e).1
    have inK : K.In s.heap := e0.mod.kin.keeps fun b o e => (e0.bs b o e).1
    have kinds : ∀ y ∈ ps.zip us, (defScope st).names.lookup y.1 = some .local ∨ ((defScope st).names.lookup y.1 = some .cell ∧ ((cellsFrom (s.heap.objs.size + 1) (defScope st).names []).lookup y.1).isSome = true) := by
      rintro ⟨n, v⟩ hy
      have hp := S.par n (List.of_mem_zip hy).1
      cases hp with
      | inl q => exact Or.inl q
      | inr q => exact Or.inr ⟨q, PySem.W.cellsFrom_some _ _ _ (Or.inl q)⟩
    refine codeAny_call_function hr.depth (inK _ _ lk) rfl S.co S.gen rfl (PySem.W.codeRec_of inK hcd) (hbi _ _ _ _ ?_)
    refine wpAny_newFunctionEnv_cells S.kind kinds fun env he s1 x1 => ?_
    subst he
    refine ⟨lim.keeps x1.toInCall.keep, codeAny_func ?_⟩
    obtain ⟨t, ht, hq⟩ := hb cdv A outer s H vs Q E hg (hr.deeper _) hsp
    have I0 : Inv (cxOf CX0 P w K mg base N qual (defScope st) f cdv A outer s H E) [] (start N vs) H s1 := inv_start S hr.hd e0 hlen rv x1
    refine wpAny_mono (ht.nox.run [] s1 (start N vs) H _ I0 hq) (fun fl s' hs => ?_) fun e s' hs => hs
    match fl, hs with
    | .ret u, ⟨v, σ', H', J, r1, q1⟩ => exact ⟨v, H', J.os, J.bare, J.base, J.hok, r1, q1⟩
    | .next, ⟨σ', H', J, q1⟩ => exact ⟨V.non, H', J.os, J.bare, J.base, J.hok, rfl, q1⟩
    | .brk, ⟨_, _, _, q1⟩ => exact q1.elim
    | .cont, ⟨_, _, _, q1⟩ => exact q1.elim
end
/-- f(e, ..) where every parameter is given -/
def tKal (sp : Sp) (t : TA) : TE := fun σ H Q => t σ H fun vs H1 => sp vs H1 Q E0
/-- a def that may be called by its name -/
structure Kl (P : Program) (w : World) (K : PySem.W.Frag) (mg : Str → Option Value) (base : Heap) (k : Nat) (x : Str) (sp : Sp) : Prop where
  ex : ∃ (f : Addr) (fd : FuncData) (ps : List Str), FnOk P w K mg base CX0 k f fd ps sp ∧ mg x = some (.ref f) ∧ PySem.W.keepIn K (.ref f) = true ∧ Binds K fd ps []
structure Kg (P : Program) (w : World) (K : PySem.W.Frag) (mg : Str → Option Value) (base : Heap) (k : Nat) (x : Str) (sp : Sp) : Prop where
  ex : ∃ (f : Addr) (fd : FuncData) (ps : List Str), FnG P w K mg base k f fd ps sp ∧ mg x = some (.ref f) ∧ PySem.W.keepIn K (.ref f) = true ∧ Binds K fd ps []
section
variable {X : Cx} {j k : Nat} {f : Addr} {fd : FuncData} {ps : List Str} {sp : Sp} {x : Str} {p pos : Pos} {e : Expr} {es : List Expr} {t : TA}
theorem run_g {pins : List (Addr × Obj)} {σ : L2.St} {H : Hp} {s : Shared} {Q : VK} {us : List Value} {vs : List V} (F : FnG X.prog X.w X.K X.mg X.base k f fd ps sp) (hg : X.A.guards = some []) (hr : Room k X.A) (hb : Binds X.K fd ps [])
    (I : Inv X pins σ H s) (r : Vals vs us) (h : sp vs H Q E0) : wpAny (model X.prog X.w) X.A (call (.ref f) us) (EP X pins σ Q) X.xe s := by
  have hl : us.length = ps.length := r.length.symm.trans (F.many _ _ _ _ h)
  have hbb := hb s us I.kIn (by rw [List.append_nil]; exact hl)
  rw [List.append_nil] at hbb
  refine wpAny_call (codeAny_mono (F.goes X.A X.stack s H ⟨us, []⟩ us vs Q E0 hg hr I.env0 hbb r h) fun res s' hq => ?_)
  match res, hq with
  | .ok (.ret u), hq => exact I.after hq
  | .error e, hq => exact (show False from hq).elim
theorem pe_g (c : Kg X.prog X.w X.K X.mg X.base k x sp) (hgd : X.A.guards = some []) (hr : Room j X.A) (hk : k ≤ j) (hg : Gl X x) (ha : PA X (e :: es) t)
    (hdb : (x == ("__debug__" : Str)) = false := by decide) (he : starEach (e :: es) X.env = (false, eval e X.env) :: starEach es X.env := by rfl) (hpl : (backTo pos (starEach es X.env)).any (·.1) = false := by rfl) :
    PE X (.Call (.Name x p) (e :: es) [] pos) (tKal sp t) := by
  obtain ⟨f, fd, ps, F, hm, kp, b⟩ := c.ex
  constructor
  intro pins s σ H Q I h
  refine wpAny_Call_Name_kw (ld_glob I hg hm ?_ hdb)
  refine PySem.W.callWith_K (h₀ := X.base) I.ok.mod.kin kp (thn (ha.run pos pins s σ H _ I h) fun us s1 ⟨vs, H1, I1, r, q⟩ => ⟨I1.kIn, ?_⟩) he hpl
  exact run_g F hgd (hr.mono hk) b I1 r q
theorem pe_k (c : Kl X.prog X.w X.K X.mg X.base k x sp) (hr : Room j X.A) (hk : k ≤ j) (hg : Gl X x) (ha : PA X (e :: es) t)
    (hdb : (x == ("__debug__" : Str)) = false := by decide) (he : starEach (e :: es) X.env = (false, eval e X.env) :: starEach es X.env := by rfl) (hpl : (backTo pos (starEach es X.env)).any (·.1) = false := by rfl) :
    PE X (.Call (.Name x p) (e :: es) [] pos) (tKal sp t) := by
  obtain ⟨f, fd, ps, F, hm, kp, b⟩ := c.ex
  have h := pe_call (sp := sp) (E := E0) (dvs := []) F (hr.mono hk) hg hm kp b .nil pass0 ha hdb he hpl (pos := pos) (p := p)
  constructor
  intro pins s σ H Q I q
  refine h.run pins s σ H Q I ?_
  have e2 : tCall sp [] E0 t = tKal sp t := by
    funext σ H Q
    show t σ H (fun vs H1 => sp (vs ++ []) H1 Q E0) = t σ H (fun vs H1 => sp vs H1 Q E0)
    congr 1
    funext vs H1
    rw [List.append_nil]
  rw [e2]
  exact q
end
/-! ### repr of plain data -/
mutual
/-- at most so many signs -/
def wt : PyData → Nat
  | .none | .bool _ => 5
  | .int _ => 1921
  | .str x => 10 * x.length + 2
  | .list xs | .tuple xs => wtAll xs + 3
  | .dict _ => 0
def wtAll : List PyData → Nat
  | [] => 0
  | x :: xs => wt x + 2 + wtAll xs
end
mutual
/-- data that can be shown: its ints below 1920 bits -/
def okD : PyData → Bool
  | .none | .bool _ => true
  | .int i => decide (i.natAbs.log2 < 1920)
  | .str x => x.cps.toList.all fun c => decide (c < 16 ^ 8)
  | .list xs | .tuple xs => okAll xs
  | .dict _ => false
def okAll : List PyData → Bool
  | [] => true
  | x :: xs => okD x && okAll xs
end
theorem one_br : (("[" : Str)).length = 1 := rfl
theorem one_br2 : (("]" : Str)).length = 1 := rfl
theorem one_pa : (("(" : Str)).length = 1 := rfl
theorem tup_wt (ts : List Str) : (tupleText ts).length ≤ piled ts + 3 := by
  have e3 : (((if ts.length == 1 then ",)" else ")" : String) : Str)).length ≤ 2 := by split <;> decide +kernel
  unfold tupleText
  rw [strLen_append, strLen_append, one_pa]
  cases ts with
  | nil =>
    have : (Str.join ", " []).length = 0 := by decide +kernel
    omega
  | cons x r =>
    have := join_length_add (x :: r) (List.cons_ne_nil _ _)
    omega
theorem sum_piled : ∀ ts : List Str, (ts.map (·.length)).sum + 2 * ts.length = piled ts
  | [] => rfl
  | t :: ts => by
    have ih := sum_piled ts
    rw [piled_cons, ← ih, List.map_cons, List.sum_cons, List.length_cons]
    omega
theorem lst_wt (ts : List Str) : (listText ts).length ≤ piled ts + 3 := by
  have h := textFrom_len_le ts 0 "["
  have h2 := sum_piled ts
  unfold listText
  rw [strLen_append, one_br2]
  rw [one_br] at h
  omega
mutual
theorem shown_wt : ∀ d : PyData, okD d = true → d.shown.length ≤ wt d ∧ d.showable = true ∧ d.hasDict = false
  | .none, _ => by
    refine ⟨?_, rfl, rfl⟩
    show (("None" : Str)).length ≤ 5
    decide +kernel
  | .bool b, _ => by
    refine ⟨?_, rfl, rfl⟩
    cases b <;> (show _ ≤ 5; decide +kernel)
  | .int i, h => by
    have h1 : i.natAbs.log2 < 1920 := of_decide_eq_true (by simpa only [okD] using h)
    refine ⟨?_, by simpa only [PyData.showable] using decide_eq_true h1, rfl⟩
    have e := int_text_length_le (k := 1920) (by decide) h1
    show (Str.ofString (toString i)).length ≤ 1921
    rw [PySem.ofString_length]
    exact e
  | .str x, h => by
    refine ⟨?_, rfl, rfl⟩
    have h1 : ∀ c ∈ x.cps.toList, c < 16 ^ 8 := fun c hc => of_decide_eq_true (List.all_eq_true.mp (by simpa only [okD] using h) c hc)
    exact StrLaws.reprText_len x h1
  | .list xs, h => by
    obtain ⟨h1, h2, h3⟩ := shown_wtAll xs (by simpa only [okD] using h)
    refine ⟨?_, by simpa only [PyData.showable] using h2, by simpa only [PyData.hasDict] using h3⟩
    simp only [PyData.shown, wt]
    exact Nat.le_trans (lst_wt _) (Nat.add_le_add_right h1 3)
  | .tuple xs, h => by
    obtain ⟨h1, h2, h3⟩ := shown_wtAll xs (by simpa only [okD] using h)
    refine ⟨?_, by simpa only [PyData.showable] using h2, by simpa only [PyData.hasDict] using h3⟩
    simp only [PyData.shown, wt]
    exact Nat.le_trans (tup_wt _) (Nat.add_le_add_right h1 3)
  | .dict _, h => by simp only [okD, Bool.false_eq_true] at h
theorem shown_wtAll : ∀ xs : List PyData, okAll xs = true → piled (PyData.shownAll xs) ≤ wtAll xs ∧ PyData.showableAll xs = true ∧ PyData.hasDictAll xs = false
  | [], _ => ⟨Nat.le_refl _, rfl, rfl⟩
  | x :: xs, h => by
    have h0 : (okD x && okAll xs) = true := by simpa only [okAll] using h
    rw [Bool.and_eq_true] at h0
    obtain ⟨a1, a2, a3⟩ := shown_wt x h0.1
    obtain ⟨b1, b2, b3⟩ := shown_wtAll xs h0.2
    refine ⟨?_, by simp only [PyData.showableAll, a2, b2, Bool.and_self], by simp only [PyData.hasDictAll, a3, b3, Bool.or_self]⟩
    simp only [PyData.shownAll, wtAll]
    rw [piled_cons]
    omega
end
/-- the text of data -/
def rRepr (K : PySem.W.Frag) : List V → Hp → VK → Prop := fun xs H Q => ∃ x d, xs = [x] ∧ Dp K H x d ∧ okD d = true ∧ d.depth ≤ 40 ∧ wt d ≤ 1000000 ∧ Q (.str d.shown) H
section
variable {X : Cx}
theorem call_reprD (hg : X.A.guards = some []) (hu : X.A.units + 64 < cLine) : CallR X (.builtin "repr") (rRepr X.K) := by
  intro pins s σ H xs us Q I r h
  obtain ⟨x, d, rfl, hd, h0, h3, hw, q⟩ := h
  obtain ⟨hz, h1, h2⟩ := shown_wt d h0
  have h4 : d.shown.length ≤ sizeLine := Nat.le_trans hz (Nat.le_trans hw (by decide))
  obtain ⟨u, rfl, hx⟩ := vals1 r
  obtain ⟨as, rd⟩ := Dp.reads I d x u hd hx
  cases hd with
  | non =>
    obtain rfl : u = Value.none := hx
    exact PySem.P.repr_of_none ⟨.str _, H, I.tok _, ⟨_, rfl⟩, q⟩
  | bl b =>
    obtain rfl : u = Value.bool b := hx
    exact PySem.P.repr_of_bool ⟨.str _, H, I.tok _, ⟨_, rfl⟩, q⟩
  | int i =>
    obtain ⟨t, rfl⟩ := hx
    exact PySem.P.repr_of_int (of_decide_eq_true h1) ⟨.str _, H, I.tok _, ⟨_, rfl⟩, q⟩
  | str z =>
    obtain ⟨t, rfl⟩ := hx
    exact PySem.P.repr_of_str ⟨.str _, H, I.tok _, ⟨_, rfl⟩, q⟩ h4
  | lst hs ha =>
    obtain rfl : u = Value.ref _ := hx
    refine repr_of_reads' rd h1 (PyData.noDict_hsm h2) hg (by omega) (fun _ _ z => z) (fun h' u tk hk => ?_) h4
    exact ⟨.str _, H, I.kept (t' := tk) hk, ⟨_, rfl⟩, q⟩
  | tup hs ha =>
    obtain rfl : u = Value.ref _ := hx
    refine repr_of_reads' rd h1 (PyData.noDict_hsm h2) hg (by omega) (fun _ _ z => z) (fun h' u tk hk => ?_) h4
    exact ⟨.str _, H, I.kept (t' := tk) hk, ⟨_, rfl⟩, q⟩
end
/-! ### the law's end -/
section
variable {P : Program} {w : World} {K : PySem.W.Frag} {mg mb : Str → Option Value} {k : Nat} {fa a : Addr} {fd : FuncData} {x : Str} {sp : Sp} {s1 : Shared} {vs : List Value} {ns : List Int}
/-- from a heap H in which at most the script is tracked -/
theorem law_from {H : Hp} (KX : K.In s1.heap) (hns : s1.heap.Ns mainGlobals mg) (hb : s1.heap.Ns builtinsNs mb) (hbb : ∀ x : Str, x ≠ "__name__" → mb x = bootBuiltins x) (hlim : s1.heap.NoLimit) (hg : s1.gens = #[])
    (ha : s1.heap.get? a = some { cls := .type "list", data := .seq vs.toArray }) (hr : Room k callerA) (F : ∀ base : Heap, K.In base → base.Ns mainGlobals mg → FnG P w K mg base k fa fd [x] sp)
    (hbind : ∀ (s : Shared) (u : Value), BindsTo s fd ⟨[u], []⟩ [(x, u)]) (hO : Only H) (hok : HOk P w H s1.heap) (hA : ∀ b, H b ≠ none → b = a) (hK : H a ≠ none → K.lookup a = none)
    (hsp : sp [.ref a] H (fun v _ => v = .bl true) fun _ _ _ => False) :
    codeAny (model P w) callerA (.call (.ref fa) ⟨[.ref a], []⟩) (fun r s' => r = .ok (.ret (.bool true)) ∧ OldK s1.heap s'.heap ∧ s'.os = s1.os ∧ AllBare s'.gens) s1 := by
  have untr : ∀ {b : Addr} {o : Obj} {es : Array DictEntry} {ep : Nat}, s1.heap.get? b = some o → o.data = .dict es ep → H b = none := by
    intro b o es ep e d
    cases q : H b with
    | none => rfl
    | some u =>
      obtain rfl : b = a := hA b (by rw [q]; exact Option.some_ne_none u)
      rw [ha] at e
      cases e
      exact absurd (show Data.seq vs.toArray _ = Data.dict es ep from d) (by intro z; cases z)
  have nsH : ∀ {b : Addr} {m : Str → Option Value}, s1.heap.Ns b m → (hidT s1.heap H).Ns b m := by
    rintro b m ⟨o, es, ep, e, d, r⟩
    exact ⟨o, es, ep, hidT_get e (untr e d), d, r⟩
  have inH : K.In (hidT s1.heap H) := by
    intro b o e
    refine hidT_get (KX b o e) ?_
    cases q : H b with
    | none => rfl
    | some u =>
      have hne : H b ≠ none := by rw [q]; exact Option.some_ne_none u
      obtain rfl : b = a := hA b hne
      rw [hK hne] at e
      cases e
  obtain ⟨mc, l1, l2⟩ := hlim
  have md : Mod K mg (hidT s1.heap H) := ⟨inH, nsH hns, ⟨mb, nsH hb, hbb⟩, ⟨mc, nsH l1, l2⟩⟩
  have e0 : Env0 P w K mg (hidT s1.heap H) callerA [] s1 H := by
    refine ⟨rfl, md, fun b o e => of_hidT e, Nat.le_of_eq (hidT_size _ _), trivial, ?_, hok, .of_eq hg⟩
    intro b hb
    cases (show b ∈ ([] : List Addr) from hb)
  have run := (F _ inH (nsH hns)).goes callerA [] s1 H ⟨[.ref a], []⟩ [.ref a] [.ref a] _ _ rfl hr e0 (hbind s1 (.ref a)) (.cons rfl .nil) hsp
  refine codeAny_mono run fun r s' h => ?_
  match r, h with
  | .error e, h => exact (show False from h).elim
  | .ok (.ret u), ⟨v, H', os, bare, un, hok', r', q⟩ =>
    obtain rfl : v = .bl true := q
    obtain rfl : u = Value.bool true := r'
    refine ⟨rfl, OldK.of_keep ?_, os, bare⟩
    intro b o e
    cases q : H b with
    | none => exact un.keep b o e q (fun z => by cases (show b ∈ ([] : List Addr) from z)) (fun z => by cases z)
    | some u =>
      rcases hO b with z | ⟨ob, xs, z⟩
      · rw [q] at z
        cases z
      · have k1 := (hok b _ z).1
        have k2 := (hok' b _ (un.frzs b ob _ z)).1
        rw [e] at k1
        cases k1
        exact k2
theorem law_g (KX : K.In s1.heap) (hns : s1.heap.Ns mainGlobals mg) (hb : s1.heap.Ns builtinsNs mb) (hbb : ∀ x : Str, x ≠ "__name__" → mb x = bootBuiltins x) (hlim : s1.heap.NoLimit) (hg : s1.gens = #[])
    (ha : s1.heap.get? a = some { cls := .type "list", data := .seq vs.toArray }) (hi : IntsAre vs ns) (hl : ns.length ≤ sizeLine) (hr : Room k callerA) (F : ∀ base : Heap, K.In base → base.Ns mainGlobals mg → FnG P w K mg base k fa fd [x] sp)
    (hbind : ∀ (s : Shared) (u : Value), BindsTo s fd ⟨[u], []⟩ [(x, u)]) (hsp : ∀ H : Hp, Only H → SqL K H a (ns.map V.int) → sp [.ref a] H (fun v _ => v = .bl true) fun _ _ _ => False) :
    codeAny (model P w) callerA (.call (.ref fa) ⟨[.ref a], []⟩) (fun r s' => r = .ok (.ret (.bool true)) ∧ OldK s1.heap s'.heap ∧ s'.os = s1.os ∧ AllBare s'.gens) s1 := by
  have rv := vals_ints hi
  have lv := hi.length
  cases hk : K.lookup a with
  | some o =>
    have e := KX a o hk
    rw [ha] at e
    cases e
    refine law_from (H := fun _ => none) KX hns hb hbb hlim hg ha hr F hbind (fun _ => Or.inl rfl) (fun b u z => ?_) (fun b z => absurd rfl z) (fun z => absurd rfl z) (hsp _ (fun _ => Or.inl rfl) (Or.inr ?_))
    · cases (show (none : Option HO) = some u from z)
    · exact ⟨_, vs.toArray, _, hk, rfl, rfl, rfl, by rw [List.size_toArray, lv]; exact hl, by simpa using rv⟩
  | none =>
    let ob : Obj := { cls := .type "list", data := .seq vs.toArray }
    have one : ∀ b, (if b = a then some (HO.frz ob (.lst (ns.map V.int))) else none) ≠ none → b = a := fun b z => by
      by_cases hb : b = a
      · exact hb
      · exact absurd (if_neg hb) z
    have only : Only (fun b => if b = a then some (HO.frz ob (.lst (ns.map V.int))) else none) := fun b => by
      by_cases hb : b = a
      · exact Or.inr ⟨_, _, if_pos hb⟩
      · exact Or.inl (if_neg hb)
    refine law_from (H := fun b => if b = a then some (HO.frz ob (.lst (ns.map V.int))) else none) KX hns hb hbb hlim hg ha hr F hbind only (fun b u z => ?_) one (fun _ => hk) (hsp _ only (Or.inl (Or.inr ⟨ob, if_pos rfl⟩)))
    by_cases hb : b = a
    · obtain rfl := Option.some.inj ((if_pos hb).symm.trans z)
      subst hb
      exact ⟨ha, by rw [List.length_map]; exact hl, vs, _, rv, ha⟩
    · cases (if_neg hb).symm.trans z
end
theorem walk_g {l : PySem.W.OpenLaw} {n k : Nat} {q : Program} {loose : List Str} {XP : (Str → Option Value) → Heap → Prop} {YP : World → Heap → Prop} {d : DefRec} {K : Params → PySem.W.Frag} {sp : PySem.W.Frag → Sp} {x : Str}
    (hn : l.most = some n) (hn2 : n ≤ sizeLine) (hdf : d.params.defaults = []) (hr : Room k callerA) (hY : ∀ (w : World) (h : Heap), YP w h → (K w.params).In h)
    (F : ∀ (w : World) (mg : Str → Option Value) (fa : Addr) (h : Heap), (K w.params).In h → h.Ns mainGlobals mg → mg d.name = some (.ref fa) → ∃ fd : FuncData, (∀ (s : Shared) (u : Value), BindsTo s fd ⟨[u], []⟩ [(x, u)]) ∧
        ∀ base : Heap, (K w.params).In base → base.Ns mainGlobals mg → FnG l.prog w (K w.params) mg base k fa fd [x] (sp (K w.params)))
    (hsp : ∀ (K : PySem.W.Frag) (H : Hp) (a : Addr) (ns : List Int), ns.length ≤ n → SqL K H a (ns.map V.int) → sp K [.ref a] H (fun v _ => v = .bl true) fun _ _ _ => False) :
    PySem.W.WalkO q loose XP YP l.row.toRowW d [] (fun f vs => PySem.call f vs) := by
  refine Att.attach_call hn hdf fun w s0 s1 mg mb fa o pm cd doc a vs ns G Y ho hd hcd hmg hobj hints hlen hg => ?_
  obtain ⟨fd, hb, hF⟩ := F w mg fa _ (hY w _ Y) G.T.g hmg
  exact law_g (hY w _ Y) G.T.g G.T.b G.T.builtins G.T.nolimit hg hobj hints (Nat.le_trans hlen hn2) hr hF hb fun H _ hS => hsp (K w.params) H a ns hlen hS
end Gd
set_option Elab.async false
set_option linter.all false
set_option maxRecDepth 100000
/-! Common words: sizes of ints, heaps that grow, defs of the text by their names. -/
namespace Gd
open PySem PySem.Spec PyProof.Rows L2
/-! ### sizes -/
def B (n : Nat) (x : Int) : Prop := x.natAbs < 2 ^ n
theorem B.up {m n : Nat} {x : Int} (h : B m x) (k : m ≤ n) : B n x := Nat.lt_of_lt_of_le h (Nat.pow_le_pow_right (by decide) k)
theorem B.add {m n : Nat} {x y : Int} (hx : B m x) (hy : B n y) : B (max m n + 1) (x + y) := by
  have h1 : x.natAbs < 2 ^ max m n := hx.up (Nat.le_max_left m n)
  have h2 : y.natAbs < 2 ^ max m n := hy.up (Nat.le_max_right m n)
  unfold B
  rw [Nat.pow_succ]
  omega
theorem B.neg {n : Nat} {x : Int} (hx : B n x) : B n (-x) := by
  unfold B at *
  omega
theorem B.sub {m n : Nat} {x y : Int} (hx : B m x) (hy : B n y) : B (max m n + 1) (x - y) := by
  rw [Int.sub_eq_add_neg]
  exact hx.add hy.neg
theorem B.mul {m n : Nat} {x y : Int} (hx : B m x) (hy : B n y) : B (m + n) (x * y) := wide_lt hx hy
theorem B.pow {m : Nat} {x : Int} (hx : B m x) : ∀ k : Nat, B (m * k + 1) (x ^ k)
  | 0 => by
    rw [Int.pow_zero]
    exact Nat.one_lt_two_pow (by omega)
  | k + 1 => by
    rw [Int.pow_succ]
    exact ((B.pow hx k).mul hx).up (by rw [Nat.mul_succ]; omega)
theorem B.lit {n : Nat} {x : Int} (h : x.natAbs < 2 ^ n) : B n x := h
theorem B.mulW {m n : Nat} {x y : Int} (hx : B m x) (hy : B n y) (h : m + n ≤ 900000) : CMulW x y :=
  wide_mul (hx.up (Nat.le_add_right m 1)) (hy.up (Nat.le_add_right n 1)) (by omega) (by omega) (by omega)
theorem B.mulL {n : Nat} {x y : Int} (hx : B n x) (h : n ≤ 64) : CMul x y := by
  have h1 := hx.up h
  unfold B at h1
  exact Or.inl ⟨by omega, by omega⟩
theorem B.mulR {n : Nat} {x y : Int} (hy : B n y) (h : n ≤ 64) : CMul x y := by
  have h1 := hy.up h
  unfold B at h1
  exact Or.inr ⟨by omega, by omega⟩
theorem B.log {n : Nat} {x : Int} (hx : B n x) (h : n ≤ 1900) : x.natAbs.log2 < 1920 := by
  have h1 : x.natAbs < 2 ^ 1901 := hx.up (by omega)
  exact PySem.Flt.log2_lt_of (by decide) (Nat.lt_of_lt_of_le h1 (Nat.pow_le_pow_right (by decide) (by decide)))
theorem B.between {n : Nat} {x : Int} (m : Int) (h0 : -m ≤ x) (h1 : x ≤ m) (h : m.natAbs < 2 ^ n) : B n x := by
  unfold B
  omega
theorem small {n : Nat} (h : n ≤ 1000) : n ≤ sizeLine := Nat.le_trans h (by decide)
/-! ### heaps -/
theorem Same.new {H : Hp} {p : Addr} {o : HO} (h : H p = none) : Same H (upd H p o) := fun b x e => by
  rw [upd_ne (ne_of_none e h)]
  exact e
theorem Same.put {H H1 : Hp} {p : Addr} {o : HO} (s : Same H H1) (h : H p = none) : Same H (upd H1 p o) := fun b x e => by
  rw [upd_ne (ne_of_none e h)]
  exact s b x e
theorem Same.rd {H H' : Hp} {a : Addr} {u : HO} (e : Same H H') (h : Rd H a u) : Rd H' a u := by
  rcases h with h | ⟨o, h⟩
  · exact Or.inl (e _ _ h)
  · exact Or.inr ⟨o, e _ _ h⟩
theorem Same.tup {K : PySem.W.Frag} {H H' : Hp} {a : Addr} {xs : List V} (e : Same H H') (h : SqT K H a xs) : SqT K H' a xs := by
  rcases h with h | h
  · exact Or.inl (Same.rd e h)
  · exact Or.inr h
theorem tup_of {K : PySem.W.Frag} {H : Hp} {a : Addr} {xs : List V} (h : H a = some (.tup xs)) : SqT K H a xs := Or.inl (Or.inl h)
theorem lst_of {K : PySem.W.Frag} {H : Hp} {a : Addr} {xs : List V} (h : H a = some (.lst xs)) : SqL K H a xs := Or.inl (Or.inl h)
/-- all but what stands at m is as it was -/
def But (m : Addr) (H H' : Hp) : Prop := ∀ b o, H b = some o → b ≠ m → H' b = some o
theorem But.refl (m : Addr) (H : Hp) : But m H H := fun _ _ e _ => e
theorem But.trans {m : Addr} {H H1 H2 : Hp} (a : But m H H1) (b : But m H1 H2) : But m H H2 := fun c o e n => b c o (a c o e n) n
theorem But.of {m : Addr} {H H' : Hp} (a : Same H H') : But m H H' := fun c o e _ => a c o e
theorem But.upd {m : Addr} {H : Hp} {o : HO} : But m H (upd H m o) := fun c x e n => by
  rw [upd_ne n]
  exact e
/-- the same where m was not known -/
theorem But.same {m : Addr} {H H1 H2 : Hp} (s : Same H H1) (b : But m H1 H2) (h : H m = none) : Same H H2 := fun c o e => b c o (s c o e) (ne_of_none e h)
/-- the slots said anew -/
theorem sig {nx : L2.St → Hp → Prop} {σ : L2.St} {H : Hp} (σ' : L2.St) (e : σ = σ') (h : nx σ' H) : nx σ H := e ▸ h
theorem sigN {nx : L2.St → Hp → Prop} {i : Nat} {v : V} {σ : L2.St} {H : Hp} (σ' : L2.St) (e : σ.set i (some v) = σ') (h : nx σ' H) : gName i v σ H nx := by
  subst e
  exact h
/-- a number of the module -/
theorem pe_kon {X : Cx} {x : Str} {pos : Pos} {v : V} (hg : Gl X x) (h : ∃ u, X.mg x = some u ∧ RelV v u) (hd : (x == ("__debug__" : Str)) = false := by decide) : PE X (.Name x pos) (tC v) := by
  obtain ⟨u, hm, r⟩ := h
  exact pe_glob hg hm r hd
/-- int(n) of a number -/
theorem call_intI {X : Cx} : CallR X (.type "int") (fun xs H Q => ∃ i, xs = [.int i] ∧ Q (.int i) H) := fun pins s σ H xs us Q I r h => call_int1 pins s σ H xs us Q I r (Or.inl h)
/-! ### the state of the draws: four entries -/
def mk4 (L s : Int) (c : Addr) (n : Int) : List (Key × V) := [(Sum.inr "left", .int L), (Sum.inr "seed", .int s), (Sum.inr "cells", .ref c), (Sum.inr "spot", .int n)]
theorem kn12 : ¬ (("left" : Str) = "seed") := by decide +kernel
theorem kn13 : ¬ (("left" : Str) = "cells") := by decide +kernel
theorem kn14 : ¬ (("left" : Str) = "spot") := by decide +kernel
theorem kn23 : ¬ (("seed" : Str) = "cells") := by decide +kernel
theorem kn24 : ¬ (("seed" : Str) = "spot") := by decide +kernel
theorem kn34 : ¬ (("cells" : Str) = "spot") := by decide +kernel
theorem kn21 : ¬ (("seed" : Str) = "left") := by decide +kernel
theorem kn31 : ¬ (("cells" : Str) = "left") := by decide +kernel
theorem kn41 : ¬ (("spot" : Str) = "left") := by decide +kernel
theorem kn42 : ¬ (("spot" : Str) = "seed") := by decide +kernel
theorem kn43 : ¬ (("spot" : Str) = "cells") := by decide +kernel
theorem kn32 : ¬ (("cells" : Str) = "seed") := by decide +kernel
section
variable {L s n : Int} {c : Addr}
theorem m4_left : valV (mk4 L s c n) (Sum.inr "left") = some (.int L) := by simp [valV, mk4, List.find?_cons]
theorem m4_seed : valV (mk4 L s c n) (Sum.inr "seed") = some (.int s) := by simp [valV, mk4, List.find?_cons, kn12]
theorem m4_cells : valV (mk4 L s c n) (Sum.inr "cells") = some (.ref c) := by simp [valV, mk4, List.find?_cons, kn13, kn23]
theorem m4_spot : valV (mk4 L s c n) (Sum.inr "spot") = some (.int n) := by simp [valV, mk4, List.find?_cons, kn14, kn24, kn34]
theorem m4_putL (y : Int) : putK (mk4 L s c n) (Sum.inr "left") (.int y) = mk4 y s c n := by simp [putK, mk4, kn21, kn31, kn41]
theorem m4_merge : mergeK [] (mk4 L s c n) = mk4 L s c n := by simp [mergeK, putK, mk4, List.foldl, kn12, kn13, kn14, kn23, kn24, kn34]
theorem m4_putS (y : Int) : putK (mk4 L s c n) (Sum.inr "spot") (.int y) = mk4 L s c y := by simp [putK, mk4, kn14, kn24, kn34]
end
/-- the state stands at m, with at most n draws out of the cells behind it -/
def MAt (H : Hp) (m c : Addr) (n : Nat) : Prop := ∃ (L s : Int) (cs : List Int) (k : Nat), H m = some (.dK (mk4 L s c (k : Int))) ∧ k ≤ n ∧ H c = some (.lst (cs.map V.int)) ∧ 0 < cs.length
theorem MAt.up {H : Hp} {m cl : Addr} {n n' : Nat} (h : MAt H m cl n) (k : n ≤ n') : MAt H m cl n' := by
  obtain ⟨L, s, cs, j, h1, h2, h3, h4⟩ := h
  exact ⟨L, s, cs, j, h1, Nat.le_trans h2 k, h3, h4⟩
theorem MAt.same {H H' : Hp} {m cl : Addr} {n : Nat} (h : MAt H m cl n) (e : Same H H') : MAt H' m cl n := by
  obtain ⟨L, s, cs, j, h1, h2, h3, h4⟩ := h
  exact ⟨L, s, cs, j, e _ _ h1, h2, e _ _ h3, h4⟩
theorem MAt.some {H : Hp} {m cl : Addr} {n : Nat} (h : MAt H m cl n) : ∃ kvs, H m = some (.dK kvs) := by
  obtain ⟨L, s, cs, j, h1, _⟩ := h
  exact ⟨_, h1⟩
theorem MAt.ne {H : Hp} {m cl p : Addr} {n : Nat} (h : MAt H m cl n) (e : H p = none) : m ≠ p ∧ cl ≠ p := by
  obtain ⟨L, s, cs, j, h1, h2, h3, h4⟩ := h
  exact ⟨ne_of_none h1 e, ne_of_none h3 e⟩
theorem MAt.put {H : Hp} {m cl p : Addr} {n : Nat} {o : HO} (h : MAt H m cl n) (e : m ≠ p ∧ cl ≠ p) : MAt (upd H p o) m cl n := by
  obtain ⟨L, s, cs, j, h1, h2, h3, h4⟩ := h
  refine ⟨L, s, cs, j, ?_, h2, ?_, h4⟩
  · rw [upd_ne e.1]
    exact h1
  · rw [upd_ne e.2]
    exact h3
/-- what the draws leave: fresh stays fresh -/
theorem But.free {m p cl : Addr} {H H' : Hp} {n : Nat} (b : But m H H') (h : MAt H' m cl n) (e : H' p = none) : H p = none := by
  obtain ⟨kvs, hm⟩ := h.some
  cases q : H p with
  | none => rfl
  | some o =>
    by_cases hp : p = m
    · subst hp
      rw [hm] at e
      cases e
    · rw [b p o q hp] at e
      cases e
theorem But.tup {m p cl : Addr} {H H' : Hp} {n : Nat} {xs : List V} (b : But m H H') (h : MAt H m cl n) (e : H p = some (.tup xs)) : H' p = some (.tup xs) := by
  obtain ⟨kvs, hm⟩ := h.some
  exact b p _ e (ne_of e hm (by intro z; cases z))
theorem But.lst {m p cl : Addr} {H H' : Hp} {n : Nat} {xs : List V} (b : But m H H') (h : MAt H m cl n) (e : H p = some (.lst xs)) : H' p = some (.lst xs) := by
  obtain ⟨kvs, hm⟩ := h.some
  exact b p _ e (ne_of e hm (by intro z; cases z))
theorem But.seqL {K : PySem.W.Frag} {m p cl : Addr} {H H' : Hp} {n : Nat} {xs : List V} (b : But m H H') (h : MAt H m cl n) (e : SqL K H p xs) : SqL K H' p xs := by
  obtain ⟨kvs, hm⟩ := h.some
  rcases e with (e | ⟨o, e⟩) | e
  · exact Or.inl (Or.inl (b p _ e (ne_of e hm (by intro z; cases z))))
  · exact Or.inl (Or.inr ⟨o, b p _ e (ne_of e hm (by intro z; cases z))⟩)
  · exact Or.inr e
theorem But.seqT {K : PySem.W.Frag} {m p cl : Addr} {H H' : Hp} {n : Nat} {xs : List V} (b : But m H H') (h : MAt H m cl n) (e : SqT K H p xs) : SqT K H' p xs := by
  obtain ⟨kvs, hm⟩ := h.some
  rcases e with (e | ⟨o, e⟩) | e
  · exact Or.inl (Or.inl (b p _ e (ne_of e hm (by intro z; cases z))))
  · exact Or.inl (Or.inr ⟨o, b p _ e (ne_of e hm (by intro z; cases z))⟩)
  · exact Or.inr e
/-! ### tuples -/
theorem catA_any {K : PySem.W.Frag} {H : Hp} {Q : VK} {a b : Addr} {xs ys : List V} (ha : SqT K H a xs) (hb : SqT K H b ys) (hl : xs.length + ys.length ≤ 1000) (k : ∀ p H', Same H H' → SqT K H' p (xs ++ ys) → Q (.ref p) H') : rCatA K (.ref a) (.ref b) H Q := by
  refine ⟨a, b, xs, ys, rfl, rfl, ha, hb, small hl, fun e => ?_, fun _ e => ?_, fun _ _ p hp => k p _ (Same.new hp) (tup_of upd_same)⟩
  · subst e
    exact k b H (Same.refl H) hb
  · subst e
    exact k a H (Same.refl H) (by rw [List.append_nil]; exact ha)
theorem slA_any {K : PySem.W.Frag} {H : Hp} {Q : VK} {a : Addr} {xs : List V} {lo hi : Option Int} (ha : SqT K H a xs) (k : ∀ p H', Same H H' → SqT K H' p (cutV xs lo hi) → Q (.ref p) H') : rSlA K (.ref a) lo hi H Q := by
  refine ⟨a, xs, rfl, ha, fun e => ?_, fun _ p hp => k p _ (Same.new hp) (tup_of upd_same)⟩
  refine k a H (Same.refl H) ?_
  have e2 : cutV xs lo hi = xs := by
    unfold cutV
    rw [e.1, e.2, List.drop_zero, Nat.sub_zero, List.take_length]
  rw [e2]
  exact ha
/-! ### defs by their names -/
structure Df (K : PySem.W.Frag) (mg : Str → Option Value) (x : Str) (st : Stmt) (ps : List Str) : Prop where
  ex : ∃ (f : Addr) (fd : FuncData), Fun K x x st f fd ∧ mg x = some (.ref f) ∧ Binds K fd ps []
section
variable {P : Program} {w : World} {K : PySem.W.Frag} {mg : Str → Option Value} {base : Heap} {x : Str} {st : Stmt} {N ps : List Str} {k : Nat} {sp : Sp}
theorem Kl.by_body (D : Df K mg x st ps) (S : FnScope N ps (defScope st)) (len : ∀ vs H Q E, sp vs H Q E → vs.length = ps.length)
    (hb : ∀ (f : Addr) (cdv : Value) (A : Around) (outer : List Env) (s : Shared) (H : Hp) (vs : List V) (Q : VK) (E : XK), Room k (A.deeper (envOfC x (defScope st) s.heap.objs.size f cdv)) → sp vs H Q E →
      ∃ t, PSs (cxOf CX0 P w K mg base N x (defScope st) f cdv A outer s H E).nox (defBody st) t ∧ t { nx := fun _ H' => Q .non H', rt := Q } (start N vs) H) : Kl P w K mg base (k + 1) x sp := by
  obtain ⟨f, fd, F, hm, b⟩ := D.ex
  exact ⟨f, fd, ps, F.ok S len (hb f), hm, F.kp, b⟩
theorem Kg.by_body (D : Df K mg x st ps) (S : FnScope N ps (defScope st)) (len : ∀ vs H Q E, sp vs H Q E → vs.length = ps.length)
    (hb : ∀ (f : Addr) (cdv : Value) (A : Around) (outer : List Env) (s : Shared) (H : Hp) (vs : List V) (Q : VK) (E : XK), A.guards = some [] → Room k (A.deeper (envOfC x (defScope st) s.heap.objs.size f cdv)) → sp vs H Q E →
      ∃ t, PSs (cxOf CX0 P w K mg base N x (defScope st) f cdv A outer s H E).nox (defBody st) t ∧ t { nx := fun _ H' => Q .non H', rt := Q } (start N vs) H) : Kg P w K mg base (k + 1) x sp := by
  obtain ⟨f, fd, F, hm, b⟩ := D.ex
  exact ⟨f, fd, ps, FnG.by_body F S len (hb f), hm, F.kp, b⟩
theorem df_mk {h : Heap} {f : Addr} {oc : Value} {od an : Option Addr} {osl : Array (Option Value)} {kV doc pm cdv ct : Value} (X : K.In h) (G : h.Ns mainGlobals mg) (a : PySem.W.nsIn K mainGlobals x = some (some (.ref f)))
    (l : K.lookup f = some ⟨oc, od, .func (PySem.W.fnOf x x (defArgs st) (defBody st) (defScope st) .none kV doc pm an cdv ct), osl⟩) (c : PySem.W.codeIn K cdv x = true) (kp : PySem.W.keepIn K (.ref f) = true)
    (hb : ∀ (kV doc pm : Value) (an : Option Addr) (cdv ct : Value) (us : List Value), us.length = ps.length → bindArgs (PySem.W.fnOf x x (defArgs st) (defBody st) (defScope st) .none kV doc pm an cdv ct) ⟨us, []⟩ = pure (ps.zip us)) : Df K mg x st ps :=
  ⟨f, _, fun_mk l c kp, PySem.W.mg_of X G a, (fun_mk l c kp).binds hb⟩
theorem law_fd {h : Heap} {fa f : Addr} {j : Nat} {oc : Value} {od an : Option Addr} {osl : Array (Option Value)} {kV doc pm cdv ct : Value} (X : K.In h) (G : h.Ns mainGlobals mg) (hfa : mg "law" = some (.ref fa)) (a : PySem.W.nsIn K mainGlobals "law" = some (some (.ref f)))
    (l : K.lookup f = some ⟨oc, od, .func (PySem.W.fnOf "law" "law" (defArgs st) (defBody st) (defScope st) .none kV doc pm an cdv ct), osl⟩) (c : PySem.W.codeIn K cdv "law" = true) (kp : PySem.W.keepIn K (.ref f) = true)
    (hb : ∀ (kV doc pm : Value) (an : Option Addr) (cdv ct : Value) (us : List Value), us.length = 1 → bindArgs (PySem.W.fnOf "law" "law" (defArgs st) (defBody st) (defScope st) .none kV doc pm an cdv ct) ⟨us, []⟩ = pure ((["script"] : List Str).zip us))
    (go : ∀ fd, Fun K "law" "law" st fa fd → ∀ base : Heap, FnG P w K mg base j fa fd ["script"] sp) :
    ∃ fd : FuncData, (∀ (s : Shared) (u : Value), BindsTo s fd ⟨[u], []⟩ [("script", u)]) ∧ ∀ base : Heap, K.In base → base.Ns mainGlobals mg → FnG P w K mg base j fa fd ["script"] sp := by
  have e := hfa.symm.trans (PySem.W.mg_of X G a)
  cases e
  exact ⟨_, fun s u => .of_eq (hb kV doc pm an cdv ct [u] rfl), fun base _ _ => go _ (fun_mk l c kp) base⟩
end
end Gd
set_option linter.all false
/-! fractions: plain Lean -/
namespace QM
/-- n / d in lowest terms -/
def sg (n d : Int) : Int := if d < 0 then -((Nat.gcd n.natAbs d.natAbs : Nat) : Int) else ((Nat.gcd n.natAbs d.natAbs : Nat) : Int)
theorem sg_ne {n d : Int} (h : d ≠ 0) : sg n d ≠ 0 := by
  have hp : 0 < Nat.gcd n.natAbs d.natAbs := Nat.gcd_pos_of_pos_right _ (by omega)
  unfold sg
  split <;> omega
theorem fdiv_neg' (a b : Int) : (-a).fdiv (-b) = a.fdiv b := by
  exact Int.neg_fdiv_neg a b
theorem fr_num {n d : Int} (h : d ≠ 0) : n.fdiv (sg n d) = (Rat.divInt n d).num := by
  rw [Rat.num_divInt]
  unfold sg
  have g0 : ((Int.gcd d n : Nat) : Int) = ((Nat.gcd n.natAbs d.natAbs : Nat) : Int) := by rw [Int.gcd_comm]; rfl
  split
  · rename_i e
    rw [Int.sign_eq_neg_one_of_neg e, g0, Int.neg_mul, Int.one_mul]
    have e1 : n.fdiv (-((Nat.gcd n.natAbs d.natAbs : Nat) : Int)) = (-n).fdiv ((Nat.gcd n.natAbs d.natAbs : Nat) : Int) := by
      rw [← fdiv_neg' n, Int.neg_neg]
    rw [e1, Int.fdiv_eq_ediv_of_nonneg _ (by omega)]
  · rename_i e
    rw [Int.sign_eq_one_of_pos (by omega), g0, Int.one_mul, Int.fdiv_eq_ediv_of_nonneg _ (by omega)]
theorem fr_den {n d : Int} (h : d ≠ 0) : d.fdiv (sg n d) = ((Rat.divInt n d).den : Int) := by
  rw [Rat.den_divInt, if_neg h]
  have g0 : Int.gcd d n = Nat.gcd n.natAbs d.natAbs := by rw [Int.gcd_comm]; rfl
  rw [g0]
  unfold sg
  split
  · rename_i e
    have e1 : d.fdiv (-((Nat.gcd n.natAbs d.natAbs : Nat) : Int)) = (-d).fdiv ((Nat.gcd n.natAbs d.natAbs : Nat) : Int) := by
      rw [← fdiv_neg' d, Int.neg_neg]
    rw [e1, Int.fdiv_eq_ediv_of_nonneg _ (by omega), Int.natCast_ediv]
    congr 1
    omega
  · rename_i e
    rw [Int.fdiv_eq_ediv_of_nonneg _ (by omega), Int.natCast_ediv]
    congr 1
    omega
theorem den_ne (a : Rat) : (a.den : Int) ≠ 0 := by
  have := a.den_nz
  omega
theorem denR (a : Rat) : ((a.den : Int) : Rat) ≠ 0 := by
  intro h
  exact den_ne a (by exact_mod_cast h)
theorem as_div (a : Rat) : a = (a.num : Rat) / ((a.den : Int) : Rat) := by
  rw [← Rat.divInt_eq_div, Rat.num_divInt_den]
theorem fr_add (a b : Rat) : Rat.divInt (a.num * b.den + b.num * a.den) (a.den * b.den) = a + b := by
  have ha := denR a
  have hb := denR b
  have ea := as_div a
  have eb := as_div b
  rw [Rat.divInt_eq_div, Rat.intCast_add, Rat.intCast_mul, Rat.intCast_mul, Rat.intCast_mul]
  grind
theorem fr_sub (a b : Rat) : Rat.divInt (a.num * b.den - b.num * a.den) (a.den * b.den) = a - b := by
  have ha := denR a
  have hb := denR b
  have ea := as_div a
  have eb := as_div b
  rw [Rat.divInt_eq_div, Rat.intCast_sub, Rat.intCast_mul, Rat.intCast_mul, Rat.intCast_mul]
  grind
theorem fr_mul (a b : Rat) : Rat.divInt (a.num * b.num) (a.den * b.den) = a * b := by
  have ha := denR a
  have hb := denR b
  have ea := as_div a
  have eb := as_div b
  rw [Rat.divInt_eq_div, Rat.intCast_mul, Rat.intCast_mul]
  grind
theorem num_ne {a : Rat} (h : a ≠ 0) : a.num ≠ 0 := fun e => h (Rat.num_eq_zero.mp e)
theorem fr_div (a b : Rat) (h : b ≠ 0) : Rat.divInt (a.num * b.den) (a.den * b.num) = a / b := by
  have ha := denR a
  have hb := denR b
  have ea := as_div a
  have eb := as_div b
  have hn : (b.num : Rat) ≠ 0 := fun e => num_ne h (by exact_mod_cast e)
  rw [Rat.divInt_eq_div, Rat.intCast_mul, Rat.intCast_mul]
  grind
theorem mul_ne {a b : Int} (h : a ≠ 0) (k : b ≠ 0) : a * b ≠ 0 := Int.mul_ne_zero h k
/-! sizes -/
def RB (n : Nat) (q : Rat) : Prop := q.num.natAbs < 2 ^ n ∧ (q.den : Int).natAbs < 2 ^ n
theorem RB.up {m n : Nat} {q : Rat} (h : RB m q) (k : m ≤ n) : RB n q := ⟨Nat.lt_of_lt_of_le h.1 (Nat.pow_le_pow_right (by decide) k), Nat.lt_of_lt_of_le h.2 (Nat.pow_le_pow_right (by decide) k)⟩
theorem dv_le {x g : Int} (h : g ≠ 0) (d : g ∣ x) : (x.fdiv g).natAbs ≤ x.natAbs := by
  obtain ⟨k, rfl⟩ := d
  rw [Int.mul_fdiv_cancel_left k h, Int.natAbs_mul]
  have h1 : 1 ≤ g.natAbs := by omega
  have h2 : 1 * k.natAbs ≤ g.natAbs * k.natAbs := Nat.mul_le_mul_right _ h1
  omega
theorem sg_dvd (n d : Int) : sg n d ∣ n := by
  have h : ((Nat.gcd n.natAbs d.natAbs : Nat) : Int) ∣ n := Int.ofNat_dvd_left.mpr (Nat.gcd_dvd_left _ _)
  unfold sg
  split
  · exact Int.neg_dvd.mpr h
  · exact h
theorem sg_dvd2 (n d : Int) : sg n d ∣ d := by
  have h : ((Nat.gcd n.natAbs d.natAbs : Nat) : Int) ∣ d := Int.ofNat_dvd_left.mpr (Nat.gcd_dvd_right _ _)
  unfold sg
  split
  · exact Int.neg_dvd.mpr h
  · exact h
theorem RB.of {m : Nat} {n d : Int} (h : d ≠ 0) (hn : n.natAbs < 2 ^ m) (hd : d.natAbs < 2 ^ m) : RB m (Rat.divInt n d) := by
  unfold RB
  rw [← fr_num h, ← fr_den (n := n) h]
  exact ⟨Nat.lt_of_le_of_lt (dv_le (sg_ne h) (sg_dvd n d)) hn, Nat.lt_of_le_of_lt (dv_le (sg_ne h) (sg_dvd2 n d)) hd⟩
theorem pmul {m n a b : Nat} (ha : a < 2 ^ m) (hb : b < 2 ^ n) : a * b < 2 ^ (m + n) := by
  rw [Nat.pow_add]
  rcases Nat.eq_zero_or_pos b with h | h
  · subst h
    rw [Nat.mul_zero]
    exact Nat.mul_pos (Nat.two_pow_pos m) (Nat.two_pow_pos n)
  · exact Nat.mul_lt_mul_of_lt_of_le ha (Nat.le_of_lt hb) (Nat.two_pow_pos n)
theorem RB.add {m n : Nat} {a b : Rat} (ha : RB m a) (hb : RB n b) : RB (m + n + 1) (a + b) := by
  rw [← fr_add]
  have h1 := pmul ha.1 hb.2
  have h2 := pmul ha.2 hb.1
  have h3 := pmul ha.2 hb.2
  refine RB.of (mul_ne (den_ne a) (den_ne b)) ?_ ?_
  · rw [Nat.pow_succ]
    have h4 : (a.num * ↑b.den + b.num * ↑a.den).natAbs ≤ (a.num * ↑b.den).natAbs + (b.num * ↑a.den).natAbs := Int.natAbs_add_le _ _
    rw [Int.natAbs_mul, Int.natAbs_mul, Nat.mul_comm b.num.natAbs] at h4
    omega
  · rw [Nat.pow_succ, Int.natAbs_mul]
    omega
theorem RB.neg {m : Nat} {a : Rat} (ha : RB m a) : RB m (-a) := by
  unfold RB at *
  rw [Rat.neg_num, Rat.neg_den, Int.natAbs_neg]
  exact ha
theorem RB.sub {m n : Nat} {a b : Rat} (ha : RB m a) (hb : RB n b) : RB (m + n + 1) (a - b) := by
  rw [Rat.sub_eq_add_neg]
  exact ha.add hb.neg
theorem RB.mul {m n : Nat} {a b : Rat} (ha : RB m a) (hb : RB n b) : RB (m + n) (a * b) := by
  rw [← fr_mul]
  refine RB.of (mul_ne (den_ne a) (den_ne b)) ?_ ?_
  · rw [Int.natAbs_mul]
    exact pmul ha.1 hb.1
  · rw [Int.natAbs_mul]
    exact pmul ha.2 hb.2
theorem RB.div {m n : Nat} {a b : Rat} (h : b ≠ 0) (ha : RB m a) (hb : RB n b) : RB (m + n) (a / b) := by
  rw [← fr_div a b h]
  refine RB.of (mul_ne (den_ne a) (num_ne h)) ?_ ?_
  · rw [Int.natAbs_mul]
    exact pmul ha.1 hb.2
  · rw [Int.natAbs_mul]
    exact pmul ha.2 hb.1
theorem RB.int {m : Nat} {n : Int} (h : n.natAbs < 2 ^ m) (k : 1 ≤ m) : RB m (n : Rat) := by
  unfold RB
  rw [Rat.num_intCast, Rat.den_intCast]
  exact ⟨h, Nat.lt_of_lt_of_le (by decide : 1 < 2 ^ 1) (Nat.pow_le_pow_right (by decide) k)⟩
theorem RB.pow {m : Nat} {a : Rat} (ha : RB m a) : ∀ k : Nat, RB (m * k + 1) (a ^ k)
  | 0 => by
    rw [Rat.pow_zero]
    exact RB.int (n := 1) (by rw [Nat.mul_zero]; decide) (by omega)
  | k + 1 => by
    rw [Rat.pow_succ]
    exact (RB.mul (RB.pow ha k) ha).up (by rw [Nat.mul_succ]; omega)
/-! powers -/
theorem npow (a : Rat) (k : Nat) : (a ^ k).num = a.num ^ k := Rat.num_pow a k
theorem dpow (a : Rat) (k : Nat) : (a ^ k).den = a.den ^ k := Rat.den_pow a k
theorem le_npow (a : Nat) {k : Nat} (h : 1 ≤ k) : a ≤ a ^ k := by
  rcases Nat.eq_zero_or_pos a with e | e
  · omega
  · calc a = a ^ 1 := (Nat.pow_one a).symm
      _ ≤ a ^ k := Nat.pow_le_pow_right e h
theorem RB.root {m k : Nat} {a : Rat} (h : 1 ≤ k) (ha : RB m (a ^ k)) : RB m a := by
  unfold RB at *
  rw [npow, dpow, Int.natAbs_pow] at ha
  refine ⟨Nat.lt_of_le_of_lt (le_npow _ h) ha.1, ?_⟩
  have e : ((a.den ^ k : Nat) : Int).natAbs = a.den ^ k := Int.natAbs_natCast _
  rw [e] at ha
  rw [Int.natAbs_natCast]
  exact Nat.lt_of_le_of_lt (le_npow _ h) ha.2
theorem num_pos {a : Rat} (h : 0 < a) : 0 < a.num := by
  have h1 : 0 ≤ a.num := Rat.num_nonneg.mpr (Rat.le_of_lt h)
  have h2 : a.num ≠ 0 := num_ne (fun e => by rw [e] at h; exact absurd h (by decide))
  omega
end QM
set_option Elab.async false
set_option linter.all false
set_option maxRecDepth 100000
/-! fractions as pairs of ints; promises of the sums -/
namespace Gd
open PySem PySem.Spec PyProof.Rows L2 QM
/-- // by any divisor but 0, below 2 ^ 9000 -/
def CDivAny (_ j : Int) : Prop := j ≠ 0 ∧ j.natAbs.log2 < 9000
theorem op_fdivAny {X : Cx} : OpR X (binaryOp .FloorDiv) (rI CDivAny fun i j => .int (i.fdiv j)) := opI fun _ _ _ _ _ _ _ hc q => floordiv_int hc.1 q (.inl (PyProof.noPylong_of_log2 hc.2))
theorem B.log9 {n : Nat} {x : Int} (hx : B n x) (h : n ≤ 8900) : x.natAbs.log2 < 9000 := by
  have h1 : x.natAbs < 2 ^ 8901 := hx.up (by omega)
  exact PySem.Flt.log2_lt_of (by decide) (Nat.lt_of_lt_of_le h1 (Nat.pow_le_pow_right (by decide) (by decide)))
theorem div_any {m : Nat} {i j : Int} (h : j ≠ 0) (hb : B m j) (hm : m ≤ 8900) : CDivAny i j := ⟨h, hb.log9 hm⟩
theorem gcd_B {m : Nat} {n d : Int} (h : d ≠ 0) (hb : B m d) : B m ((Nat.gcd n.natAbs d.natAbs : Nat) : Int) := by
  unfold B at *
  have h1 : Nat.gcd n.natAbs d.natAbs ≤ d.natAbs := Nat.gcd_le_right _ (by omega)
  omega
theorem sg_B {m : Nat} {n d : Int} (h : d ≠ 0) (hb : B m d) : B m (sg n d) := by
  unfold sg
  split
  · exact (gcd_B h hb).neg
  · exact gcd_B h hb
/-- a fraction's pair -/
def fq (q : Rat) : List V := [.int q.num, .int (q.den : Int)]
theorem fq_div {n d : Int} (h : d ≠ 0) : [V.int (n.fdiv (sg n d)), V.int (d.fdiv (sg n d))] = fq (Rat.divInt n d) := by
  unfold fq
  rw [fr_num h, fr_den h]
theorem fq_int (n : Int) : fq (n : Rat) = [.int n, .int 1] := by
  unfold fq
  rw [Rat.num_intCast, Rat.den_intCast]
  rfl
theorem fq_inj {a b : Rat} (h : fq a = fq b) : a = b := by
  unfold fq at h
  simp only [List.cons.injEq, V.int.injEq, and_true] at h
  exact Rat.ext h.1 (by omega)
def dq (q : Rat) : PyData := .tuple [.int q.num, .int (q.den : Int)]
theorem dp_q {K : PySem.W.Frag} {H : Hp} {p : Addr} {q : Rat} (h : SqT K H p (fq q)) : Dp K H (.ref p) (dq q) := .tup h (.cons (.int _) (.cons (.int _) .nil))
theorem dq_inj {a b : Rat} : dq a = dq b ↔ a = b := by
  constructor
  · intro h
    unfold dq at h
    simp only [PyData.tuple.injEq, List.cons.injEq, PyData.int.injEq, and_true] at h
    exact Rat.ext h.1 (by omega)
  · rintro rfl
    rfl
theorem _root_.QM.RB.n {m : Nat} {q : Rat} (h : RB m q) : B m q.num := h.1
theorem _root_.QM.RB.d {m : Nat} {q : Rat} (h : RB m q) : B m (q.den : Int) := h.2
theorem okq {m : Nat} {q : Rat} (h : RB m q) (k : m ≤ 1900) : okD (dq q) = true := by
  have h1 := B.log (RB.n h) k
  have h2 := B.log (RB.d h) k
  unfold dq
  rw [okD, okAll, okAll, okAll, okD, okD]
  rw [decide_eq_true h1, decide_eq_true h2]
  rfl
def spCut (K : PySem.W.Frag) : Sp := fun vs H Q _ => ∃ n d : Int, vs = [.int n, .int d] ∧ d ≠ 0 ∧ B 8200 n ∧ B 8200 d ∧ ∀ t, H t = none → Q (.ref t) (upd H t (.tup (fq (Rat.divInt n d))))
def spBin (ok : Rat → Rat → Prop) (op : Rat → Rat → Rat) (K : PySem.W.Frag) : Sp := fun vs H Q _ => ∃ (f g : Addr) (a b : Rat), vs = [.ref f, .ref g] ∧ SqT K H f (fq a) ∧ SqT K H g (fq b) ∧ RB 4000 a ∧ RB 4000 b ∧ ok a b ∧ ∀ t, H t = none → Q (.ref t) (upd H t (.tup (fq (op a b))))
/-- a list of fractions -/
def FrL (K : PySem.W.Frag) (H : Hp) (m : Nat) (ps : List (Addr × Rat)) : Prop := ∀ p ∈ ps, SqT K H p.1 (fq p.2) ∧ RB m p.2
def spSum (op : Rat → Rat → Rat) (e : Rat) (K : PySem.W.Frag) : Sp := fun vs H Q _ => ∃ (l : Addr) (ps : List (Addr × Rat)) (m : Nat), vs = [.ref l] ∧ SqL K H l (ps.map fun p => .ref p.1) ∧ FrL K H m ps ∧ ps.length * (m + 1) ≤ 3900 ∧ ∀ H' t, Same H H' → H t = none → H' t = some (.tup (fq (ps.foldl (fun x p => op x p.2) e))) → RB (ps.length * (m + 1) + 1) (ps.foldl (fun x p => op x p.2) e) → Q (.ref t) H'
/-- a list that is being made of the fractions of ints -/
def FrD (H : Hp) (D : Addr) (ns : List Int) (i : Nat) : Prop := ∃ L : List Addr, H D = some (.lst (L.map V.ref)) ∧ L.length = i ∧ ∀ (j : Nat) (p : Addr), L[j]? = some p → ∃ n : Int, ns[j]? = some n ∧ H p = some (.tup (fq (n : Rat)))
theorem FrD.new {H : Hp} {D : Addr} {ns : List Int} : FrD (upd H D (.lst [])) D ns 0 := ⟨[], upd_same, rfl, fun j p h => by simp at h⟩
theorem FrD.push {H : Hp} {D t : Addr} {ns : List Int} {i : Nat} {n : Int} (h : FrD H D ns i) (hi : ns[i]? = some n) (nt : H t = none) (hl : i < 1000) :
    ∃ acc, (upd H t (.tup (fq (n : Rat)))) D = some (.lst acc) ∧ acc.length < sizeLine ∧ FrD (upd (upd H t (.tup (fq (n : Rat)))) D (.lst (acc ++ [.ref t]))) D ns (i + 1) := by
  obtain ⟨L, h1, h2, h3⟩ := h
  have hDt : D ≠ t := ne_of_none h1 nt
  refine ⟨L.map V.ref, by rw [upd_ne hDt]; exact h1, by rw [List.length_map]; exact small1000 (by omega), L ++ [t], ?_, by rw [List.length_append, h2]; rfl, fun j p hj => ?_⟩
  · rw [upd_same, List.map_append]
    rfl
  · rcases Nat.lt_or_ge j L.length with z | z
    · rw [List.getElem?_append_left z] at hj
      obtain ⟨m, hm, hp⟩ := h3 j p hj
      refine ⟨m, hm, ?_⟩
      have hpD : p ≠ D := ne_of hp h1 (by intro z; cases z)
      rw [upd_ne hpD, upd_ne (ne_of_none hp nt)]
      exact hp
    · rw [List.getElem?_append_right z] at hj
      have e : j - L.length = 0 := by
        rcases Nat.eq_zero_or_pos (j - L.length) with q | q
        · exact q
        · rw [List.getElem?_eq_none (by simp; omega)] at hj
          cases hj
      rw [e] at hj
      obtain rfl := Option.some.inj hj
      have ej : j = i := by omega
      refine ⟨n, by rw [ej]; exact hi, ?_⟩
      rw [upd_ne (fun q => hDt q.symm), upd_same]
theorem FrD.five {H : Hp} {D : Addr} {a b c d e : Int} (h : FrD H D [a, b, c, d, e] 5) : ∃ p1 p2 p3 p4 p5, H D = some (.lst [.ref p1, .ref p2, .ref p3, .ref p4, .ref p5]) ∧ H p1 = some (.tup (fq (a : Rat))) ∧ H p2 = some (.tup (fq (b : Rat))) ∧ H p3 = some (.tup (fq (c : Rat))) ∧ H p4 = some (.tup (fq (d : Rat))) ∧ H p5 = some (.tup (fq (e : Rat))) := by
  obtain ⟨L, h1, h2, h3⟩ := h
  match L, h2 with
  | [p1, p2, p3, p4, p5], _ =>
    have g : ∀ (j : Nat) (p : Addr) (n : Int), [p1, p2, p3, p4, p5][j]? = some p → [a, b, c, d, e][j]? = some n → H p = some (.tup (fq (n : Rat))) := fun j p n x y => by
      obtain ⟨m, hm, hp⟩ := h3 j p x
      rw [y] at hm
      obtain rfl := Option.some.inj hm
      exact hp
    exact ⟨p1, p2, p3, p4, p5, h1, g 0 _ _ rfl rfl, g 1 _ _ rfl rfl, g 2 _ _ rfl rfl, g 3 _ _ rfl rfl, g 4 _ _ rfl rfl⟩
/-! what stands of fractions in the heap -/
def FrE (K : PySem.W.Frag) (H : Hp) (es : List (Addr × Rat × Nat)) : Prop := ∀ x ∈ es, SqT K H x.1 (fq x.2.1) ∧ RB x.2.2 x.2.1
section
variable {K : PySem.W.Frag} {H H' : Hp} {es : List (Addr × Rat × Nat)} {p r : Addr} {a b : Rat} {m n : Nat} {Q : VK} {Z : XK}
theorem FrE.nil : FrE K H [] := fun x h => by cases h
theorem FrE.same (h : FrE K H es) (s : Same H H') : FrE K H' es := fun x k => ⟨Same.tup s (h x k).1, (h x k).2⟩
theorem FrE.get (h : FrE K H es) (k : (p, a, m) ∈ es) : SqT K H p (fq a) := (h _ k).1
theorem FrE.rb (h : FrE K H es) (k : (p, a, m) ∈ es) : RB m a := (h _ k).2
theorem FrE.add (h : FrE K H es) (k : SqT K H p (fq a)) (b : RB m a) : FrE K H ((p, a, m) :: es) := fun x z => by
  rcases List.mem_cons.mp z with rfl | z
  · exact ⟨k, b⟩
  · exact h x z
theorem FrE.re (h : FrE K H ((p, a, m) :: es)) (e : a = b) (k : RB n b) : FrE K H ((p, b, n) :: es) := fun x z => by
  subst e
  rcases List.mem_cons.mp z with rfl | z
  · exact ⟨(h _ List.mem_cons_self).1, k⟩
  · exact h x (List.mem_cons_of_mem _ z)
theorem FrE.sub {fs : List (Addr × Rat × Nat)} (h : FrE K H es) (k : ∀ x ∈ fs, x ∈ es) : FrE K H fs := fun x z => h x (k x z)
theorem stepE (E : FrE K H es) {t : Addr} (n : H t = none) {c : Rat} {k : Nat} (hb : RB k c) : ∃ H', upd H t (.tup (fq c)) = H' ∧ Same H H' ∧ FrE K H' ((t, c, k) :: es) :=
  ⟨_, rfl, Same.new n, (E.same (Same.new n)).add (tup_of upd_same) hb⟩
theorem litE (E : FrE K H es) {t : Addr} (n : H t = none) {vs : List V} {c : Rat} {k : Nat} (e : vs = fq c) (hb : RB k c) : ∃ H', upd H t (.tup vs) = H' ∧ Same H H' ∧ FrE K H' ((t, c, k) :: es) := by
  subst e
  exact stepE E n hb
theorem FrL.nil {M : Nat} : FrL K H M [] := fun x h => by cases h
theorem FrL.cons {M : Nat} {ps : List (Addr × Rat)} (E : FrE K H es) (k : (p, a, m) ∈ es) (hm : m ≤ M) (h : FrL K H M ps) : FrL K H M ((p, a) :: ps) := fun x z => by
  rcases List.mem_cons.mp z with rfl | z
  · exact ⟨E.get k, (E.rb k).up hm⟩
  · exact h x z
end
mutual
theorem dp_same {K : PySem.W.Frag} {H H' : Hp} (s : Same H H') : ∀ (d : PyData) (v : V), Dp K H v d → Dp K H' v d
  | .none, _, h => by
    cases h
    exact .non
  | .bool _, _, h => by
    cases h
    exact .bl _
  | .int _, _, h => by
    cases h
    exact .int _
  | .str _, _, h => by
    cases h
    exact .str _
  | .list ds, _, h => by
    cases h with
    | lst h1 h2 => exact .lst (s.seq h1) (dp_sameAll s ds _ h2)
  | .tuple ds, _, h => by
    cases h with
    | tup h1 h2 => exact .tup (Same.tup s h1) (dp_sameAll s ds _ h2)
  | .dict _, _, h => by cases h
theorem dp_sameAll {K : PySem.W.Frag} {H H' : Hp} (s : Same H H') : ∀ (ds : List PyData) (vs : List V), DpAll K H vs ds → DpAll K H' vs ds
  | [], _, h => by
    cases h
    exact .nil
  | d :: ds, _, h => by
    cases h with
    | cons h1 h2 => exact .cons (dp_same s d _ h1) (dp_sameAll s ds _ h2)
end
/-- a list's cell is no tuple's -/
theorem tup_put {K : PySem.W.Frag} {H : Hp} {D p : Addr} {L xs : List V} {o : HO} (hD : H D = some (.lst L)) (e : SqT K H p xs) : SqT K (upd H D o) p xs := by
  rcases e with (e | ⟨z, e⟩) | e
  · refine Or.inl (Or.inl ?_)
    rw [upd_ne (ne_of e hD (by intro z; cases z))]
    exact e
  · refine Or.inl (Or.inr ⟨z, ?_⟩)
    rw [upd_ne (ne_of e hD (by intro z; cases z))]
    exact e
  · exact Or.inr e
mutual
def noL : PyData → Bool
  | .list _ => false
  | .tuple ds => noLAll ds
  | .dict _ => false
  | _ => true
def noLAll : List PyData → Bool
  | [] => true
  | d :: ds => noL d && noLAll ds
end
mutual
theorem dp_put {K : PySem.W.Frag} {H : Hp} {D : Addr} {L : List V} {o : HO} (hD : H D = some (.lst L)) : ∀ (d : PyData) (v : V), noL d = true → Dp K H v d → Dp K (upd H D o) v d
  | .none, _, _, h => by
    cases h
    exact .non
  | .bool _, _, _, h => by
    cases h
    exact .bl _
  | .int _, _, _, h => by
    cases h
    exact .int _
  | .str _, _, _, h => by
    cases h
    exact .str _
  | .list ds, _, n, h => by
    rw [noL] at n
    cases n
  | .tuple ds, _, n, h => by
    rw [noL] at n
    cases h with
    | tup h1 h2 => exact .tup (tup_put hD h1) (dp_putAll hD ds _ n h2)
  | .dict _, _, _, h => by cases h
theorem dp_putAll {K : PySem.W.Frag} {H : Hp} {D : Addr} {L : List V} {o : HO} (hD : H D = some (.lst L)) : ∀ (ds : List PyData) (vs : List V), noLAll ds = true → DpAll K H vs ds → DpAll K (upd H D o) vs ds
  | [], _, _, h => by
    cases h
    exact .nil
  | d :: ds, _, n, h => by
    rw [noLAll, Bool.and_eq_true] at n
    cases h with
    | cons h1 h2 => exact .cons (dp_put hD d _ n.1 h1) (dp_putAll hD ds _ n.2 h2)
end
end Gd
set_option linter.all false
/-! roots: plain Lean -/
namespace QM
theorem dvd_pow' (a : Nat) {k : Nat} (h : k ≠ 0) : a ∣ a ^ k := by
  obtain ⟨j, rfl⟩ := Nat.exists_eq_succ_of_ne_zero h
  rw [Nat.pow_succ]
  exact Nat.dvd_mul_left a _
theorem ipow_le {a b : Int} (ha : 0 ≤ a) (h : a ≤ b) (k : Nat) : a ^ k ≤ b ^ k := by
  have h1 : a.natAbs ^ k ≤ b.natAbs ^ k := Nat.pow_le_pow_left (by omega) k
  rw [← Int.natAbs_pow, ← Int.natAbs_pow] at h1
  have h2 : 0 ≤ a ^ k := Int.pow_nonneg ha
  have h3 : 0 ≤ b ^ k := Int.pow_nonneg (by omega)
  omega
theorem pow_inj {a b k : Nat} (h : k ≠ 0) (e : a ^ k = b ^ k) : a = b := by
  rcases Nat.lt_trichotomy a b with x | x | x
  · have := Nat.pow_lt_pow_left x h
    omega
  · exact x
  · have := Nat.pow_lt_pow_left x h
    omega
theorem ipow_inj {a b : Int} {k : Nat} (h : k ≠ 0) (ha : 0 ≤ a) (hb : 0 ≤ b) (e : a ^ k = b ^ k) : a = b := by
  have h1 : a.natAbs ^ k = b.natAbs ^ k := by rw [← Int.natAbs_pow, ← Int.natAbs_pow, e]
  have := pow_inj h h1
  omega
theorem qpow_inj {a b : Rat} {k : Nat} (h : k ≠ 0) (ha : 0 < a) (hb : 0 < b) (e : a ^ k = b ^ k) : a = b := by
  have h1 := num_pos ha
  have h2 := num_pos hb
  have e1 : a.num ^ k = b.num ^ k := by rw [← npow, ← npow, e]
  have e2 : a.den ^ k = b.den ^ k := by rw [← dpow, ← dpow, e]
  exact Rat.ext (ipow_inj h (by omega) (by omega) e1) (pow_inj h e2)
/-- the root of a fraction from those of its parts -/
theorem rootQ {k : Nat} (hk : k ≠ 0) {q : Rat} {s t : Int} (hs0 : 0 < s) (ht0 : 0 < t) (hs : s ^ k = q.num) (ht : t ^ k = (q.den : Int)) : ∃ r : Rat, 0 < r ∧ r ^ k = q ∧ r.num = s ∧ (r.den : Int) = t := by
  have e1 : s.natAbs ^ k = q.num.natAbs := by rw [← Int.natAbs_pow, hs]
  have e2 : t.natAbs ^ k = q.den := by
    have h : (t ^ k).natAbs = ((q.den : Int)).natAbs := by rw [ht]
    rw [Int.natAbs_pow, Int.natAbs_natCast] at h
    exact h
  have hc : Nat.Coprime s.natAbs t.natAbs := by
    have c : Nat.Coprime (s.natAbs ^ k) (t.natAbs ^ k) := by
      rw [e1, e2]
      exact q.reduced
    have d1 : s.natAbs ∣ s.natAbs ^ k := dvd_pow' _ hk
    have d2 : t.natAbs ∣ t.natAbs ^ k := dvd_pow' _ hk
    exact Nat.Coprime.coprime_dvd_left d1 (Nat.Coprime.coprime_dvd_right d2 c)
  have hz : t.natAbs ≠ 0 := by omega
  refine ⟨⟨s, t.natAbs, hz, hc⟩, ?_, ?_, rfl, by show ((t.natAbs : Nat) : Int) = t; omega⟩
  · have h1 : (0 : Rat) ≤ ⟨s, t.natAbs, hz, hc⟩ := Rat.num_nonneg.mp (by show 0 ≤ s; omega)
    have h2 : (⟨s, t.natAbs, hz, hc⟩ : Rat) ≠ 0 := fun e => by
      have h3 : s = 0 := congrArg Rat.num e
      omega
    exact Rat.lt_of_le_of_ne h1 (fun e => h2 e.symm)
  · refine Rat.ext ?_ ?_
    · rw [npow]
      exact hs
    · rw [dpow]
      exact e2
/-- Newton's step -/
theorem mono {r s : Int} (hr : 0 ≤ r) (hs : 0 ≤ s) (k : Nat) : r * s ^ k + s * r ^ k ≤ r * r ^ k + s * s ^ k := by
  have key : 0 ≤ (r ^ k - s ^ k) * (r - s) := by
    rcases Int.le_total r s with h | h
    · have h1 : r ^ k ≤ s ^ k := ipow_le hr h k
      have := Int.mul_nonneg (show 0 ≤ s ^ k - r ^ k by omega) (show 0 ≤ s - r by omega)
      grind
    · have h1 : s ^ k ≤ r ^ k := ipow_le hs h k
      exact Int.mul_nonneg (by omega) (by omega)
  grind
theorem amgm {r s : Int} (hr : 0 ≤ r) (hs : 0 ≤ s) : ∀ k : Nat, ((k : Int) + 1) * s * r ^ k ≤ (k : Int) * (r * r ^ k) + s * s ^ k
  | 0 => by simp
  | k + 1 => by
    have h1 := amgm hr hs k
    have h2 := mono hr hs (k + 1)
    have h3 := Int.mul_le_mul_of_nonneg_left h1 hr
    rw [Int.pow_succ, Int.pow_succ] at *
    push_cast
    grind
theorem newton_ge {n r s : Int} {k : Nat} (hr : 1 ≤ r) (hs : 0 ≤ s) (h : s ^ (k + 1) ≤ n) : s ≤ ((k : Int) * r + n.fdiv (r ^ k)).fdiv ((k : Int) + 1) := by
  have hp : 0 < r ^ k := Int.pow_pos (by omega)
  have h1 := amgm (show 0 ≤ r by omega) hs k
  rw [Int.pow_succ] at h
  rw [Int.fdiv_eq_ediv_of_nonneg _ (Int.le_of_lt hp), Int.fdiv_eq_ediv_of_nonneg _ (by omega)]
  rw [Int.le_ediv_iff_mul_le (by omega)]
  have h2 : ((k : Int) + 1) * s - k * r ≤ n / r ^ k := by
    rw [Int.le_ediv_iff_mul_le hp]
    grind
  grind
theorem newton_le {n r : Int} {k : Nat} (hr : 1 ≤ r) (h : r ≤ ((k : Int) * r + n.fdiv (r ^ k)).fdiv ((k : Int) + 1)) : r ^ (k + 1) ≤ n := by
  have hp : 0 < r ^ k := Int.pow_pos (by omega)
  rw [Int.fdiv_eq_ediv_of_nonneg _ (Int.le_of_lt hp), Int.fdiv_eq_ediv_of_nonneg _ (by omega)] at h
  rw [Int.le_ediv_iff_mul_le (by omega)] at h
  have h2 : r ≤ n / r ^ k := by grind
  rw [Int.le_ediv_iff_mul_le hp] at h2
  rw [Int.pow_succ]
  grind
theorem start_ge {n s : Int} {k b : Nat} (hs : 0 ≤ s) (hb : n.natAbs < 2 ^ b) (hk : 0 < k) (h : s ^ k ≤ n) : s ≤ 1 * 2 ^ (b / k + 1) := by
  rw [Int.one_mul]
  rcases Int.le_total s (2 ^ (b / k + 1)) with z | z
  · exact z
  · exfalso
    have h1 : ((2 : Int) ^ (b / k + 1)) ^ k ≤ s ^ k := ipow_le (Int.le_of_lt (Int.pow_pos (by decide))) z k
    rw [← Int.pow_mul] at h1
    have h2 : b ≤ (b / k + 1) * k := by
      have := Nat.lt_div_mul_add (a := b) hk
      rw [Nat.add_mul, Nat.one_mul]
      omega
    have h3 : (2 : Nat) ^ b ≤ 2 ^ ((b / k + 1) * k) := Nat.pow_le_pow_right (by decide) h2
    have h4 : ((2 ^ b : Nat) : Int) ≤ ((2 ^ ((b / k + 1) * k) : Nat) : Int) := Int.ofNat_le.mpr h3
    rw [Int.natCast_pow, Int.natCast_pow] at h4
    have h5 : ((n.natAbs : Nat) : Int) < ((2 ^ b : Nat) : Int) := Int.ofNat_lt.mpr hb
    rw [Int.natCast_pow] at h5
    have e2 : ((2 : Nat) : Int) = 2 := rfl
    rw [e2] at h4 h5
    omega
theorem small_root {n s : Int} {k : Nat} (hs : 0 ≤ s) (hk : 1 ≤ k) (h : s ^ k ≤ n) : s ≤ n := by
  have h1 := le_npow s.natAbs hk
  have h2 : (s ^ k).natAbs = s.natAbs ^ k := Int.natAbs_pow s k
  have h3 : 0 ≤ s ^ k := Int.pow_nonneg hs
  omega
theorem pow01 {n : Int} (h0 : 0 ≤ n) (h2 : n < 2) {k : Nat} (hk : 1 ≤ k) : n ^ k ≤ n := by
  obtain ⟨j, rfl⟩ : ∃ j, k = j + 1 := ⟨k - 1, by omega⟩
  have e : n = 0 ∨ n = 1 := by omega
  rcases e with rfl | rfl
  · rw [Int.pow_succ, Int.mul_zero]
    exact Int.le_refl _
  · rw [Int.one_pow]
    exact Int.le_refl _
/-- the scale between two pairs -/
def U (c4 c6 e4 e6 : Int) (u : Rat) : Prop := 0 < u ∧ u ^ 4 * (e4 : Rat) = (c4 : Rat) ∧ u ^ 6 * (e6 : Rat) = (c6 : Rat)
theorem cz {a : Int} : (a : Rat) = 0 ↔ a = 0 := by
  constructor
  · intro h
    exact_mod_cast h
  · rintro rfl
    rfl
theorem pp {u : Rat} (h : 0 < u) (k : Nat) : u ^ k ≠ 0 := fun e => by
  have h1 := Rat.pow_pos (n := k) h
  rw [e] at h1
  exact absurd h1 (by decide)
theorem U.z4 {c4 c6 e4 e6 : Int} {u : Rat} (h : U c4 c6 e4 e6 u) : c4 = 0 ↔ e4 = 0 := by
  obtain ⟨h0, h1, h2⟩ := h
  have := pp h0 4
  rw [← cz, ← cz (a := e4), ← h1]
  grind
theorem U.z6 {c4 c6 e4 e6 : Int} {u : Rat} (h : U c4 c6 e4 e6 u) : c6 = 0 ↔ e6 = 0 := by
  obtain ⟨h0, h1, h2⟩ := h
  have := pp h0 6
  rw [← cz, ← cz (a := e6), ← h2]
  grind
theorem U.uniq {c4 c6 e4 e6 : Int} {u v : Rat} (z : e4 ≠ 0 ∨ e6 ≠ 0) (h : U c4 c6 e4 e6 u) (k : U c4 c6 e4 e6 v) : u = v := by
  obtain ⟨h0, h1, h2⟩ := h
  obtain ⟨k0, k1, k2⟩ := k
  rcases z with z | z
  · have z' : (e4 : Rat) ≠ 0 := fun e => z (cz.mp e)
    exact qpow_inj (k := 4) (by decide) h0 k0 (by grind)
  · have z' : (e6 : Rat) ≠ 0 := fun e => z (cz.mp e)
    exact qpow_inj (k := 6) (by decide) h0 k0 (by grind)
theorem U.p4 {c4 c6 e4 e6 : Int} {u : Rat} (z : e4 ≠ 0) (h : U c4 c6 e4 e6 u) : u ^ 4 = Rat.divInt c4 e4 := by
  obtain ⟨h0, h1, h2⟩ := h
  have z' : (e4 : Rat) ≠ 0 := fun e => z (cz.mp e)
  rw [Rat.divInt_eq_div]
  grind
theorem U.p6 {c4 c6 e4 e6 : Int} {u : Rat} (z : e6 ≠ 0) (h : U c4 c6 e4 e6 u) : u ^ 6 = Rat.divInt c6 e6 := by
  obtain ⟨h0, h1, h2⟩ := h
  have z' : (e6 : Rat) ≠ 0 := fun e => z (cz.mp e)
  rw [Rat.divInt_eq_div]
  grind
theorem U.p2 {c4 c6 e4 e6 : Int} {u : Rat} (z4 : c4 ≠ 0) (z6 : e6 ≠ 0) (h : U c4 c6 e4 e6 u) : u ^ 2 = Rat.divInt (c6 * e4) (e6 * c4) := by
  obtain ⟨h0, h1, h2⟩ := h
  have z6' : (e6 : Rat) ≠ 0 := fun e => z6 (cz.mp e)
  have z4' : (c4 : Rat) ≠ 0 := fun e => z4 (cz.mp e)
  have := pp h0 4
  rw [Rat.divInt_eq_div, Rat.intCast_mul, Rat.intCast_mul]
  have e : (c6 : Rat) * e4 = u ^ 2 * (e6 * c4) := by
    rw [← h1, ← h2]
    grind
  grind
theorem U.of4 {c4 e4 : Int} {u : Rat} (z : e4 ≠ 0) (h0 : 0 < u) (h : u ^ 4 = Rat.divInt c4 e4) : U c4 0 e4 0 u := by
  have z' : (e4 : Rat) ≠ 0 := fun e => z (cz.mp e)
  rw [Rat.divInt_eq_div] at h
  refine ⟨h0, by grind, by grind⟩
theorem U.of6 {c6 e6 : Int} {u : Rat} (z : e6 ≠ 0) (h0 : 0 < u) (h : u ^ 6 = Rat.divInt c6 e6) : U 0 c6 0 e6 u := by
  have z' : (e6 : Rat) ≠ 0 := fun e => z (cz.mp e)
  rw [Rat.divInt_eq_div] at h
  refine ⟨h0, by grind, by grind⟩
theorem U.of2 {c4 c6 e4 e6 : Int} {u : Rat} (z4 : c4 ≠ 0) (y4 : e4 ≠ 0) (z6 : e6 ≠ 0) (h0 : 0 < u) (h : u ^ 2 = Rat.divInt (c6 * e4) (e6 * c4)) : U c4 c6 e4 e6 u ↔ (u.num * u.num) * (u.num * u.num) * e4 = (u.den * u.den) * (u.den * u.den) * c4 := by
  have z6' : (e6 : Rat) ≠ 0 := fun e => z6 (cz.mp e)
  have z4' : (c4 : Rat) ≠ 0 := fun e => z4 (cz.mp e)
  have y4' : (e4 : Rat) ≠ 0 := fun e => y4 (cz.mp e)
  have hd := denR u
  have hu := as_div u
  rw [Rat.divInt_eq_div, Rat.intCast_mul, Rat.intCast_mul] at h
  have k : u ^ 4 * (e4 : Rat) = c4 ↔ (u.num * u.num) * (u.num * u.num) * e4 = ((u.den : Int) * u.den) * (u.den * u.den) * c4 := by
    rw [← Rat.intCast_inj]
    simp only [Rat.intCast_mul]
    constructor
    · intro e
      grind
    · intro e
      grind
  constructor
  · rintro ⟨_, h1, _⟩
    exact k.mp h1
  · intro e
    have h1 := k.mpr e
    refine ⟨h0, h1, ?_⟩
    have h3 : u ^ 6 = u ^ 4 * u ^ 2 := by grind
    have h5 : (e6 : Rat) * c4 ≠ 0 := fun e => by
      rcases Rat.mul_eq_zero.mp e with e | e
      · exact z6' e
      · exact z4' e
    have h6 : u ^ 2 * ((e6 : Rat) * c4) = c6 * e4 := by
      rw [h]
      grind
    have h7 : u ^ 6 * e6 * c4 = c6 * c4 := by
      rw [h3]
      have : u ^ 4 * u ^ 2 * e6 * c4 = u ^ 4 * (u ^ 2 * (e6 * c4)) := by grind
      rw [this, h6, ← h1]
      grind
    grind
theorem div_ne {n d : Int} (h : n ≠ 0) (k : d ≠ 0) : Rat.divInt n d ≠ 0 := fun e => by
  have hn : (n : Rat) ≠ 0 := fun e => h (cz.mp e)
  have hd : (d : Rat) ≠ 0 := fun e => k (cz.mp e)
  rw [Rat.divInt_eq_div] at e
  grind
theorem qpos {u : Rat} (h : 0 < u) (k : Nat) : 0 < u ^ k := Rat.pow_pos h
theorem U.pos6 {c4 c6 e4 e6 : Int} {u : Rat} (z : e6 ≠ 0) (h : U c4 c6 e4 e6 u) : 0 < (Rat.divInt c6 e6).num := by
  rw [← U.p6 z h]
  exact num_pos (qpos h.1 6)
theorem U.pos4 {c4 c6 e4 e6 : Int} {u : Rat} (z : e4 ≠ 0) (h : U c4 c6 e4 e6 u) : 0 < c4 * e4 := by
  have h1 : 0 < (Rat.divInt c4 e4).num := by
    rw [← U.p4 z h]
    exact num_pos (qpos h.1 4)
  rw [Rat.num_divInt] at h1
  have h2 : 0 < e4.sign * c4 := by
    have hg : (0 : Int) < ((Int.gcd e4 c4 : Nat) : Int) := by
      have := Int.gcd_pos_of_ne_zero_left c4 z
      omega
    have h3 := (Int.le_ediv_iff_mul_le (a := 1) (b := e4.sign * c4) hg).mp (by omega)
    omega
  rcases Int.lt_trichotomy e4 0 with y | y | y
  · rw [Int.sign_eq_neg_one_of_neg y] at h2
    exact Int.mul_pos_of_neg_of_neg (by omega) y
  · exact absurd y z
  · rw [Int.sign_eq_one_of_pos y] at h2
    exact Int.mul_pos (by omega) y
theorem U.sq4 {c4 c6 e4 e6 : Int} {u r : Rat} (z : e4 ≠ 0) (h : U c4 c6 e4 e6 u) (r0 : 0 < r) (re : r ^ 2 = Rat.divInt c4 e4) : u ^ 2 = r := by
  refine qpow_inj (k := 2) (by decide) (qpos h.1 2) r0 ?_
  rw [re, ← U.p4 z h]
  grind
theorem U.sq4' {c4 c6 e4 e6 : Int} {u : Rat} (z : e4 ≠ 0) (h : U c4 c6 e4 e6 u) : (u ^ 2) ^ 2 = Rat.divInt c4 e4 := by
  rw [← U.p4 z h]
  grind
theorem U.cb6 {c4 c6 e4 e6 : Int} {u r : Rat} (z : e6 ≠ 0) (h : U c4 c6 e4 e6 u) (r0 : 0 < r) (re : r ^ 3 = Rat.divInt c6 e6) : u ^ 2 = r := by
  refine qpow_inj (k := 3) (by decide) (qpos h.1 2) r0 ?_
  rw [re, ← U.p6 z h]
  grind
theorem U.cb6' {c4 c6 e4 e6 : Int} {u : Rat} (z : e6 ≠ 0) (h : U c4 c6 e4 e6 u) : (u ^ 2) ^ 3 = Rat.divInt c6 e6 := by
  rw [← U.p6 z h]
  grind
theorem U.iff {c4 c6 e4 e6 : Int} {u : Rat} (h : 0 < u) : U c4 c6 e4 e6 u ↔ (e6 : Rat) * u ^ 6 = (c6 : Rat) ∧ (e4 : Rat) * u ^ 4 = (c4 : Rat) := by
  unfold U
  constructor
  · rintro ⟨_, h1, h2⟩
    exact ⟨by grind, by grind⟩
  · rintro ⟨h1, h2⟩
    exact ⟨h, by grind, by grind⟩
end QM
set_option Elab.async false
set_option linter.all false
set_option maxRecDepth 100000
namespace L2
open PySem PySem.Spec PyProof.Rows
section
variable {X : Cx}
def rIsqrt : List V → Hp → VK → Prop := fun vs H Q => ∃ a : Int, vs = [.int a] ∧ 0 ≤ a ∧ a.natAbs < 2 ^ 4000 ∧ Q (.int ((Float64.isqrt a.toNat : Nat) : Int)) H
theorem isq_int1 {i : Int} {us : List Value} (r : Vals [V.int i] us) : ∃ t, us = [Value.int i t] := by
  obtain ⟨t, u, h⟩ := Vals.int2 (i := i) (j := i) (us := us ++ us) (by
    cases r with
    | cons a b => cases b; exact .cons a (.cons a .nil))
  match us, h with
  | [_], h => exact ⟨t, by simp at h; rw [h.1]⟩
  | [], h => simp at h
  | _ :: _ :: _, h => simp at h
theorem cr_isqrt : CallR X (.builtin "math.isqrt") rIsqrt := by
  intro pins s σ H vs us Q I r h
  obtain ⟨a, rfl, h0, h1, q⟩ := h
  obtain ⟨t, rfl⟩ := isq_int1 r
  have hl : a.toNat.log2 ≤ 3999 := PySem.W.mg_log (k := 3999) (by rw [show a.toNat = a.natAbs by omega]; exact h1)
  exact call_function_meets PySem.W.MGF.kind_isqrt PySem.W.MGF.plain_isqrt PySem.W.MGF.entry_isqrt (PySem.W.MGF.args_isqrt _) (PySem.W.mg_run_isqrt a t (by omega) (by omega) (by omega)).meets ⟨.int _, H, I.tok _, ⟨_, rfl⟩, q⟩
end
end L2
namespace QM
/-- the whole root of a number -/
theorem isqrt_is {n : Int} (h : 0 ≤ n) : ((PySem.Float64.isqrt n.toNat : Nat) : Int) * ((PySem.Float64.isqrt n.toNat : Nat) : Int) ≤ n ∧ ∀ s : Int, 0 ≤ s → s * s ≤ n → s ≤ ((PySem.Float64.isqrt n.toNat : Nat) : Int) := by
  obtain ⟨a, b⟩ := PySem.Float64.isqrt_spec n.toNat
  generalize PySem.Float64.isqrt n.toNat = q at a b
  have e : ((n.toNat : Nat) : Int) = n := Int.toNat_of_nonneg h
  have a' : (q : Int) * q ≤ n := by rw [← e]; exact_mod_cast a
  have b' : n < ((q : Int) + 1) * (q + 1) := by rw [← e]; exact_mod_cast b
  refine ⟨a', fun s hs h1 => ?_⟩
  rcases (show (q : Int) < s ∨ s ≤ q by omega) with z | z
  · exfalso
    have := Int.mul_le_mul (show (q : Int) + 1 ≤ s by omega) (show (q : Int) + 1 ≤ s by omega) (by omega) hs
    omega
  · exact z
end QM
/-! Reckoning modulo n, inverses by Euclid's divisions: plain mathematics. -/
set_option linter.all false
namespace K45M
/-- one modulo n -/
def Mo (n a b : Int) : Prop := a % n = b % n
section
variable {n a b c d : Int}
theorem Mo.rfl' : Mo n a a := rfl
theorem Mo.of_eq (h : a = b) : Mo n a b := by rw [h]; exact Mo.rfl'
theorem Mo.symm (h : Mo n a b) : Mo n b a := Eq.symm h
theorem Mo.trans (h : Mo n a b) (k : Mo n b c) : Mo n a c := Eq.trans h k
theorem Mo.add (h : Mo n a b) (k : Mo n c d) : Mo n (a + c) (b + d) := by
  unfold Mo at *
  rw [Int.add_emod, h, k, ← Int.add_emod]
theorem Mo.sub (h : Mo n a b) (k : Mo n c d) : Mo n (a - c) (b - d) := by
  unfold Mo at *
  rw [Int.sub_emod, h, k, ← Int.sub_emod]
theorem Mo.mul (h : Mo n a b) (k : Mo n c d) : Mo n (a * c) (b * d) := by
  unfold Mo at *
  rw [Int.mul_emod, h, k, ← Int.mul_emod]
theorem Mo.neg (h : Mo n a b) : Mo n (-a) (-b) := by
  have := (Mo.rfl' (n := n) (a := 0)).sub h
  rw [Int.zero_sub, Int.zero_sub] at this
  exact this
theorem Mo.mod : Mo n (a % n) a := Int.emod_emod_of_dvd a (Int.dvd_refl n)
theorem Mo.iff_dvd : Mo n a b ↔ n ∣ a - b := by
  unfold Mo
  exact Int.emod_eq_emod_iff_emod_sub_eq_zero.trans (Int.dvd_iff_emod_eq_zero).symm
theorem Mo.zero : Mo n a 0 ↔ n ∣ a := by
  rw [Mo.iff_dvd, Int.sub_zero]
/-- a digit -/
def Dg (n a : Int) : Prop := 0 ≤ a ∧ a < n
theorem Dg.eq (ha : Dg n a) (hb : Dg n b) (h : Mo n a b) : a = b := by
  unfold Mo at h
  rwa [Int.emod_eq_of_lt ha.1 ha.2, Int.emod_eq_of_lt hb.1 hb.2] at h
theorem Dg.mod (hn : 0 < n) : Dg n (a % n) := ⟨Int.emod_nonneg _ (by omega), Int.emod_lt_of_pos _ hn⟩
/-- z has an inverse -/
def Un (n z : Int) : Prop := ∃ t, Mo n (z * t) 1
theorem Un.mul {y z : Int} (hy : Un n y) (hz : Un n z) : Un n (y * z) := by
  obtain ⟨s, hs⟩ := hy
  obtain ⟨t, ht⟩ := hz
  refine ⟨s * t, ?_⟩
  have := hs.mul ht
  rw [Int.mul_one] at this
  exact (Mo.of_eq (by ac_rfl)).trans this
theorem Un.one : Un n 1 := ⟨1, Mo.rfl'⟩
theorem Un.congr {y z : Int} (h : Mo n y z) (hy : Un n y) : Un n z := by
  obtain ⟨s, hs⟩ := hy
  exact ⟨s, (h.symm.mul Mo.rfl').trans hs⟩
theorem Un.of_mul {y z : Int} (h : Un n (y * z)) : Un n y ∧ Un n z := by
  obtain ⟨s, hs⟩ := h
  exact ⟨⟨z * s, (Mo.of_eq (by ac_rfl)).trans hs⟩, ⟨y * s, (Mo.of_eq (by ac_rfl)).trans hs⟩⟩
theorem Un.cancel {z : Int} (hz : Un n z) (h : Mo n (a * z) (b * z)) : Mo n a b := by
  obtain ⟨t, ht⟩ := hz
  have h1 := h.mul (Mo.rfl' (a := t))
  have e : ∀ x : Int, Mo n (x * z * t) x := fun x => by
    have := (Mo.rfl' (a := x)).mul ht
    rw [Int.mul_one, ← Int.mul_assoc] at this
    exact this
  exact (e a).symm.trans (h1.trans (e b))
/-- Bezout -/
theorem bez : ∀ (m k : Nat), ∃ x y : Int, (m : Int) * x + (k : Int) * y = ((Nat.gcd m k : Nat) : Int) := by
  intro m
  induction m using Nat.strongRecOn with
  | ind m ih =>
    intro k
    rcases Nat.eq_zero_or_pos m with h | h
    · subst h
      exact ⟨0, 1, by simp⟩
    · obtain ⟨x, y, e⟩ := ih (k % m) (Nat.mod_lt _ h) m
      rw [Nat.gcd_rec m k]
      refine ⟨y - (k / m : Nat) * x, x, ?_⟩
      rw [← e]
      have : (k : Int) = (m : Int) * ((k / m : Nat) : Int) + ((k % m : Nat) : Int) := by exact_mod_cast (Nat.div_add_mod k m).symm
      generalize ((k / m : Nat) : Int) = q at *
      generalize ((k % m : Nat) : Int) = r at *
      rw [this]
      grind
theorem un_iff (hn : 0 < n) {z : Int} : Un n z ↔ Int.gcd z n = 1 := by
  constructor
  · rintro ⟨t, ht⟩
    have h := Mo.iff_dvd.mp ht
    have g1 : (Int.gcd z n : Int) ∣ z := Int.gcd_dvd_left ..
    have g2 : (Int.gcd z n : Int) ∣ n := Int.gcd_dvd_right ..
    have g3 : (Int.gcd z n : Int) ∣ z * t - 1 := Int.dvd_trans g2 h
    have g4 : (Int.gcd z n : Int) ∣ 1 := by
      have := Int.dvd_sub (Int.dvd_mul_of_dvd_left (b := z) (c := t) g1) g3
      rw [show z * t - (z * t - 1) = 1 by omega] at this
      exact this
    exact Nat.dvd_one.mp (Int.natCast_dvd_natCast.mp g4)
  · intro h
    obtain ⟨x, y, e⟩ := bez z.natAbs n.natAbs
    have h' : Nat.gcd z.natAbs n.natAbs = 1 := h
    rw [h'] at e
    have en : (n.natAbs : Int) = n := by omega
    rw [en] at e
    rcases Int.natAbs_eq z with q | q
    · refine ⟨x, Mo.iff_dvd.mpr ⟨-y, ?_⟩⟩
      rw [q]
      have : n * -y = -(n * y) := Int.mul_neg ..
      omega
    · refine ⟨-x, Mo.iff_dvd.mpr ⟨-y, ?_⟩⟩
      rw [q]
      have : n * -y = -(n * y) := Int.mul_neg ..
      have : -(z.natAbs : Int) * -x = (z.natAbs : Int) * x := Int.neg_mul_neg ..
      omega
theorem gcd_congr (h : Mo n a b) : Int.gcd a n = Int.gcd b n := by
  obtain ⟨q, hq⟩ := Mo.iff_dvd.mp h
  have : a = b + n * q := by omega
  rw [this, Int.gcd_add_mul_left_left]
theorem gcd_unit (hn : 0 < n) {z : Int} (hz : Un n z) (a : Int) : Int.gcd (a * z) n = Int.gcd a n := by
  have := (un_iff hn).mp hz
  show Nat.gcd (a * z).natAbs n.natAbs = Nat.gcd a.natAbs n.natAbs
  rw [Int.natAbs_mul]
  exact Nat.Coprime.gcd_mul_right_cancel _ this
theorem zero_unit {z : Int} (hz : Un n z) : Mo n (a * z) 0 ↔ Mo n a 0 := by
  constructor
  · intro h
    exact hz.cancel (h.trans (Mo.of_eq (Int.zero_mul z).symm))
  · intro h
    exact (h.mul Mo.rfl').trans (Mo.of_eq (Int.zero_mul z))
end
/-! ### Euclid's divisions with one row of factors -/
/-- above * a is high modulo n, below * a is low; the factors stay small -/
structure Eu (n a : Int) (high low above below : Int) : Prop where
  h0 : 0 < high
  l0 : 0 ≤ low
  ha : Mo n (above * a) high
  la : Mo n (below * a) low
  g : Nat.gcd high.natAbs low.natAbs = Nat.gcd a.natAbs n.natAbs
  sz : high * (below.natAbs : Int) + low * (above.natAbs : Int) = n
  sg : above * below ≤ 0
  lt : low < high
  hn : high ≤ n
theorem Eu.start {n a : Int} (hn : 0 < n) : Eu n a n (a % n) 0 1 := by
  refine ⟨hn, Int.emod_nonneg _ (by omega), ?_, ?_, ?_, by simp, by decide, Int.emod_lt_of_pos _ hn, Int.le_refl _⟩
  · rw [Int.zero_mul]
    exact (Mo.zero.mpr (Int.dvd_refl n)).symm
  · rw [Int.one_mul]
    exact Mo.mod.symm
  · have := gcd_congr (n := n) (a := a % n) (b := a) Mo.mod
    rw [Nat.gcd_comm]
    exact this
theorem natAbs_step {u v q : Int} (h : u * v ≤ 0) (hq : 0 ≤ q) : ((u - q * v).natAbs : Int) = (u.natAbs : Int) + q * (v.natAbs : Int) := by
  have hqv : q * (v.natAbs : Int) = ((q * v).natAbs : Int) := by
    rw [Int.natAbs_mul, Int.natCast_mul]
    congr 1
    omega
  rw [hqv]
  rcases Int.lt_trichotomy v 0 with hv | hv | hv
  · have u0 : 0 ≤ u := Int.not_lt.mp fun z => by
      have := Int.mul_pos_of_neg_of_neg z hv
      omega
    have : q * v ≤ 0 := Int.mul_nonpos_of_nonneg_of_nonpos hq (by omega)
    omega
  · subst hv
    rw [Int.mul_zero]
    omega
  · have u0 : u ≤ 0 := Int.not_lt.mp fun z => by
      have := Int.mul_pos z hv
      omega
    have : 0 ≤ q * v := Int.mul_nonneg hq (by omega)
    omega
theorem Eu.step {n a high low above below : Int} (h : Eu n a high low above below) (hl : low ≠ 0) : Eu n a low (high % low) below (above - high / low * below) ∧ high % low < low := by
  obtain ⟨h0, l0, ha, la, g, sz, sg, lt, hn⟩ := h
  have lp : 0 < low := by omega
  have q0 : 0 ≤ high / low := Int.ediv_nonneg (by omega) l0
  have em : high % low = high - high / low * low := by
    have := Int.emod_def high low
    rw [this, Int.mul_comm]
  refine ⟨⟨lp, Int.emod_nonneg _ hl, la, ?_, ?_, ?_, ?_, Int.emod_lt_of_pos _ lp, by omega⟩, Int.emod_lt_of_pos _ lp⟩
  · rw [em]
    have e : (above - high / low * below) * a = above * a - high / low * (below * a) := by grind
    rw [e]
    exact ha.sub (Mo.rfl'.mul la)
  · rw [← g]
    have : (high % low).natAbs = high.natAbs % low.natAbs := by
      obtain ⟨x, rfl⟩ : ∃ x : Nat, high = x := ⟨high.toNat, by omega⟩
      obtain ⟨y, rfl⟩ : ∃ y : Nat, low = y := ⟨low.toNat, by omega⟩
      rw [← Int.natCast_emod]
      rfl
    rw [this, Nat.gcd_comm low.natAbs, ← Nat.gcd_rec, Nat.gcd_comm]
  · rw [natAbs_step sg q0, em, ← sz]
    generalize (below.natAbs : Int) = u
    generalize (above.natAbs : Int) = v
    grind
  · have e : below * (above - high / low * below) = above * below - high / low * (below * below) := by grind
    rw [e]
    have b2 : 0 ≤ below * below := by
      rcases Int.le_total 0 below with q | q
      · exact Int.mul_nonneg q q
      · exact Int.mul_nonneg_of_nonpos_of_nonpos q q
    have := Int.mul_nonneg q0 b2
    omega
theorem Eu.small {n a high low above below : Int} (h : Eu n a high low above below) (hl : low ≠ 0) : (above.natAbs : Int) ≤ n ∧ (below.natAbs : Int) ≤ n := by
  obtain ⟨h0, l0, ha, la, g, sz, sg, lt, hn⟩ := h
  have h1 : 1 * (below.natAbs : Int) ≤ high * (below.natAbs : Int) := Int.mul_le_mul_of_nonneg_right (by omega) (by omega)
  have h2 : 1 * (above.natAbs : Int) ≤ low * (above.natAbs : Int) := Int.mul_le_mul_of_nonneg_right (by omega) (by omega)
  omega
/-- r is the inverse of a modulo n -/
def Inv (n a r : Int) : Prop := Dg n r ∧ Mo n (a * r) 1
theorem Inv.uniq {n a r s : Int} (h : Inv n a r) (k : Inv n a s) : r = s := by
  refine h.1.eq k.1 ?_
  have hu : Un n a := ⟨r, h.2⟩
  refine hu.cancel ?_
  rw [Int.mul_comm r, Int.mul_comm s]
  exact h.2.trans k.2.symm
theorem Inv.un {n a r : Int} (h : Inv n a r) : Un n r := ⟨a, by rw [Int.mul_comm]; exact h.2⟩
theorem Eu.inv {n a high above below : Int} (h : Eu n a high 0 above below) (hn : 0 < n) (hg : Nat.gcd a.natAbs n.natAbs = 1) : Inv n a (above % n) := by
  have g := h.g
  have h0 := h.h0
  rw [hg] at g
  have h1 : high = 1 := by
    simp at g
    omega
  refine ⟨Dg.mod hn, ?_⟩
  have := h.ha
  rw [h1, Int.mul_comm] at this
  exact (Mo.rfl'.mul Mo.mod).trans this
theorem Eu.inv1 {n a high above below : Int} (h : Eu n a high 1 above below) (hn : 0 < n) : Inv n a (below % n) := by
  refine ⟨Dg.mod hn, ?_⟩
  have := h.la
  rw [Int.mul_comm] at this
  exact (Mo.rfl'.mul Mo.mod).trans this
theorem Eu.rest {n a high low above below : Int} (h : Eu n a high low above below) (hg : Nat.gcd a.natAbs n.natAbs = 1) (hl : 1 < low) : high % low ≠ 0 := by
  intro z
  have g := h.g
  rw [hg] at g
  have : low.natAbs ∣ high.natAbs := Int.natAbs_dvd_natAbs.mpr (Int.dvd_of_emod_eq_zero z)
  rw [Nat.gcd_eq_right this] at g
  omega
/-! ### points modulo n -/
abbrev Pt := Option (Int × Int)
inductive R
  | ok (P : Pt)
  | br (d : Option Int)
open Classical in
noncomputable def iv (n z : Int) : Int := if h : ∃ r, Inv n z r then h.choose else 0
theorem iv_eq {n z r : Int} (h : Inv n z r) : iv n z = r := by
  have e : ∃ r, Inv n z r := ⟨r, h⟩
  unfold iv
  rw [dif_pos e]
  exact e.choose_spec.uniq h
noncomputable def dv (n x y z upper lower : Int) : R :=
  if Int.gcd lower n = 1 then
    .ok (some ((upper * iv n lower * (upper * iv n lower) - x - z) % n, (upper * iv n lower * (x - (upper * iv n lower * (upper * iv n lower) - x - z) % n) - y) % n))
  else .br (some (Int.gcd lower n))
/-- the sum of two points, as the law reckons -/
noncomputable def sumR (n a : Int) : Pt → Pt → R
  | none, Q => .ok Q
  | some P, none => .ok (some P)
  | some (x, y), some (z, w) => if x = z then (if (y + w) % n = 0 then .ok none else if y ≠ w then .br none else dv n x y z (3 * x * x + a) (2 * y)) else dv n x y z (w - y) (z - x)
/-- three letters for a point -/
structure Rep (n X Y x y z : Int) : Prop where
  dX : Dg n X
  dY : Dg n Y
  dx : Dg n x
  dy : Dg n y
  dz : Dg n z
  u : Un n z
  ex : Mo n x (X * (z * z))
  ey : Mo n y (Y * (z * z * z))
section
variable {n a X Y x y z : Int}
theorem dv_k {x y z upper lower k : Int} (hn : 0 < n) (hu : Un n lower) (hk : Mo n (k * lower) upper) : dv n x y z upper lower = .ok (some ((k * k - x - z) % n, (k * (x - (k * k - x - z) % n) - y) % n)) := by
  have hg : Int.gcd lower n = 1 := (un_iff hn).mp hu
  obtain ⟨t, ht⟩ := hu
  have hi : Inv n lower (t % n) := ⟨Dg.mod hn, (Mo.rfl'.mul Mo.mod).trans ht⟩
  have e : iv n lower = t % n := iv_eq hi
  unfold dv
  rw [if_pos hg, e]
  have hm : Mo n (upper * (t % n)) k := by
    refine (hk.symm.mul Mo.rfl').trans ?_
    have := (Mo.rfl' (n := n) (a := k)).mul hi.2
    rw [Int.mul_one, ← Int.mul_assoc] at this
    exact this
  have e1 : (upper * (t % n) * (upper * (t % n)) - x - z) % n = (k * k - x - z) % n := ((hm.mul hm).sub Mo.rfl').sub Mo.rfl'
  rw [e1]
  have e2 : (upper * (t % n) * (x - (k * k - x - z) % n) - y) % n = (k * (x - (k * k - x - z) % n) - y) % n := (hm.mul Mo.rfl').sub Mo.rfl'
  rw [e2]
theorem two_zero (h2 : Un n 2) {y : Int} : (y + y) % n = 0 ↔ Mo n y 0 := by
  have e : y + y = y * 2 := by omega
  rw [e]
  have := zero_unit (a := y) h2
  unfold Mo at this ⊢
  rw [Int.zero_emod] at this ⊢
  exact this
theorem Rep.y0 (h : Rep n X Y x y z) : y = 0 ↔ Mo n Y 0 := by
  have uz := (h.u.mul h.u).mul h.u
  constructor
  · intro e
    have := h.ey
    rw [e] at this
    exact (zero_unit uz).mp this.symm
  · intro e
    have := h.ey.trans ((zero_unit uz).mpr e)
    exact h.dy.eq ⟨Int.le_refl 0, by have := h.dy; unfold Dg at this; omega⟩ this
theorem sumR_ss (n a x y z w : Int) : sumR n a (some (x, y)) (some (z, w)) = if x = z then (if (y + w) % n = 0 then .ok none else if y ≠ w then .br none else dv n x y z (3 * x * x + a) (2 * y)) else dv n x y z (w - y) (z - x) := rfl
theorem dbl_zero (h : Rep n X Y x y z) (h2 : Un n 2) (hy : y = 0) : sumR n a (some (X, Y)) (some (X, Y)) = .ok none := by
  rw [sumR_ss, if_pos rfl, if_pos ((two_zero h2).mpr (h.y0.mp hy))]
theorem gcd_2Y (h : Rep n X Y x y z) (hn : 0 < n) (h2 : Un n 2) : Int.gcd (2 * Y) n = Int.gcd y n := by
  rw [Int.mul_comm, gcd_unit hn h2, gcd_congr h.ey, gcd_unit hn ((h.u.mul h.u).mul h.u)]
theorem dbl_br (h : Rep n X Y x y z) (hn : 0 < n) (h2 : Un n 2) (hy : y ≠ 0) (hg : Int.gcd y n ≠ 1) : sumR n a (some (X, Y)) (some (X, Y)) = .br (some (Int.gcd y n)) := by
  rw [sumR_ss, if_pos rfl, if_neg (fun e => hy (h.y0.mpr ((two_zero h2).mp e))), if_neg (by simp)]
  unfold dv
  rw [gcd_2Y h hn h2, if_neg hg]
theorem dbl_ok (h : Rep n X Y x y z) (hn : 0 < n) (h2 : Un n 2) (hy : y ≠ 0) (hg : Int.gcd y n = 1) {yy zz s m x3 y3 z3 : Int}
    (e1 : yy = y * y % n) (e2 : zz = z * z % n) (e3 : s = 4 * x * yy % n) (e4 : m = (3 * x * x + a * zz * zz) % n) (e5 : x3 = (m * m - 2 * s) % n) (e6 : y3 = (m * (s - x3) - 8 * yy * yy) % n) (e7 : z3 = 2 * y * z % n) :
    ∃ X3 Y3, sumR n a (some (X, Y)) (some (X, Y)) = .ok (some (X3, Y3)) ∧ Rep n X3 Y3 x3 y3 z3 := by
  have u2Y : Un n (2 * Y) := (un_iff hn).mpr ((gcd_2Y h hn h2).trans hg)
  have uY := (Un.of_mul u2Y).2
  obtain ⟨t, ht⟩ := u2Y
  obtain ⟨k, hk⟩ : ∃ k, k = (3 * X * X + a) * t := ⟨_, rfl⟩
  have hkm : Mo n (k * (2 * Y)) (3 * X * X + a) := by
    rw [hk]
    have := (Mo.rfl' (n := n) (a := 3 * X * X + a)).mul ht
    rw [Int.mul_one] at this
    exact (Mo.of_eq (by ac_rfl)).trans this
  have hs : sumR n a (some (X, Y)) (some (X, Y)) = .ok (some ((k * k - X - X) % n, (k * (X - (k * k - X - X) % n) - Y) % n)) := by
    rw [sumR_ss, if_pos rfl, if_neg (fun e => hy (h.y0.mpr ((two_zero h2).mp e))), if_neg (by simp), dv_k hn ⟨t, ht⟩ hkm]
  refine ⟨_, _, hs, ?_⟩
  have hx := h.ex
  have hyy := h.ey
  have m1 : Mo n yy (Y * (z * z * z) * (Y * (z * z * z))) := by
    rw [e1]
    exact Mo.mod.trans (hyy.mul hyy)
  have m2 : Mo n zz (z * z) := by
    rw [e2]
    exact Mo.mod
  have m3 : Mo n s (4 * (X * (z * z)) * (Y * (z * z * z) * (Y * (z * z * z)))) := by
    rw [e3]
    exact Mo.mod.trans (((Mo.rfl').mul hx).mul m1)
  have m4 : Mo n m (k * (2 * Y) * (z * z * (z * z))) := by
    rw [e4]
    refine Mo.mod.trans ?_
    refine (((Mo.rfl'.mul hx).mul hx).add ((Mo.rfl'.mul m2).mul m2)).trans ?_
    refine Mo.trans (Mo.of_eq ?_) (hkm.symm.mul Mo.rfl')
    grind
  have m7 : Mo n z3 (2 * (Y * (z * z * z)) * z) := by
    rw [e7]
    exact Mo.mod.trans ((Mo.rfl'.mul hyy).mul Mo.rfl')
  have m5 : Mo n x3 ((k * k - X - X) * (2 * (Y * (z * z * z)) * z * (2 * (Y * (z * z * z)) * z))) := by
    rw [e5]
    refine Mo.mod.trans (((m4.mul m4).sub (Mo.rfl'.mul m3)).trans (Mo.of_eq ?_))
    grind
  have m6 : Mo n y3 ((k * (X - (k * k - X - X)) - Y) * (2 * (Y * (z * z * z)) * z * (2 * (Y * (z * z * z)) * z) * (2 * (Y * (z * z * z)) * z))) := by
    rw [e6]
    refine Mo.mod.trans (((m4.mul (m3.sub m5)).sub ((Mo.rfl'.mul m1).mul m1)).trans (Mo.of_eq ?_))
    grind
  have uz3 : Un n (2 * (Y * (z * z * z)) * z) := (h2.mul (uY.mul ((h.u.mul h.u).mul h.u))).mul h.u
  refine ⟨Dg.mod hn, Dg.mod hn, by rw [e5]; exact Dg.mod hn, by rw [e6]; exact Dg.mod hn, by rw [e7]; exact Dg.mod hn, uz3.congr m7.symm, ?_, ?_⟩
  · exact m5.trans (Mo.mod.symm.mul (m7.symm.mul m7.symm))
  · refine m6.trans (Mo.mul ?_ ((m7.symm.mul m7.symm).mul m7.symm))
    exact (Mo.sub (Mo.rfl'.mul (Mo.rfl'.sub Mo.mod.symm)) Mo.rfl').trans Mo.mod.symm
/-- what is reckoned of a point and a further one -/
structure Jn (n X Y x y z p q zz lifted across up : Int) : Prop where
  ezz : zz = z * z % n
  el : lifted = q * zz * z
  ea : across = (p * zz - x) % n
  eu : up = (lifted - y) % n
section
variable {p q zz lifted across up : Int}
theorem Jn.acr (j : Jn n X Y x y z p q zz lifted across up) (h : Rep n X Y x y z) : Mo n across ((p - X) * (z * z)) := by
  rw [j.ea, j.ezz]
  exact Mo.mod.trans (((Mo.rfl'.mul Mo.mod).sub h.ex).trans (Mo.of_eq (by grind)))
theorem Jn.lif (j : Jn n X Y x y z p q zz lifted across up) : Mo n lifted (q * (z * z * z)) := by
  rw [j.el, j.ezz]
  exact ((Mo.rfl'.mul Mo.mod).mul Mo.rfl').trans (Mo.of_eq (by grind))
theorem Jn.upp (j : Jn n X Y x y z p q zz lifted across up) (h : Rep n X Y x y z) : Mo n up ((q - Y) * (z * z * z)) := by
  rw [j.eu]
  exact Mo.mod.trans ((j.lif.sub h.ey).trans (Mo.of_eq (by grind)))
theorem dg0 (hn : 0 < n) : Dg n 0 := ⟨Int.le_refl _, hn⟩
theorem sub_zero_iff {a b : Int} (ha : Dg n a) (hb : Dg n b) : Mo n (a - b) 0 ↔ a = b := by
  constructor
  · intro h
    refine ha.eq hb ?_
    have := h.add (Mo.rfl' (a := b))
    rw [Int.sub_add_cancel, Int.zero_add] at this
    exact this
  · rintro rfl
    exact Mo.of_eq (Int.sub_self _)
theorem Jn.across0 (j : Jn n X Y x y z p q zz lifted across up) (h : Rep n X Y x y z) (hn : 0 < n) (hp : Dg n p) : across = 0 ↔ X = p := by
  have uz := h.u.mul h.u
  have da : Dg n across := by rw [j.ea]; exact Dg.mod hn
  constructor
  · intro e
    have := j.acr h
    rw [e] at this
    exact ((sub_zero_iff hp h.dX).mp ((zero_unit uz).mp this.symm)).symm
  · intro e
    exact da.eq (dg0 hn) ((j.acr h).trans ((zero_unit uz).mpr ((sub_zero_iff hp h.dX).mpr e.symm)))
theorem Jn.up0 (j : Jn n X Y x y z p q zz lifted across up) (h : Rep n X Y x y z) (hn : 0 < n) (hq : Dg n q) : up = 0 ↔ Y = q := by
  have uz := (h.u.mul h.u).mul h.u
  have da : Dg n up := by rw [j.eu]; exact Dg.mod hn
  constructor
  · intro e
    have := j.upp h
    rw [e] at this
    exact ((sub_zero_iff hq h.dY).mp ((zero_unit uz).mp this.symm)).symm
  · intro e
    exact da.eq (dg0 hn) ((j.upp h).trans ((zero_unit uz).mpr ((sub_zero_iff hq h.dY).mpr e.symm)))
theorem mod0 {a : Int} : a % n = 0 ↔ Mo n a 0 := by
  unfold Mo
  rw [Int.zero_emod]
theorem Jn.opp (j : Jn n X Y x y z p q zz lifted across up) (h : Rep n X Y x y z) : (lifted + y) % n = 0 ↔ (Y + q) % n = 0 := by
  have uz := (h.u.mul h.u).mul h.u
  rw [mod0, mod0, ← zero_unit (a := Y + q) uz]
  have e : Mo n (lifted + y) ((Y + q) * (z * z * z)) := (j.lif.add h.ey).trans (Mo.of_eq (by grind))
  exact ⟨fun w => e.symm.trans w, fun w => e.trans w⟩
theorem Jn.gcd (j : Jn n X Y x y z p q zz lifted across up) (h : Rep n X Y x y z) (hn : 0 < n) : Int.gcd (p - X) n = Int.gcd across n := by
  rw [gcd_congr (j.acr h), gcd_unit hn (h.u.mul h.u)]
theorem join_br (j : Jn n X Y x y z p q zz lifted across up) (h : Rep n X Y x y z) (hn : 0 < n) (hp : Dg n p) (h0 : across ≠ 0) (hg : Int.gcd across n ≠ 1) : sumR n a (some (X, Y)) (some (p, q)) = .br (some (Int.gcd across n)) := by
  rw [sumR_ss, if_neg (fun e => h0 ((j.across0 h hn hp).mpr e))]
  unfold dv
  rw [j.gcd h hn, if_neg hg]
theorem join_ok (j : Jn n X Y x y z p q zz lifted across up) (h : Rep n X Y x y z) (hn : 0 < n) (hp : Dg n p) (h0 : across ≠ 0) (hg : Int.gcd across n = 1) {square cube bs x3 y3 z3 : Int}
    (e1 : square = across * across % n) (e2 : cube = square * across % n) (e3 : bs = x * square % n) (e4 : x3 = (up * up - cube - 2 * bs) % n) (e5 : y3 = (up * (bs - x3) - y * cube) % n) (e6 : z3 = z * across % n) :
    ∃ X3 Y3, sumR n a (some (X, Y)) (some (p, q)) = .ok (some (X3, Y3)) ∧ Rep n X3 Y3 x3 y3 z3 := by
  have ud : Un n (p - X) := (un_iff hn).mpr ((j.gcd h hn).trans hg)
  have ud2 := ud
  obtain ⟨t, ht⟩ := ud
  obtain ⟨k, hk⟩ : ∃ k, k = (q - Y) * t := ⟨_, rfl⟩
  have hkm : Mo n (k * (p - X)) (q - Y) := by
    rw [hk]
    have := (Mo.rfl' (n := n) (a := q - Y)).mul ht
    rw [Int.mul_one] at this
    exact (Mo.of_eq (by ac_rfl)).trans this
  have hs : sumR n a (some (X, Y)) (some (p, q)) = .ok (some ((k * k - X - p) % n, (k * (X - (k * k - X - p) % n) - Y) % n)) := by
    rw [sumR_ss, if_neg (fun e => h0 ((j.across0 h hn hp).mpr e)), dv_k hn ⟨t, ht⟩ hkm]
  refine ⟨_, _, hs, ?_⟩
  have ma := j.acr h
  have mu : Mo n up (k * (p - X) * (z * z * z)) := (j.upp h).trans (hkm.symm.mul Mo.rfl')
  have m1 : Mo n square ((p - X) * (z * z) * ((p - X) * (z * z))) := by
    rw [e1]
    exact Mo.mod.trans (ma.mul ma)
  have m2 : Mo n cube ((p - X) * (z * z) * ((p - X) * (z * z)) * ((p - X) * (z * z))) := by
    rw [e2]
    exact Mo.mod.trans (m1.mul ma)
  have m3 : Mo n bs (X * (z * z) * ((p - X) * (z * z) * ((p - X) * (z * z)))) := by
    rw [e3]
    exact Mo.mod.trans (h.ex.mul m1)
  have m6 : Mo n z3 (z * ((p - X) * (z * z))) := by
    rw [e6]
    exact Mo.mod.trans (Mo.rfl'.mul ma)
  have m4 : Mo n x3 ((k * k - X - p) * (z * ((p - X) * (z * z)) * (z * ((p - X) * (z * z))))) := by
    rw [e4]
    refine Mo.mod.trans ((((mu.mul mu).sub m2).sub (Mo.rfl'.mul m3)).trans (Mo.of_eq ?_))
    grind
  have m5 : Mo n y3 ((k * (X - (k * k - X - p)) - Y) * (z * ((p - X) * (z * z)) * (z * ((p - X) * (z * z))) * (z * ((p - X) * (z * z))))) := by
    rw [e5]
    refine Mo.mod.trans (((mu.mul (m3.sub m4)).sub (h.ey.mul m2)).trans (Mo.of_eq ?_))
    grind
  have uz3 : Un n (z * ((p - X) * (z * z))) := h.u.mul (ud2.mul (h.u.mul h.u))
  refine ⟨Dg.mod hn, Dg.mod hn, by rw [e4]; exact Dg.mod hn, by rw [e5]; exact Dg.mod hn, by rw [e6]; exact Dg.mod hn, uz3.congr m6.symm, ?_, ?_⟩
  · exact m4.trans (Mo.mod.symm.mul (m6.symm.mul m6.symm))
  · refine m5.trans (Mo.mul ?_ ((m6.symm.mul m6.symm).mul m6.symm))
    exact (Mo.sub (Mo.rfl'.mul (Mo.rfl'.sub Mo.mod.symm)) Mo.rfl').trans Mo.mod.symm
end
/-- from three letters to two -/
theorem settle (h : Rep n X Y x y z) (hn : 0 < n) {t : Int} (ht : Inv n z t) : x * (t * t % n) % n = X ∧ y * (t * t % n) * t % n = Y := by
  have e1 : Mo n (z * t) 1 := ht.2
  constructor
  · refine (Dg.mod hn).eq h.dX (Mo.mod.trans ((h.ex.mul Mo.mod).trans ?_))
    have := (Mo.rfl' (a := X)).mul (e1.mul e1)
    rw [Int.mul_one, Int.mul_one] at this
    exact (Mo.of_eq (by grind)).trans this
  · refine (Dg.mod hn).eq h.dY (Mo.mod.trans (((h.ey.mul Mo.mod).mul Mo.rfl').trans ?_))
    have := (Mo.rfl' (a := Y)).mul ((e1.mul e1).mul e1)
    rw [Int.mul_one, Int.mul_one, Int.mul_one] at this
    exact (Mo.of_eq (by grind)).trans this
/-! ### walks -/
/-- one figure -/
noncomputable def st (n a : Int) (p : Int × Int) (b : Bool) (P : Pt) : R :=
  match sumR n a P P with
  | .br d => .br d
  | .ok P1 => if b = true then sumR n a P1 (some p) else .ok P1
noncomputable def wk (n a : Int) (p : Int × Int) (k : Nat) : Nat → Pt → R
  | 0, P => .ok P
  | j + 1, P => match st n a p (k / 2 ^ j % 2 == 1) P with
    | .br d => .br d
    | .ok P' => wk n a p k j P'
/-- sizes -/
def PtOk (n : Int) : Pt → Prop
  | none => True
  | some P => Dg n P.1 ∧ Dg n P.2
def ROk (n : Int) : R → Prop
  | .ok P => PtOk n P
  | .br none => True
  | .br (some d) => 0 ≤ d ∧ d ≤ n
theorem dv_ok (hn : 0 < n) {x y z u l : Int} : ROk n (dv n x y z u l) := by
  unfold dv
  split
  · exact ⟨Dg.mod hn, Dg.mod hn⟩
  · refine ⟨by omega, ?_⟩
    have := Int.gcd_le_right l hn
    exact this
theorem sum_ok (hn : 0 < n) {P S : Pt} (hP : PtOk n P) (hS : PtOk n S) : ROk n (sumR n a P S) := by
  match P, S, hP, hS with
  | none, Q, _, hS => exact hS
  | some P, none, hP, _ => exact hP
  | some (x, y), some (z, w), hP, hS =>
    rw [sumR_ss]
    split
    · split
      · trivial
      · split
        · trivial
        · exact dv_ok hn
    · exact dv_ok hn
end
end K45M
/-! Curves of five numbers over a ring without divisors of nought: chords and tangents by one slope, sums, the law of three. Plain mathematics. -/
set_option linter.all false
namespace EcF
open Lean.Grind
section
variable {R : Type} [CommRing R]
structure Cu (R : Type) where
  a1 : R
  a2 : R
  a3 : R
  a4 : R
  a6 : R
/-- no divisors of nought -/
def Nz (R : Type) [CommRing R] : Prop := ∀ a b : R, a * b = 0 → a = 0 ∨ b = 0
def On (c : Cu R) (x y : R) : Prop := y * y + c.a1 * x * y + c.a3 * y = x * x * x + c.a2 * x * x + c.a4 * x + c.a6
/-- k is the slope of the line through two points of the curve, or of the tangent -/
def Sl (c : Cu R) (k x y z w : R) : Prop := k * (z - x) = w - y ∧ k * (y + w + c.a1 * z + c.a3) = x * x + x * z + z * z + c.a2 * (x + z) + c.a4 - c.a1 * y
def tx (c : Cu R) (k x z : R) : R := k * k + c.a1 * k - c.a2 - x - z
def ng (c : Cu R) (x y : R) : R := -y - c.a1 * x - c.a3
variable {c : Cu R} {k x y z w e s t : R}
theorem Sl.comm (h : Sl c k x y z w) : Sl c k z w x y := by
  unfold Sl at *
  grind
theorem Sl.line (h : Sl c k x y z w) (e : R) : k * (e - x) + y = k * (e - z) + w := by
  unfold Sl at h
  grind
theorem tx_comm : tx c k x z = tx c k z x := by
  unfold tx
  grind
theorem Sl.rot (h : Sl c k x y z w) (he : e = tx c k x z) : Sl c k z w e (k * (e - x) + y) := by
  unfold Sl tx at *
  grind
theorem Sl.third (h : Sl c k x y z w) (he : e = tx c k x z) : tx c k z e = x := by
  unfold Sl tx at *
  grind
theorem Sl.on (h : Sl c k x y z w) (o : On c x y) (he : e = tx c k x z) : On c e (k * (e - x) + y) := by
  unfold Sl tx On at *
  obtain ⟨h1, h2⟩ := h
  cases c with
  | mk a1 a2 a3 a4 a6 =>
    dsimp only at *
    have e1 : w = k * (z - x) + y := by grind
    have e2 : a4 = k * (y + w + a1 * z + a3) - (x * x + x * z + z * z + a2 * (x + z) - a1 * y) := by grind
    have e3 : a6 = y * y + a1 * x * y + a3 * y - (x * x * x + a2 * x * x + a4 * x) := by grind
    subst e3
    subst e2
    subst e1
    subst he
    clear h1 h2 o
    grind
theorem On.ng (o : On c x y) : On c x (ng c x y) := by
  unfold On EcF.ng at *
  grind
theorem ng_ng : ng c x (ng c x y) = y := by
  unfold ng
  grind
theorem Sl.ng (h : Sl c k x y z w) : Sl c (-k - c.a1) x (ng c x y) z (ng c z w) := by
  unfold Sl EcF.ng at *
  grind
theorem tx_ng : tx c (-k - c.a1) x z = tx c k x z := by
  unfold tx
  grind
/-- a point where the curve has no one tangent -/
def Flat (c : Cu R) : Prop := ∀ x y : R, On c x y → 2 * y + c.a1 * x + c.a3 = 0 → 3 * x * x + 2 * c.a2 * x + c.a4 - c.a1 * y = 0 → False
/-- the slope is one -/
theorem Sl.uniq (nz : Nz R) {k' : R} (h : Sl c k x y z w) (h' : Sl c k' x y z w) (o : On c x y) (o' : On c z w) (hn : ¬(z = x ∧ w = EcF.ng c x y)) : k = k' := by
  have h1 : (k - k') * (z - x) = 0 := by
    unfold Sl at *
    grind
  have h2 : (k - k') * (y + w + c.a1 * z + c.a3) = 0 := by
    unfold Sl at *
    grind
  rcases nz _ _ h1 with g | g
  · grind
  · rcases nz _ _ h2 with g2 | g2
    · grind
    · exfalso
      refine hn ⟨by grind, ?_⟩
      unfold EcF.ng
      grind
/-- in the frame of the first line: the second lines' slopes -/
theorem frame1 (nz : Nz R) {a1 a3 b cc d e s q t : R} (h1 : d = s * (cc - b)) (h2 : s * (d + a1 * cc + a3) = cc * (cc - e)) (h3 : q = s * s + a1 * s + e - cc) (h4 : t * q = -(s * (q - b)) - a1 * q - a3) (h5 : t * -(s * (q - b)) = (q - b) * (q - e)) (hb : ¬(q = 0 ∧ b = 0)) : s * t = e - q := by
  have e1 : (q - b) * (s * t - (e - q)) = 0 := by grind
  rcases nz _ _ e1 with g | g
  · have e2 : q = b := by grind
    subst e2
    have e3 : q * (s * t - (e - q)) = 0 := by grind
    rcases nz _ _ e3 with g2 | g2
    · exact absurd ⟨g2, g2⟩ hb
    · grind
  · grind
theorem frame2 {a1 a3 b cc d e s q t u : R} (h1 : d = s * (cc - b)) (h2 : s * (d + a1 * cc + a3) = cc * (cc - e)) (h3 : q = s * s + a1 * s + e - cc) (h4 : t * q = -(s * (q - b)) - a1 * q - a3) (h6 : s * t = e - q) (hu : u = s + t) : u * (cc - e) = d + a1 * e + a3 ∧ u * (d + a1 * (cc - e)) = cc * (cc - b) + a1 * (a1 * e + a3) := by
  have g1 : cc = s * (s + t + a1) := by grind
  have g2 : (s + t + a1) * q = s * b - a3 := by grind
  have g3 : a3 = s * b - (s + t + a1) * q := by grind
  have g4 : q = e - s * t := by grind
  subst hu
  subst g3
  subst g4
  subst g1
  subst h1
  constructor
  · grind
  · grind
theorem mv1 {k a y w : R} (h : k * a = w - y) : w = y + k * a := by grind
theorem mv2 {l p q r : R} (h : l = p + q - r) : q = l - (p - r) := by grind
theorem frame3 {a1 a3 b cc d e s q t E : R} (h1 : d = s * (cc - b)) (h2 : s * (d + a1 * cc + a3) = cc * (cc - e)) (h3 : q = s * s + a1 * s + e - cc) (h4 : t * q = -(s * (q - b)) - a1 * q - a3) (h6 : s * t = e - q) (hE : E = t * t + a1 * t + b + e - q) : (s + t) * (E - e) - a1 * e - a3 = t * E := by
  have g3 : a3 = s * b - (s + t + a1) * q := by
    clear h1 h2 h3 hE h6
    grind
  have g4 : q = e - s * t := by
    clear h1 h2 h3 h4 g3 hE
    grind
  subst hE
  subst g3
  subst g4
  clear h1 h2 h3 h4 h6
  grind
section
variable {a1 a2 a3 a4 x1 y1 x2 y2 x3 y3 xa xc yc : R}
theorem fr1 (k1 : k * (x2 - x1) = y2 - y1) (s1 : s * (x3 - x2) = y3 - y2) : y3 - y1 - k * (x3 - x1) = (s - k) * ((x3 - x1) - (x2 - x1)) := by grind
theorem fr2 (k1 : k * (x2 - x1) = y2 - y1) (k2 : k * (y1 + y2 + a1 * x2 + a3) = x1 * x1 + x1 * x2 + x2 * x2 + a2 * (x1 + x2) + a4 - a1 * y1) (s1 : s * (x3 - x2) = y3 - y2)
    (s2 : s * (y2 + y3 + a1 * x3 + a3) = x2 * x2 + x2 * x3 + x3 * x3 + a2 * (x2 + x3) + a4 - a1 * y2) (ea : xa = k * k + a1 * k - a2 - x1 - x2) :
    (s - k) * ((y3 - y1 - k * (x3 - x1)) + (a1 + 2 * k) * (x3 - x1) + (a3 + a1 * x1 + 2 * y1)) = (x3 - x1) * ((x3 - x1) - (xa - x1)) := by
  have e1 := mv1 k1
  have e2 := mv1 s1
  have e3 := mv2 k2
  subst e3
  subst e2
  subst e1
  subst ea
  clear k1 k2 s1
  grind
theorem fr3 (ea : xa = k * k + a1 * k - a2 - x1 - x2) (ec : xc = s * s + a1 * s - a2 - x2 - x3) : xc - x1 = (s - k) * (s - k) + (a1 + 2 * k) * (s - k) + (xa - x1) - (x3 - x1) := by
  subst ea
  subst ec
  grind
theorem fr4 (k1 : k * (x2 - x1) = y2 - y1) (t1 : t * (xc - x1) = yc - y1) (fc : yc = -(s * (xc - x2) + y2) - a1 * xc - a3) :
    (t - k) * (xc - x1) = -((s - k) * ((xc - x1) - (x2 - x1))) - (a1 + 2 * k) * (xc - x1) - (a3 + a1 * x1 + 2 * y1) := by
  have e1 := mv1 k1
  subst fc
  subst e1
  clear k1
  grind
theorem fr5 (k1 : k * (x2 - x1) = y2 - y1) (k2 : k * (y1 + y2 + a1 * x2 + a3) = x1 * x1 + x1 * x2 + x2 * x2 + a2 * (x1 + x2) + a4 - a1 * y1) (t1 : t * (xc - x1) = yc - y1)
    (t2 : t * (y1 + yc + a1 * xc + a3) = x1 * x1 + x1 * xc + xc * xc + a2 * (x1 + xc) + a4 - a1 * y1) (ea : xa = k * k + a1 * k - a2 - x1 - x2) (fc : yc = -(s * (xc - x2) + y2) - a1 * xc - a3) :
    (t - k) * -((s - k) * ((xc - x1) - (x2 - x1))) = ((xc - x1) - (x2 - x1)) * ((xc - x1) - (xa - x1)) := by
  have e1 := mv1 k1
  have e3 := mv2 k2
  subst e3
  subst fc
  subst e1
  subst ea
  clear k1 k2
  grind
theorem fr6 (k1 : k * (x2 - x1) = y2 - y1) (fc : yc = -(s * (xc - x2) + y2) - a1 * xc - a3) (z1 : xc - x1 = 0) (z2 : x2 - x1 = 0) : yc = -y1 - a1 * x1 - a3 := by
  have e1 : x2 = x1 := by grind
  have e2 : xc = x1 := by grind
  subst e1
  subst e2
  grind
theorem fr7 (k1 : k * (x2 - x1) = y2 - y1) (ea : xa = k * k + a1 * k - a2 - x1 - x2) (k2 : k * (y1 + y2 + a1 * x2 + a3) = x1 * x1 + x1 * x2 + x2 * x2 + a2 * (x1 + x2) + a4 - a1 * y1) {u : R}
    (g1 : u * ((x3 - x1) - (xa - x1)) = (y3 - y1 - k * (x3 - x1)) + (a1 + 2 * k) * (xa - x1) + (a3 + a1 * x1 + 2 * y1))
    (g2 : u * ((y3 - y1 - k * (x3 - x1)) + (a1 + 2 * k) * ((x3 - x1) - (xa - x1))) = (x3 - x1) * ((x3 - x1) - (x2 - x1)) + (a1 + 2 * k) * ((a1 + 2 * k) * (xa - x1) + (a3 + a1 * x1 + 2 * y1))) :
    (u + k) * (x3 - xa) = y3 - (-(k * (xa - x1) + y1) - a1 * xa - a3) ∧ (u + k) * ((-(k * (xa - x1) + y1) - a1 * xa - a3) + y3 + a1 * x3 + a3) = xa * xa + xa * x3 + x3 * x3 + a2 * (xa + x3) + a4 - a1 * (-(k * (xa - x1) + y1) - a1 * xa - a3) := by
  have e1 := mv1 k1
  have e3 := mv2 k2
  subst e3
  subst e1
  have e4 : x2 = k * k + a1 * k - a2 - x1 - xa := by
    clear k1 k2 g1 g2
    grind
  clear k1 k2 ea
  constructor
  · clear g2
    grind
  · subst e4
    grind
end
/-- the sum of three, where no two are opposite -/
theorem three (nz : Nz R) {x1 y1 x2 y2 x3 y3 xa ya xc yc : R} (hk : Sl c k x1 y1 x2 y2) (ea : xa = tx c k x1 x2) (fa : ya = EcF.ng c xa (k * (xa - x1) + y1))
    (hs : Sl c s x2 y2 x3 y3) (ec : xc = tx c s x2 x3) (fc : yc = EcF.ng c xc (s * (xc - x2) + y2)) (ht : Sl c t x1 y1 xc yc) (hc : ¬(xc = x1 ∧ yc = EcF.ng c x1 y1)) :
    Sl c (s + t - k) xa ya x3 y3 ∧ tx c (s + t - k) xa x3 = tx c t x1 xc ∧ (s + t - k) * (tx c t x1 xc - xa) + ya = t * (tx c t x1 xc - x1) + y1 := by
  obtain ⟨k1, k2⟩ := hk
  obtain ⟨s1, s2⟩ := hs
  obtain ⟨t1, t2⟩ := ht
  have h1 := fr1 k1 s1
  have h2 := fr2 k1 k2 s1 s2 ea
  have h3 := fr3 ea ec
  have h4 := fr4 k1 t1 fc
  have h5 := fr5 k1 k2 t1 t2 ea fc
  have h6 := frame1 nz h1 h2 h3 h4 h5 fun z => hc ⟨by have := z.1; grind, fr6 k1 fc z.1 z.2⟩
  obtain ⟨g1, g2⟩ := frame2 h1 h2 h3 h4 h6 rfl
  have hE : tx c t x1 xc - x1 = (t - k) * (t - k) + (c.a1 + 2 * k) * (t - k) + (x2 - x1) + (xa - x1) - (xc - x1) := by
    clear h1 h2 h3 h4 h5 h6 g1 g2 k1 k2 s1 s2 t1 t2 fc hc ec fa
    unfold tx at *
    subst ea
    grind
  have h8 := frame3 h1 h2 h3 h4 h6 hE
  have e : s + t - k = (s - k + (t - k)) + k := by grind
  subst fa
  refine ⟨?_, ?_, ?_⟩
  · rw [e]
    exact fr7 k1 ea k2 g1 g2
  · clear h1 h2 h4 h5 g1 g2 k1 k2 s1 s2 t1 t2 fc hc e h8 hE
    unfold tx at *
    grind
  · clear h1 h2 h3 h4 h5 h6 g1 g2 k1 k2 s1 s2 t1 t2 fc hc e hE ea ec
    generalize tx c t x1 xc = E at *
    unfold EcF.ng
    grind
/-! ### points -/
abbrev Pn (R : Type) := Option (R × R)
def OnP (c : Cu R) : Pn R → Prop
  | none => True
  | some (x, y) => On c x y
def neg (c : Cu R) : Pn R → Pn R
  | none => none
  | some (x, y) => some (x, ng c x y)
/-- T is the sum of A and B -/
def Is (c : Cu R) : Pn R → Pn R → Pn R → Prop
  | none, B, T => T = B
  | some a, none, T => T = some a
  | some (x, y), some (z, w), T => ((z = x ∧ w = ng c x y) ∧ T = none) ∨ (¬(z = x ∧ w = ng c x y) ∧ ∃ k, Sl c k x y z w ∧ T = some (tx c k x z, ng c (tx c k x z) (k * (tx c k x z - x) + y)))
variable {A B D T M N X Y : Pn R}
theorem OnP.neg (o : OnP c A) : OnP c (neg c A) := by
  match A, o with
  | none, _ => trivial
  | some (x, y), o => exact On.ng o
theorem neg_neg : neg c (neg c A) = A := by
  match A with
  | none => rfl
  | some (x, y) =>
    show some (x, EcF.ng c x (EcF.ng c x y)) = _
    rw [ng_ng]
theorem opp_comm {x y z w : R} (h : z = x ∧ w = EcF.ng c x y) : x = z ∧ y = EcF.ng c z w := by
  obtain ⟨rfl, rfl⟩ := h
  exact ⟨rfl, ng_ng.symm⟩
theorem Is.comm (h : Is c A B T) : Is c B A T := by
  match A, B, h with
  | none, none, h => exact h
  | none, some b, h => exact h
  | some a, none, h => exact h
  | some (x, y), some (z, w), h =>
    rcases h with ⟨h1, h2⟩ | ⟨h1, k, h2, h3⟩
    · exact .inl ⟨opp_comm h1, h2⟩
    · refine .inr ⟨fun g => h1 (opp_comm g), k, h2.comm, ?_⟩
      rw [tx_comm (x := z), ← h2.line]
      exact h3
theorem Is.on (h : Is c A B T) (oa : OnP c A) (ob : OnP c B) : OnP c T := by
  match A, B, h with
  | none, b, h =>
    have e : T = b := h
    rw [e]
    exact ob
  | some a, none, h =>
    have e : T = some a := h
    rw [e]
    exact oa
  | some (x, y), some (z, w), h =>
    rcases h with ⟨h1, h2⟩ | ⟨h1, k, h2, h3⟩
    · rw [h2]
      trivial
    · rw [h3]
      exact On.ng (h2.on oa rfl)
theorem Is.uniq (nz : Nz R) (oa : OnP c A) (ob : OnP c B) (h : Is c A B T) (h' : Is c A B X) : T = X := by
  match A, B, h, h' with
  | none, _, h, h' => exact Eq.trans h (Eq.symm h')
  | some a, none, h, h' => exact Eq.trans h (Eq.symm h')
  | some (x, y), some (z, w), h, h' =>
    rcases h with ⟨h1, h2⟩ | ⟨h1, k, h2, h3⟩
    · rcases h' with ⟨g1, g2⟩ | ⟨g1, _⟩
      · rw [h2, g2]
      · exact absurd h1 g1
    · rcases h' with ⟨g1, _⟩ | ⟨g1, k', g2, g3⟩
      · exact absurd g1 h1
      · have e := Sl.uniq nz h2 g2 oa ob h1
        subst e
        rw [h3, g3]
/-- a line meets the curve in three points -/
theorem Is.opp (nz : Nz R) (fl : Flat c) (oa : OnP c A) (ob : OnP c B) (h : Is c A B (neg c D)) : Is c B D (neg c A) := by
  match A, B, D, h with
  | none, b, d, h =>
    have e : neg c d = b := h
    subst e
    match d with
    | none => exact rfl
    | some (x, y) => exact .inl ⟨⟨rfl, ng_ng.symm⟩, rfl⟩
  | some a, none, d, h =>
    have e : neg c d = some a := h
    rw [← e, neg_neg]
    exact rfl
  | some (x, y), some (z, w), none, h =>
    rcases h with ⟨⟨h1, h2⟩, _⟩ | ⟨_, k, _, h3⟩
    · subst h1
      subst h2
      exact rfl
    · exact nomatch h3
  | some (x, y), some (z, w), some (e, f), h =>
    rcases h with ⟨_, h2⟩ | ⟨h1, k, h2, h3⟩
    · exact nomatch h2
    · have h3' : (e, EcF.ng c e f) = (tx c k x z, EcF.ng c (tx c k x z) (k * (tx c k x z - x) + y)) := Option.some.inj h3
      have e1 : e = tx c k x z := congrArg Prod.fst h3'
      have e2 : EcF.ng c e f = EcF.ng c e (k * (e - x) + y) := by
        have := congrArg Prod.snd h3'
        rw [e1]
        rw [e1] at this
        exact this
      have e3 : f = k * (e - x) + y := by
        have := congrArg (EcF.ng c e) e2
        rwa [ng_ng, ng_ng] at this
      have h4 := h2.rot e1
      rw [← e3] at h4
      by_cases g : e = z ∧ f = EcF.ng c z w
      · exfalso
        obtain ⟨g1, g2⟩ := g
        have g3 : f = w := by
          have := h4.1
          rw [g1] at this
          clear g2 e3 e2 h2 h4
          grind
        have g4 := h4.2
        rw [g1] at g4
        rw [g3] at g2 g4
        refine fl z w ob ?_ ?_
        · unfold EcF.ng at g2
          clear g4 h4 h2 e2 e3
          grind
        · unfold EcF.ng at g2
          clear h4 h2 e2 e3
          grind
      · refine .inr ⟨g, k, h4, ?_⟩
        show some (x, EcF.ng c x y) = _
        rw [h2.third e1]
        have : k * (x - z) + w = y := by
          have := h2.1
          clear g h4 e2 e3 h2 h1 h3 e1
          grind
        rw [this]
theorem ng_inj {x y w : R} (h : EcF.ng c x y = EcF.ng c x w) : y = w := by
  have := congrArg (EcF.ng c x) h
  rwa [ng_ng, ng_ng] at this
theorem line_ng {e : R} : EcF.ng c e (k * (e - x) + y) = (-k - c.a1) * (e - x) + EcF.ng c x y := by
  unfold EcF.ng
  grind
theorem Is.neg_all (h : Is c A B T) : Is c (neg c A) (neg c B) (neg c T) := by
  match A, B, h with
  | none, b, h =>
    have e : T = b := h
    rw [e]
    exact rfl
  | some a, none, h =>
    have e : T = some a := h
    rw [e]
    exact rfl
  | some (x, y), some (z, w), h =>
    rcases h with ⟨⟨h1, h2⟩, h3⟩ | ⟨h1, k, h2, h3⟩
    · subst h1
      subst h2
      subst h3
      exact .inl ⟨⟨rfl, rfl⟩, rfl⟩
    · subst h3
      refine .inr ⟨?_, -k - c.a1, h2.ng, ?_⟩
      · rintro ⟨g1, g2⟩
        subst g1
        exact h1 ⟨rfl, ng_inj g2⟩
      · show some (tx c k x z, EcF.ng c (tx c k x z) (EcF.ng c (tx c k x z) (k * (tx c k x z - x) + y))) = _
        rw [tx_ng, line_ng (e := tx c k x z)]
theorem Is.canc (nz : Nz R) (fl : Flat c) (oa : OnP c A) (ob : OnP c B) (h : Is c A B T) : Is c T (neg c B) A := by
  have h0 : Is c A B (neg c (neg c T)) := by rw [neg_neg]; exact h
  have h1 := (h0.opp nz fl oa ob).neg_all
  rw [neg_neg, neg_neg] at h1
  exact h1.comm
theorem is_none_iff {a b : R × R} (h : Is c (some a) (some b) T) : T = none ↔ some b = neg c (some a) := by
  obtain ⟨x, y⟩ := a
  obtain ⟨z, w⟩ := b
  rcases h with ⟨⟨h1, h2⟩, h3⟩ | ⟨h1, k, h2, h3⟩
  · subst h1
    subst h2
    exact ⟨fun _ => rfl, fun _ => h3⟩
  · refine ⟨fun e => ?_, fun e => ?_⟩
    · rw [h3] at e
      exact nomatch e
    · have e' : (z, w) = (x, EcF.ng c x y) := Option.some.inj e
      exact absurd ⟨congrArg Prod.fst e', congrArg Prod.snd e'⟩ h1
theorem Is.neg_self : Is c A (neg c A) none := by
  match A with
  | none => exact rfl
  | some (x, y) => exact .inl ⟨⟨rfl, rfl⟩, rfl⟩
/-- the law of three -/
theorem Is.assoc (nz : Nz R) (fl : Flat c) (oa : OnP c A) (ob : OnP c B) (od : OnP c D) (hm : Is c A B M) (hx : Is c M D X) (hn : Is c B D N) (hy : Is c A N Y) : X = Y := by
  have om := hm.on oa ob
  have on := hn.on ob od
  match A, B, D, oa, ob, od, hm, hn, hy, hx with
  | none, b, d, oa, ob, od, hm, hn, hy, hx =>
    have e1 : M = b := hm
    have e2 : Y = N := hy
    subst e1
    subst e2
    exact hx.uniq nz ob od hn
  | some a, none, d, oa, ob, od, hm, hn, hy, hx =>
    have e1 : M = some a := hm
    have e2 : N = d := hn
    subst e1
    subst e2
    exact hx.uniq nz oa od hy
  | some a, some b, none, oa, ob, od, hm, hn, hy, hx =>
    have e1 : N = some b := hn
    have e2 : X = M := hx.comm
    subst e1
    subst e2
    exact hm.uniq nz oa ob hy
  | some a, some b, some d, oa, ob, od, hm, hn, hy, hx =>
    by_cases g1 : some b = neg c (some a)
    · have e1 : M = none := (is_none_iff hm).mpr g1
      subst e1
      have e2 : X = some d := hx
      rw [g1] at hn
      have h1 := (hn.comm).canc nz fl od oa.neg
      rw [neg_neg] at h1
      rw [e2]
      exact h1.comm.uniq nz oa on hy
    by_cases g2 : some d = neg c (some b)
    · have e1 : N = none := (is_none_iff hn).mpr g2
      subst e1
      have e2 : Y = some a := hy
      rw [e2]
      have h1 := hm.canc nz fl oa ob
      rw [← g2] at h1
      exact hx.uniq nz om od h1
    have nm : M ≠ none := fun e => g1 ((is_none_iff hm).mp e)
    have nn : N ≠ none := fun e => g2 ((is_none_iff hn).mp e)
    match M, N, om, on, hm, hn, hx, hy, nm, nn with
    | none, _, _, _, _, _, _, _, nm, _ => exact absurd rfl nm
    | some m, none, _, _, _, _, _, _, _, nn => exact absurd rfl nn
    | some m, some n, om, on, hm, hn, hx, hy, _, _ =>
      by_cases g3 : some d = neg c (some m)
      · have e1 : X = none := (is_none_iff hx).mpr g3
        have h0 : Is c (some a) (some b) (neg c (some d)) := by rw [g3, neg_neg]; exact hm
        have h1 := h0.opp nz fl oa ob
        have e2 := hn.uniq nz ob od h1
        rw [e1, (is_none_iff hy).mpr e2]
      by_cases g4 : some n = neg c (some a)
      · exfalso
        rw [g4] at hn
        have h1 := (hn.opp nz fl ob od).opp nz fl od oa
        have e2 := hm.uniq nz oa ob h1
        refine g3 ?_
        rw [e2, neg_neg]
      obtain ⟨x1, y1⟩ := a
      obtain ⟨x2, y2⟩ := b
      obtain ⟨x3, y3⟩ := d
      obtain ⟨xa, ya⟩ := m
      obtain ⟨xc, yc⟩ := n
      rcases hm with ⟨_, e⟩ | ⟨m1, k, m2, m3⟩
      · exact nomatch e
      rcases hn with ⟨_, e⟩ | ⟨n1, s, n2, n3⟩
      · exact nomatch e
      rcases hx with ⟨⟨z1, z2⟩, _⟩ | ⟨x1', u, u2, u3⟩
      · exact absurd (by rw [z1, z2]; rfl) g3
      rcases hy with ⟨⟨z1, z2⟩, _⟩ | ⟨y1', t, t2, t3⟩
      · exact absurd (by rw [z1, z2]; rfl) g4
      have m4 := Option.some.inj m3
      have n4 := Option.some.inj n3
      have ea : xa = tx c k x1 x2 := congrArg Prod.fst m4
      have fa : ya = EcF.ng c xa (k * (xa - x1) + y1) := by rw [ea]; exact congrArg Prod.snd m4
      have ec : xc = tx c s x2 x3 := congrArg Prod.fst n4
      have fc : yc = EcF.ng c xc (s * (xc - x2) + y2) := by rw [ec]; exact congrArg Prod.snd n4
      obtain ⟨w1, w2, w3⟩ := three nz m2 ea fa n2 ec fc t2 y1'
      have e := u2.uniq nz w1 om od x1'
      subst e
      rw [u3, t3, w2]
      rw [w3]
end
end EcF
/-! Points of a curve of five whole numbers modulo a prime: the sum by digits, and its laws. Plain mathematics. -/
set_option linter.all false
namespace EcZ
open K45M (Mo Dg Un Inv)
def st (p : Int) : Setoid Int := ⟨Mo p, fun _ => Mo.rfl', fun h => h.symm, fun h k => h.trans k⟩
def Zp (p : Int) := Quotient (st p)
def q (p a : Int) : Zp p := Quotient.mk (st p) a
theorem q_eq {p a b : Int} : q p a = q p b ↔ Mo p a b := ⟨fun h => Quotient.exact h, fun h => Quotient.sound (s := st p) h⟩
def zadd {p : Int} (a b : Zp p) : Zp p := Quotient.lift₂ (fun x y => q p (x + y)) (fun _ _ _ _ h k => q_eq.mpr (Mo.add h k)) a b
def zmul {p : Int} (a b : Zp p) : Zp p := Quotient.lift₂ (fun x y => q p (x * y)) (fun _ _ _ _ h k => q_eq.mpr (Mo.mul h k)) a b
def zsub {p : Int} (a b : Zp p) : Zp p := Quotient.lift₂ (fun x y => q p (x - y)) (fun _ _ _ _ h k => q_eq.mpr (Mo.sub h k)) a b
def zneg {p : Int} (a : Zp p) : Zp p := Quotient.lift (fun x => q p (-x)) (fun _ _ h => q_eq.mpr (Mo.neg h)) a
def zpow {p : Int} (a : Zp p) : Nat → Zp p
  | 0 => q p 1
  | n + 1 => zmul (zpow a n) a
instance (p : Int) : Lean.Grind.CommRing (Zp p) where
  add := zadd
  mul := zmul
  neg := zneg
  sub := zsub
  natCast := ⟨fun n => q p n⟩
  ofNat := fun n => ⟨q p n⟩
  nsmul := ⟨fun n a => zmul (q p n) a⟩
  npow := ⟨fun a n => zpow a n⟩
  intCast := ⟨fun i => q p i⟩
  zsmul := ⟨fun i a => zmul (q p i) a⟩
  add_zero a := by
    refine Quotient.inductionOn a fun x => ?_
    show q p (x + 0) = q p x
    rw [Int.add_zero]
  add_comm a b := by
    refine Quotient.inductionOn₂ a b fun x y => ?_
    show q p (x + y) = q p (y + x)
    rw [Int.add_comm]
  add_assoc a b c := by
    refine Quotient.inductionOn₃ a b c fun x y z => ?_
    show q p (x + y + z) = q p (x + (y + z))
    rw [Int.add_assoc]
  mul_assoc a b c := by
    refine Quotient.inductionOn₃ a b c fun x y z => ?_
    show q p (x * y * z) = q p (x * (y * z))
    rw [Int.mul_assoc]
  mul_one a := by
    refine Quotient.inductionOn a fun x => ?_
    show q p (x * 1) = q p x
    rw [Int.mul_one]
  one_mul a := by
    refine Quotient.inductionOn a fun x => ?_
    show q p (1 * x) = q p x
    rw [Int.one_mul]
  mul_zero a := by
    refine Quotient.inductionOn a fun x => ?_
    show q p (x * 0) = q p 0
    rw [Int.mul_zero]
  right_distrib a b c := by
    refine Quotient.inductionOn₃ a b c fun x y z => ?_
    show q p ((x + y) * z) = q p (x * z + y * z)
    rw [Int.add_mul]
  mul_comm a b := by
    refine Quotient.inductionOn₂ a b fun x y => ?_
    show q p (x * y) = q p (y * x)
    rw [Int.mul_comm]
  left_distrib a b c := by
    refine Quotient.inductionOn₃ a b c fun x y z => ?_
    show q p (x * (y + z)) = q p (x * y + x * z)
    rw [Int.mul_add]
  zero_mul a := by
    refine Quotient.inductionOn a fun x => ?_
    show q p (0 * x) = q p 0
    rw [Int.zero_mul]
  pow_zero a := rfl
  pow_succ a n := rfl
  ofNat_succ n := by
    show q p (((n + 1 : Nat) : Int)) = q p ((n : Int) + 1)
    rfl
  neg_add_cancel a := by
    refine Quotient.inductionOn a fun x => ?_
    show q p (-x + x) = q p 0
    rw [Int.add_left_neg]
  sub_eq_add_neg a b := by
    refine Quotient.inductionOn₂ a b fun x y => ?_
    show q p (x - y) = q p (x + -y)
    rw [Int.sub_eq_add_neg]
  neg_zsmul i a := by
    refine Quotient.inductionOn a fun x => ?_
    show q p (-i * x) = q p (-(i * x))
    rw [Int.neg_mul]
  intCast_neg i := rfl
theorem q_mod {p a : Int} : q p (a % p) = q p a := q_eq.mpr Mo.mod
theorem q_dg {p a b : Int} (ha : Dg p a) (hb : Dg p b) (h : q p a = q p b) : a = b := ha.eq hb (q_eq.mp h)
/-- a prime: what is not nought has an inverse -/
def Pp (p : Int) : Prop := 1 < p ∧ ∀ z, ¬Mo p z 0 → Un p z
theorem Pp.nz {p : Int} (hp : Pp p) : EcF.Nz (Zp p) := by
  intro a b
  refine Quotient.inductionOn₂ a b fun x y h => ?_
  have h1 : Mo p (x * y) 0 := Quotient.exact h
  by_cases g : Mo p y 0
  · exact .inr (q_eq.mpr g)
  · exact .inl (q_eq.mpr ((K45M.zero_unit (hp.2 y g)).mp h1))
/-- five whole numbers -/
structure C5 where
  a1 : Int
  a2 : Int
  a3 : Int
  a4 : Int
  a6 : Int
def C5.q (p : Int) (c : C5) : EcF.Cu (Zp p) := ⟨EcZ.q p c.a1, EcZ.q p c.a2, EcZ.q p c.a3, EcZ.q p c.a4, EcZ.q p c.a6⟩
namespace C5
variable (c : C5)
def b2 : Int := c.a1 * c.a1 + 4 * c.a2
def b4 : Int := 2 * c.a4 + c.a1 * c.a3
def b6 : Int := c.a3 * c.a3 + 4 * c.a6
def b8 : Int := c.a1 * c.a1 * c.a6 + 4 * c.a2 * c.a6 - c.a1 * c.a3 * c.a4 + c.a2 * c.a3 * c.a3 - c.a4 * c.a4
def disc : Int := 9 * c.b2 * c.b4 * c.b6 - c.b2 * c.b2 * c.b8 - 8 * (c.b4 * c.b4 * c.b4) - 27 * c.b6 * c.b6
theorem b8_4 : c.b2 * c.b6 - c.b4 * c.b4 = 4 * c.b8 := by
  unfold b2 b4 b6 b8
  grind
end C5
theorem flat_ring {R : Type} [Lean.Grind.CommRing R] {a1 a2 a3 a4 a6 x y b2 b4 b6 b8 : R} (h2 : b2 = a1 * a1 + 4 * a2) (h4 : b4 = 2 * a4 + a1 * a3) (h6 : b6 = a3 * a3 + 4 * a6) (h8 : b8 = a1 * a1 * a6 + 4 * a2 * a6 - a1 * a3 * a4 + a2 * a3 * a3 - a4 * a4)
    (o : y * y + a1 * x * y + a3 * y = x * x * x + a2 * x * x + a4 * x + a6) (f1 : 2 * y + a1 * x + a3 = 0) (f2 : 3 * x * x + 2 * a2 * x + a4 - a1 * y = 0) : 9 * b2 * b4 * b6 - b2 * b2 * b8 - 8 * (b4 * b4 * b4) - 27 * b6 * b6 = 0 := by
  have e3 : a3 = -(2 * y) - a1 * x := by
    clear o f2 h2 h4 h6 h8
    grind
  have e4 : a4 = a1 * y - 3 * x * x - 2 * a2 * x := by
    clear o f1 e3 h2 h4 h6 h8
    grind
  have e6 : a6 = y * y + a1 * x * y + a3 * y - (x * x * x + a2 * x * x + a4 * x) := by
    clear f1 f2 e3 e4 h2 h4 h6 h8
    grind
  clear o f1 f2
  subst e6
  subst e4
  subst e3
  subst h2
  subst h4
  subst h6
  subst h8
  grind
theorem flat_q {p : Int} {c : C5} (h : ¬Mo p c.disc 0) : EcF.Flat (c.q p) := by
  intro x y o f1 f2
  refine h (q_eq.mp ?_)
  exact flat_ring (R := Zp p) (a1 := q p c.a1) (a2 := q p c.a2) (a3 := q p c.a3) (a4 := q p c.a4) (a6 := q p c.a6) (x := x) (y := y) (b2 := q p c.b2) (b4 := q p c.b4) (b6 := q p c.b6) (b8 := q p c.b8) rfl rfl rfl rfl o f1 f2
/-! ### points by digits -/
abbrev Pt := Option (Int × Int)
def PtK (p : Int) (c : C5) : Pt → Prop
  | none => True
  | some (x, y) => Dg p x ∧ Dg p y ∧ EcF.On (c.q p) (q p x) (q p y)
def qp (p : Int) : Pt → EcF.Pn (Zp p)
  | none => none
  | some (x, y) => some (q p x, q p y)
def pneg (p : Int) (c : C5) : Pt → Pt
  | none => none
  | some (x, y) => some (x, (-y - c.a1 * x - c.a3) % p)
/-- the slope -/
noncomputable def slo (p : Int) (c : C5) (x y z w : Int) : Int :=
  if x = z then (3 * x * x + 2 * c.a2 * x + c.a4 - c.a1 * y) * K45M.iv p (2 * y + c.a1 * x + c.a3) else (w - y) * K45M.iv p (z - x)
def far (p : Int) (c : C5) (k x y z : Int) : Int × Int := ((k * k + c.a1 * k - c.a2 - x - z) % p, (-(k * ((k * k + c.a1 * k - c.a2 - x - z) % p - x) + y) - c.a1 * ((k * k + c.a1 * k - c.a2 - x - z) % p) - c.a3) % p)
noncomputable def psum (p : Int) (c : C5) : Pt → Pt → Pt
  | none, B => B
  | some a, none => some a
  | some (x, y), some (z, w) => if z = x ∧ w = (-y - c.a1 * x - c.a3) % p then none else some (far p c (slo p c x y z w) x y z)
section
variable {p : Int} {c : C5} {A B D : Pt}
theorem far_q (k x y z : Int) : qp p (some (far p c k x y z)) = some (EcF.tx (c.q p) (q p k) (q p x) (q p z), EcF.ng (c.q p) (EcF.tx (c.q p) (q p k) (q p x) (q p z)) (q p k * (EcF.tx (c.q p) (q p k) (q p x) (q p z) - q p x) + q p y)) := by
  have e : q p ((k * k + c.a1 * k - c.a2 - x - z) % p) = EcF.tx (c.q p) (q p k) (q p x) (q p z) := q_mod
  show some (q p ((k * k + c.a1 * k - c.a2 - x - z) % p), q p ((-(k * ((k * k + c.a1 * k - c.a2 - x - z) % p - x) + y) - c.a1 * ((k * k + c.a1 * k - c.a2 - x - z) % p) - c.a3) % p)) = _
  rw [q_mod (a := -(k * ((k * k + c.a1 * k - c.a2 - x - z) % p - x) + y) - c.a1 * ((k * k + c.a1 * k - c.a2 - x - z) % p) - c.a3), ← e]
  rfl
theorem far_dg (hp : 0 < p) (k x y z : Int) : Dg p (far p c k x y z).1 ∧ Dg p (far p c k x y z).2 := ⟨Dg.mod hp, Dg.mod hp⟩
theorem qp_inj (ha : PtK p c A) (hb : PtK p c B) (h : qp p A = qp p B) : A = B := by
  match A, B, ha, hb, h with
  | none, none, _, _, _ => rfl
  | none, some _, _, _, h => exact nomatch h
  | some _, none, _, _, h => exact nomatch h
  | some (x, y), some (z, w), ha, hb, h =>
    have h' := Option.some.inj h
    rw [q_dg ha.1 hb.1 (congrArg Prod.fst h'), q_dg ha.2.1 hb.2.1 (congrArg Prod.snd h')]
theorem PtK.onP (h : PtK p c A) : EcF.OnP (c.q p) (qp p A) := by
  match A, h with
  | none, _ => trivial
  | some (x, y), h => exact h.2.2
theorem PtK.of_on {a : Int × Int} (h1 : Dg p a.1) (h2 : Dg p a.2) (h : EcF.OnP (c.q p) (qp p (some a))) : PtK p c (some a) := ⟨h1, h2, h⟩
theorem pneg_q : qp p (pneg p c A) = EcF.neg (c.q p) (qp p A) := by
  match A with
  | none => rfl
  | some (x, y) =>
    show some (q p x, q p ((-y - c.a1 * x - c.a3) % p)) = _
    rw [q_mod]
    rfl
theorem pneg_ok (hp : 0 < p) (h : PtK p c A) : PtK p c (pneg p c A) := by
  match A, h with
  | none, _ => trivial
  | some (x, y), h =>
    refine PtK.of_on h.1 (Dg.mod hp) ?_
    rw [show some (x, (-y - c.a1 * x - c.a3) % p) = pneg p c (some (x, y)) from rfl, pneg_q]
    exact (PtK.onP (A := some (x, y)) h).neg
theorem opp_iff (hp : 0 < p) {x y z w : Int} (ha : PtK p c (some (x, y))) (hb : PtK p c (some (z, w))) : (z = x ∧ w = (-y - c.a1 * x - c.a3) % p) ↔ (q p z = q p x ∧ q p w = EcF.ng (c.q p) (q p x) (q p y)) := by
  constructor
  · rintro ⟨rfl, rfl⟩
    refine ⟨rfl, ?_⟩
    rw [q_mod]
    rfl
  · rintro ⟨h1, h2⟩
    refine ⟨q_dg hb.1 ha.1 h1, q_dg hb.2.1 (Dg.mod hp) ?_⟩
    rw [h2, q_mod]
    rfl
theorem iv_q (hp : Pp p) {u l : Int} (hl : ¬Mo p l 0) : q p (u * K45M.iv p l) * q p l = q p u := by
  obtain ⟨t, ht⟩ := hp.2 l hl
  have hi : Inv p l (t % p) := ⟨Dg.mod (by have := hp.1; omega), (Mo.mul Mo.rfl' Mo.mod).trans ht⟩
  rw [K45M.iv_eq hi]
  show q p (u * (t % p) * l) = _
  refine q_eq.mpr ?_
  have := (Mo.rfl' (n := p) (a := u)).mul hi.2
  rw [Int.mul_one] at this
  exact (Mo.of_eq (by ac_rfl)).trans this
theorem slo_ring1 {R : Type} [Lean.Grind.CommRing R] (nz : EcF.Nz R) {C : EcF.Cu R} {x y z w k : R} (o : EcF.On C x y) (o' : EcF.On C z w) (h : k * (z - x) = w - y) (hz : z - x ≠ 0) : EcF.Sl C k x y z w := by
  refine ⟨h, ?_⟩
  have e : (z - x) * (k * (y + w + C.a1 * z + C.a3) - (x * x + x * z + z * z + C.a2 * (x + z) + C.a4 - C.a1 * y)) = 0 := by
    have e1 : w = y + k * (z - x) := EcF.mv1 h
    unfold EcF.On at *
    subst e1
    clear h hz nz
    grind
  rcases nz _ _ e with g | g
  · exact absurd g hz
  · clear e o o' h hz
    grind
theorem same_x {R : Type} [Lean.Grind.CommRing R] (nz : EcF.Nz R) {C : EcF.Cu R} {x y w : R} (o : EcF.On C x y) (o' : EcF.On C x w) : w = y ∨ w = EcF.ng C x y := by
  have e : (w - y) * (w - EcF.ng C x y) = 0 := by
    unfold EcF.On EcF.ng at *
    grind
  rcases nz _ _ e with g | g
  · exact .inl (by clear e o o'; grind)
  · exact .inr (by clear e o o'; generalize EcF.ng C x y = n at *; grind)
theorem slo_q (hp : Pp p) {x y z w : Int} (ha : PtK p c (some (x, y))) (hb : PtK p c (some (z, w))) (hn : ¬(z = x ∧ w = (-y - c.a1 * x - c.a3) % p)) : EcF.Sl (c.q p) (q p (slo p c x y z w)) (q p x) (q p y) (q p z) (q p w) := by
  have hp0 : 0 < p := by have := hp.1; omega
  rw [opp_iff hp0 ha hb] at hn
  unfold slo
  by_cases g : x = z
  · rw [if_pos g]
    subst g
    rcases same_x hp.nz ha.2.2 hb.2.2 with g2 | g2
    · have e : w = y := q_dg hb.2.1 ha.2.1 g2
      subst e
      have hl : ¬Mo p (2 * w + c.a1 * x + c.a3) 0 := fun h => hn ⟨rfl, by
        have h1 : q p (2 * w + c.a1 * x + c.a3) = q p 0 := q_eq.mpr h
        have h2 : 2 * q p w + q p c.a1 * q p x + q p c.a3 = 0 := h1
        unfold EcF.ng
        show q p w = -q p w - q p c.a1 * q p x - q p c.a3
        clear h h1
        generalize q p w = W at *
        generalize q p x = X at *
        generalize q p c.a1 = A1 at *
        generalize q p c.a3 = A3 at *
        clear hn ha hb g2
        grind⟩
      have h := iv_q hp (u := 3 * x * x + 2 * c.a2 * x + c.a4 - c.a1 * w) hl
      refine ⟨?_, ?_⟩
      · generalize q p ((3 * x * x + 2 * c.a2 * x + c.a4 - c.a1 * w) * K45M.iv p (2 * w + c.a1 * x + c.a3)) = k
        generalize q p x = X
        generalize q p w = W
        grind
      · have h' : q p ((3 * x * x + 2 * c.a2 * x + c.a4 - c.a1 * w) * K45M.iv p (2 * w + c.a1 * x + c.a3)) * (2 * q p w + q p c.a1 * q p x + q p c.a3) = 3 * q p x * q p x + 2 * q p c.a2 * q p x + q p c.a4 - q p c.a1 * q p w := h
        show _ * (q p w + q p w + q p c.a1 * q p x + q p c.a3) = q p x * q p x + q p x * q p x + q p x * q p x + q p c.a2 * (q p x + q p x) + q p c.a4 - q p c.a1 * q p w
        generalize q p ((3 * x * x + 2 * c.a2 * x + c.a4 - c.a1 * w) * K45M.iv p (2 * w + c.a1 * x + c.a3)) = k at *
        clear h hn hl ha hb g2
        generalize q p w = W at *
        generalize q p x = X at *
        generalize q p c.a1 = A1 at *
        generalize q p c.a2 = A2 at *
        generalize q p c.a3 = A3 at *
        generalize q p c.a4 = A4 at *
        grind
    · exact absurd ⟨rfl, g2⟩ hn
  · rw [if_neg g]
    have hz : ¬Mo p (z - x) 0 := fun h => g ((K45M.sub_zero_iff hb.1 ha.1).mp h).symm
    have h := iv_q hp (u := w - y) hz
    exact slo_ring1 hp.nz ha.2.2 hb.2.2 h fun e => hz (q_eq.mp e)
theorem psum_is (hp : Pp p) (ha : PtK p c A) (hb : PtK p c B) : EcF.Is (c.q p) (qp p A) (qp p B) (qp p (psum p c A B)) := by
  have hp0 : 0 < p := by have := hp.1; omega
  match A, B, ha, hb with
  | none, b, _, _ => exact rfl
  | some a, none, _, _ => exact rfl
  | some (x, y), some (z, w), ha, hb =>
    by_cases g : z = x ∧ w = (-y - c.a1 * x - c.a3) % p
    · rw [show psum p c (some (x, y)) (some (z, w)) = none from if_pos g]
      exact .inl ⟨(opp_iff hp0 ha hb).mp g, rfl⟩
    · rw [show psum p c (some (x, y)) (some (z, w)) = some (far p c (slo p c x y z w) x y z) from if_neg g]
      exact .inr ⟨fun h => g ((opp_iff hp0 ha hb).mpr h), _, slo_q hp ha hb g, far_q _ _ _ _⟩
theorem psum_ok (hp : Pp p) (ha : PtK p c A) (hb : PtK p c B) : PtK p c (psum p c A B) := by
  have hp0 : 0 < p := by have := hp.1; omega
  have h := (psum_is hp ha hb).on ha.onP hb.onP
  match A, B, ha, hb, h with
  | none, b, _, hb, _ => exact hb
  | some a, none, ha, _, _ => exact ha
  | some (x, y), some (z, w), ha, hb, h =>
    by_cases g : z = x ∧ w = (-y - c.a1 * x - c.a3) % p
    · rw [show psum p c (some (x, y)) (some (z, w)) = none from if_pos g]
      trivial
    · rw [show psum p c (some (x, y)) (some (z, w)) = some (far p c (slo p c x y z w) x y z) from if_neg g] at h ⊢
      exact PtK.of_on (far_dg hp0 _ _ _ _).1 (far_dg hp0 _ _ _ _).2 h
theorem psum_comm (hp : Pp p) (ha : PtK p c A) (hb : PtK p c B) : psum p c A B = psum p c B A :=
  qp_inj (psum_ok hp ha hb) (psum_ok hp hb ha) ((psum_is hp ha hb).uniq hp.nz ha.onP hb.onP (psum_is hp hb ha).comm)
theorem psum_assoc (hp : Pp p) (hd : ¬Mo p c.disc 0) (ha : PtK p c A) (hb : PtK p c B) (hD : PtK p c D) : psum p c (psum p c A B) D = psum p c A (psum p c B D) :=
  qp_inj (psum_ok hp (psum_ok hp ha hb) hD) (psum_ok hp ha (psum_ok hp hb hD)) (EcF.Is.assoc hp.nz (flat_q hd) ha.onP hb.onP hD.onP (psum_is hp ha hb) (psum_is hp (psum_ok hp ha hb) hD) (psum_is hp hb hD) (psum_is hp ha (psum_ok hp hb hD)))
theorem psum_neg (hp : Pp p) (ha : PtK p c A) : psum p c A (pneg p c A) = none := by
  match A, ha with
  | none, _ => rfl
  | some (x, y), ha => exact if_pos ⟨rfl, rfl⟩
theorem psum_none : psum p c A none = A := by
  match A with
  | none => rfl
  | some a => rfl
end
end EcZ
/-! The two ways in which a sum modulo a prime is reckoned. Plain mathematics. -/
set_option linter.all false
namespace K43
open K45M EcZ
/-- a prime, and a curve of digits modulo it that is no flat one -/
structure Okc (p : Int) (c : C5) : Prop where
  pp : Pp p
  le : p ≤ 31
  d1 : Dg p c.a1
  d2 : Dg p c.a2
  d3 : Dg p c.a3
  d4 : Dg p c.a4
  d6 : Dg p c.a6
  disc : ¬Mo p c.disc 0
section
variable {p : Int} {c : C5}
theorem Okc.p0 (h : Okc p c) : 0 < p := by
  have := h.pp.1
  omega
theorem Okc.p1 (h : Okc p c) : 1 < p := h.pp.1
theorem unit_gcd (hp : Pp p) {z : Int} (h : ¬Mo p z 0) : Nat.gcd z.natAbs p.natAbs = 1 := (un_iff (by have := hp.1; omega)).mp (hp.2 z h)
theorem diff_unit (hp : Pp p) {x z : Int} (hx : Dg p x) (hz : Dg p z) (h : x ≠ z) : ¬Mo p (z - x) 0 := fun g => h ((sub_zero_iff hz hx).mp g).symm
theorem opp_mod {x y w : Int} (hp : 0 < p) (hw : Dg p w) : w = (-y - c.a1 * x - c.a3) % p ↔ (y + w + c.a1 * x + c.a3) % p = 0 := by
  constructor
  · intro e
    rw [e]
    have : Mo p (y + (-y - c.a1 * x - c.a3) % p + c.a1 * x + c.a3) (y + (-y - c.a1 * x - c.a3) + c.a1 * x + c.a3) := ((Mo.rfl'.add Mo.mod).add Mo.rfl').add Mo.rfl'
    refine Eq.trans this ?_
    rw [show y + (-y - c.a1 * x - c.a3) + c.a1 * x + c.a3 = 0 by omega]
    exact Int.zero_emod p
  · intro e
    refine hw.eq (Dg.mod hp) (Mo.trans ?_ Mo.mod.symm)
    have h1 : Mo p (y + w + c.a1 * x + c.a3) 0 := mod0.mp e
    have h2 := h1.sub (Mo.rfl' (a := y + c.a1 * x + c.a3))
    refine (Mo.of_eq ?_).trans (h2.trans (Mo.of_eq ?_))
    · omega
    · omega
theorem same_y (hp : Pp p) {x y w : Int} (ha : PtK p c (some (x, y))) (hb : PtK p c (some (x, w))) (h : ¬(w = (-y - c.a1 * x - c.a3) % p)) : w = y := by
  have hp0 : 0 < p := by have := hp.1; omega
  rcases same_x hp.nz ha.2.2 hb.2.2 with g | g
  · exact q_dg hb.2.1 ha.2.1 g
  · exact absurd ((opp_iff hp0 ha hb).mpr ⟨rfl, g⟩).2 h
theorem psum_diff {x y z w r : Int} (h : x ≠ z) (hr : Inv p (z - x) r) : psum p c (some (x, y)) (some (z, w)) = some (far p c ((w - y) * r) x y z) := by
  show (if z = x ∧ w = (-y - c.a1 * x - c.a3) % p then none else some (far p c (slo p c x y z w) x y z)) = _
  rw [if_neg (fun g => h g.1.symm)]
  unfold slo
  rw [if_neg h, iv_eq hr]
theorem psum_dbl {x y r : Int} (h : ¬(y = (-y - c.a1 * x - c.a3) % p)) (hr : Inv p (2 * y + c.a1 * x + c.a3) r) : psum p c (some (x, y)) (some (x, y)) = some (far p c ((3 * x * x + 2 * c.a2 * x + c.a4 - c.a1 * y) * r) x y x) := by
  show (if x = x ∧ y = (-y - c.a1 * x - c.a3) % p then none else some (far p c (slo p c x y x y) x y x)) = _
  rw [if_neg (fun g => h g.2)]
  unfold slo
  rw [if_pos rfl, iv_eq hr]
theorem psum_opp {x y z w : Int} (h1 : z = x) (h2 : w = (-y - c.a1 * x - c.a3) % p) : psum p c (some (x, y)) (some (z, w)) = none := if_pos ⟨h1, h2⟩
theorem dbl_unit {x y : Int} (hp : 0 < p) (hy : Dg p y) (h : ¬(y = (-y - c.a1 * x - c.a3) % p)) : ¬Mo p (2 * y + c.a1 * x + c.a3) 0 := fun g => h ((opp_mod hp hy).mpr (by
  rw [show y + y + c.a1 * x + c.a3 = 2 * y + c.a1 * x + c.a3 by omega]
  exact mod0.mpr g))
theorem far_eq {k x y z : Int} : (far p c k x y z).1 = (k * (k + c.a1) - c.a2 - x - z) % p ∧ ∀ X, X = (far p c k x y z).1 → (far p c k x y z).2 = (k * (x - X) - y - c.a1 * X - c.a3) % p := by
  refine ⟨?_, ?_⟩
  · show (k * k + c.a1 * k - c.a2 - x - z) % p = _
    rw [Int.mul_add, Int.mul_comm c.a1 k]
  · intro X e
    have e' : (k * k + c.a1 * k - c.a2 - x - z) % p = X := e.symm
    show (-(k * ((k * k + c.a1 * k - c.a2 - x - z) % p - x) + y) - c.a1 * ((k * k + c.a1 * k - c.a2 - x - z) % p) - c.a3) % p = _
    rw [e', show k * (x - X) = -(k * (X - x)) by rw [← Int.mul_neg, Int.neg_sub]]
    congr 1
    omega
theorem far_law {k x y z X : Int} (hX : (k % p * (k % p) + c.a1 * (k % p) - c.a2 - x - z) % p = X) : far p c k x y z = (X, (-((y + k % p * (X - x)) % p) - c.a1 * X - c.a3) % p) := by
  have m : Mo p (k % p) k := Mo.mod
  have e : (k * k + c.a1 * k - c.a2 - x - z) % p = X := by
    rw [← hX]
    exact (((((m.mul m).add (Mo.rfl'.mul m)).sub Mo.rfl').sub Mo.rfl').sub Mo.rfl').symm
  have e2 : (-(k * (X - x) + y) - c.a1 * X - c.a3) % p = (-((y + k % p * (X - x)) % p) - c.a1 * X - c.a3) % p := by
    refine Mo.sub (Mo.sub (Mo.neg ?_) Mo.rfl') Mo.rfl'
    refine Mo.trans ?_ Mo.mod.symm
    rw [Int.add_comm]
    exact Mo.rfl'.add (m.symm.mul Mo.rfl')
  show ((k * k + c.a1 * k - c.a2 - x - z) % p, (-(k * ((k * k + c.a1 * k - c.a2 - x - z) % p - x) + y) - c.a1 * ((k * k + c.a1 * k - c.a2 - x - z) % p) - c.a3) % p) = _
  rw [e, e2]
theorem pneg_some {x y : Int} : pneg p c (some (x, y)) = some (x, (-y - c.a1 * x - c.a3) % p) := rfl
end
end K43
/-! Multiples of a point modulo a prime. Plain mathematics. -/
set_option linter.all false
namespace K43
open K45M EcZ
section
variable {p : Int} {c : C5} {A B D : EcZ.Pt}
theorem Okc.sum (o : Okc p c) (ha : PtK p c A) (hb : PtK p c B) : PtK p c (psum p c A B) := psum_ok o.pp ha hb
theorem Okc.comm (o : Okc p c) (ha : PtK p c A) (hb : PtK p c B) : psum p c A B = psum p c B A := psum_comm o.pp ha hb
theorem Okc.assoc (o : Okc p c) (ha : PtK p c A) (hb : PtK p c B) (hd : PtK p c D) : psum p c (psum p c A B) D = psum p c A (psum p c B D) := psum_assoc o.pp o.disc ha hb hd
theorem none_ok : PtK p c none := trivial
theorem none_sum : psum p c none A = A := rfl
noncomputable def smul (p : Int) (c : C5) (A : EcZ.Pt) : Nat → EcZ.Pt
  | 0 => none
  | n + 1 => psum p c (smul p c A n) A
theorem smul_ok (o : Okc p c) (ha : PtK p c A) : ∀ n, PtK p c (smul p c A n)
  | 0 => trivial
  | n + 1 => o.sum (smul_ok o ha n) ha
theorem smul_one : smul p c A 1 = A := rfl
theorem smul_add (o : Okc p c) (ha : PtK p c A) (m : Nat) : ∀ n, smul p c A (m + n) = psum p c (smul p c A m) (smul p c A n)
  | 0 => psum_none.symm
  | n + 1 => by
    show psum p c (smul p c A (m + n)) A = psum p c (smul p c A m) (psum p c (smul p c A n) A)
    rw [smul_add o ha m n, o.assoc (smul_ok o ha m) (smul_ok o ha n) ha]
theorem smul_dbl (o : Okc p c) (ha : PtK p c A) : ∀ m, smul p c (psum p c A A) m = smul p c A (2 * m)
  | 0 => rfl
  | m + 1 => by
    show psum p c (smul p c (psum p c A A) m) (psum p c A A) = _
    rw [smul_dbl o ha m, show 2 * (m + 1) = 2 * m + 2 by omega, smul_add o ha (2 * m) 2]
    rfl
theorem smul_odd (o : Okc p c) (ha : PtK p c A) {R : EcZ.Pt} (hr : PtK p c R) {j : Nat} (h : j % 2 = 1) : psum p c (psum p c R A) (smul p c (psum p c A A) (j / 2)) = psum p c R (smul p c A j) := by
  rw [smul_dbl o ha, o.assoc hr ha (smul_ok o ha _)]
  congr 1
  have e := smul_add o ha 1 (2 * (j / 2))
  rw [smul_one] at e
  rw [← e]
  congr 1
  omega
theorem smul_even (o : Okc p c) (ha : PtK p c A) {R : EcZ.Pt} {j : Nat} (h : j % 2 = 0) : psum p c R (smul p c (psum p c A A) (j / 2)) = psum p c R (smul p c A j) := by
  rw [smul_dbl o ha]
  congr 2
  omega
end
end K43
/-! What points generate; how many points there are. Plain mathematics. -/
set_option linter.all false
namespace K43
open K45M EcZ
section
variable {p : Int} {c : C5} {A B D : EcZ.Pt}
inductive Gen (p : Int) (c : C5) (S : List EcZ.Pt) : EcZ.Pt → Prop
  | zero : Gen p c S none
  | step {A B : EcZ.Pt} : Gen p c S A → B ∈ S → Gen p c S (psum p c A B)
def AllK (p : Int) (c : C5) (S : List EcZ.Pt) : Prop := ∀ A ∈ S, PtK p c A
theorem Gen.ok (o : Okc p c) {S : List EcZ.Pt} (hS : AllK p c S) (h : Gen p c S A) : PtK p c A := by
  induction h with
  | zero => trivial
  | step h hb ih => exact o.sum ih (hS _ hb)
theorem Gen.mono {S T : List EcZ.Pt} (hs : ∀ A ∈ S, A ∈ T) (h : Gen p c S A) : Gen p c T A := by
  induction h with
  | zero => exact .zero
  | step h hb ih => exact .step ih (hs _ hb)
theorem Gen.add (o : Okc p c) {S : List EcZ.Pt} (hS : AllK p c S) (ha : Gen p c S A) (hb : Gen p c S B) : Gen p c S (psum p c A B) := by
  induction hb with
  | zero =>
    rw [psum_none]
    exact ha
  | step h hd ih =>
    rw [← o.assoc (ha.ok o hS) (h.ok o hS) (hS _ hd)]
    exact .step ih hd
theorem Gen.mul (o : Okc p c) {S : List EcZ.Pt} (hS : AllK p c S) {P : EcZ.Pt} (hP : P ∈ S) (ha : Gen p c S A) : ∀ s, Gen p c S (psum p c A (smul p c P s))
  | 0 => by
    rw [show smul p c P 0 = none from rfl, psum_none]
    exact ha
  | s + 1 => by
    show Gen p c S (psum p c A (psum p c (smul p c P s) P))
    rw [← o.assoc (ha.ok o hS) (smul_ok o (hS _ hP) s) (hS _ hP)]
    exact .step (Gen.mul o hS hP ha s) hP
/-- one more point: multiples until one is there -/
theorem gen_more (o : Okc p c) {S : List EcZ.Pt} (hS : AllK p c S) {P : EcZ.Pt} (kP : PtK p c P) {t : Nat} (ht : ∃ g, Gen p c S g ∧ ∃ s, s ≤ t ∧ smul p c P (t + 1) = psum p c g (smul p c P s)) (X : EcZ.Pt) :
    Gen p c (S ++ [P]) X ↔ ∃ g, Gen p c S g ∧ ∃ s, s ≤ t ∧ X = psum p c g (smul p c P s) := by
  have hT : AllK p c (S ++ [P]) := fun A hA => by
    rcases List.mem_append.mp hA with h | h
    · exact hS A h
    · rw [List.mem_singleton.mp h]
      exact kP
  constructor
  · intro h
    induction h with
    | zero => exact ⟨none, .zero, 0, Nat.zero_le _, rfl⟩
    | step h hb ih =>
      obtain ⟨g, hg, s, hs, rfl⟩ := ih
      have kg := hg.ok o hS
      have ks := smul_ok o kP s
      rcases List.mem_append.mp hb with h1 | h1
      · refine ⟨_, hg.step h1, s, hs, ?_⟩
        rw [o.assoc kg ks (hS _ h1), o.comm ks (hS _ h1), ← o.assoc kg (hS _ h1) ks]
      · rw [List.mem_singleton.mp h1, o.assoc kg ks kP]
        rcases Nat.lt_or_ge s t with hlt | hge
        · exact ⟨g, hg, s + 1, hlt, rfl⟩
        · obtain rfl : s = t := by omega
          obtain ⟨g0, hg0, s0, hs0, e⟩ := ht
          refine ⟨_, hg.add o hS hg0, s0, hs0, ?_⟩
          rw [show psum p c (smul p c P s) P = smul p c P (s + 1) from rfl, e, o.assoc kg (hg0.ok o hS) (smul_ok o kP s0)]
  · rintro ⟨g, hg, s, _, rfl⟩
    exact Gen.mul o hT (List.mem_append.mpr (.inr (List.mem_singleton.mpr rfl))) (hg.mono fun A h => List.mem_append.mpr (.inl h)) s
theorem len_eq {L M : List EcZ.Pt} (hl : L.Nodup) (hm : M.Nodup) (h : ∀ A, A ∈ L ↔ A ∈ M) : L.length = M.length := (List.perm_ext_iff_of_nodup hl hm |>.mpr fun A => h A).length_eq
/-! ### how many -/
theorem nat_count : ∀ (m : Nat) (L : List Nat), L.Nodup → (∀ x ∈ L, x < m) → L.length ≤ m
  | 0, L, _, h => by
    match L, h with
    | [], _ => exact Nat.le_refl _
    | a :: r, h => exact absurd (h a (List.mem_cons_self ..)) (by omega)
  | m + 1, L, hn, h => by
    have h1 := nat_count m (L.erase m) (hn.erase m) fun x hx => by
      have h2 := (hn.mem_erase_iff).mp hx
      have := h x h2.2
      have := h2.1
      omega
    have h2 : L.length ≤ (L.erase m).length + 1 := by
      rw [List.length_erase]
      split <;> omega
    omega
def pix (p : Int) (c : C5) : EcZ.Pt → Nat
  | none => 0
  | some (x, y) => 2 * x.toNat + 1 + (if (-y - c.a1 * x - c.a3) % p < y then 1 else 0)
theorem pix_lt (o : Okc p c) (h : PtK p c A) : pix p c A < 2 * p.toNat + 1 := by
  match A, h with
  | none, _ => exact Nat.succ_pos _
  | some (x, y), h =>
    have h1 := h.1
    unfold Dg at h1
    show 2 * x.toNat + 1 + _ < _
    split <;> omega
theorem pix_inj (o : Okc p c) (ha : PtK p c A) (hb : PtK p c B) (h : pix p c A = pix p c B) : A = B := by
  match A, B, ha, hb, h with
  | none, none, _, _, _ => rfl
  | none, some (x, y), _, hb, h =>
    exfalso
    have h' : 0 = 2 * x.toNat + 1 + (if (-y - c.a1 * x - c.a3) % p < y then 1 else 0) := h
    omega
  | some (x, y), none, _, _, h =>
    exfalso
    have h' : 2 * x.toNat + 1 + (if (-y - c.a1 * x - c.a3) % p < y then 1 else 0) = 0 := h
    omega
  | some (x, y), some (z, w), ha, hb, h =>
    have h' : 2 * x.toNat + 1 + (if (-y - c.a1 * x - c.a3) % p < y then 1 else 0) = 2 * z.toNat + 1 + (if (-w - c.a1 * z - c.a3) % p < w then 1 else 0) := h
    have x0 := ha.1.1
    have z0 := hb.1.1
    have e : x = z := by
      split at h' <;> split at h' <;> omega
    subst e
    by_cases g : w = (-y - c.a1 * x - c.a3) % p
    · have g2 : (-w - c.a1 * x - c.a3) % p = y := by
        have e1 := (opp_mod o.p0 hb.2.1).mp g
        have e2 : y = (-w - c.a1 * x - c.a3) % p := (opp_mod o.p0 ha.2.1).mpr (by
          rw [show w + y + c.a1 * x + c.a3 = y + w + c.a1 * x + c.a3 by omega]
          exact e1)
        exact e2.symm
      rw [g2, ← g] at h'
      have : w = y := by
        split at h' <;> split at h' <;> omega
      rw [this]
    · rw [same_y o.pp ha hb g]
theorem nodup_pix (o : Okc p c) : ∀ L : List EcZ.Pt, L.Nodup → AllK p c L → (L.map (pix p c)).Nodup
  | [], _, _ => List.nodup_nil
  | A :: L, hn, hk => by
    rw [List.map_cons, List.nodup_cons]
    rw [List.nodup_cons] at hn
    refine ⟨fun h => ?_, nodup_pix o L hn.2 fun B hB => hk B (List.mem_cons_of_mem _ hB)⟩
    obtain ⟨B, hB, e⟩ := List.mem_map.mp h
    have := pix_inj o (hk B (List.mem_cons_of_mem _ hB)) (hk A (List.mem_cons_self ..)) e
    subst this
    exact hn.1 hB
theorem pt_count (o : Okc p c) {L : List EcZ.Pt} (hn : L.Nodup) (hk : AllK p c L) : L.length ≤ 2 * p.toNat + 1 := by
  have h := nat_count (2 * p.toNat + 1) _ (nodup_pix o L hn hk) fun x hx => by
    obtain ⟨A, hA, rfl⟩ := List.mem_map.mp hx
    exact pix_lt o (hk A hA)
  rwa [List.length_map] at h
end
end K43
/-! Points of a curve modulo an odd prime by the square z = 2 y + a1 x + a3. Plain mathematics. -/
set_option linter.all false
namespace K40
open K45M EcZ
section
variable {p : Int} {c : C5}
/-- what z squares to -/
def cub (c : C5) (x : Int) : Int := 4 * x * x * x + c.b2 * x * x + 2 * c.b4 * x + c.b6
def sh (c : C5) (x : Int) : Int := c.a1 * x + c.a3
def lhs (c : C5) (x y : Int) : Int := y * (y + c.a1 * x + c.a3) - (x ^ 3 + c.a2 * x * x + c.a4 * x + c.a6)
theorem sq_id (c : C5) (x y : Int) : (2 * y + sh c x) * (2 * y + sh c x) - cub c x = 4 * lhs c x y := by
  unfold cub sh lhs C5.b2 C5.b4 C5.b6
  grind
theorem half_two (h : p % 2 = 1) : Mo p (2 * ((p + 1) / 2)) 1 := by
  have e : 2 * ((p + 1) / 2) = p + 1 := by omega
  rw [e]
  unfold Mo
  rw [Int.add_emod, Int.emod_self, Int.zero_add, Int.emod_emod_of_dvd _ (Int.dvd_refl p)]
theorem two_unit (h : p % 2 = 1) : Un p 2 := ⟨_, half_two h⟩
theorem four_unit (h : p % 2 = 1) : Un p 4 := (two_unit h).mul (two_unit h)
/-- y out of z -/
def yz (p : Int) (c : C5) (x z : Int) : Int := (z - sh c x) * ((p + 1) / 2) % p
theorem yz_z (h : p % 2 = 1) (x z : Int) : Mo p (2 * yz p c x z + sh c x) z := by
  have h1 : Mo p (2 * yz p c x z) (2 * ((z - sh c x) * ((p + 1) / 2))) := Mo.rfl'.mul Mo.mod
  have h2 : Mo p (2 * ((z - sh c x) * ((p + 1) / 2))) ((z - sh c x) * 1) := by
    refine (Mo.of_eq ?_).trans ((Mo.rfl' (a := z - sh c x)).mul (half_two h))
    ac_rfl
  have h3 := (h1.trans h2).add (Mo.rfl' (a := sh c x))
  refine h3.trans (Mo.of_eq ?_)
  omega
theorem yz_of (h : p % 2 = 1) (hp : 0 < p) {x y z : Int} (hy : Dg p y) (e : Mo p (2 * y + sh c x) z) : yz p c x z = y := by
  refine (Dg.mod hp : Dg p (yz p c x z)).eq hy ?_
  have h1 := (yz_z (c := c) h x z).trans e.symm
  have h2 := h1.sub (Mo.rfl' (a := sh c x))
  have h3 : Mo p (yz p c x z * 2) (y * 2) := by
    refine (Mo.of_eq ?_).trans (h2.trans (Mo.of_eq ?_)) <;> omega
  exact (two_unit h).cancel h3
theorem on_iff_sq (h : p % 2 = 1) {x y z : Int} (e : Mo p (2 * y + sh c x) z) : lhs c x y % p = 0 ↔ z * z % p = cub c x % p := by
  have h1 : Mo p (z * z - cub c x) (4 * lhs c x y) := by
    rw [← sq_id]
    exact (e.symm.mul e.symm).sub Mo.rfl'
  constructor
  · intro h0
    have h2 : Mo p (z * z - cub c x) 0 := by
      refine h1.trans ?_
      have := (Mo.rfl' (n := p) (a := 4)).mul (mod0.mp h0)
      rw [Int.mul_zero] at this
      exact this
    have h3 := h2.add (Mo.rfl' (a := cub c x))
    exact (Mo.of_eq (by omega)).trans (h3.trans (Mo.of_eq (by omega)))
  · intro h0
    have h2 : Mo p (z * z - cub c x) 0 := by
      have h3 : Mo p (z * z) (cub c x) := h0
      have := h3.sub (Mo.rfl' (a := cub c x))
      rw [Int.sub_self] at this
      exact this
    have h3 : Mo p (lhs c x y * 4) 0 := (Mo.of_eq (Int.mul_comm _ _)).trans (h1.symm.trans h2)
    exact mod0.mpr ((zero_unit (four_unit h)).mp h3)
/-- the digits y over x are what the square roots z of the cubic give -/
theorem ys_iff (h : p % 2 = 1) (hp : 0 < p) {x y : Int} : (Dg p y ∧ lhs c x y % p = 0) ↔ ∃ z, Dg p z ∧ z * z % p = cub c x % p ∧ yz p c x z = y := by
  constructor
  · rintro ⟨hy, h0⟩
    have e : Mo p (2 * y + sh c x) ((2 * y + sh c x) % p) := Mo.mod.symm
    exact ⟨_, Dg.mod hp, (on_iff_sq h e).mp h0, yz_of h hp hy e⟩
  · rintro ⟨z, hz, h0, rfl⟩
    exact ⟨Dg.mod hp, (on_iff_sq h (yz_z h x z)).mpr h0⟩
theorem yz_inj (h : p % 2 = 1) {x z w : Int} (hz : Dg p z) (hw : Dg p w) (e : yz p c x z = yz p c x w) : z = w := by
  refine hz.eq hw ?_
  have h1 := yz_z (c := c) h x z
  rw [e] at h1
  exact h1.symm.trans (yz_z h x w)
end
end K40
/-! Counts of points modulo an odd prime, and of the twisted curve. Plain mathematics. -/
set_option linter.all false
namespace K40
open K45M EcZ
/-- how many digits below n square to v -/
def nsq (n : Nat) (v : Int) : Nat := ((List.range n).filter fun (z : Nat) => decide (((z : Int) * (z : Int)) % (n : Int) = v % (n : Int))).length
theorem nsq_congr {n : Nat} {v w : Int} (h : Mo n v w) : nsq n v = nsq n w := by
  unfold nsq
  have h' : v % (n : Int) = w % (n : Int) := h
  rw [h']
/-- the count by the cubic -/
def cnt (n : Nat) (g : Int → Int) : Nat := ((List.range n).map fun (x : Nat) => nsq n (g (x : Int))).sum
theorem perm_mul {n : Nat} (hn : 0 < n) {u t : Int} (h : Mo n (u * t) 1) : List.Perm ((List.range n).map fun (w : Nat) => ((u * (w : Int)) % (n : Int)).toNat) (List.range n) := by
  have hnz : (0 : Int) < n := by omega
  have key : ∀ w : Nat, Mo n (((u * (w : Int)) % n) * t) w := fun w => by
    have h1 : Mo n (((u * (w : Int)) % n) * t) (u * w * t) := Mo.mod.mul Mo.rfl'
    refine h1.trans ?_
    have h2 := (Mo.rfl' (n := n) (a := (w : Int))).mul h
    rw [Int.mul_one] at h2
    exact (Mo.of_eq (by ac_rfl)).trans h2
  refine (List.perm_ext_iff_of_nodup ?_ List.nodup_range).mpr fun x => ?_
  · rw [List.Nodup, List.pairwise_map]
    refine List.Pairwise.imp_of_mem ?_ (List.pairwise_lt_range (n := n))
    intro i j hi hj hij e
    rw [List.mem_range] at hi hj
    have e1 : (u * (i : Int)) % n = (u * (j : Int)) % n := by
      have a1 := Int.emod_nonneg (u * (i : Int)) (show (n : Int) ≠ 0 by omega)
      have a2 := Int.emod_nonneg (u * (j : Int)) (show (n : Int) ≠ 0 by omega)
      omega
    have h1 := key i
    rw [e1] at h1
    have h2 : Mo n (i : Int) (j : Int) := h1.symm.trans (key j)
    have h3 := (show Dg n (i : Int) from ⟨by omega, by omega⟩).eq (show Dg n (j : Int) from ⟨by omega, by omega⟩) h2
    omega
  · constructor
    · intro h1
      obtain ⟨w, _, rfl⟩ := List.mem_map.mp h1
      have := Int.emod_lt_of_pos (u * (w : Int)) hnz
      have := Int.emod_nonneg (u * (w : Int)) (show (n : Int) ≠ 0 by omega)
      exact List.mem_range.mpr (by omega)
    · intro h1
      rw [List.mem_range] at h1
      have b0 := Int.emod_nonneg (t * (x : Int)) (show (n : Int) ≠ 0 by omega)
      have b1 := Int.emod_lt_of_pos (t * (x : Int)) hnz
      refine List.mem_map.mpr ⟨((t * (x : Int)) % n).toNat, List.mem_range.mpr (by omega), ?_⟩
      have h2 : Mo n (u * ((t * (x : Int)) % n)) x := by
        have h3 : Mo n (u * ((t * (x : Int)) % n)) (u * (t * x)) := Mo.rfl'.mul Mo.mod
        refine h3.trans ?_
        have h4 := h.mul (Mo.rfl' (n := n) (a := (x : Int)))
        rw [Int.one_mul] at h4
        exact (Mo.of_eq (by ac_rfl)).trans h4
      have h5 : (u * ((t * (x : Int)) % n)) % n = (x : Int) := by
        have h6 : (u * ((t * (x : Int)) % n)) % n = (x : Int) % n := h2
        rw [h6]
        exact Int.emod_eq_of_lt (by omega) (by omega)
      rw [Int.toNat_of_nonneg b0, h5]
      exact Int.toNat_natCast x
/-- the count does not change when x is led by a unit -/
theorem cnt_led {n : Nat} (hn : 0 < n) {u t : Int} (h : Mo n (u * t) 1) {g : Int → Int} (hg : ∀ x y, Mo n x y → Mo n (g x) (g y)) : cnt n (fun w => g (u * w)) = cnt n g := by
  have hp := (perm_mul hn h).map fun x => nsq n (g (x : Nat))
  have e := hp.sum_nat
  unfold cnt
  rw [← e, List.map_map]
  congr 1
  refine List.map_congr_left fun w _ => ?_
  show nsq n (g (u * (w : Int))) = nsq n (g (((u * (w : Int)) % n).toNat : Nat))
  refine nsq_congr (hg _ _ ?_)
  have b0 := Int.emod_nonneg (u * (w : Int)) (show (n : Int) ≠ 0 by omega)
  rw [Int.toNat_of_nonneg b0]
  exact Mo.mod.symm
/-- the twisted curve -/
def tw (d : Int) (c : C5) : C5 := ⟨0, d * c.b2, 0, 8 * d * d * c.b4, 16 * d * d * d * c.b6⟩
theorem tw_cub (d : Int) (c : C5) (w : Int) : cub (tw d c) (4 * d * w) = (8 * d) * (8 * d) * (d * cub c w) := by
  have h2 : (tw d c).b2 = 4 * d * c.b2 := by
    show 0 * 0 + 4 * (d * c.b2) = _
    generalize c.b2 = B2
    grind
  have h4 : (tw d c).b4 = 16 * d * d * c.b4 := by
    show 2 * (8 * d * d * c.b4) + 0 * 0 = _
    generalize c.b4 = B4
    grind
  have h6 : (tw d c).b6 = 64 * d * d * d * c.b6 := by
    show 0 * 0 + 4 * (16 * d * d * d * c.b6) = _
    generalize c.b6 = B6
    grind
  unfold cub
  rw [h2, h4, h6]
  generalize c.b2 = B2
  generalize c.b4 = B4
  generalize c.b6 = B6
  grind
theorem cub_congr {p : Int} {c : C5} {x y : Int} (h : Mo p x y) : Mo p (cub c x) (cub c y) := by
  unfold cub
  exact (((((Mo.rfl'.mul h).mul h).mul h).add ((Mo.rfl'.mul h).mul h)).add (Mo.rfl'.mul h)).add Mo.rfl'
theorem nsq_sq {n : Nat} (hn : 0 < n) {u t : Int} (h : Mo n (u * t) 1) (v : Int) : nsq n (u * u * v) = nsq n v := by
  have hp := (perm_mul hn h).filter fun (z : Nat) => decide (((z : Int) * (z : Int)) % (n : Int) = (u * u * v) % (n : Int))
  unfold nsq
  rw [← hp.length_eq, List.filter_map, List.length_map]
  congr 1
  refine List.filter_congr fun z _ => ?_
  show decide (((((u * (z : Int)) % (n : Int)).toNat : Nat) : Int) * ((((u * (z : Int)) % (n : Int)).toNat : Nat) : Int) % (n : Int) = (u * u * v) % (n : Int)) = decide (((z : Int) * (z : Int)) % (n : Int) = v % (n : Int))
  have b0 := Int.emod_nonneg (u * (z : Int)) (show (n : Int) ≠ 0 by omega)
  rw [Int.toNat_of_nonneg b0]
  refine decide_eq_decide.mpr ?_
  have hu : Un n (u * u) := (show Un n u from ⟨t, h⟩).mul ⟨t, h⟩
  have e : Mo n (((u * (z : Int)) % (n : Int)) * ((u * (z : Int)) % (n : Int))) ((z : Int) * (z : Int) * (u * u)) := (Mo.mod.mul Mo.mod).trans (Mo.of_eq (by ac_rfl))
  constructor
  · intro g
    have g' : Mo n (((u * (z : Int)) % (n : Int)) * ((u * (z : Int)) % (n : Int))) (u * u * v) := g
    exact hu.cancel (e.symm.trans (g'.trans (Mo.of_eq (Int.mul_comm _ _))))
  · intro g
    have g' : Mo n ((z : Int) * (z : Int)) v := g
    exact e.trans ((g'.mul Mo.rfl').trans (Mo.of_eq (Int.mul_comm _ _)))
/-- d is no square: one of v, d v has two roots, or both have one -/
def two (n : Nat) (d : Int) : Bool := (List.range n).all fun (v : Nat) => nsq n (v : Int) + nsq n (d * (v : Int)) == 2
theorem two_of {n : Nat} (hn : 0 < n) {d : Int} (h : two n d = true) (v : Int) : nsq n v + nsq n (d * v) = 2 := by
  have b0 := Int.emod_nonneg v (show (n : Int) ≠ 0 by omega)
  have b1 := Int.emod_lt_of_pos v (show (0 : Int) < n by omega)
  have h1 := List.all_eq_true.mp h (v % (n : Int)).toNat (List.mem_range.mpr (by omega))
  have h2 := eq_of_beq h1
  rw [Int.toNat_of_nonneg b0] at h2
  rw [← h2, nsq_congr (Mo.mod (n := (n : Int)) (a := v)), nsq_congr ((Mo.rfl' (a := d)).mul (Mo.mod (n := (n : Int)) (a := v)))]
theorem sum_two {l : List Nat} {f g : Nat → Nat} (h : ∀ x, f x + g x = 2) : (l.map f).sum + (l.map g).sum = 2 * l.length := by
  induction l with
  | nil => rfl
  | cons a l ih =>
    rw [List.map_cons, List.map_cons, List.sum_cons, List.sum_cons, List.length_cons]
    have := h a
    omega
/-- the twist's count makes up the rest -/
theorem cnt_twist {n : Nat} (hn : 0 < n) {d t8 t4 : Int} (h8 : Mo n (8 * d * t8) 1) (h4 : Mo n (4 * d * t4) 1) (h : two n d = true) (c : C5) : cnt n (cub c) + cnt n (cub (tw d c)) = 2 * n := by
  have e1 : cnt n (cub (tw d c)) = cnt n fun w => cub (tw d c) (4 * d * w) := (cnt_led hn h4 fun _ _ => cub_congr).symm
  have e2 : (cnt n fun w => cub (tw d c) (4 * d * w)) = cnt n fun w => d * cub c w := by
    unfold cnt
    congr 1
    refine List.map_congr_left fun x _ => ?_
    show nsq n (cub (tw d c) (4 * d * (x : Int))) = nsq n (d * cub c (x : Int))
    rw [tw_cub, nsq_sq hn h8]
  rw [e1, e2]
  have := sum_two (l := List.range n) (f := fun x => nsq n (cub c (x : Int))) (g := fun x => nsq n (d * cub c (x : Int))) fun x => two_of hn h _
  rw [List.length_range] at this
  exact this
theorem two_3 : two 3 2 = true := by decide +kernel
theorem two_5 : two 5 2 = true := by decide +kernel
theorem two_7 : two 7 3 = true := by decide +kernel
theorem two_11 : two 11 2 = true := by decide +kernel
theorem two_13 : two 13 2 = true := by decide +kernel
theorem two_17 : two 17 3 = true := by decide +kernel
theorem two_19 : two 19 2 = true := by decide +kernel
theorem two_23 : two 23 5 = true := by decide +kernel
theorem two_29 : two 29 2 = true := by decide +kernel
theorem two_31 : two 31 3 = true := by decide +kernel
end K40
/-! The tally of squares. Plain mathematics. -/
set_option linter.all false
namespace K40
open K45M EcZ
/-- of the first j squares those that are v -/
def tal (n j v : Nat) : Nat := ((List.range j).filter fun (z : Nat) => decide (z * z % n = v)).length
def tl (n j : Nat) : List Int := (List.range n).map fun v => ((tal n j v : Nat) : Int)
theorem tl_len (n j : Nat) : (tl n j).length = n := by
  unfold tl
  rw [List.length_map, List.length_range]
theorem tl_get {n j v : Nat} (h : v < n) : (tl n j)[v]? = some ((tal n j v : Nat) : Int) := by
  unfold tl
  rw [List.getElem?_map, List.getElem?_range h]
  rfl
theorem tl_zero (n : Nat) : tl n 0 = List.replicate n 0 := by
  unfold tl
  rw [show (fun v => ((tal n 0 v : Nat) : Int)) = fun _ => (0 : Int) from funext fun v => rfl]
  rw [List.map_const', List.length_range]
theorem tal_succ (n j v : Nat) : tal n (j + 1) v = tal n j v + (if j * j % n = v then 1 else 0) := by
  unfold tal
  rw [List.range_succ, List.filter_append, List.length_append]
  congr 1
  by_cases h : j * j % n = v
  · rw [if_pos h]
    simp [h]
  · rw [if_neg h]
    simp [h]
theorem tl_set {n j : Nat} (hn : 0 < n) : (tl n j).set (j * j % n) (((tal n j (j * j % n) : Nat) : Int) + 1) = tl n (j + 1) := by
  have hv : j * j % n < n := Nat.mod_lt _ hn
  refine List.ext_getElem? fun i => ?_
  rcases Nat.lt_or_ge i n with hi | hi
  · rw [tl_get hi, tal_succ]
    by_cases e : j * j % n = i
    · subst e
      rw [List.getElem?_set_self (by rw [tl_len]; exact hv), if_pos rfl]
      rfl
    · rw [List.getElem?_set_ne e, tl_get hi, if_neg e]
      rfl
  · rw [List.getElem?_eq_none (by rw [List.length_set, tl_len]; exact hi), List.getElem?_eq_none (by rw [tl_len]; exact hi)]
/-- the whole tally counts the roots -/
theorem tal_nsq {n : Nat} (hn : 0 < n) (v : Int) : ((tal n n (v % (n : Int)).toNat : Nat)) = nsq n v := by
  unfold tal nsq
  congr 1
  refine List.filter_congr fun z _ => ?_
  refine decide_eq_decide.mpr ?_
  have b0 := Int.emod_nonneg v (show (n : Int) ≠ 0 by omega)
  have e : ((z : Int) * (z : Int)) % (n : Int) = ((z * z % n : Nat) : Int) := by
    rw [Int.natCast_emod, Int.natCast_mul]
  rw [e]
  omega
theorem tl_at {n : Nat} (hn : 0 < n) (v : Int) : (tl n n)[(v % (n : Int)).toNat]? = some ((nsq n v : Nat) : Int) := by
  have b0 := Int.emod_nonneg v (show (n : Int) ≠ 0 by omega)
  have b1 := Int.emod_lt_of_pos v (show (0 : Int) < n by omega)
  rw [tl_get (by omega), tal_nsq hn]
theorem tal_le (n j v : Nat) : tal n j v ≤ j := by
  unfold tal
  refine Nat.le_trans (List.length_filter_le ..) ?_
  rw [List.length_range]
  exact Nat.le_refl _
/-- the count as far as x -/
def cntTo (n j : Nat) (g : Int → Int) : Nat := ((List.range j).map fun (x : Nat) => nsq n (g (x : Int))).sum
theorem cntTo_succ (n j : Nat) (g : Int → Int) : cntTo n (j + 1) g = cntTo n j g + nsq n (g (j : Int)) := by
  unfold cntTo
  rw [List.range_succ, List.map_append, List.sum_append]
  rfl
theorem nsq_le (n : Nat) (v : Int) : nsq n v ≤ n := by
  unfold nsq
  refine Nat.le_trans (List.length_filter_le ..) ?_
  rw [List.length_range]
  exact Nat.le_refl _
theorem cntTo_le (n : Nat) (g : Int → Int) : ∀ j, cntTo n j g ≤ j * n
  | 0 => Nat.zero_le _
  | j + 1 => by
    rw [cntTo_succ, Nat.succ_mul]
    exact Nat.add_le_add (cntTo_le n g j) (nsq_le n _)
end K40
/-! Sums of two cubes, products of three lines: plain mathematics. -/
set_option linter.all false
namespace K51M
/-- in the order of pairs -/
def Lt (p q : Int × Int) : Prop := p.1 < q.1 ∨ (p.1 = q.1 ∧ p.2 < q.2)
theorem Lt.trans {p q r : Int × Int} (h : Lt p q) (k : Lt q r) : Lt p r := by
  unfold Lt at *
  omega
theorem Lt.irr {p : Int × Int} (h : Lt p p) : False := by
  unfold Lt at h
  omega
/-- strictly ascending lists with the same members are one -/
theorem uniq : ∀ {l m : List (Int × Int)}, l.Pairwise Lt → m.Pairwise Lt → (∀ p, p ∈ l ↔ p ∈ m) → l = m
  | [], [], _, _, _ => rfl
  | [], y :: m, _, _, h => absurd ((h y).mpr List.mem_cons_self) (by simp)
  | x :: l, [], _, _, h => absurd ((h x).mp List.mem_cons_self) (by simp)
  | x :: l, y :: m, hl, hm, h => by
    obtain ⟨hx, hl2⟩ := List.pairwise_cons.mp hl
    obtain ⟨hy, hm2⟩ := List.pairwise_cons.mp hm
    have e : x = y := by
      rcases List.mem_cons.mp ((h x).mp List.mem_cons_self) with e | q
      · exact e
      · rcases List.mem_cons.mp ((h y).mpr List.mem_cons_self) with e | q2
        · exact e.symm
        · exact (Lt.irr ((hx _ q2).trans (hy _ q))).elim
    subst e
    have key : l = m := uniq hl2 hm2 fun p => ⟨fun hp => ?_, fun hp => ?_⟩
    · rw [key]
    · rcases List.mem_cons.mp ((h p).mp (List.mem_cons_of_mem _ hp)) with e | q
      · exact (Lt.irr (e ▸ hx _ hp : Lt x x)).elim
      · exact q
    · rcases List.mem_cons.mp ((h p).mpr (List.mem_cons_of_mem _ hp)) with e | q
      · exact (Lt.irr (e ▸ hy _ hp : Lt x x)).elim
      · exact q
/-- ascending, no one twice: strictly ascending -/
theorem strict {l : List (Int × Int)} (h : l.Pairwise fun p q => ¬ Lt q p) (n : l.Nodup) : l.Pairwise Lt := by
  refine List.Pairwise.imp₂ (S := fun p q => p ≠ q) (fun a b => ?_) h n
  rintro h1 h2
  rcases a with ⟨a1, a2⟩
  rcases b with ⟨b1, b2⟩
  have h2 : ¬ (a1 = b1 ∧ a2 = b2) := fun z => h2 (by rw [z.1, z.2])
  unfold Lt at *
  simp only at *
  omega
/-! ### cubes -/
theorem cube_mono {a b : Int} (h : a ^ 3 = b ^ 3) : a = b := by
  have e : (a - b) * (a * a + a * b + b * b) = 0 := by
    have : (a - b) * (a * a + a * b + b * b) = a ^ 3 - b ^ 3 := by grind
    rw [this, h]
    omega
  rcases Int.mul_eq_zero.mp e with z | z
  · omega
  · have h4 : (2 * a + b) * (2 * a + b) + 3 * (b * b) = 0 := by
      have : (2 * a + b) * (2 * a + b) + 3 * (b * b) = 4 * (a * a + a * b + b * b) := by grind
      rw [this, z]
      rfl
    have p1 : 0 ≤ (2 * a + b) * (2 * a + b) := by
      rcases Int.le_total 0 (2 * a + b) with q | q
      · exact Int.mul_nonneg q q
      · exact Int.mul_nonneg_of_nonpos_of_nonpos q q
    have p2 : 0 ≤ b * b := by
      rcases Int.le_total 0 b with q | q
      · exact Int.mul_nonneg q q
      · exact Int.mul_nonneg_of_nonpos_of_nonpos q q
    have hb : b * b = 0 := by omega
    have ha : (2 * a + b) * (2 * a + b) = 0 := by omega
    rcases Int.mul_eq_zero.mp hb with b0 | b0 <;> rcases Int.mul_eq_zero.mp ha with a0 | a0 <;> omega
theorem sq_nn (a : Int) : 0 ≤ a * a := by
  rcases Int.le_total 0 a with q | q
  · exact Int.mul_nonneg q q
  · exact Int.mul_nonneg_of_nonpos_of_nonpos q q
theorem ab_le {a b : Int} (h : a * a ≤ b * b) (hb : 0 ≤ b) : -b ≤ a ∧ a ≤ b := by
  constructor
  · refine Int.not_lt.mp fun z => ?_
    have : b * b < a * a := by
      have h1 : b * b ≤ b * (-a - 1) := Int.mul_le_mul_of_nonneg_left (by omega) hb
      have h2 : b * (-a - 1) ≤ (-a) * (-a - 1) := Int.mul_le_mul_of_nonneg_right (by omega) (by omega)
      have h3 : (-a) * (-a - 1) = a * a + a := by grind
      omega
    omega
  · refine Int.not_lt.mp fun z => ?_
    have : b * b < a * a := by
      have h1 : b * b ≤ b * (a - 1) := Int.mul_le_mul_of_nonneg_left (by omega) hb
      have h2 : b * (a - 1) ≤ a * (a - 1) := Int.mul_le_mul_of_nonneg_right (by omega) (by omega)
      have h3 : a * (a - 1) = a * a - a := by grind
      omega
    omega
def Sol (n : Int) (p : Int × Int) : Prop := p.1 ^ 3 + p.2 ^ 3 = n
theorem sol_fac {n x y : Int} (h : x ^ 3 + y ^ 3 = n) : (x + y) * (x * x - x * y + y * y) = n := by
  rw [← h]
  grind
/-- where solutions lie -/
theorem sol_bound {n x y : Int} (h : x ^ 3 + y ^ 3 = n) (hn : n ≠ 0) : x * x ≤ 4 * n.natAbs ∧ (x + y) * (x + y) * ((x + y).natAbs : Int) ≤ 4 * n.natAbs ∧ (x + y) ∣ n ∧ x + y ≠ 0 ∧ (0 < n ↔ 0 < x + y) := by
  have f := sol_fac h
  have k0 : x * x ≤ 4 * (x * x - x * y + y * y) := by
    have e : 4 * (x * x - x * y + y * y) = x * x + (2 * x - y) * (2 * x - y) + (y * y + y * y + y * y - x * x) := by grind
    have e2 : 4 * (x * x - x * y + y * y) = 3 * (x * x) + (x - 2 * y) * (x - 2 * y) := by grind
    have := sq_nn (x - 2 * y)
    have := sq_nn x
    omega
  have k1 : (x + y) * (x + y) ≤ 4 * (x * x - x * y + y * y) := by
    have e2 : 4 * (x * x - x * y + y * y) = (x + y) * (x + y) + 3 * ((x - y) * (x - y)) := by grind
    have := sq_nn (x - y)
    omega
  have hs : x + y ≠ 0 := fun z => hn (by rw [← f, z, Int.zero_mul])
  have hq0 : x * x - x * y + y * y ≠ 0 := fun z => hn (by rw [← f, z, Int.mul_zero])
  have hq : 0 < x * x - x * y + y * y := by
    have := sq_nn x
    omega
  generalize x * x - x * y + y * y = q at *
  have na : n.natAbs = (x + y).natAbs * q.natAbs := by rw [← f, Int.natAbs_mul]
  have hqn : (q.natAbs : Int) = q := by omega
  have s1 : (1 : Int) ≤ ((x + y).natAbs : Int) := by omega
  have ni : (n.natAbs : Int) = ((x + y).natAbs : Int) * q := by rw [na, Int.natCast_mul, hqn]
  have q1 : q ≤ (n.natAbs : Int) := by
    rw [ni]
    have := Int.mul_le_mul_of_nonneg_right s1 (show (0 : Int) ≤ q by omega)
    omega
  refine ⟨by omega, ?_, ⟨q, f.symm⟩, hs, ?_⟩
  · rw [ni]
    have := Int.mul_le_mul_of_nonneg_right k1 (show (0 : Int) ≤ ((x + y).natAbs : Int) by omega)
    have e : 4 * q * ((x + y).natAbs : Int) = 4 * (((x + y).natAbs : Int) * q) := by ac_rfl
    omega
  · constructor
    · intro h0
      refine Int.not_le.mp fun z => ?_
      have := Int.mul_nonneg (show 0 ≤ -(x + y) by omega) (show 0 ≤ q by omega)
      rw [Int.neg_mul, f] at this
      omega
    · intro h0
      have := Int.mul_pos h0 hq
      omega
/-- the two ways to a solution with the sum s -/
theorem sol_iff {n s : Int} (hs : s ≠ 0) (hd : s ∣ n) (x y : Int) : (x ^ 3 + y ^ 3 = n ∧ x + y = s) ↔ (x + y = s ∧ 3 * (x * y) = s * s - n / s) := by
  obtain ⟨q, rfl⟩ := hd
  have e : s * q / s = q := Int.mul_ediv_cancel_left _ hs
  rw [e]
  constructor
  · rintro ⟨h, rfl⟩
    refine ⟨rfl, ?_⟩
    have f := sol_fac h
    have := Int.eq_of_mul_eq_mul_left hs f
    rw [← this]
    grind
  · rintro ⟨rfl, h⟩
    refine ⟨?_, rfl⟩
    have : q = (x + y) * (x + y) - 3 * (x * y) := by omega
    rw [this]
    grind
/-! ### one sum -/
/-- just the solutions with the sum s -/
structure Cs (n s : Int) (e : List (Int × Int)) : Prop where
  mem : ∀ x y : Int, (x, y) ∈ e ↔ (x ^ 3 + y ^ 3 = n ∧ x + y = s)
  nodup : e.Nodup
  len : e.length ≤ 2
theorem Cs.none {n s : Int} (h : ∀ x y : Int, x ^ 3 + y ^ 3 = n → x + y = s → False) : Cs n s [] :=
  ⟨fun x y => ⟨fun z => (by cases z), fun z => (h x y z.1 z.2).elim⟩, List.nodup_nil, by decide⟩
theorem cs_dvd {n s : Int} (h : ¬ s ∣ n) : Cs n s [] := Cs.none fun x y e1 e2 => h (e2 ▸ ⟨_, (sol_fac e1).symm⟩)
theorem cs_three {n s : Int} (hs : s ≠ 0) (hd : s ∣ n) (h : ¬ (s * s - n / s) % 3 = 0) : Cs n s [] := Cs.none fun x y e1 e2 => by
  have := ((sol_iff hs hd x y).mp ⟨e1, e2⟩).2
  omega
theorem cs_sq {n s p : Int} (hs : s ≠ 0) (hd : s ∣ n) (hp : 3 * p = s * s - n / s) (h : ¬ ∃ r : Int, r * r = s * s - 4 * p) : Cs n s [] := Cs.none fun x y e1 e2 => by
  have h2 := ((sol_iff hs hd x y).mp ⟨e1, e2⟩).2
  have : x * y = p := by omega
  exact h ⟨x - y, by rw [← this, ← e2]; grind⟩
theorem sq_eq {a b : Int} (h : a * a = b * b) (hb : 0 ≤ b) : a = b ∨ a = -b := by
  have e : (a - b) * (a + b) = 0 := by
    have : (a - b) * (a + b) = a * a - b * b := by grind
    omega
  rcases Int.mul_eq_zero.mp e with z | z
  · exact Or.inl (by omega)
  · exact Or.inr (by omega)
theorem cs_odd {n s p r : Int} (hs : s ≠ 0) (hd : s ∣ n) (hp : 3 * p = s * s - n / s) (hr : r * r = s * s - 4 * p) (h0 : 0 ≤ r) (h : ¬ (s - r) % 2 = 0) : Cs n s [] := Cs.none fun x y e1 e2 => by
  have h2 := ((sol_iff hs hd x y).mp ⟨e1, e2⟩).2
  have h3 : x * y = p := by omega
  have h4 : (x - y) * (x - y) = r * r := by
    rw [hr, ← h3, ← e2]
    grind
  rcases sq_eq h4 h0 with z | z <;> omega
theorem cs_yes {n s p r : Int} (hs : s ≠ 0) (hd : s ∣ n) (hp : 3 * p = s * s - n / s) (hr : r * r = s * s - 4 * p) (h0 : 0 ≤ r) (h : (s - r) % 2 = 0) :
    ∀ x y : Int, (x ^ 3 + y ^ 3 = n ∧ x + y = s) ↔ ((x = (s - r) / 2 ∧ y = s - (s - r) / 2) ∨ (y = (s - r) / 2 ∧ x = s - (s - r) / 2)) := by
  intro x y
  rw [sol_iff hs hd x y]
  obtain ⟨q, hq⟩ : ∃ q, (s - r) / 2 = q := ⟨_, rfl⟩
  rw [hq]
  have e : s - r = 2 * q := by omega
  constructor
  · rintro ⟨h1, h2⟩
    have h3 : x * y = p := by omega
    have h4 : (x - y) * (x - y) = r * r := by
      rw [hr, ← h3, ← h1]
      grind
    rcases sq_eq h4 h0 with z | z
    · right
      omega
    · left
      omega
  · intro z
    have k : q * (s - q) = p := by
      have : r = s - 2 * q := by omega
      rw [this] at hr
      have : (s - 2 * q) * (s - 2 * q) = s * s - 4 * (q * (s - q)) := by grind
      omega
    rcases z with ⟨rfl, rfl⟩ | ⟨rfl, rfl⟩
    · refine ⟨by omega, ?_⟩
      rw [k, hp]
    · refine ⟨by omega, ?_⟩
      rw [Int.mul_comm (s - y) y, k, hp]
theorem cs_two {n s p r : Int} (hs : s ≠ 0) (hd : s ∣ n) (hp : 3 * p = s * s - n / s) (hr : r * r = s * s - 4 * p) (h0 : 0 ≤ r) (h : (s - r) % 2 = 0) (hx : ¬ (s - r) / 2 = s - (s - r) / 2) :
    Cs n s [((s - r) / 2, s - (s - r) / 2), (s - (s - r) / 2, (s - r) / 2)] := by
  refine ⟨fun x y => ?_, ?_, by show 2 ≤ 2; decide⟩
  · rw [cs_yes hs hd hp hr h0 h x y, List.mem_cons, List.mem_singleton, Prod.mk.injEq, Prod.mk.injEq]
    constructor
    · rintro (⟨a, b⟩ | ⟨a, b⟩)
      · exact Or.inl ⟨a, b⟩
      · exact Or.inr ⟨b, a⟩
    · rintro (⟨a, b⟩ | ⟨a, b⟩)
      · exact Or.inl ⟨a, b⟩
      · exact Or.inr ⟨b, a⟩
  · refine List.nodup_cons.mpr ⟨fun z => ?_, List.nodup_cons.mpr ⟨fun z => (by cases z), List.nodup_nil⟩⟩
    rw [List.mem_singleton, Prod.mk.injEq] at z
    exact hx z.1
theorem cs_one {n s p r : Int} (hs : s ≠ 0) (hd : s ∣ n) (hp : 3 * p = s * s - n / s) (hr : r * r = s * s - 4 * p) (h0 : 0 ≤ r) (h : (s - r) % 2 = 0) (hx : (s - r) / 2 = s - (s - r) / 2) :
    Cs n s [((s - r) / 2, (s - r) / 2)] := by
  refine ⟨fun x y => ?_, List.nodup_cons.mpr ⟨fun z => (by cases z), List.nodup_nil⟩, by show 1 ≤ 2; decide⟩
  rw [cs_yes hs hd hp hr h0 h x y, List.mem_singleton, Prod.mk.injEq]
  omega
/-! ### all sums up to k -/
def sgn1 (n : Int) : Int := if 0 < n then 1 else -1
structure Pr (n : Int) (k : Nat) (f : List (Int × Int)) : Prop where
  mem : ∀ x y : Int, (x, y) ∈ f ↔ (x ^ 3 + y ^ 3 = n ∧ (x + y).natAbs ≤ k)
  nodup : f.Nodup
  len : f.length ≤ 2 * k
theorem Pr.zero {n : Int} (hn : n ≠ 0) : Pr n 0 [] := by
  refine ⟨fun x y => ⟨fun z => (by cases z), fun z => ?_⟩, List.nodup_nil, by decide⟩
  have := (sol_bound z.1 hn).2.2.2.1
  omega
theorem Pr.step {n : Int} {k : Nat} {f e : List (Int × Int)} (hn : n ≠ 0) (h : Pr n k f) (c : Cs n (sgn1 n * ((k : Int) + 1)) e) : Pr n (k + 1) (f ++ e) := by
  refine ⟨fun x y => ?_, ?_, ?_⟩
  · rw [List.mem_append, h.mem, c.mem]
    constructor
    · rintro (⟨a, b⟩ | ⟨a, b⟩)
      · exact ⟨a, by omega⟩
      · refine ⟨a, ?_⟩
        rw [b]
        unfold sgn1
        split <;> omega
    · rintro ⟨a, b⟩
      by_cases q : (x + y).natAbs ≤ k
      · exact Or.inl ⟨a, q⟩
      · refine Or.inr ⟨a, ?_⟩
        have h5 := (sol_bound a hn).2.2.2.2
        unfold sgn1
        split <;> omega
  · refine List.nodup_append.mpr ⟨h.nodup, c.nodup, ?_⟩
    rintro ⟨x, y⟩ h1 b h2 rfl
    have a1 := ((h.mem x y).mp h1).2
    have a2 := ((c.mem x y).mp h2).2
    rw [a2] at a1
    unfold sgn1 at a1
    split at a1 <;> omega
  · rw [List.length_append]
    have := h.len
    have := c.len
    omega
theorem pow_le3 {a b : Int} (h : 0 ≤ a) (k : a ≤ b) : a ^ 3 ≤ b ^ 3 := by
  have e : b ^ 3 - a ^ 3 = (b - a) * (a * a + a * b + b * b) := by grind
  have h1 := Int.mul_nonneg h h
  have h2 := Int.mul_nonneg h (show 0 ≤ b by omega)
  have h3 := Int.mul_nonneg (show 0 ≤ b by omega) (show 0 ≤ b by omega)
  have := Int.mul_nonneg (show 0 ≤ b - a by omega) (show 0 ≤ a * a + a * b + b * b by omega)
  omega
theorem Pr.full {n : Int} {k : Nat} {f : List (Int × Int)} (hn : n ≠ 0) (h : Pr n k f) (hk : 4 * (n.natAbs : Int) < ((k : Int) + 1) ^ 3) : ∀ x y : Int, (x, y) ∈ f ↔ x ^ 3 + y ^ 3 = n := by
  intro x y
  rw [h.mem]
  constructor
  · exact fun z => z.1
  · intro z
    refine ⟨z, ?_⟩
    have b := (sol_bound z hn).2.1
    have e : (x + y) * (x + y) * ((x + y).natAbs : Int) = ((x + y).natAbs : Int) ^ 3 := by
      generalize x + y = s
      have : s * s = (s.natAbs : Int) * (s.natAbs : Int) := by
        rw [← Int.natAbs_mul_self' s]
      rw [this]
      grind
    rw [e] at b
    refine Nat.not_lt.mp fun w => ?_
    have := pow_le3 (a := (k : Int) + 1) (b := ((x + y).natAbs : Int)) (by omega) (by omega)
    omega
/-! ### products of lines -/
def Li (p q r n x y : Int) : Prop := (x - p * y) * (x - q * y) * (x - r * y) = n
theorem li_dvd {p q r n x y : Int} (h : Li p q r n x y) : (x - p * y) ∣ n ∧ (x - q * y) ∣ n := by
  unfold Li at h
  exact ⟨⟨(x - q * y) * (x - r * y), by rw [← h, Int.mul_assoc]⟩, ⟨(x - p * y) * (x - r * y), by rw [← h]; ac_rfl⟩⟩
theorem dvd_le {a n : Int} (h : a ∣ n) (hn : n ≠ 0) : a.natAbs ≤ n.natAbs ∧ a ≠ 0 :=
  ⟨Nat.le_of_dvd (by omega) (Int.natAbs_dvd_natAbs.mpr h), fun z => hn (Int.zero_dvd.mp (z ▸ h))⟩
theorem li_bound {p q r n x y : Int} (h : Li p q r n x y) (hn : n ≠ 0) (hpq : p ≠ q) : (x - p * y).natAbs ≤ n.natAbs ∧ (x - q * y).natAbs ≤ n.natAbs ∧ y.natAbs ≤ 2 * n.natAbs := by
  obtain ⟨a, b⟩ := li_dvd h
  have a1 := (dvd_le a hn).1
  have b1 := (dvd_le b hn).1
  refine ⟨a1, b1, ?_⟩
  have e : (q - p) * y = (x - p * y) - (x - q * y) := by grind
  have h1 : ((q - p) * y).natAbs ≤ 2 * n.natAbs := by
    rw [e]
    omega
  rw [Int.natAbs_mul] at h1
  have h2 : 1 * y.natAbs ≤ (q - p).natAbs * y.natAbs := Nat.mul_le_mul_right _ (by omega)
  omega
/-- the divisors, as the program finds them -/
def dvs (n : Int) : Nat → List Int
  | 0 => []
  | k + 1 => dvs n k ++ (if n % ((k : Int) + 1) = 0 then (if ((k : Int) + 1) * ((k : Int) + 1) = n then [(k : Int) + 1, -((k : Int) + 1)] else [(k : Int) + 1, -((k : Int) + 1), n.fdiv ((k : Int) + 1), (-n).fdiv ((k : Int) + 1)]) else [])
theorem dvs_len (n : Int) : ∀ k, (dvs n k).length ≤ 4 * k
  | 0 => Nat.le_refl _
  | k + 1 => by
    have := dvs_len n k
    unfold dvs
    rw [List.length_append]
    split
    · split <;> (simp only [List.length_cons, List.length_nil]; omega)
    · simp only [List.length_nil]
      omega
def dvOk (n r : Nat) : Bool := decide ((dvs n r).Nodup) && decide ((dvs n r).length ≤ 24) && (List.range 121).all fun i => decide ((((i : Int) - 60 ∈ dvs n r) ↔ ((i : Int) - 60) ∣ (n : Int)))
theorem dv_tab : ∀ n, n < 61 → n ≠ 0 → ∀ r, r < 8 → r * r ≤ n → n < (r + 1) * (r + 1) → dvOk n r = true := by decide +kernel
theorem dv_is {n r : Nat} (h0 : n ≠ 0) (h : n ≤ 60) (h1 : r * r ≤ n) (h2 : n < (r + 1) * (r + 1)) : (dvs n r).Nodup ∧ (dvs n r).length ≤ 24 ∧ ∀ d : Int, d ∈ dvs n r ↔ d ∣ (n : Int) := by
  have hr : r < 8 := Nat.not_le.mp fun z => by
    have := Nat.mul_le_mul z z
    omega
  have t := dv_tab n (by omega) h0 r hr h1 h2
  unfold dvOk at t
  rw [Bool.and_eq_true, Bool.and_eq_true, decide_eq_true_iff, decide_eq_true_iff, List.all_eq_true] at t
  refine ⟨t.1.1, t.1.2, fun d => ?_⟩
  by_cases hd : d.natAbs ≤ 60
  · have := of_decide_eq_true (t.2 (d + 60).toNat (List.mem_range.mpr (by omega)))
    rw [show (((d + 60).toNat : Nat) : Int) - 60 = d by omega] at this
    exact this
  · constructor
    · intro hm
      exfalso
      have key : ∀ n, n < 61 → n ≠ 0 → ∀ r, r < 8 → ∀ d ∈ dvs (n : Nat) r, d.natAbs ≤ 60 := by decide +kernel
      exact hd (key n (by omega) h0 r hr d hm)
    · intro hm
      have := (dvd_le hm (by omega)).1
      omega
section
variable {p q r n : Int} {D : List Int}
/-- what has been found at the pair (i, j) of divisors -/
structure Pq (p q r n : Int) (D : List Int) (i j : Nat) (f : List (Int × Int)) : Prop where
  mem : ∀ x y : Int, (x, y) ∈ f ↔ (Li p q r n x y ∧ ((x - p * y) ∈ D.take i ∨ (D[i]? = some (x - p * y) ∧ (x - q * y) ∈ D.take j)))
  nodup : f.Nodup
  len : f.length ≤ i * 24 + j
theorem Pq.zero : Pq p q r n D 0 0 [] := ⟨fun x y => ⟨fun z => (by cases z), fun z => (by simp at z)⟩, List.nodup_nil, by decide⟩
theorem take_mem {A : Type} {D : List A} {i : Nat} {u : A} (h : D[i]? = some u) (x : A) : x ∈ D.take (i + 1) ↔ x ∈ D.take i ∨ x = u := by
  rw [List.take_succ, h, List.mem_append]
  simp
theorem Pq.skip {i j : Nat} {f : List (Int × Int)} {u v : Int} (h : Pq p q r n D i j f) (hu : D[i]? = some u) (hv : D[j]? = some v) (no : ∀ x y, Li p q r n x y → x - p * y = u → x - q * y = v → False) : Pq p q r n D i (j + 1) f := by
  refine ⟨fun x y => ?_, h.nodup, by have := h.len; omega⟩
  rw [h.mem, take_mem hv, hu]
  constructor
  · rintro ⟨a, b | ⟨b, c⟩⟩
    · exact ⟨a, Or.inl b⟩
    · exact ⟨a, Or.inr ⟨b, Or.inl c⟩⟩
  · rintro ⟨a, b | ⟨b, c | c⟩⟩
    · exact ⟨a, Or.inl b⟩
    · exact ⟨a, Or.inr ⟨b, c⟩⟩
    · exact (no x y a (Option.some.inj b).symm c).elim
theorem nodup_take {i : Nat} {u : Int} (hd : D.Nodup) (h : D[i]? = some u) : u ∉ D.take i := by
  intro hm
  obtain ⟨k, hk⟩ := List.mem_iff_getElem?.mp hm
  have hk2 : k < i := by
    have := (List.getElem?_eq_some_iff.mp hk).1
    rw [List.length_take] at this
    omega
  rw [List.getElem?_take_of_lt hk2] at hk
  have e := hk.trans h.symm
  have h0 : k < D.length := (List.getElem?_eq_some_iff.mp hk).1
  have := (List.getElem?_inj h0 hd).mp e
  omega
theorem Pq.add {i j : Nat} {f : List (Int × Int)} {u v x y : Int} (h : Pq p q r n D i j f) (hd : D.Nodup) (hpq : p ≠ q) (hu : D[i]? = some u) (hv : D[j]? = some v) (hs : Li p q r n x y) (ex : x - p * y = u) (ey : x - q * y = v) : Pq p q r n D i (j + 1) (f ++ [(x, y)]) := by
  have one : ∀ x' y', x' - p * y' = u → x' - q * y' = v → x' = x ∧ y' = y := by
    intro x' y' e1 e2
    have e : (q - p) * (y' - y) = 0 := by
      have : (q - p) * (y' - y) = ((x' - p * y') - (x' - q * y')) - ((x - p * y) - (x - q * y)) := by grind
      rw [this, e1, e2, ex, ey]
      omega
    have ey2 : y' = y := by
      rcases Int.mul_eq_zero.mp e with z | z <;> omega
    subst ey2
    exact ⟨by omega, rfl⟩
  refine ⟨fun x' y' => ?_, ?_, ?_⟩
  · rw [List.mem_append, h.mem, take_mem hv, hu, List.mem_singleton, Prod.mk.injEq]
    constructor
    · rintro (⟨a, b | ⟨b, c⟩⟩ | ⟨rfl, rfl⟩)
      · exact ⟨a, Or.inl b⟩
      · exact ⟨a, Or.inr ⟨b, Or.inl c⟩⟩
      · exact ⟨hs, Or.inr ⟨by rw [ex], Or.inr ey⟩⟩
    · rintro ⟨a, b | ⟨b, c | c⟩⟩
      · exact Or.inl ⟨a, Or.inl b⟩
      · exact Or.inl ⟨a, Or.inr ⟨b, c⟩⟩
      · exact Or.inr (one x' y' (Option.some.inj b).symm c)
  · refine List.nodup_append.mpr ⟨h.nodup, List.nodup_cons.mpr ⟨fun z => (by cases z), List.nodup_nil⟩, ?_⟩
    rintro ⟨a1, a2⟩ ha b hb rfl
    rw [List.mem_singleton, Prod.mk.injEq] at hb
    obtain ⟨rfl, rfl⟩ := hb
    obtain ⟨-, z | ⟨-, z⟩⟩ := (h.mem a1 a2).mp ha
    · rw [ex] at z
      exact nodup_take hd hu z
    · rw [ey] at z
      exact nodup_take hd hv z
  · rw [List.length_append]
    have := h.len
    simp only [List.length_cons, List.length_nil]
    omega
theorem Pq.next {i : Nat} {f : List (Int × Int)} {u : Int} (h : Pq p q r n D i D.length f) (hu : D[i]? = some u) (hl : D.length ≤ 24) (hD : ∀ d : Int, d ∣ n → d ∈ D) : Pq p q r n D (i + 1) 0 f := by
  refine ⟨fun x y => ?_, h.nodup, by have := h.len; omega⟩
  rw [h.mem, take_mem hu, hu, List.take_length, List.take_zero]
  constructor
  · rintro ⟨a, b | ⟨b, c⟩⟩
    · exact ⟨a, Or.inl (Or.inl b)⟩
    · exact ⟨a, Or.inl (Or.inr (Option.some.inj b).symm)⟩
  · rintro ⟨a, (b | b) | ⟨-, c⟩⟩
    · exact ⟨a, Or.inl b⟩
    · exact ⟨a, Or.inr ⟨by rw [b], hD _ (li_dvd a).2⟩⟩
    · cases c
theorem Pq.full {f : List (Int × Int)} (h : Pq p q r n D D.length 0 f) (hD : ∀ d : Int, d ∣ n → d ∈ D) : ∀ x y : Int, (x, y) ∈ f ↔ Li p q r n x y := by
  intro x y
  rw [h.mem, List.take_length]
  exact ⟨fun z => z.1, fun z => ⟨z, Or.inl (hD _ (li_dvd z).1)⟩⟩
/-- what the law has found when it stands at (Y, X) -/
structure Lw (p q r n Y X : Int) (f : List (Int × Int)) : Prop where
  mem : ∀ x y : Int, (x, y) ∈ f ↔ (Li p q r n x y ∧ (y < Y ∨ (y = Y ∧ x < X)))
  nodup : f.Nodup
theorem Lw.start (hn : n ≠ 0) (hpq : p ≠ q) : Lw p q r n (-2 * (n.natAbs : Int)) (max (p * (-2 * (n.natAbs : Int))) (q * (-2 * (n.natAbs : Int))) - n.natAbs) [] := by
  refine ⟨fun x y => ⟨fun z => (by cases z), fun z => ?_⟩, List.nodup_nil⟩
  obtain ⟨a, b | ⟨rfl, b⟩⟩ := z
  · have := (li_bound a hn hpq).2.2
    omega
  · have := li_bound a hn hpq
    omega
theorem Lw.skip {Y X : Int} {f : List (Int × Int)} (h : Lw p q r n Y X f) (no : ¬ Li p q r n X Y) : Lw p q r n Y (X + 1) f := by
  refine ⟨fun x y => ?_, h.nodup⟩
  rw [h.mem]
  constructor
  · rintro ⟨a, b | b⟩
    · exact ⟨a, Or.inl b⟩
    · exact ⟨a, Or.inr (by omega)⟩
  · rintro ⟨a, b | ⟨rfl, b⟩⟩
    · exact ⟨a, Or.inl b⟩
    · rcases (show x < X ∨ x = X by omega) with z | rfl
      · exact ⟨a, Or.inr ⟨rfl, z⟩⟩
      · exact (no a).elim
theorem Lw.add {Y X : Int} {f : List (Int × Int)} (h : Lw p q r n Y X f) (hs : Li p q r n X Y) : Lw p q r n Y (X + 1) (f ++ [(X, Y)]) := by
  refine ⟨fun x y => ?_, ?_⟩
  · rw [List.mem_append, h.mem, List.mem_singleton, Prod.mk.injEq]
    constructor
    · rintro (⟨a, b | b⟩ | ⟨rfl, rfl⟩)
      · exact ⟨a, Or.inl b⟩
      · exact ⟨a, Or.inr (by omega)⟩
      · exact ⟨hs, Or.inr ⟨rfl, by omega⟩⟩
    · rintro ⟨a, b | ⟨rfl, b⟩⟩
      · exact Or.inl ⟨a, Or.inl b⟩
      · rcases (show x < X ∨ x = X by omega) with z | rfl
        · exact Or.inl ⟨a, Or.inr ⟨rfl, z⟩⟩
        · exact Or.inr ⟨rfl, rfl⟩
  · refine List.nodup_append.mpr ⟨h.nodup, List.nodup_cons.mpr ⟨fun z => (by cases z), List.nodup_nil⟩, ?_⟩
    rintro ⟨a1, a2⟩ ha b hb rfl
    rw [List.mem_singleton, Prod.mk.injEq] at hb
    obtain ⟨rfl, rfl⟩ := hb
    have := ((h.mem _ _).mp ha).2
    omega
theorem Lw.next {Y X : Int} {f : List (Int × Int)} (h : Lw p q r n Y X f) (hn : n ≠ 0) (hpq : p ≠ q) (hX : min (p * Y) (q * Y) + n.natAbs + 1 ≤ X) : Lw p q r n (Y + 1) (max (p * (Y + 1)) (q * (Y + 1)) - n.natAbs) f := by
  refine ⟨fun x y => ?_, h.nodup⟩
  rw [h.mem]
  constructor
  · rintro ⟨a, b | b⟩
    · exact ⟨a, Or.inl (by omega)⟩
    · exact ⟨a, Or.inl (by omega)⟩
  · rintro ⟨a, b | ⟨rfl, b⟩⟩
    · rcases (show y < Y ∨ y = Y by omega) with z | rfl
      · exact ⟨a, Or.inl z⟩
      · have := li_bound a hn hpq
        exact ⟨a, Or.inr ⟨rfl, by omega⟩⟩
    · have := li_bound a hn hpq
      exfalso
      generalize p * (Y + 1) = s at *
      generalize q * (Y + 1) = t at *
      omega
theorem Lw.full {X : Int} {f : List (Int × Int)} (h : Lw p q r n (2 * (n.natAbs : Int) + 1) X f) (hn : n ≠ 0) (hpq : p ≠ q) : ∀ x y : Int, (x, y) ∈ f ↔ Li p q r n x y := by
  intro x y
  rw [h.mem]
  refine ⟨fun z => z.1, fun z => ⟨z, Or.inl ?_⟩⟩
  have := (li_bound z hn hpq).2.2
  omega
end
/-! ### the law's cubes -/
structure Lc (n X : Int) (f : List (Int × Int)) : Prop where
  mem : ∀ x y : Int, (x, y) ∈ f ↔ (x ^ 3 + y ^ 3 = n ∧ x < X)
  ord : f.Pairwise Lt
theorem Lc.start {n M : Int} (hn : n ≠ 0) (h0 : 0 ≤ M) (hM : 4 * (n.natAbs : Int) < M * M) : Lc n (-M) [] := by
  refine ⟨fun x y => ⟨fun z => (by cases z), fun z => ?_⟩, List.Pairwise.nil⟩
  have h1 := (sol_bound z.1 hn).1
  have h2 := (ab_le (show x * x ≤ M * M by omega) h0).1
  omega
theorem Lc.skip {n X : Int} {f : List (Int × Int)} (h : Lc n X f) (no : ∀ y : Int, y ^ 3 ≠ n - X ^ 3) : Lc n (X + 1) f := by
  refine ⟨fun x y => ?_, h.ord⟩
  rw [h.mem]
  refine ⟨fun z => ⟨z.1, by omega⟩, fun z => ⟨z.1, ?_⟩⟩
  rcases (show x < X ∨ x = X by omega) with w | rfl
  · exact w
  · exact (no y (by have := z.1; omega)).elim
theorem Lc.add {n X Y : Int} {f : List (Int × Int)} (h : Lc n X f) (hy : Y ^ 3 = n - X ^ 3) : Lc n (X + 1) (f ++ [(X, Y)]) := by
  refine ⟨fun x y => ?_, ?_⟩
  · rw [List.mem_append, h.mem, List.mem_singleton, Prod.mk.injEq]
    constructor
    · rintro (⟨a, b⟩ | ⟨rfl, rfl⟩)
      · exact ⟨a, by omega⟩
      · exact ⟨by omega, by omega⟩
    · rintro ⟨a, b⟩
      rcases (show x < X ∨ x = X by omega) with w | rfl
      · exact Or.inl ⟨a, w⟩
      · exact Or.inr ⟨rfl, cube_mono (by omega)⟩
  · refine List.pairwise_append.mpr ⟨h.ord, List.pairwise_singleton _ _, ?_⟩
    rintro ⟨a1, a2⟩ ha b hb
    rw [List.mem_singleton] at hb
    subst hb
    exact Or.inl ((h.mem _ _).mp ha).2
theorem Lc.full {n X M : Int} {f : List (Int × Int)} (h : Lc n X f) (hn : n ≠ 0) (h0 : 0 ≤ M) (hM : 4 * (n.natAbs : Int) < M * M) (hX : M < X) : ∀ x y : Int, (x, y) ∈ f ↔ x ^ 3 + y ^ 3 = n := by
  intro x y
  rw [h.mem]
  refine ⟨fun z => z.1, fun z => ⟨z, ?_⟩⟩
  have h1 := (sol_bound z hn).1
  have h2 := (ab_le (show x * x ≤ M * M by omega) h0).2
  omega
/-! ### 1729 -/
def taxi : List (Int × Int) := [(1, 12), (9, 10), (10, 9), (12, 1)]
def taxiOk (x y : Int) : Bool := !decide (x ^ 3 + y ^ 3 = 1729) || taxi.any fun p => decide (x = p.1) && decide (y = p.2)
theorem taxi_key : ∀ i : Nat, i < 169 → ∀ k : Nat, k < 20 → taxiOk ((i : Int) - 84) ((k : Int) - ((i : Int) - 84)) = true := by decide +kernel
theorem taxi_ord : taxi.Pairwise Lt := by
  unfold taxi Lt
  simp
theorem taxi_mem : ∀ x y : Int, (x, y) ∈ taxi ↔ x ^ 3 + y ^ 3 = 1729 := by
  intro x y
  constructor
  · intro h
    simp only [taxi, List.mem_cons, List.not_mem_nil, or_false, Prod.mk.injEq] at h
    rcases h with ⟨rfl, rfl⟩ | ⟨rfl, rfl⟩ | ⟨rfl, rfl⟩ | ⟨rfl, rfl⟩ <;> decide
  · intro h
    obtain ⟨h1, h2, -, -, h5⟩ := sol_bound h (by decide)
    have hs : 0 < x + y := h5.mp (by decide)
    have hx := ab_le (show x * x ≤ 84 * 84 by
      have : ((1729 : Int).natAbs : Int) = 1729 := by decide
      omega) (by decide)
    have hk : x + y < 20 := Int.not_le.mp fun z => by
      have e : (x + y) * (x + y) * ((x + y).natAbs : Int) = (x + y) ^ 3 := by
        rw [show ((x + y).natAbs : Int) = x + y by omega]
        grind
      rw [e] at h2
      have := pow_le3 (a := 20) (b := x + y) (by decide) z
      have e2 : (20 : Int) ^ 3 = 8000 := by decide
      have : ((1729 : Int).natAbs : Int) = 1729 := by decide
      omega
    have := taxi_key (x + 84).toNat (by omega) (x + y).toNat (by omega)
    rw [show (((x + 84).toNat : Nat) : Int) - 84 = x by omega, show (((x + y).toNat : Nat) : Int) - x = y by omega] at this
    rw [taxiOk, Bool.or_eq_true, Bool.not_eq_true', decide_eq_false_iff_not, List.any_eq_true] at this
    rcases this with z | ⟨⟨a, b⟩, hm, z⟩
    · exact (z h).elim
    · rw [Bool.and_eq_true, decide_eq_true_iff, decide_eq_true_iff] at z
      rw [z.1, z.2]
      exact hm
end K51M
/-! All points of a curve modulo a number, one after the other. Plain mathematics. -/
set_option linter.all false
namespace K40
open K45M EcZ
/-- the digits y over x -/
def ys (n : Nat) (c : C5) (x : Nat) : List Nat := (List.range n).filter fun y => decide (lhs c (x : Int) (y : Int) % (n : Int) = 0)
def due (n : Nat) (c : C5) (j : Nat) : List (Int × Int) := (List.range j).flatMap fun x => (ys n c x).map fun (y : Nat) => ((x : Int), (y : Int))
theorem due_succ (n : Nat) (c : C5) (j : Nat) : due n c (j + 1) = due n c j ++ (ys n c j).map fun (y : Nat) => ((j : Int), (y : Int)) := by
  unfold due
  rw [List.range_succ, List.flatMap_append, List.flatMap_singleton]
/-- the roots that make them -/
def zs (n : Nat) (v : Int) : List Nat := (List.range n).filter fun (z : Nat) => decide (((z : Int) * (z : Int)) % (n : Int) = v % (n : Int))
theorem ys_perm {n : Nat} (h : (n : Int) % 2 = 1) (c : C5) (x : Nat) : List.Perm ((zs n (cub c (x : Int))).map fun (z : Nat) => (yz (n : Int) c (x : Int) (z : Int)).toNat) (ys n c x) := by
  have hp : (0 : Int) < (n : Int) := by omega
  have nn : ∀ z : Int, 0 ≤ yz (n : Int) c (x : Int) z := fun z => Int.emod_nonneg _ (by omega)
  refine (List.perm_ext_iff_of_nodup ?_ (List.nodup_range.filter _)).mpr fun y => ?_
  · rw [List.Nodup, List.pairwise_map]
    refine List.Pairwise.imp_of_mem ?_ ((List.pairwise_lt_range (n := n)).filter _)
    intro i j hi hj hij e
    have hi := List.mem_range.mp (List.mem_filter.mp hi).1
    have hj := List.mem_range.mp (List.mem_filter.mp hj).1
    have n1 := nn i
    have n2 := nn j
    have e2 : yz (n : Int) c (x : Int) (i : Int) = yz (n : Int) c (x : Int) (j : Int) := by omega
    have := yz_inj h (c := c) (show Dg (n : Int) (i : Int) from ⟨by omega, by omega⟩) (show Dg (n : Int) (j : Int) from ⟨by omega, by omega⟩) e2
    omega
  · have key := ys_iff (p := (n : Int)) (c := c) h hp (x := (x : Int)) (y := (y : Int))
    constructor
    · intro hy
      obtain ⟨z, hz, rfl⟩ := List.mem_map.mp hy
      obtain ⟨z1, z2⟩ := List.mem_filter.mp hz
      have z1 := List.mem_range.mp z1
      have z2 := of_decide_eq_true z2
      have n1 := nn z
      have e : (((yz (n : Int) c (x : Int) (z : Int)).toNat : Nat) : Int) = yz (n : Int) c (x : Int) (z : Int) := Int.toNat_of_nonneg n1
      obtain ⟨g1, g2⟩ := key.mpr ⟨(z : Int), ⟨by omega, by omega⟩, z2, e.symm⟩
      exact List.mem_filter.mpr ⟨List.mem_range.mpr (by have := g1.2; omega), decide_eq_true g2⟩
    · intro hy
      obtain ⟨y1, y2⟩ := List.mem_filter.mp hy
      have y1 := List.mem_range.mp y1
      have y2 := of_decide_eq_true y2
      obtain ⟨z, g1, g2, g3⟩ := key.mp ⟨⟨by omega, by omega⟩, y2⟩
      have z0 := g1.1
      have z1 := g1.2
      refine List.mem_map.mpr ⟨z.toNat, List.mem_filter.mpr ⟨List.mem_range.mpr (by omega), ?_⟩, ?_⟩
      · rw [Int.toNat_of_nonneg z0]
        exact decide_eq_true g2
      · rw [Int.toNat_of_nonneg z0, g3]
        exact Int.toNat_natCast y
theorem ys_len {n : Nat} (h : (n : Int) % 2 = 1) (c : C5) (x : Nat) : (ys n c x).length = nsq n (cub c (x : Int)) := by
  rw [← (ys_perm h c x).length_eq, List.length_map]
  rfl
theorem due_len {n : Nat} (h : (n : Int) % 2 = 1) (c : C5) : ∀ j, (due n c j).length = cntTo n j (cub c)
  | 0 => rfl
  | j + 1 => by rw [due_succ, List.length_append, List.length_map, due_len h c j, ys_len h, cntTo_succ]
theorem ys_asc (n : Nat) (c : C5) (x : Nat) : (ys n c x).Pairwise (· < ·) := (List.pairwise_lt_range (n := n)).filter _
theorem ys_le (n : Nat) (c : C5) (x : Nat) : (ys n c x).length ≤ n := by
  unfold ys
  refine Nat.le_trans (List.length_filter_le ..) ?_
  rw [List.length_range]
  exact Nat.le_refl _
theorem due_le (n : Nat) (c : C5) : ∀ j, (due n c j).length ≤ j * n
  | 0 => Nat.zero_le _
  | j + 1 => by
    rw [due_succ, List.length_append, List.length_map, Nat.succ_mul]
    exact Nat.add_le_add (due_le n c j) (ys_le n c j)
/-- an ascending row is told by its members -/
theorem uniqI : ∀ {l m : List Int}, l.Pairwise (· ≤ ·) → m.Pairwise (· ≤ ·) → l.Perm m → l = m
  | [], m, _, _, h => by rw [List.nil_perm.mp h]
  | x :: l, [], _, _, h => by
    have := h.length_eq
    cases this
  | x :: l, y :: m, hl, hm, h => by
    obtain ⟨a1, a2⟩ := List.pairwise_cons.mp hl
    obtain ⟨b1, b2⟩ := List.pairwise_cons.mp hm
    have e : x = y := by
      have h1 : x ≤ y := by
        rcases List.mem_cons.mp (h.mem_iff.mpr List.mem_cons_self) with e | q
        · omega
        · exact a1 _ q
      have h2 : y ≤ x := by
        rcases List.mem_cons.mp (h.mem_iff.mp List.mem_cons_self) with e | q
        · omega
        · exact b1 _ q
      omega
    subst e
    rw [uniqI a2 b2 (List.Perm.cons_inv h)]
/-- of the first j digits those that square to v -/
def rl (n j v : Nat) : List Int := ((List.range j).filter fun z => decide (z * z % n = v)).map fun (z : Nat) => (z : Int)
theorem rl_succ (n j v : Nat) : rl n (j + 1) v = rl n j v ++ (if j * j % n = v then [(j : Int)] else []) := by
  unfold rl
  rw [List.range_succ, List.filter_append, List.map_append]
  congr 1
  by_cases h : j * j % n = v
  · rw [if_pos h]
    simp [h]
  · rw [if_neg h]
    simp [h]
theorem rl_len (n j v : Nat) : (rl n j v).length ≤ j := by
  unfold rl
  rw [List.length_map]
  refine Nat.le_trans (List.length_filter_le ..) ?_
  rw [List.length_range]
  exact Nat.le_refl _
theorem rl_zs {n : Nat} (hn : 0 < n) (v : Int) : rl n n (v % (n : Int)).toNat = (zs n v).map fun (z : Nat) => (z : Int) := by
  unfold rl zs
  congr 1
  refine List.filter_congr fun z _ => ?_
  refine decide_eq_decide.mpr ?_
  have b0 := Int.emod_nonneg v (show (n : Int) ≠ 0 by omega)
  have e : ((z : Int) * (z : Int)) % (n : Int) = ((z * z % n : Nat) : Int) := by
    rw [Int.natCast_emod, Int.natCast_mul]
  rw [e]
  omega
/-- the sorted digits are the row of y -/
theorem sorted_ys {n : Nat} (h : (n : Int) % 2 = 1) (c : C5) (x : Nat) {l : List Int} (hp : l.Perm ((rl n n (cub c (x : Int) % (n : Int)).toNat).map fun z => yz (n : Int) c (x : Int) z)) (ha : l.Pairwise (· ≤ ·)) : l = (ys n c x).map fun (y : Nat) => (y : Int) := by
  refine uniqI ha ?_ ?_
  · rw [List.pairwise_map]
    exact (ys_asc n c x).imp fun {a b} z => by omega
  · refine hp.trans ?_
    rw [rl_zs (by omega), List.map_map]
    have h1 := (ys_perm h c x).map fun (y : Nat) => (y : Int)
    rw [List.map_map] at h1
    refine (List.Perm.of_eq ?_).trans h1
    refine List.map_congr_left fun z _ => ?_
    show yz (n : Int) c (x : Int) (z : Int) = (((yz (n : Int) c (x : Int) (z : Int)).toNat : Nat) : Int)
    exact (Int.toNat_of_nonneg (Int.emod_nonneg _ (by omega))).symm
theorem ys_mem {n : Nat} {c : C5} {x y : Nat} : y ∈ ys n c x ↔ y < n ∧ lhs c (x : Int) (y : Int) % (n : Int) = 0 := by
  unfold ys
  rw [List.mem_filter, List.mem_range, decide_eq_true_iff]
theorem due_mem {n : Nat} {c : C5} {j : Nat} {x y : Int} : (x, y) ∈ due n c j ↔ 0 ≤ x ∧ x < (j : Int) ∧ 0 ≤ y ∧ y < (n : Int) ∧ lhs c x y % (n : Int) = 0 := by
  unfold due
  rw [List.mem_flatMap]
  constructor
  · rintro ⟨a, ha, hb⟩
    obtain ⟨b, hb, e⟩ := List.mem_map.mp hb
    have ha := List.mem_range.mp ha
    obtain ⟨b1, b2⟩ := ys_mem.mp hb
    obtain rfl : (a : Int) = x := congrArg Prod.fst e
    obtain rfl : (b : Int) = y := congrArg Prod.snd e
    exact ⟨by omega, by omega, by omega, by omega, b2⟩
  · rintro ⟨x0, x1, y0, y1, h⟩
    refine ⟨x.toNat, List.mem_range.mpr (by omega), List.mem_map.mpr ⟨y.toNat, ys_mem.mpr ⟨by omega, ?_⟩, ?_⟩⟩
    · rw [Int.toNat_of_nonneg x0, Int.toNat_of_nonneg y0]
      exact h
    · rw [Int.toNat_of_nonneg x0, Int.toNat_of_nonneg y0]
end K40
/-! Bits of a row, values of a polynomial modulo q: plain mathematics. -/
set_option linter.all false
namespace SvM
open K45M
/-- the value of a polynomial, the lowest coefficient first -/
def ev (f : List Int) (x : Int) : Int := f.foldr (fun c t => t * x + c) 0
theorem ev_mo {q x y : Int} (h : Mo q x y) : ∀ f : List Int, Mo q (ev f x) (ev f y)
  | [] => Mo.rfl'
  | c :: f => ((ev_mo h f).mul h).add Mo.rfl'
theorem ev_cons (c : Int) (f : List Int) (x : Int) : ev (c :: f) x = ev f x * x + c := rfl
/-! ### the lowest bit -/
theorem low_form : ∀ r : Nat, 0 < r → ∃ i m, r = 2 ^ i * (2 * m + 1) := by
  intro r
  induction r using Nat.strongRecOn with
  | ind r ih =>
    intro h
    rcases Nat.mod_two_eq_zero_or_one r with e | e
    · obtain ⟨i, m, hm⟩ := ih (r / 2) (by omega) (by omega)
      refine ⟨i + 1, m, ?_⟩
      rw [Nat.pow_succ, Nat.mul_comm (2 ^ i), Nat.mul_assoc, ← hm]
      omega
    · exact ⟨0, r / 2, by rw [Nat.pow_zero]; omega⟩
theorem low_and (m : Nat) : ∀ i : Nat, (2 ^ i * (2 * m + 1)) &&& (2 ^ i * (2 * m + 1) - 1) = 2 ^ i * (2 * m)
  | 0 => by
    rw [Nat.pow_zero, Nat.one_mul, Nat.one_mul, Nat.add_sub_cancel]
    have h1 : ((2 * m + 1) &&& (2 * m)) / 2 = m := by
      rw [Nat.and_div_two, show (2 * m + 1) / 2 = m by omega, show 2 * m / 2 = m by omega, Nat.and_self]
    have h2 : ((2 * m + 1) &&& (2 * m)) % 2 = 0 := by
      have := @Nat.and_mod_two_eq_one (2 * m + 1) (2 * m)
      omega
    omega
  | i + 1 => by
    have ih := low_and m i
    have p : 0 < 2 ^ i * (2 * m + 1) := Nat.mul_pos (Nat.two_pow_pos i) (by omega)
    have e : 2 ^ (i + 1) * (2 * m + 1) = 2 * (2 ^ i * (2 * m + 1)) := by
      rw [Nat.pow_succ, Nat.mul_comm (2 ^ i), Nat.mul_assoc]
    have e2 : 2 ^ (i + 1) * (2 * m) = 2 * (2 ^ i * (2 * m)) := by
      rw [Nat.pow_succ, Nat.mul_comm (2 ^ i), Nat.mul_assoc]
    rw [e, e2]
    generalize 2 ^ i * (2 * m + 1) = s at *
    have h1 : ((2 * s) &&& (2 * s - 1)) / 2 = s &&& (s - 1) := by
      rw [Nat.and_div_two, show 2 * s / 2 = s by omega, show (2 * s - 1) / 2 = s - 1 by omega]
    have h2 : ((2 * s) &&& (2 * s - 1)) % 2 = 0 := by
      have := @Nat.and_mod_two_eq_one (2 * s) (2 * s - 1)
      omega
    omega
theorem tb_odd (m j : Nat) : (2 * m + 1).testBit j = if j = 0 then true else m.testBit (j - 1) := by
  cases j with
  | zero =>
    rw [Nat.testBit_zero, if_pos rfl]
    simp
  | succ j =>
    rw [Nat.testBit_succ, if_neg (by omega), show (2 * m + 1) / 2 = m by omega]
    rfl
theorem tb_even (m j : Nat) : (2 * m).testBit j = if j = 0 then false else m.testBit (j - 1) := by
  cases j with
  | zero =>
    rw [Nat.testBit_zero, if_pos rfl]
    simp
  | succ j =>
    rw [Nat.testBit_succ, if_neg (by omega), show (2 * m) / 2 = m by omega]
    rfl
/-- what taking the lowest bit away does -/
theorem low_bits (i m j : Nat) : (2 ^ i * (2 * m)).testBit j = ((2 ^ i * (2 * m + 1)).testBit j && decide (j ≠ i)) ∧ ((2 ^ i * (2 * m)).testBit j = true → i < j) ∧ (2 ^ i * (2 * m + 1)).testBit i = true := by
  rw [Nat.testBit_two_pow_mul, Nat.testBit_two_pow_mul, Nat.testBit_two_pow_mul, tb_even, tb_odd, tb_odd, Nat.sub_self, if_pos rfl]
  refine ⟨?_, ?_, by simp⟩
  · by_cases h : j - i = 0
    · rw [if_pos h, if_pos h]
      by_cases h2 : j = i
      · simp [h2]
      · have : ¬ i ≤ j := by omega
        simp [this]
    · rw [if_neg h, if_neg h]
      have : j ≠ i := by omega
      simp [this]
  · by_cases h : j - i = 0
    · rw [if_pos h]
      simp
    · intro _
      omega
/-! ### a row repeated -/
/-- bit j is set just for the j below n with a kept j modulo s -/
def Bt (row n : Nat) (kept : List Bool) : Prop := ∀ j, row.testBit j = (decide (j < n) && kept.getD (j % kept.length) false)
theorem Bt.dbl {row n : Nat} {kept : List Bool} (h : Bt row n kept) (hd : kept.length ∣ n) : Bt (row ||| row <<< n) (2 * n) kept := by
  intro j
  rw [Nat.testBit_or, Nat.testBit_shiftLeft, h j, h (j - n)]
  by_cases h1 : j < n
  · have h2 : j < 2 * n := by omega
    have h3 : ¬ j ≥ n := by omega
    simp [h1, h2, h3]
  · have h3 : j ≥ n := by omega
    obtain ⟨k, hk⟩ := hd
    have e : (j - n) % kept.length = j % kept.length := by
      have : j = (j - n) + kept.length * k := by omega
      rw [this, Nat.add_mul_mod_self_left, ← hk, Nat.add_sub_cancel]
    rw [e]
    by_cases h2 : j < 2 * n
    · have h4 : j - n < n := by omega
      simp [h1, h2, h3, h4]
    · have h4 : ¬ j - n < n := by omega
      simp [h1, h2, h3, h4]
theorem Bt.cut {row n L : Nat} {kept : List Bool} (h : Bt row n kept) (hL : L ≤ n) : Bt (row &&& (2 ^ L - 1)) L kept := by
  intro j
  rw [Nat.testBit_and, h j, Nat.testBit_two_pow_sub_one]
  by_cases h1 : j < L
  · have h2 : j < n := by omega
    simp [h1, h2]
  · simp [h1]
/-- the first round -/
def B1 (row i : Nat) (kept : List Bool) : Prop := ∀ j, row.testBit j = (decide (j < i) && kept.getD j false)
theorem B1.zero {kept : List Bool} : B1 0 0 kept := fun j => by simp
theorem B1.set {row i : Nat} {kept : List Bool} (h : B1 row i kept) (hk : kept.getD i false = true) : B1 (row ||| 2 ^ i) (i + 1) kept := by
  intro j
  rw [Nat.testBit_or, h j, Nat.testBit_two_pow]
  by_cases h1 : i = j
  · subst h1
    have : ¬ i < i := by omega
    rw [hk]
    simp
  · by_cases h2 : j < i
    · have : j < i + 1 := by omega
      simp [h1, h2, this]
    · have : ¬ j < i + 1 := by omega
      simp [h1, h2, this]
theorem B1.skip {row i : Nat} {kept : List Bool} (h : B1 row i kept) (hk : kept.getD i false = false) : B1 row (i + 1) kept := by
  intro j
  rw [h j]
  by_cases h1 : i = j
  · subst h1
    rw [hk]
    simp
  · by_cases h2 : j < i
    · have : j < i + 1 := by omega
      simp [h2, this]
    · have : ¬ j < i + 1 := by omega
      simp [h2, this]
theorem B1.bt {row : Nat} {kept : List Bool} (h : B1 row kept.length kept) : Bt row kept.length kept := by
  intro j
  rw [h j]
  by_cases h1 : j < kept.length
  · rw [Nat.mod_eq_of_lt h1]
  · simp [h1]
theorem bt_lt {row n : Nat} {kept : List Bool} (h : Bt row n kept) : row < 2 ^ n := by
  refine Nat.lt_pow_two_of_testBit _ fun j hj => ?_
  rw [h j]
  have : ¬ j < n := by omega
  simp [this]
theorem b1_lt {row n : Nat} {kept : List Bool} (h : B1 row n kept) : row < 2 ^ n := by
  refine Nat.lt_pow_two_of_testBit _ fun j hj => ?_
  rw [h j]
  have : ¬ j < n := by omega
  simp [this]
end SvM
set_option Elab.async false
set_option linter.all false
/-! xs[i] op= e, for a list: the read. -/
namespace Gd
open PySem PySem.Spec PyProof.Rows L2
section
variable {X : Cx}
def rGetL (K : PySem.W.Frag) : V → V → Hp → VK → Prop := fun o i H Q => ∃ (p : Addr) (xs : List V) (k : Nat) (z : V), o = .ref p ∧ i = .int (k : Int) ∧ SqL K H p xs ∧ xs[k]? = some z ∧ Q z H
theorem get_list : PGet X (rGetL X.K) := by
  intro pins s σ H o i ov iv Q I ro ri h
  obtain ⟨p, xs, k, z, rfl, rfl, hq, he, q⟩ := h
  cases ro
  obtain ⟨t, rfl⟩ := ri
  obtain ⟨its, r, pl, hz⟩ := I.list hq
  obtain ⟨w, ew, rw'⟩ := r.get he
  have hl := r.length
  have hn := line63
  have hk := (List.getElem?_eq_some_iff.mp he).1
  have fin : EP X pins σ Q w s := ⟨z, H, I, rw', q⟩
  exact wpAny_getItem_list pl.isList (by omega) (by omega) (by simpa using ew) fin
end
end Gd
namespace Gd
open PySem PySem.Spec PyProof.Rows L2
/-- a walk over a range by what holds at each turn, whatever a turn asks -/
theorem it_range {lo : Int} {n : Nat} {H0 : Hp} {Qd : Hp → Prop} {F : V → Hp → (Hp → Prop) → Prop} (Pv : Nat → Hp → Prop) (h0 : Pv 0 H0) (hs : ∀ i H, i < n → Pv i H → F (.int (lo + i)) H (Pv (i + 1))) (hd : ∀ H, Pv n H → Qd H) :
    ∃ W : Nat → Nat → Hp → Prop, (∃ m, W 0 m H0) ∧ ∀ i m H, W i m H →
      ((Itr lo n).stop i H ∧ Qd H) ∨ ((Itr lo n).go i H ∧ ∃ Nx : Hp → Prop, (∀ H', Nx H' → ∃ m', m' < m ∧ W (i + 1) m' H') ∧ ∀ x H', (Itr lo n).yld i H x H' → F x H' Nx) := by
  refine ⟨fun i m H => m = n - i ∧ i ≤ n ∧ Pv i H, ⟨n, by simp, Nat.zero_le _, h0⟩, ?_⟩
  rintro i m H ⟨rfl, hi, p⟩
  by_cases hlt : i < n
  · refine .inr ⟨hlt, Pv (i + 1), fun H' p' => ⟨n - (i + 1), by omega, rfl, hlt, p'⟩, fun x H' y => ?_⟩
    obtain ⟨e, y⟩ := y
    subst e y
    exact hs i _ hlt p
  · have e : i = n := by omega
    subst e
    exact .inl ⟨Nat.le_refl _, hd H p⟩
end Gd
namespace Gd
open PySem PySem.Spec PyProof.Rows L2
/-- a statement that is never reached -/
theorem ps_no {X : Cx} {st : Stmt} : PS X st (fun _ _ _ => False) := ⟨fun _ _ _ _ _ _ h => h.elim⟩
end Gd
namespace Gd
open PySem PySem.Spec PyProof.Rows L2
/-- x //= y -/
def ipIcG (c : Int → Int → Prop) (f : Int → Int → Int) : TIp := fun x y H Q => ∃ i j, x = .int i ∧ y = .int j ∧ c i j ∧ Q (.int (f i j)) H
theorem ip_fdivAny {X : Cx} : PIp X .FloorDiv (ipIcG CDivAny fun i j => i.fdiv j) := by
  intro pins s σ H x y v u Q I r1 r2 h
  obtain ⟨i, j, e1, e2, c, q⟩ := h
  subst e1; subst e2
  obtain ⟨t, rfl⟩ := r1
  obtain ⟨t', rfl⟩ := r2
  exact ifloordiv_int c.1 ⟨.int _, H, I.tok _, ⟨_, rfl⟩, q⟩ (.inl (PyProof.noPylong_of_log2 c.2))
end Gd
set_option Elab.async false
set_option linter.all false
set_option maxRecDepth 100000
set_option maxHeartbeats 4000000
/-! Lists of pairs of ints in the heap; repr of greater data. -/
namespace PaM
open PySem PySem.Spec PyProof.Rows L2 Gd K51M
/-! ### pairs in the heap -/
/-- the tuples at ts hold the pairs ps -/
inductive PA (H : Hp) : List V → List (Int × Int) → Prop
  | nil : PA H [] []
  | cons {t : Addr} {x y : Int} {ts ps} (h : H t = some (.tup [.int x, .int y])) (r : PA H ts ps) : PA H (.ref t :: ts) ((x, y) :: ps)
theorem PA.same {H H' : Hp} (s : Same H H') : ∀ {ts ps}, PA H ts ps → PA H' ts ps
  | _, _, .nil => .nil
  | _, _, .cons h r => .cons (s _ _ h) (r.same s)
/-- a list is written anew -/
theorem PA.put {H : Hp} {D : Addr} {o : HO} {us : List V} (hD : H D = some (.lst us)) : ∀ {ts ps}, PA H ts ps → PA (upd H D o) ts ps
  | _, _, .nil => .nil
  | _, _, .cons h r => .cons (by rw [upd_ne (ne_of h hD (by intro z; cases z))]; exact h) (r.put hD)
theorem PA.app {H : Hp} : ∀ {ts ps us qs}, PA H ts ps → PA H us qs → PA H (ts ++ us) (ps ++ qs)
  | _, _, _, _, .nil, k => k
  | _, _, _, _, .cons h r, k => .cons h (r.app k)
theorem PA.len {H : Hp} : ∀ {ts ps}, PA H ts ps → ts.length = ps.length
  | _, _, .nil => rfl
  | _, _, .cons h r => congrArg (· + 1) r.len
theorem PA.but {H H' : Hp} {D : Addr} {us : List V} (hD : H D = some (.lst us)) (s : But D H H') : ∀ {ts ps}, PA H ts ps → PA H' ts ps
  | _, _, .nil => .nil
  | _, _, .cons h r => .cons (s _ _ h (ne_of h hD (by intro z; cases z))) (r.but hD s)
/-- the pair of a value -/
noncomputable def key (H : Hp) (x : V) : Int × Int :=
  match x with
  | .ref t => match H t with
    | some (.tup [.int a, .int b]) => (a, b)
    | _ => (0, 0)
  | _ => (0, 0)
theorem PA.key {H : Hp} : ∀ {ts ps}, PA H ts ps → ps = ts.map (key H)
  | _, _, .nil => rfl
  | _, _, .cons h r => by
    rw [List.map_cons, ← r.key]
    congr 1
    show _ = PaM.key H (.ref _)
    unfold PaM.key
    simp only [h]
theorem PA.all {H : Hp} : ∀ {ts ps}, PA H ts ps → ∀ x ∈ ts, ∃ t, x = V.ref t ∧ H t = some (.tup [.int (PaM.key H x).1, .int (PaM.key H x).2])
  | _, _, .nil, x, hx => by cases hx
  | _, _, .cons (t := t) h r, x, hx => by
    rcases List.mem_cons.mp hx with rfl | hx
    · refine ⟨t, rfl, ?_⟩
      unfold PaM.key
      simp only [h]
    · exact r.all x hx
theorem PA.of {H : Hp} : ∀ {ts : List V}, (∀ x ∈ ts, ∃ t, x = V.ref t ∧ H t = some (.tup [.int (PaM.key H x).1, .int (PaM.key H x).2])) → PA H ts (ts.map (PaM.key H))
  | [], _ => .nil
  | x :: ts, h => by
    obtain ⟨t, rfl, e⟩ := h x List.mem_cons_self
    exact .cons e (PA.of fun y hy => h y (List.mem_cons_of_mem _ hy))
/-- sorted: the same pairs, strictly ascending -/
theorem PA.sorted {H : Hp} {ts ys : List V} {ps : List (Int × Int)} (h : PA H ts ps) (hn : ps.Nodup) (h1 : SrtO.Srtd (ltP (PaM.key H)) ys) (h2 : SrtO.Stb (ltP (PaM.key H)) ys ts) :
    ∃ qs, PA H ys qs ∧ qs.Pairwise Lt ∧ qs.length = ps.length ∧ ∀ p, p ∈ qs ↔ p ∈ ps := by
  have pm : (ys.map (PaM.key H)).Perm ps := by
    rw [h.key]
    exact h2.perm.map _
  refine ⟨ys.map (PaM.key H), PA.of fun x hx => h.all x (h2.perm.mem_iff.mp hx), ?_, pm.length_eq, fun p => pm.mem_iff⟩
  refine strict ?_ (pm.nodup_iff.mpr hn)
  rw [List.pairwise_map]
  refine List.Pairwise.imp (fun {a b} z => ?_) h1
  intro q
  have q2 : SrtO.lexB (PaM.key H b) (PaM.key H a) = true := SrtO.lexB_iff.mpr q
  have z2 : SrtO.lexB (PaM.key H b) (PaM.key H a) = false := z
  rw [q2] at z2
  cases z2
/-! ### pairs as data -/
def dps (ps : List (Int × Int)) : List PyData := ps.map fun p => .tuple [.int p.1, .int p.2]
theorem PA.dp {K : PySem.W.Frag} {H : Hp} : ∀ {ts ps}, PA H ts ps → DpAll K H ts (dps ps)
  | _, _, .nil => .nil
  | _, _, .cons h r => .cons (.tup (tup_of h) (.cons (.int _) (.cons (.int _) .nil))) r.dp
theorem dps_ok {ps : List (Int × Int)} (h : ∀ p ∈ ps, B 100 p.1 ∧ B 100 p.2) : okAll (dps ps) = true := by
  induction ps with
  | nil => rfl
  | cons p ps ih =>
    have h1 := h p List.mem_cons_self
    have := ih fun q hq => h q (List.mem_cons_of_mem _ hq)
    show okAll (.tuple [.int p.1, .int p.2] :: dps ps) = true
    simp [okAll, okD, this, h1.1.log (by decide), h1.2.log (by decide)]
theorem dps_depth (ps : List (Int × Int)) : PyData.depthAll (dps ps) ≤ 2 := by
  induction ps with
  | nil => exact Nat.zero_le _
  | cons p ps ih =>
    show PyData.depthAll (.tuple [.int p.1, .int p.2] :: dps ps) ≤ 2
    simp only [PyData.depthAll, PyData.depth]
    omega
theorem dps_wt (ps : List (Int × Int)) : wtAll (dps ps) = 3851 * ps.length := by
  induction ps with
  | nil => rfl
  | cons p ps ih =>
    show wtAll (.tuple [.int p.1, .int p.2] :: dps ps) = _
    simp only [wtAll, wt, ih, List.length_cons]
    omega
/-! ### repr with a bound of the ints' bits -/
mutual
/-- at most so many signs, ints being below 2 ^ k -/
def wtk (k : Nat) : PyData → Nat
  | .none | .bool _ => 5
  | .int _ => k + 1
  | .str x => 10 * x.length + 2
  | .list xs | .tuple xs => wtkAll k xs + 3
  | .dict _ => 0
def wtkAll (k : Nat) : List PyData → Nat
  | [] => 0
  | x :: xs => wtk k x + 2 + wtkAll k xs
end
mutual
def okk (k : Nat) : PyData → Bool
  | .none | .bool _ => true
  | .int i => decide (i.natAbs.log2 < k)
  | .str x => x.cps.toList.all fun c => decide (c < 16 ^ 8)
  | .list xs | .tuple xs => okkAll k xs
  | .dict _ => false
def okkAll (k : Nat) : List PyData → Bool
  | [] => true
  | x :: xs => okk k x && okkAll k xs
end
mutual
theorem shown_wtk {k : Nat} (k0 : 0 < k) (k1 : k ≤ 1920) : ∀ d : PyData, okk k d = true → d.shown.length ≤ wtk k d ∧ d.showable = true ∧ d.hasDict = false
  | .none, _ => by
    refine ⟨?_, rfl, rfl⟩
    show (("None" : Str)).length ≤ 5
    decide +kernel
  | .bool b, _ => by
    refine ⟨?_, rfl, rfl⟩
    cases b <;> (show _ ≤ 5; decide +kernel)
  | .int i, h => by
    have h1 : i.natAbs.log2 < k := of_decide_eq_true (by simpa only [okk] using h)
    refine ⟨?_, by simpa only [PyData.showable] using decide_eq_true (show i.natAbs.log2 < 1920 by omega), rfl⟩
    have e := int_text_length_le (k := k) k0 h1
    show (Str.ofString (toString i)).length ≤ k + 1
    rw [PySem.ofString_length]
    exact e
  | .str x, h => by
    refine ⟨?_, rfl, rfl⟩
    have h1 : ∀ c ∈ x.cps.toList, c < 16 ^ 8 := fun c hc => of_decide_eq_true (List.all_eq_true.mp (by simpa only [okk] using h) c hc)
    exact StrLaws.reprText_len x h1
  | .list xs, h => by
    obtain ⟨h1, h2, h3⟩ := shown_wtkAll k0 k1 xs (by simpa only [okk] using h)
    refine ⟨?_, by simpa only [PyData.showable] using h2, by simpa only [PyData.hasDict] using h3⟩
    simp only [PyData.shown, wtk]
    exact Nat.le_trans (lst_wt _) (Nat.add_le_add_right h1 3)
  | .tuple xs, h => by
    obtain ⟨h1, h2, h3⟩ := shown_wtkAll k0 k1 xs (by simpa only [okk] using h)
    refine ⟨?_, by simpa only [PyData.showable] using h2, by simpa only [PyData.hasDict] using h3⟩
    simp only [PyData.shown, wtk]
    exact Nat.le_trans (tup_wt _) (Nat.add_le_add_right h1 3)
  | .dict _, h => by simp only [okk, Bool.false_eq_true] at h
theorem shown_wtkAll {k : Nat} (k0 : 0 < k) (k1 : k ≤ 1920) : ∀ xs : List PyData, okkAll k xs = true → piled (PyData.shownAll xs) ≤ wtkAll k xs ∧ PyData.showableAll xs = true ∧ PyData.hasDictAll xs = false
  | [], _ => ⟨Nat.le_refl _, rfl, rfl⟩
  | x :: xs, h => by
    have h0 : (okk k x && okkAll k xs) = true := by simpa only [okkAll] using h
    rw [Bool.and_eq_true] at h0
    obtain ⟨a1, a2, a3⟩ := shown_wtk k0 k1 x h0.1
    obtain ⟨b1, b2, b3⟩ := shown_wtkAll k0 k1 xs h0.2
    refine ⟨?_, by simp only [PyData.showableAll, a2, b2, Bool.and_self], by simp only [PyData.hasDictAll, a3, b3, Bool.or_self]⟩
    simp only [PyData.shownAll, wtkAll]
    rw [piled_cons]
    omega
end
/-- the text of data, all ints below 2 ^ k -/
def rReprK (K : PySem.W.Frag) : List V → Hp → VK → Prop := fun xs H Q => ∃ x d k, xs = [x] ∧ Dp K H x d ∧ 0 < k ∧ k ≤ 1920 ∧ okk k d = true ∧ d.depth ≤ 40 ∧ wtk k d ≤ 16000000 ∧ Q (.str d.shown) H
section
variable {X : Cx}
theorem call_reprK (hg : X.A.guards = some []) (hu : X.A.units + 64 < cLine) : CallR X (.builtin "repr") (rReprK X.K) := by
  intro pins s σ H xs us Q I r h
  obtain ⟨x, d, k, rfl, hd, k0, k1, h0, h3, hw, q⟩ := h
  obtain ⟨hz, h1, h2⟩ := shown_wtk k0 k1 d h0
  have h4 : d.shown.length ≤ sizeLine := Nat.le_trans hz (Nat.le_trans hw (by decide))
  obtain ⟨u, rfl, hx⟩ := vals1 r
  obtain ⟨as, rd⟩ := Dp.reads I d x u hd hx
  cases hd with
  | non =>
    obtain rfl : u = Value.none := hx
    exact PySem.P.repr_of_none ⟨.str _, H, I.tok _, ⟨_, rfl⟩, q⟩
  | bl b =>
    obtain rfl : u = Value.bool b := hx
    exact PySem.P.repr_of_bool ⟨.str _, H, I.tok _, ⟨_, rfl⟩, q⟩
  | int i =>
    obtain ⟨t, rfl⟩ := hx
    exact PySem.P.repr_of_int (of_decide_eq_true h1) ⟨.str _, H, I.tok _, ⟨_, rfl⟩, q⟩
  | str z =>
    obtain ⟨t, rfl⟩ := hx
    exact PySem.P.repr_of_str ⟨.str _, H, I.tok _, ⟨_, rfl⟩, q⟩ h4
  | lst hs ha =>
    obtain rfl : u = Value.ref _ := hx
    refine repr_of_reads' rd h1 (PyData.noDict_hsm h2) hg (by omega) (fun _ _ z => z) (fun h' u tk hk => ?_) h4
    exact ⟨.str _, H, I.kept (t' := tk) hk, ⟨_, rfl⟩, q⟩
  | tup hs ha =>
    obtain rfl : u = Value.ref _ := hx
    refine repr_of_reads' rd h1 (PyData.noDict_hsm h2) hg (by omega) (fun _ _ z => z) (fun h' u tk hk => ?_) h4
    exact ⟨.str _, H, I.kept (t' := tk) hk, ⟨_, rfl⟩, q⟩
end
theorem log_k {k : Nat} {x : Int} (h : x.natAbs < 2 ^ k) (h0 : 0 < k) : x.natAbs.log2 < k := PySem.Flt.log2_lt_of h0 h
theorem dps_okk {k : Nat} (k0 : 0 < k) {ps : List (Int × Int)} (h : ∀ p ∈ ps, B k p.1 ∧ B k p.2) : okkAll k (dps ps) = true := by
  induction ps with
  | nil => rfl
  | cons p ps ih =>
    have h1 := h p List.mem_cons_self
    have := ih fun q hq => h q (List.mem_cons_of_mem _ hq)
    show okkAll k (.tuple [.int p.1, .int p.2] :: dps ps) = true
    simp [okkAll, okk, this, log_k h1.1 k0, log_k h1.2 k0]
theorem dps_wtk (k : Nat) (ps : List (Int × Int)) : wtkAll k (dps ps) = (2 * (k + 3) + 5) * ps.length := by
  induction ps with
  | nil => rfl
  | cons p ps ih =>
    show wtkAll k (.tuple [.int p.1, .int p.2] :: dps ps) = _
    simp only [wtkAll, wtk, ih, List.length_cons]
    grind
mutual
theorem dp_same {K : PySem.W.Frag} {H H' : Hp} (s : Same H H') : ∀ {v : V} {d : PyData}, Dp K H v d → Dp K H' v d
  | _, _, .non => .non
  | _, _, .bl b => .bl b
  | _, _, .int i => .int i
  | _, _, .str z => .str z
  | _, _, .lst h a => .lst (s.seq h) (dpAll_same s a)
  | _, _, .tup h a => .tup (Same.tup s h) (dpAll_same s a)
theorem dpAll_same {K : PySem.W.Frag} {H H' : Hp} (s : Same H H') : ∀ {vs : List V} {ds : List PyData}, DpAll K H vs ds → DpAll K H' vs ds
  | _, _, .nil => .nil
  | _, _, .cons h r => .cons (dp_same s h) (dpAll_same s r)
end
theorem pe_k0 {X : Cx} {j k : Nat} {sp : Sp} {x : Str} {p pos : Pos} (c : Kl X.prog X.w X.K X.mg X.base k x sp) (hr : Room j X.A) (hk : k ≤ j) (hg : Gl X x) (hdb : (x == ("__debug__" : Str)) = false := by decide) : PE X (.Call (.Name x p) [] [] pos) (tKal sp tNil) := by
  obtain ⟨f, fd, ps, F, hm, kp, b⟩ := c.ex
  have h := pe_call0 (sp := sp) (E := E0) (dvs := []) F (hr.mono hk) hg hm kp b .nil pass0 hdb (pos := pos) (p := p)
  constructor
  intro pins s σ H Q I q
  refine h.run pins s σ H Q I ?_
  have e2 : tCall sp [] E0 tNil = tKal sp tNil := by
    funext σ H Q
    show tNil σ H (fun vs H1 => sp (vs ++ []) H1 Q E0) = tNil σ H (fun vs H1 => sp vs H1 Q E0)
    congr 1
    funext vs H1
    rw [List.append_nil]
  rw [e2]
  exact q
end PaM
set_option Elab.async false
set_option linter.all false
set_option maxRecDepth 100000
set_option maxHeartbeats 4000000
/-! Values of many kinds, told as data: their types, what stands in them. -/
namespace DpM
open PySem PySem.Spec PyProof.Rows L2 Gd
def tyn : PyData → String
  | .none => "NoneType"
  | .bool _ => "bool"
  | .int _ => "int"
  | .str _ => "str"
  | .list _ => "list"
  | .tuple _ => "tuple"
  | .dict _ => "dict"
def isI : PyData → Bool
  | .int _ => true
  | _ => false
def isB : PyData → Bool
  | .bool _ => true
  | _ => false
def isT : PyData → Bool
  | .tuple _ => true
  | _ => false
variable {K : PySem.W.Frag} {H : Hp}
theorem ty {x : V} {d : PyData} (h : Dp K H x d) : TyB K H x (tyn d) := by
  cases h with
  | non => exact .non
  | bl b => exact .bl b
  | int i => exact .int i
  | str z => exact .str z
  | lst a b => exact .lst a
  | tup a b => exact .tup a
theorem tyx_tup {a : Addr} {xs : List V} (h : SqT K H a xs) : TyX K H (.ref a) (.type "tuple") := by
  rcases h with (h | ⟨o, h⟩) | ⟨o, its, n, h, hc, hd, hs, hv⟩
  · exact .base (.tup h)
  · exact .fTuple h
  · exact .kTuple h hc
def notL : PyData → Bool
  | .list _ => false
  | _ => true
theorem tyx {x : V} {d : PyData} (h : Dp K H x d) (hl : notL d = true) : TyX K H x (.type (tyn d)) := by
  cases h with
  | non => exact .base .non
  | bl b => exact .base (.bl b)
  | int i => exact .base (.int i)
  | str z => exact .base (.str z)
  | lst a b => cases hl
  | tup a b => exact tyx_tup a
/-- a value as it is passed: a list stands in the heap -/
inductive Vd (K : PySem.W.Frag) (H : Hp) : V → PyData → Prop
  | data {x : V} {d : PyData} (h : Dp K H x d) (hl : notL d = true) : Vd K H x d
  | lst {a : Addr} {xs : List V} {ds : List PyData} (h : H a = some (.lst xs)) (r : DpAll K H xs ds) : Vd K H (.ref a) (.list ds)
theorem Vd.tyx {x : V} {d : PyData} (h : Vd K H x d) : TyX K H x (.type (tyn d)) := by
  cases h with
  | data h hl => exact DpM.tyx h hl
  | lst h r => exact .base (.lst h)
theorem Vd.dp {x : V} {d : PyData} (h : Vd K H x d) : Dp K H x d := by
  cases h with
  | data h hl => exact h
  | lst h r => exact .lst (lst_of h) r
mutual
theorem dpS {H' : Hp} (s : Same H H') : ∀ {v : V} {d : PyData}, Dp K H v d → Dp K H' v d
  | _, _, .non => .non
  | _, _, .bl b => .bl b
  | _, _, .int i => .int i
  | _, _, .str z => .str z
  | _, _, .lst h a => .lst (s.seq h) (dpAllS s a)
  | _, _, .tup h a => .tup (Same.tup s h) (dpAllS s a)
theorem dpAllS {H' : Hp} (s : Same H H') : ∀ {vs : List V} {ds : List PyData}, DpAll K H vs ds → DpAll K H' vs ds
  | _, _, .nil => .nil
  | _, _, .cons h r => .cons (dpS s h) (dpAllS s r)
end
theorem Vd.same {H' : Hp} {x : V} {d : PyData} (s : Same H H') (h : Vd K H x d) : Vd K H' x d := by
  cases h with
  | data h hl => exact .data (dpS s h) hl
  | lst h r => exact .lst (s _ _ h) (dpAllS s r)
mutual
theorem dpB {H' : Hp} {m cl : Addr} {n : Nat} (b : But m H H') (hm : MAt H m cl n) : ∀ {v : V} {d : PyData}, Dp K H v d → Dp K H' v d
  | _, _, .non => .non
  | _, _, .bl b => .bl b
  | _, _, .int i => .int i
  | _, _, .str z => .str z
  | _, _, .lst h a => .lst (b.seqL hm h) (dpAllB b hm a)
  | _, _, .tup h a => .tup (b.seqT hm h) (dpAllB b hm a)
theorem dpAllB {H' : Hp} {m cl : Addr} {n : Nat} (b : But m H H') (hm : MAt H m cl n) : ∀ {vs : List V} {ds : List PyData}, DpAll K H vs ds → DpAll K H' vs ds
  | _, _, .nil => .nil
  | _, _, .cons h r => .cons (dpB b hm h) (dpAllB b hm r)
end
theorem Vd.but {H' : Hp} {m cl : Addr} {n : Nat} {x : V} {d : PyData} (b : But m H H') (hm : MAt H m cl n) (h : Vd K H x d) : Vd K H' x d := by
  cases h with
  | data h hl => exact .data (dpB b hm h) hl
  | lst h r => exact .lst (b.lst hm h) (dpAllB b hm r)
theorem int_ty (d : PyData) : decide (tyn d = "int") = isI d := by
  cases d with
  | none => exact (by decide +kernel : decide ("NoneType" = "int") = false)
  | bool _ => exact (by decide +kernel : decide ("bool" = "int") = false)
  | int _ => exact (by decide +kernel : decide ("int" = "int") = true)
  | str _ => exact (by decide +kernel : decide ("str" = "int") = false)
  | list _ => exact (by decide +kernel : decide ("list" = "int") = false)
  | tuple _ => exact (by decide +kernel : decide ("tuple" = "int") = false)
  | dict _ => exact (by decide +kernel : decide ("dict" = "int") = false)
theorem kit_int {d : PyData} : PySem.W.kitOne K (.type (tyn d)) (.type "int") = some (isI d || isB d) := by
  cases d with
  | none => exact kit_ty (a := "NoneType") (b := "int") (r := false) (by decide +kernel)
  | bool _ => exact kit_ty (a := "bool") (b := "int") (r := true) (by decide +kernel)
  | int _ => exact kit_ty (a := "int") (b := "int") (r := true) (by decide +kernel)
  | str _ => exact kit_ty (a := "str") (b := "int") (r := false) (by decide +kernel)
  | list _ => exact kit_ty (a := "list") (b := "int") (r := false) (by decide +kernel)
  | tuple _ => exact kit_ty (a := "tuple") (b := "int") (r := false) (by decide +kernel)
  | dict _ => exact kit_ty (a := "dict") (b := "int") (r := false) (by decide +kernel)
theorem kit_bool {d : PyData} : PySem.W.kitOne K (.type (tyn d)) (.type "bool") = some (isB d) := by
  cases d with
  | none => exact kit_ty (a := "NoneType") (b := "bool") (r := false) (by decide +kernel)
  | bool _ => exact kit_ty (a := "bool") (b := "bool") (r := true) (by decide +kernel)
  | int _ => exact kit_ty (a := "int") (b := "bool") (r := false) (by decide +kernel)
  | str _ => exact kit_ty (a := "str") (b := "bool") (r := false) (by decide +kernel)
  | list _ => exact kit_ty (a := "list") (b := "bool") (r := false) (by decide +kernel)
  | tuple _ => exact kit_ty (a := "tuple") (b := "bool") (r := false) (by decide +kernel)
  | dict _ => exact kit_ty (a := "dict") (b := "bool") (r := false) (by decide +kernel)
theorem kit_tup {d : PyData} : PySem.W.kitOne K (.type (tyn d)) (.type "tuple") = some (isT d) := by
  cases d with
  | none => exact kit_ty (a := "NoneType") (b := "tuple") (r := false) (by decide +kernel)
  | bool _ => exact kit_ty (a := "bool") (b := "tuple") (r := false) (by decide +kernel)
  | int _ => exact kit_ty (a := "int") (b := "tuple") (r := false) (by decide +kernel)
  | str _ => exact kit_ty (a := "str") (b := "tuple") (r := false) (by decide +kernel)
  | list _ => exact kit_ty (a := "list") (b := "tuple") (r := false) (by decide +kernel)
  | tuple _ => exact kit_ty (a := "tuple") (b := "tuple") (r := true) (by decide +kernel)
  | dict _ => exact kit_ty (a := "dict") (b := "tuple") (r := false) (by decide +kernel)
theorem len : ∀ {vs : List V} {ds : List PyData}, DpAll K H vs ds → vs.length = ds.length
  | _, _, .nil => rfl
  | _, _, .cons h r => congrArg (· + 1) (len r)
theorem at_ : ∀ {vs : List V} {ds : List PyData} {i : Nat} {v : V}, DpAll K H vs ds → vs[i]? = some v → ∃ d, ds[i]? = some d ∧ Dp K H v d
  | _, _, _, _, .nil, e => nomatch e
  | _, _, 0, _, .cons h r, e => ⟨_, rfl, by
    obtain rfl := Option.some.inj e
    exact h⟩
  | _, _, i + 1, _, .cons h r, e => at_ (i := i) r e
/-- the ints of data -/
def int? : PyData → Option Int
  | .int i => some i
  | _ => none
theorem allInts : ∀ {vs : List V} {ds : List PyData}, DpAll K H vs ds → ds.all isI = true → ∃ ns : List Int, vs = ns.map V.int ∧ ds = ns.map PyData.int
  | _, _, .nil, _ => ⟨[], rfl, rfl⟩
  | _, _, .cons (d := d) h r, e => by
    rw [List.all_cons, Bool.and_eq_true] at e
    obtain ⟨ns, e1, e2⟩ := allInts r e.2
    cases h with
    | int i => exact ⟨i :: ns, by rw [e1]; rfl, by rw [e2]; rfl⟩
    | non => cases e.1
    | bl b => cases e.1
    | str z => cases e.1
    | lst a b => cases e.1
    | tup a b => cases e.1
theorem ofInts : ∀ ns : List Int, DpAll K H (ns.map V.int) (ns.map PyData.int)
  | [] => .nil
  | n :: ns => .cons (.int n) (ofInts ns)
theorem app : ∀ {vs us : List V} {ds es : List PyData}, DpAll K H vs ds → DpAll K H us es → DpAll K H (vs ++ us) (ds ++ es)
  | _, _, _, _, .nil, k => k
  | _, _, _, _, .cons h r, k => .cons h (app r k)
/-! ### x in a tuple, whatever stands there -/
section
variable {X : Cx}
def rInDT (K : PySem.W.Frag) : R2 := fun x y H Q => ∃ d ds, Dp K H x d ∧ Dp K H y (.tuple ds) ∧ SeqAt.shaped d = true ∧ SeqAt.shaped (.tuple ds) = true ∧ Q (.bl (ds.any fun z => PyData.eqv z d)) H
theorem op_inDT (hu : X.A.units + 65 < cLine) : OpR X (compareOp .In) (rInDT X.K) := by
  intro pins s σ H x y v u Q I rx ry h
  obtain ⟨d, ds, hd, he, sd, se, q⟩ := h
  obtain ⟨as, r1⟩ := Dp.reads I d x v hd rx
  obtain ⟨bs, r2⟩ := Dp.reads I (.tuple ds) y u he ry
  exact SeqAt.in_tuple_reads r2 r1 (SeqAt.canLay_of_shaped se) (SeqAt.canLay_of_shaped sd) (room_in_shaped sd hu) ⟨.bl _, H, I, rfl, q⟩
end
theorem un65 {k : Nat} {A : Around} (r : Room k A) : A.units + 65 < cLine := by have := r.un; omega
/-! ### in a comprehension's own scope -/
theorem call_reprKK {X : Cx} {K : PySem.W.Frag} (h : X.K = K) (hg : X.A.guards = some []) (hu : X.A.units + 64 < cLine) : CallR X (.builtin "repr") (PaM.rReprK K) := h ▸ PaM.call_reprK hg hu
theorem ix_listK {X : Cx} {K : PySem.W.Frag} (h : X.K = K) : IxR X (rIxL K) := h ▸ ix_list
theorem ix_tupK {X : Cx} {K : PySem.W.Frag} (h : X.K = K) : IxR X (rIxT K) := h ▸ ix_tup
theorem op_in_seqK {X : Cx} {K : PySem.W.Frag} (h : X.K = K) : OpR X (compareOp .In) (rIn K false) := h ▸ op_in_seq
theorem op_notIn_seqK {X : Cx} {K : PySem.W.Frag} (h : X.K = K) : OpR X (compareOp .NotIn) (rIn K true) := h ▸ op_notIn_seq
theorem call_isiK {X : Cx} {K : PySem.W.Frag} (h : X.K = K) : CallR X (.builtin "isinstance") (rIsi K) := h ▸ call_isi
theorem pg_tupK {X : Cx} {K : PySem.W.Frag} {es : List Expr} {k : Nat} {t : TGs} {n : Nat} {pos : Pos} (hK : X.K = K) (hc : X.calm = true) (h : PGs X es t)
    (hn : (assignEach es X.env).length = n := by rfl) (hst : (assignEach es X.env).findIdx? (·.1) = none := by rfl) : PG X (.Tuple es k pos) (gTup K n t) := by
  subst hK
  exact pg_tup hc h hn hst
end DpM
set_option Elab.async false
set_option linter.all false
set_option maxRecDepth 100000
set_option maxHeartbeats 4000000
namespace K40
open PySem PySem.Spec PyProof.Rows L2 Gd QM K45M EcZ
def topS (i : Nat) : Stmt := PySem.Challenge.pw_pointsum_k40_whole_points_and_counts.main.body.getD i (.Pass ⟨0, 0, 0, 0⟩)
/-- what the walk asks of the module's names -/
structure Tx (K : PySem.W.Frag) (mg : Str → Option Value) : Prop where
  type : mg "type" = none
  isinstance : mg "isinstance" = none
  int : mg "int" = none
  bool : mg "bool" = none
  list : mg "list" = none
  tuple : mg "tuple" = none
  len : mg "len" = none
  all : mg "all" = none
  reversed : mg "reversed" = none
  range : mg "range" = none
  sorted : mg "sorted" = none
  sum : mg "sum" = none
  min : mg "min" = none
  repr : mg "repr" = none
theorem fdw {i j : Int} {b : Nat} (h : 0 < j) (hb : B b j) (h0 : 0 < b) (h9 : b ≤ 9000) : CDivW i j := wide_div h hb h0 h9
theorem iteN {c A B : Prop} [Decidable c] (h : ¬ c) (b : B) : if c then A else B := by
  rw [if_neg h]
  exact b
theorem iteY {c A B : Prop} [Decidable c] (h : c) (b : A) : if c then A else B := by
  rw [if_pos h]
  exact b
theorem divp {i j : Int} {b : Nat} (h : 0 < j) (hi : B b i) (hb : b ≤ 3000) : CDivP i j := by
  refine divp_ok h ?_
  have := PyProof.Rows.intBits_le hi
  omega
theorem B.of_le {x n : Int} {b : Nat} (hn : B b n) (h : (x.natAbs : Int) ≤ n) : B b x := by
  unfold Gd.B at *
  omega
section
variable {P : Program} {w : World} {K : PySem.W.Frag} {mg : Str → Option Value} {base : Heap}
/-! ### one draw -/
def sp_law_draw (K : PySem.W.Frag) : Sp := fun vs H Q _ => ∃ (m cl : Addr) (b : Int) (n : Nat), vs = [.ref m, .int b] ∧ 0 < b ∧ b < 4294967296 ∧ n ≤ 1000000 ∧ MAt H m cl n ∧ ∀ H' r, But m H H' → MAt H' m cl (n + 1) → 0 ≤ r → r < b → Q (.int r) H'
abbrev s__law_draw : Stmt := topS 29
theorem sc__law_draw : FnScope ["m", "below", "found", "spot", "cells", "extra", "cell", "blend"] ["m", "below"] (defScope s__law_draw) := ⟨rfl, rfl, rfl, by decide +kernel, rfl, by decide +kernel, by decide +kernel⟩
theorem k_law_draw (T : Tx K mg) (D : Df K mg "_law_draw" s__law_draw ["m", "below"])  : Kl P w K mg base 1 "_law_draw" (sp_law_draw K) := by
  have nd := sc__law_draw.nd
  refine Kl.by_body D sc__law_draw (fun vs H Q E h => ?_) (fun f cdv A outer s H vs Q E hr h => ?_)
  · obtain ⟨_, _, _, _, rfl, _⟩ := h
    rfl
  · obtain ⟨m, c, b, n, rfl, hb0, hb1, hn, ⟨L, s0, cs, k, hm, hk, hc, hl⟩, q⟩ := h
    have hu1 := hu_of hr
    refine ⟨_, (pss_cons (ps_if (pt_cmpR op_gt (pe_dget hu1 (pv 0) pe_str (fun _ _ => rfl)) pe_int (nomark _)) (pss_cons (ps_set (i := 2) nd rfl (by first | exact Or.inl rfl | exact Or.inr rfl) (pe_op op_mod (pe_callTy call_intI (by rfl) T.int (by decide +kernel) (pa_cons (pe_dget hu1 (pv 0) pe_str (fun _ _ => rfl)) pa_nil)) (pv 1)))
      (pss_cons (ps_dput hu1 (pv 0) pe_str (pe_op op_fdivAny (pe_dget hu1 (pv 0) pe_str (fun _ _ => rfl)) (pv 1)) rfl)
      (pss_one (ps_ret (pv 2))))) pss_nil)
      (pss_cons (ps_set (i := 3) nd rfl (by first | exact Or.inl rfl | exact Or.inr rfl) (pe_dget hu1 (pv 0) pe_str (fun _ _ => rfl)))
      (pss_cons (ps_dput hu1 (pv 0) pe_str (pe_op op_add (pv 3) pe_int) rfl)
      (pss_cons (ps_par (i := 4) (j := 5) (by rfl) nd rfl rfl (by decide) rfl rfl (pa_cons (pe_dget hu1 (pv 0) pe_str (fun _ _ => rfl)) (pa_cons (pe_op op_add (pe_dget hu1 (pv 0) pe_str (fun _ _ => rfl)) (pe_op op_mulW (pe_op op_mul pe_int (pv 3)) (pv 3))) pa_nil)) (by rfl))
      (pss_cons (ps_set (i := 6) nd rfl (by first | exact Or.inl rfl | exact Or.inr rfl) (pe_ix ix_list (pv 4) (pe_op op_mod (pe_callTy call_intI (by rfl) T.int (by decide +kernel) (pa_cons (pv 3) pa_nil)) (pe_callB call_len_seq (by rfl) T.len (by decide +kernel) (pa_cons (pv 4) pa_nil))) (fun _ _ => rfl)))
      (pss_cons (ps_set (i := 7) nd rfl (by first | exact Or.inl rfl | exact Or.inr rfl) (pe_op op_mod (pe_callTy call_intI (by rfl) T.int (by decide +kernel) (pa_cons (pe_op op_add (pe_op op_mul (pv 6) (pe_op op_add (pe_op op_mul pe_int (pv 3)) pe_int)) (pv 5)) pa_nil)) pe_int))
      (pss_cons (ps_set (i := 7) nd rfl (by first | exact Or.inl rfl | exact Or.inr rfl) (pe_op op_mod (pe_callTy call_intI (by rfl) T.int (by decide +kernel) (pa_cons (pe_op op_add (pe_op op_add (pe_op op_mul (pv 7) (pv 7)) (pe_op op_mul pe_int (pv 3))) (pe_dget hu1 (pv 0) pe_str (fun _ _ => rfl))) pa_nil)) pe_int))
      (pss_one (ps_ret (pe_op op_mod (pe_op op_fdiv (pe_op op_mod (pe_callTy call_intI (by rfl) T.int (by decide +kernel) (pa_cons (pe_op op_add (pe_op op_mul (pv 7) pe_int) (pv 3)) pa_nil)) pe_int) pe_int) (pv 1))))))))))), ?_⟩
    have gL : DGet H m (.str "left") (some (.int L)) := m4_left (L := L) ▸ DGet.k (k := Sum.inr "left") hm
    have ncm : c ≠ m := ne_of hc hm (by intro z; cases z)
    refine ⟨_, rfl, m, _, rfl, gL, _, _, rfl, rfl, _, rfl, ite2 (fun e => ?_) (fun e => ?_)⟩
    · refine ⟨_, rfl, m, _, rfl, gL, _, rfl, _, rfl, _, _, rfl, rfl, hb0, ?_⟩
      refine ⟨_, rfl, m, _, rfl, gL, _, rfl, _, _, rfl, rfl, div_any (m := 33) (by omega) (by unfold B; omega) (by decide), _, rfl, m, _, rfl, DPut.k (k := Sum.inr "left") hm (small1000 (by show 4 ≤ 1000; decide)), ?_⟩
      rw [m4_putL]
      refine ⟨_, rfl, ?_⟩
      refine q _ _ But.upd ⟨_, s0, cs, k, upd_same, by omega, ?_, hl⟩ (Int.emod_nonneg _ (by omega)) (Int.emod_lt_of_pos _ hb0)
      rw [upd_ne ncm]
      exact hc
    · have gS : DGet H m (.str "spot") (some (.int k)) := m4_spot (n := k) ▸ DGet.k (k := Sum.inr "spot") hm
      refine ⟨_, rfl, m, _, rfl, gS, ?_⟩
      refine ⟨_, rfl, _, _, rfl, rfl, _, rfl, m, _, rfl, DPut.k (k := Sum.inr "spot") hm (small1000 (by show 4 ≤ 1000; decide)), ?_⟩
      rw [m4_putS]
      have hm2 : (upd H m (HO.dK (mk4 L s0 c (k + 1)))) m = some (.dK (mk4 L s0 c (k + 1))) := upd_same
      have hc2 : (upd H m (HO.dK (mk4 L s0 c (k + 1)))) c = some (.lst (cs.map V.int)) := by
        rw [upd_ne ncm]
        exact hc
      have bt : But m H (upd H m (HO.dK (mk4 L s0 c (k + 1)))) := But.upd
      generalize upd H m (HO.dK (mk4 L s0 c (k + 1))) = H2 at hm2 hc2 bt ⊢
      have gC : DGet H2 m (.str "cells") (some (.ref c)) := m4_cells (c := c) ▸ DGet.k (k := Sum.inr "cells") hm2
      have gE : DGet H2 m (.str "seed") (some (.int s0)) := m4_seed (s := s0) ▸ DGet.k (k := Sum.inr "seed") hm2
      have bk : B 20 (k : Int) := by
        unfold B
        omega
      refine ⟨_, rfl, m, _, rfl, gC, _, rfl, m, _, rfl, gE, _, rfl, _, _, rfl, rfl, (Or.inl ⟨by decide, by decide⟩), _, rfl, _, _, rfl, rfl, ((B.lit (n := 20) (by decide)).mul bk).mulW bk (by decide), _, _, rfl, rfl, _, _, rfl, ?_⟩
      have hlz : (0 : Int) < ((cs.map V.int).length : Int) := by
        rw [List.length_map]
        omega
      have hix : ∃ z : Int, atI (cs.map V.int) ((k : Int) % ((cs.map V.int).length : Int)) = some (.int z) := by
        rw [List.length_map]
        have h1 : k % cs.length < cs.length := Nat.mod_lt _ hl
        refine ⟨cs[k % cs.length], ?_⟩
        rw [← Int.natCast_emod]
        refine atI_nat ?_
        rw [List.getElem?_map, List.getElem?_eq_getElem h1]
        rfl
      obtain ⟨z, hz⟩ := hix
      refine ⟨_, rfl, _, rfl, _, rfl, _, rfl, c, _, rfl, .inl (.inl (.inl hc2)), _, _, rfl, rfl, hlz, c, _, _, _, rfl, rfl, .inl (.inl hc2), hz, ?_⟩
      have bk2 : B 30 (2 * (k : Int) + 3) := by
        unfold B
        omega
      refine ⟨_, rfl, _, rfl, _, _, rfl, rfl, (Or.inl ⟨by decide, by decide⟩), _, _, rfl, rfl, _, _, rfl, rfl, bk2.mulR (by decide), _, rfl, _, _, rfl, rfl, _, rfl, _, _, rfl, rfl, (by show (0 : Int) < 2147483647; decide), ?_⟩
      have be : ∀ y : Int, B 32 (y % 2147483647) := fun y => by
        have h1 := Int.emod_nonneg y (show (2147483647 : Int) ≠ 0 by decide)
        have h2 := Int.emod_lt_of_pos y (show (0 : Int) < 2147483647 by decide)
        unfold B
        omega
      refine ⟨_, rfl, _, rfl, _, _, rfl, rfl, (be _).mulR (by decide), _, rfl, _, _, rfl, rfl, (Or.inl ⟨by decide, by decide⟩), _, _, rfl, rfl, _, rfl, m, _, rfl, gE, _, _, rfl, rfl, _, rfl, _, _, rfl, rfl, (by show (0 : Int) < 2147483629; decide), ?_⟩
      refine ⟨_, rfl, _, _, rfl, rfl, (Or.inr ⟨by decide, by decide⟩), _, rfl, _, _, rfl, rfl, _, rfl, _, _, rfl, rfl, (by show (0 : Int) < 2147483647; decide), _, _, rfl, rfl, ⟨by decide, by decide⟩, _, rfl, _, _, rfl, rfl, hb0, ?_⟩
      exact q _ _ bt ⟨L, s0, cs, k + 1, hm2, by omega, hc2, hl⟩ (Int.emod_nonneg _ (by omega)) (Int.emod_lt_of_pos _ hb0)
/-! ### one of some -/
def sp_law_of (K : PySem.W.Frag) : Sp := fun vs H Q _ => ∃ (m cl a : Addr) (xs : List V) (n : Nat), vs = [.ref m, .ref a] ∧ SqL K H a xs ∧ 0 < xs.length ∧ xs.length ≤ 1000 ∧ n ≤ 1000000 ∧ MAt H m cl n ∧ ∀ H' x, But m H H' → MAt H' m cl (n + 1) → x ∈ xs → Q x H'
abbrev s__law_of : Stmt := topS 30
theorem sc__law_of : FnScope ["m", "some"] ["m", "some"] (defScope s__law_of) := ⟨rfl, rfl, rfl, by decide +kernel, rfl, by decide +kernel, by decide +kernel⟩
theorem k_law_of (T : Tx K mg) (D : Df K mg "_law_of" s__law_of ["m", "some"]) (c_law_draw : Kl P w K mg base 1 "_law_draw" (sp_law_draw K)) : Kl P w K mg base 2 "_law_of" (sp_law_of K) := by
  have nd := sc__law_of.nd
  refine Kl.by_body D sc__law_of (fun vs H Q E h => ?_) (fun f cdv A outer s H vs Q E hr h => ?_)
  · obtain ⟨_, _, _, _, _, rfl, _⟩ := h
    rfl
  · obtain ⟨m, cl, a, xs, n, rfl, hx, h0, h1, hn, hM, q⟩ := h
    have hu1 := hu_of hr
    refine ⟨_, (pss_one (ps_ret (pe_ix ix_list (pv 1) (pe_k c_law_draw  hr (by decide) (by rfl) (pa_cons (pv 0) (pa_cons (pe_callB call_len_seq (by rfl) T.len (by decide +kernel) (pa_cons (pv 1) pa_nil)) pa_nil))) (fun _ _ => rfl)))), ?_⟩
    refine ⟨.ref a, rfl, _, rfl, .ref a, rfl, a, xs, rfl, .inl hx, m, cl, _, n, rfl, by omega, by omega, hn, hM, fun H1 r b1 m1 r0 r1 => ?_⟩
    have hr1 : r.toNat < xs.length := by omega
    refine ⟨a, xs, r, xs[r.toNat], rfl, rfl, b1.seqL hM hx, ?_, q _ _ b1 m1 (List.getElem_mem hr1)⟩
    have key : atI xs ((r.toNat : Nat) : Int) = some xs[r.toNat] := atI_nat (List.getElem?_eq_getElem hr1)
    rw [show ((r.toNat : Nat) : Int) = r by omega] at key
    exact key
/-! ### between -/
def sp_law_between (K : PySem.W.Frag) : Sp := fun vs H Q _ => ∃ (m cl : Addr) (z : Int) (n : Nat), vs = [.ref m, .int z] ∧ 0 ≤ z ∧ z ≤ 2000000000 ∧ n ≤ 1000000 ∧ MAt H m cl n ∧ ∀ H' r, But m H H' → MAt H' m cl (n + 1) → -z ≤ r → r ≤ z → Q (.int r) H'
abbrev s__law_between : Stmt := topS 31
theorem sc__law_between : FnScope ["m", "size"] ["m", "size"] (defScope s__law_between) := ⟨rfl, rfl, rfl, by decide +kernel, rfl, by decide +kernel, by decide +kernel⟩
theorem k_law_between (T : Tx K mg) (D : Df K mg "_law_between" s__law_between ["m", "size"]) (c_law_draw : Kl P w K mg base 1 "_law_draw" (sp_law_draw K)) : Kl P w K mg base 2 "_law_between" (sp_law_between K) := by
  have nd := sc__law_between.nd
  refine Kl.by_body D sc__law_between (fun vs H Q E h => ?_) (fun f cdv A outer s H vs Q E hr h => ?_)
  · obtain ⟨_, _, _, _, rfl, _⟩ := h
    rfl
  · obtain ⟨m, cl, z, n, rfl, h0, h1, hn, hM, q⟩ := h
    have hu1 := hu_of hr
    refine ⟨_, (pss_one (ps_ret (pe_op op_sub (pe_k c_law_draw  hr (by decide) (by rfl) (pa_cons (pv 0) (pa_cons (pe_op op_add (pe_op op_mul pe_int (pv 1)) pe_int) pa_nil))) (pv 1)))), ?_⟩
    refine ⟨_, rfl, _, rfl, _, _, rfl, rfl, (Or.inl ⟨by decide, by decide⟩), _, _, rfl, rfl, m, cl, _, n, rfl, by omega, by omega, hn, hM, fun H1 r b1 m1 r0 r1 => ?_⟩
    refine ⟨_, rfl, _, _, rfl, rfl, ?_⟩
    exact q _ _ b1 m1 (by omega) (by omega)
/-! ### the state of a turn -/
def sp_law_begun (K : PySem.W.Frag) : Sp := fun vs H Q _ => ∃ (a : Addr) (k : Int) (ns : List Int), vs = [.ref a, .int k] ∧ SqL K H a (ns.map V.int) ∧ ns.length ≤ 63 ∧ 0 ≤ k ∧ k ≤ 100 ∧ ∀ H' m cl, Same H H' → H m = none → H cl = none → MAt H' m cl 0 → Q (.ref m) H'
theorem cut_int {ns : List Int} (lo hi : Option Int) : ∃ ms : List Int, cutV (ns.map V.int) lo hi = ms.map V.int ∧ ms.length ≤ ns.length := by
  unfold cutV
  refine ⟨(ns.drop (HT.sIx (ns.map V.int).length 0 lo)).take (HT.sIx (ns.map V.int).length (ns.map V.int).length hi - HT.sIx (ns.map V.int).length 0 lo), ?_, ?_⟩
  · rw [List.map_take, List.map_drop]
  · rw [List.length_take, List.length_drop]
    omega
abbrev s__law_begun : Stmt := topS 28
theorem sc__law_begun : FnScope ["script", "k", "cells", "great", "cell", "begun", "left"] ["script", "k"] (defScope s__law_begun) := ⟨rfl, rfl, rfl, by decide +kernel, rfl, by decide +kernel, by decide +kernel⟩
theorem k_law_begun (T : Tx K mg) (D : Df K mg "_law_begun" s__law_begun ["script", "k"])  : Kl P w K mg base 1 "_law_begun" (sp_law_begun K) := by
  have nd := sc__law_begun.nd
  refine Kl.by_body D sc__law_begun (fun vs H Q E h => ?_) (fun f cdv A outer s H vs Q E hr h => ?_)
  · obtain ⟨_, _, _, rfl, _⟩ := h
    rfl
  · obtain ⟨a, k, ns, rfl, hx, hl, hk0, hk1, q⟩ := h
    have hu1 := hu_of hr
    refine ⟨_, (pss_cons (ps_set (i := 2) nd rfl (by first | exact Or.inl rfl | exact Or.inr rfl) (pe_op op_cat (pe_slice sl_list (pv 0) (po_some (pv 1)) po_none) (pe_slice sl_list (pv 0) po_none (po_some (pv 1)))))
      (pss_cons (ps_setLc (i := 3) (own := [("cell", 4)]) (g := gName 4) rfl nd rfl rfl (sw_true rfl rfl rfl (by decide +kernel)) (pi_list (pv 0)) (blkOk_by (N := ["script", "k", "cells", "great", "cell", "begun", "left"]) (sc := defScope s__law_begun) (by decide +kernel)) (fun _ _ _ _ _ => (pg_name (i := 4) nd rfl (by first | exact Or.inl rfl | exact Or.inr rfl))) (fun _ _ _ _ _ => (pts_one (pt_cmpR op_ge (pv 4) (pe_op op_pow pe_int pe_int) (nomark _)))) (fun _ _ _ _ _ => (pv 4)))
      (pss_cons (ps_set (i := 5) nd rfl (by first | exact Or.inl rfl | exact Or.inr rfl) (pe_op op_add pe_int (pe_op op_mul pe_int (pv 1))))
      (pss_cons (ps_for PassesOwn.never rfl (pi_list (pv 2)) (pg_name (i := 4) nd rfl (by first | exact Or.inl rfl | exact Or.inr rfl)) (pss_one (ps_set (i := 5) nd rfl (by first | exact Or.inl rfl | exact Or.inr rfl) (pe_op op_mod (pe_callTy call_intI (by rfl) T.int (by decide +kernel) (pa_cons (pe_op op_add (pe_op op_mul (pv 5) pe_int) (pv 4)) pa_nil)) pe_int))))
      (pss_cons (ps_set (i := 6) nd rfl (by first | exact Or.inl rfl | exact Or.inr rfl) (pe_ifExp (pt_cmpR op_lt (pv 1) (pe_callB call_len_seq (by rfl) T.len (by decide +kernel) (pa_cons (pv 3) pa_nil)) (nomark _)) (pe_ix ix_list (pv 3) (pv 1) (fun _ _ => rfl)) pe_int))
      (pss_one (ps_ret (pe_disp (pps_cons pe_str (pv 6) (pps_cons pe_str (pv 5) (pps_cons pe_str (pe_op op_cat (pv 2) (pe_lst (pa_cons (pe_op op_add (pe_op op_mul pe_int (pv 1)) pe_int) pa_nil))) (pps_cons pe_str pe_int pps_nil)))) (by rfl) (by rfl) (fun z => by cases z) (by decide))))))))), ?_⟩
    obtain ⟨m1, e1, l1⟩ := cut_int (ns := ns) (some k) none
    obtain ⟨m2, e2, l2⟩ := cut_int (ns := ns) none (some k)
    refine ⟨.ref a, rfl, _, rfl, k, rfl, a, _, rfl, hx, fun p1 n1 => ?_⟩
    rw [e1]
    have s1 : Same H (upd H p1 (.lst (m1.map V.int))) := Same.new n1
    have g1 : (upd H p1 (.lst (m1.map V.int))) p1 = some (.lst (m1.map V.int)) := upd_same
    generalize upd H p1 (.lst (m1.map V.int)) = H1 at s1 g1 ⊢
    refine ⟨.ref a, rfl, _, rfl, k, rfl, a, _, rfl, s1.seq hx, fun p2 n2 => ?_⟩
    rw [e2]
    have s2 : Same H1 (upd H1 p2 (.lst (m2.map V.int))) := Same.new n2
    have g2 : (upd H1 p2 (.lst (m2.map V.int))) p2 = some (.lst (m2.map V.int)) := upd_same
    generalize upd H1 p2 (.lst (m2.map V.int)) = H2 at s2 g2 ⊢
    refine ⟨p1, p2, _, _, rfl, rfl, s2 _ _ g1, g2, ?_, fun p3 n3 => ?_⟩
    · rw [List.length_map, List.length_map]
      exact small (by omega)
    rw [← List.map_append]
    have s3 : Same H2 (upd H2 p3 (.lst ((m1 ++ m2).map V.int))) := Same.new n3
    have g3 : (upd H2 p3 (.lst ((m1 ++ m2).map V.int))) p3 = some (.lst ((m1 ++ m2).map V.int)) := upd_same
    have hl3 : (m1 ++ m2).length ≤ 126 := by
      rw [List.length_append]
      omega
    generalize m1 ++ m2 = cs at s3 g3 hl3 ⊢
    generalize upd H2 p3 (.lst (cs.map V.int)) = H3 at s3 g3 ⊢
    have sA : Same H H3 := (s1.trans s2).trans s3
    clear s1 s2 s3 g1 g2
    first | refine sigN [some (.ref a), some (.int (k)), some (V.ref p3), none, none, none, none] (by rfl) ?_ | refine sig [some (.ref a), some (.int (k)), some (V.ref p3), none, none, none, none] (by rfl) ?_
    refine ⟨.ref a, rfl, a, rfl, ⟨_, sA.seq hx⟩, fun D hD => ?_⟩
    refine lc_list (K := K) (a := a) (xs := ns.map V.int) (fun i H4 => Same H3 H4 ∧ ∃ gs : List Int, H4 D = some (.lst (gs.map V.int)) ∧ gs.length ≤ i) ⟨Same.new hD, [], upd_same, Nat.le_refl _⟩ (fun i H4 _ z => (sA.trans z.1).seq hx) (fun i x H4 hi z => ?_) (fun H4 z => ?_)
    · obtain ⟨s4, gs, g4, l4⟩ := z
      obtain ⟨y, rfl⟩ : ∃ y : Int, x = .int y := by
        rw [List.getElem?_map] at hi
        cases e : ns[i]? with
        | none =>
          rw [e] at hi
          cases hi
        | some y =>
          rw [e] at hi
          exact ⟨y, (Option.some.inj hi).symm⟩
      have hi2 : i < ns.length := by
        have h1 := (List.getElem?_eq_some_iff.mp hi).1
        rw [List.length_map] at h1
        exact h1
      refine ⟨rfl, _, rfl, _, _, rfl, rfl, ⟨by decide, by decide, by decide⟩, _, _, rfl, rfl, _, rfl, ite2 (fun _ => ?_) (fun _ => ?_)⟩
      · refine ⟨_, rfl, _, g4, ?_, Same.put s4 hD, gs ++ [y], ?_, ?_⟩
        · rw [List.length_map]
          exact small1000 (by omega)
        · rw [upd_same, List.map_append]
          rfl
        · rw [List.length_append]
          exact Nat.add_le_add_right l4 1
      · exact ⟨s4, gs, g4, Nat.le_succ_of_le l4⟩
    · obtain ⟨s4, gs, g4, l4⟩ := z
      have sB : Same H H4 := sA.trans s4
      have g3' := s4 _ _ g3
      refine ⟨_, rfl, _, _, rfl, rfl, (Or.inl ⟨by decide, by decide⟩), _, _, rfl, rfl, ?_⟩
      first | refine sigN [some (.ref a), some (.int (k)), some (V.ref p3), some (V.ref D), none, some (.int (61 + 9 * k)), none] (by rfl) ?_ | refine sig [some (.ref a), some (.int (k)), some (V.ref p3), some (V.ref D), none, some (.int (61 + 9 * k)), none] (by rfl) ?_
      refine ⟨_, rfl, p3, rfl, ⟨_, .inl (.inl g3')⟩, for_list (K := K) (a := p3) (xs := cs.map V.int) (fun i σ H5 => H5 = H4 ∧ ∃ (y : Int) (v : Option V), σ = [some (.ref a), some (.int k), some (.ref p3), some (.ref D), v, some (.int y), none]) ⟨rfl, _, none, rfl⟩ (fun i σ H5 _ z => by rw [z.1]; exact .inl (.inl g3')) ?_ ?_⟩
      · rintro i x σ H5 hi ⟨rfl, y, v, rfl⟩
        obtain ⟨t, rfl⟩ : ∃ t : Int, x = .int t := by
          rw [List.getElem?_map] at hi
          cases e : cs[i]? with
          | none =>
            rw [e] at hi
            cases hi
          | some t =>
            rw [e] at hi
            exact ⟨t, (Option.some.inj hi).symm⟩
        refine ⟨_, rfl, _, _, rfl, rfl, (Or.inr ⟨by decide, by decide⟩), _, rfl, _, _, rfl, rfl, _, rfl, _, _, rfl, rfl, (by show (0 : Int) < 2147483647; decide), ?_⟩
        exact ⟨rfl, _, _, rfl⟩
      · rintro σ H5 ⟨rfl, y, v, rfl⟩
        refine ⟨_, rfl, _, rfl, D, _, rfl, .inl (.inl (.inl g4)), _, _, rfl, rfl, _, rfl, ite2 (fun e => ?A) (fun e => ?B)⟩
        case' A =>
          have e' : k < ((gs.map V.int).length : Int) := of_decide_eq_true e
          rw [List.length_map] at e'
          have hk2 : k.toNat < gs.length := by omega
          have hz : atI (gs.map V.int) k = some (.int gs[k.toNat]) := by
            have key : atI (gs.map V.int) ((k.toNat : Nat) : Int) = some (.int gs[k.toNat]) := atI_nat (by
              rw [List.getElem?_map, List.getElem?_eq_getElem hk2]
              rfl)
            rw [show ((k.toNat : Nat) : Int) = k by omega] at key
            exact key
          refine ⟨_, rfl, _, rfl, D, _, _, _, rfl, rfl, .inl (.inl g4), hz, ?_⟩
        all_goals
          intro m nm
          have h3m : p3 ≠ m := ne_of_none g3' nm
          refine ⟨_, rfl, _, rfl, _, rfl, _, rfl, _, _, rfl, rfl, (Or.inl ⟨by decide, by decide⟩), _, _, rfl, rfl, (by show 1 ≤ sizeLine; decide), fun l nl => ?_⟩
          have nml : m ≠ l := ne_of_none upd_same nl
          have nl0 : H5 l = none := Same.free (Same.new nm) nl
          refine ⟨p3, l, cs.map V.int, [V.int (47 * k + 19)], rfl, rfl, ?_, upd_same, ?_, fun u nu => ?_⟩
          · rw [upd_ne (ne_of_none g3' nl0), upd_ne h3m]
            exact g3'
          · rw [List.length_map]
            exact small (by show cs.length + 1 ≤ 1000; omega)
          have nmu : m ≠ u := ne_of_none (by rw [upd_ne nml]; exact upd_same) nu
          have nu0 : H5 u = none := Same.free (Same.put (Same.new nm) nl0) nu
          refine ⟨?_, mk4 _ y u 0, rfl, (by show 4 ≤ 15; decide), ?_⟩
          · rw [upd_ne nmu, upd_ne nml]
            exact upd_same
          rw [m4_merge]
          have hm0 : H m = none := Same.free sB nm
          have hl0 : H l = none := Same.free sB nl0
          have hu0 : H u = none := Same.free sB nu0
          refine q _ m u (Same.put (Same.put (Same.put (Same.put sB hm0) hl0) hu0) hm0) hm0 hu0 ⟨_, y, cs ++ [47 * k + 19], 0, upd_same, Nat.le_refl _, ?_, ?_⟩
          · rw [upd_ne (fun z => nmu z.symm), upd_same, List.map_append]
            rfl
          · rw [List.length_append]
            exact Nat.lt_of_lt_of_le (by decide : 0 < 1) (Nat.le_add_left _ _)
end
end K40
set_option Elab.async false
set_option linter.all false
set_option maxRecDepth 100000
set_option maxHeartbeats 4000000
namespace K40
open PySem PySem.Spec PyProof.Rows L2 Gd QM K45M EcZ
local macro_rules | `(tactic| walk_at "bd") => `(tactic| (repeat (first | assumption | apply B.add | apply B.sub | apply B.mul | apply B.neg | exact B.lit (n := 8) (by decide))))
local macro_rules | `(tactic| walk_at "bnd") => `(tactic| (apply B.mulW; walk_at "bd"; decide))
local macro_rules | `(tactic| walk_at "pw") => `(tactic| exact B.up (n := 64) (by assumption) (by decide))
def cL (c : C5) : List V := [.int c.a1, .int c.a2, .int c.a3, .int c.a4, .int c.a6]
def c4 (c : C5) : Int := c.b2 * c.b2 - 24 * c.b4
def c6 (c : C5) : Int := 36 * c.b2 * c.b4 - c.b2 * c.b2 * c.b2 - 216 * c.b6
def nums (c : C5) : List V := [.int c.b2, .int c.b4, .int c.b6, .int c.b8, .int (c4 c), .int (c6 c), .int c.disc]
theorem law_disc (c : C5) : 9 * c.b2 * c.b4 * c.b6 - c.b2 * c.b2 * c.b8 - 8 * c.b4 ^ 3 - 27 * c.b6 * c.b6 = c.disc := by
  unfold C5.disc
  grind
theorem law_c6 (c : C5) : 36 * c.b2 * c.b4 - c.b2 ^ 3 - 216 * c.b6 = c6 c := by
  unfold c6
  grind
/-- numbers of ten bits -/
structure Sm (c : C5) : Prop where
  h1 : B 10 c.a1
  h2 : B 10 c.a2
  h3 : B 10 c.a3
  h4 : B 10 c.a4
  h6 : B 10 c.a6
theorem Sm.b2 {c : C5} (h : Sm c) : B 22 c.b2 := ((h.h1.mul h.h1).add ((B.lit (n := 3) (by decide)).mul h.h2)).up (by decide)
theorem Sm.b4 {c : C5} (h : Sm c) : B 22 c.b4 := (((B.lit (n := 2) (by decide)).mul h.h4).add (h.h1.mul h.h3)).up (by decide)
theorem Sm.b6 {c : C5} (h : Sm c) : B 22 c.b6 := ((h.h3.mul h.h3).add ((B.lit (n := 3) (by decide)).mul h.h6)).up (by decide)
theorem Sm.b8 {c : C5} (h : Sm c) : B 50 c.b8 := by
  have h : B 48 (4 * c.b8) := by
    rw [← c.b8_4]
    exact ((h.b2.mul h.b6).sub (h.b4.mul h.b4)).up (by decide)
  unfold Gd.B at *
  omega
section
variable {P : Program} {w : World} {K : PySem.W.Frag} {mg : Str → Option Value} {base : Heap}
def sp_five (K : PySem.W.Frag) : Sp := fun vs H Q _ => ∃ (p : Addr) (c : C5), vs = [.ref p] ∧ SqT K H p (cL c) ∧ Q (.ref p) H
abbrev s_five : Stmt := topS 4
theorem sc_five : FnScope ["curve", "a", "b", "c"] ["curve"] (defScope s_five) := ⟨rfl, rfl, rfl, by decide +kernel, rfl, by decide +kernel, by decide +kernel⟩
theorem k_five (T : Tx K mg) (D : Df K mg "five" s_five ["curve"])  : Kl P w K mg base 1 "five" (sp_five K) := by
  have nd := sc_five.nd
  refine Kl.by_body D sc_five (fun vs H Q E h => ?_) (fun f cdv A outer s H vs Q E hr h => ?_)
  · obtain ⟨_, _, rfl, _⟩ := h
    rfl
  · obtain ⟨p, c, rfl, hx, q⟩ := h
    have hu1 := hu_of hr
    refine ⟨_, (pss_cons (ps_if (pt_cmpR op_eq (pe_callB call_len_seq (by rfl) T.len (by decide +kernel) (pa_cons (pv 0) pa_nil)) pe_int (nomark _)) (pss_cons (ps_asg (pv 0) (pg_tup rfl (pgs_cons (pg_name (i := 1) nd rfl (by first | exact Or.inl rfl | exact Or.inr rfl)) (pgs_cons (pg_name (i := 2) nd rfl (by first | exact Or.inl rfl | exact Or.inr rfl)) (pgs_cons (pg_name (i := 3) nd rfl (by first | exact Or.inl rfl | exact Or.inr rfl)) pgs_nil)))))
      (pss_one (ps_ret (pe_tup (pa_cons pe_int (pa_cons (pv 1) (pa_cons pe_int (pa_cons (pv 2) (pa_cons (pv 3) pa_nil))))))))) pss_nil)
      (pss_one (ps_ret (pv 0)))), ?_⟩
    refine ⟨.ref p, rfl, p, _, rfl, .inr hx, rfl, _, rfl, ?_⟩
    refine iteN (by simp [cL]) ?_
    exact ⟨.ref p, rfl, q⟩
def sp_numbers_of (K : PySem.W.Frag) : Sp := fun vs H Q _ => ∃ (p : Addr) (c : C5), vs = [.ref p] ∧ SqT K H p (cL c) ∧ Sm c ∧ ∀ t, H t = none → Q (.ref t) (upd H t (.tup (nums c)))
abbrev s_numbers_of : Stmt := topS 6
theorem sc_numbers_of : FnScope ["curve", "a1", "a2", "a3", "a4", "a6", "b2", "b4", "b6", "b8", "c4", "c6", "d"] ["curve"] (defScope s_numbers_of) := ⟨rfl, rfl, rfl, by decide +kernel, rfl, by decide +kernel, by decide +kernel⟩
theorem k_numbers_of (T : Tx K mg) (D : Df K mg "numbers_of" s_numbers_of ["curve"]) (c_five : Kl P w K mg base 1 "five" (sp_five K)) : Kl P w K mg base 2 "numbers_of" (sp_numbers_of K) := by
  have nd := sc_numbers_of.nd
  refine Kl.by_body D sc_numbers_of (fun vs H Q E h => ?_) (fun f cdv A outer s H vs Q E hr h => ?_)
  · obtain ⟨_, _, rfl, _⟩ := h
    rfl
  · obtain ⟨p, c, rfl, hx, hm, q⟩ := h
    have hu1 := hu_of hr
    refine ⟨_, (pss_cons (ps_asg (pe_k c_five  hr (by decide) (by rfl) (pa_cons (pv 0) pa_nil)) (pg_tup rfl (pgs_cons (pg_name (i := 1) nd rfl (by first | exact Or.inl rfl | exact Or.inr rfl)) (pgs_cons (pg_name (i := 2) nd rfl (by first | exact Or.inl rfl | exact Or.inr rfl)) (pgs_cons (pg_name (i := 3) nd rfl (by first | exact Or.inl rfl | exact Or.inr rfl)) (pgs_cons (pg_name (i := 4) nd rfl (by first | exact Or.inl rfl | exact Or.inr rfl)) (pgs_cons (pg_name (i := 5) nd rfl (by first | exact Or.inl rfl | exact Or.inr rfl)) pgs_nil)))))))
      (pss_cons (ps_set (i := 6) nd rfl (by first | exact Or.inl rfl | exact Or.inr rfl) (pe_op op_add (pe_op op_mulW (pv 1) (pv 1)) (pe_op op_mul pe_int (pv 2))))
      (pss_cons (ps_set (i := 7) nd rfl (by first | exact Or.inl rfl | exact Or.inr rfl) (pe_op op_add (pe_op op_mul pe_int (pv 4)) (pe_op op_mulW (pv 1) (pv 3))))
      (pss_cons (ps_set (i := 8) nd rfl (by first | exact Or.inl rfl | exact Or.inr rfl) (pe_op op_add (pe_op op_mulW (pv 3) (pv 3)) (pe_op op_mul pe_int (pv 5))))
      (pss_cons (ps_set (i := 9) nd rfl (by first | exact Or.inl rfl | exact Or.inr rfl) (pe_op op_sub (pe_op op_add (pe_op op_sub (pe_op op_add (pe_op op_mulW (pe_op op_mulW (pv 1) (pv 1)) (pv 5)) (pe_op op_mulW (pe_op op_mul pe_int (pv 2)) (pv 5))) (pe_op op_mulW (pe_op op_mulW (pv 1) (pv 3)) (pv 4))) (pe_op op_mulW (pe_op op_mulW (pv 2) (pv 3)) (pv 3))) (pe_op op_mulW (pv 4) (pv 4))))
      (pss_cons (ps_set (i := 10) nd rfl (by first | exact Or.inl rfl | exact Or.inr rfl) (pe_op op_sub (pe_op op_mulW (pv 6) (pv 6)) (pe_op op_mul pe_int (pv 7))))
      (pss_cons (ps_set (i := 11) nd rfl (by first | exact Or.inl rfl | exact Or.inr rfl) (pe_op op_sub (pe_op op_sub (pe_op op_mulW (pe_op op_mul pe_int (pv 6)) (pv 7)) (pe_op op_mulW (pe_op op_mulW (pv 6) (pv 6)) (pv 6))) (pe_op op_mul pe_int (pv 8))))
      (pss_cons (ps_set (i := 12) nd rfl (by first | exact Or.inl rfl | exact Or.inr rfl) (pe_op op_sub (pe_op op_sub (pe_op op_sub (pe_op op_mulW (pe_op op_mulW (pe_op op_mul pe_int (pv 6)) (pv 7)) (pv 8)) (pe_op op_mulW (pe_op op_mulW (pv 6) (pv 6)) (pv 9))) (pe_op op_mulW (pe_op op_mulW (pe_op op_mul pe_int (pv 7)) (pv 7)) (pv 7))) (pe_op op_mulW (pe_op op_mul pe_int (pv 8)) (pv 8))))
      (pss_one (ps_ret (pe_tup (pa_cons (pv 6) (pa_cons (pv 7) (pa_cons (pv 8) (pa_cons (pv 9) (pa_cons (pv 10) (pa_cons (pv 11) (pa_cons (pv 12) pa_nil)))))))))))))))))), ?_⟩
    refine ⟨.ref p, rfl, p, c, rfl, hx, ?_⟩
    have e2 := hm.b2
    have e4 := hm.b4
    have e6 := hm.b6
    have e8 := hm.b8
    obtain ⟨h1, h2, h3, h4, h6⟩ := hm
    refine ⟨p, _, rfl, hx, rfl, _, _, rfl, _, _, rfl, _, _, rfl, _, _, rfl, _, _, rfl, rfl, ?_⟩
    first | refine sigN [some (.ref p), some (.int (c.a1)), some (.int (c.a2)), some (.int (c.a3)), some (.int (c.a4)), some (.int (c.a6)), none, none, none, none, none, none, none] (by rfl) ?_ | refine sig [some (.ref p), some (.int (c.a1)), some (.int (c.a2)), some (.int (c.a3)), some (.int (c.a4)), some (.int (c.a6)), none, none, none, none, none, none, none] (by rfl) ?_
    refine ⟨_, rfl, _, rfl, _, _, rfl, rfl, (by walk_at "bnd"), _, rfl, _, _, rfl, rfl, (Or.inl ⟨by decide, by decide⟩), _, _, rfl, rfl, ?_⟩
    first | refine sigN [some (.ref p), some (.int (c.a1)), some (.int (c.a2)), some (.int (c.a3)), some (.int (c.a4)), some (.int (c.a6)), some (.int (c.b2)), none, none, none, none, none, none] (by rfl) ?_ | refine sig [some (.ref p), some (.int (c.a1)), some (.int (c.a2)), some (.int (c.a3)), some (.int (c.a4)), some (.int (c.a6)), some (.int (c.b2)), none, none, none, none, none, none] (by rfl) ?_
    refine ⟨_, rfl, _, _, rfl, rfl, (Or.inl ⟨by decide, by decide⟩), _, rfl, _, rfl, _, _, rfl, rfl, (by walk_at "bnd"), _, _, rfl, rfl, ?_⟩
    first | refine sigN [some (.ref p), some (.int (c.a1)), some (.int (c.a2)), some (.int (c.a3)), some (.int (c.a4)), some (.int (c.a6)), some (.int (c.b2)), some (.int (c.b4)), none, none, none, none, none] (by rfl) ?_ | refine sig [some (.ref p), some (.int (c.a1)), some (.int (c.a2)), some (.int (c.a3)), some (.int (c.a4)), some (.int (c.a6)), some (.int (c.b2)), some (.int (c.b4)), none, none, none, none, none] (by rfl) ?_
    refine ⟨_, rfl, _, rfl, _, _, rfl, rfl, (by walk_at "bnd"), _, rfl, _, _, rfl, rfl, (Or.inl ⟨by decide, by decide⟩), _, _, rfl, rfl, ?_⟩
    first | refine sigN [some (.ref p), some (.int (c.a1)), some (.int (c.a2)), some (.int (c.a3)), some (.int (c.a4)), some (.int (c.a6)), some (.int (c.b2)), some (.int (c.b4)), some (.int (c.b6)), none, none, none, none] (by rfl) ?_ | refine sig [some (.ref p), some (.int (c.a1)), some (.int (c.a2)), some (.int (c.a3)), some (.int (c.a4)), some (.int (c.a6)), some (.int (c.b2)), some (.int (c.b4)), some (.int (c.b6)), none, none, none, none] (by rfl) ?_
    refine ⟨_, rfl, _, rfl, _, _, rfl, rfl, (by walk_at "bnd"), _, rfl, _, _, rfl, rfl, (by walk_at "bnd"), _, rfl, _, _, rfl, rfl, (Or.inl ⟨by decide, by decide⟩), _, rfl, _, _, rfl, rfl, (by walk_at "bnd"), _, _, rfl, rfl, _, rfl, _, rfl, _, _, rfl, rfl, (by walk_at "bnd"), _, rfl, _, _, rfl, rfl, (by walk_at "bnd"), _, _, rfl, rfl, _, rfl, _, rfl, _, _, rfl, rfl, (by walk_at "bnd"), _, rfl, _, _, rfl, rfl, (by walk_at "bnd"), _, _, rfl, rfl, _, rfl, _, rfl, _, _, rfl, rfl, (by walk_at "bnd"), _, _, rfl, rfl, ?_⟩
    first | refine sigN [some (.ref p), some (.int (c.a1)), some (.int (c.a2)), some (.int (c.a3)), some (.int (c.a4)), some (.int (c.a6)), some (.int (c.b2)), some (.int (c.b4)), some (.int (c.b6)), some (.int (c.b8)), none, none, none] (by rfl) ?_ | refine sig [some (.ref p), some (.int (c.a1)), some (.int (c.a2)), some (.int (c.a3)), some (.int (c.a4)), some (.int (c.a6)), some (.int (c.b2)), some (.int (c.b4)), some (.int (c.b6)), some (.int (c.b8)), none, none, none] (by rfl) ?_
    refine ⟨_, rfl, _, rfl, _, _, rfl, rfl, (by walk_at "bnd"), _, rfl, _, _, rfl, rfl, (Or.inl ⟨by decide, by decide⟩), _, _, rfl, rfl, ?_⟩
    first | refine sigN [some (.ref p), some (.int (c.a1)), some (.int (c.a2)), some (.int (c.a3)), some (.int (c.a4)), some (.int (c.a6)), some (.int (c.b2)), some (.int (c.b4)), some (.int (c.b6)), some (.int (c.b8)), some (.int (c4 c)), none, none] (by rfl) ?_ | refine sig [some (.ref p), some (.int (c.a1)), some (.int (c.a2)), some (.int (c.a3)), some (.int (c.a4)), some (.int (c.a6)), some (.int (c.b2)), some (.int (c.b4)), some (.int (c.b6)), some (.int (c.b8)), some (.int (c4 c)), none, none] (by rfl) ?_
    refine ⟨_, rfl, _, _, rfl, rfl, (Or.inl ⟨by decide, by decide⟩), _, rfl, _, _, rfl, rfl, (by walk_at "bnd"), _, rfl, _, rfl, _, _, rfl, rfl, (by walk_at "bnd"), _, rfl, _, _, rfl, rfl, (by walk_at "bnd"), _, _, rfl, rfl, _, rfl, _, _, rfl, rfl, (Or.inl ⟨by decide, by decide⟩), _, _, rfl, rfl, ?_⟩
    first | refine sigN [some (.ref p), some (.int (c.a1)), some (.int (c.a2)), some (.int (c.a3)), some (.int (c.a4)), some (.int (c.a6)), some (.int (c.b2)), some (.int (c.b4)), some (.int (c.b6)), some (.int (c.b8)), some (.int (c4 c)), some (.int (c6 c)), none] (by rfl) ?_ | refine sig [some (.ref p), some (.int (c.a1)), some (.int (c.a2)), some (.int (c.a3)), some (.int (c.a4)), some (.int (c.a6)), some (.int (c.b2)), some (.int (c.b4)), some (.int (c.b6)), some (.int (c.b8)), some (.int (c4 c)), some (.int (c6 c)), none] (by rfl) ?_
    refine ⟨_, rfl, _, _, rfl, rfl, (Or.inl ⟨by decide, by decide⟩), _, rfl, _, _, rfl, rfl, (by walk_at "bnd"), _, rfl, _, _, rfl, rfl, (by walk_at "bnd"), _, rfl, _, rfl, _, _, rfl, rfl, (by walk_at "bnd"), _, rfl, _, _, rfl, rfl, (by walk_at "bnd"), _, _, rfl, rfl, _, rfl, _, _, rfl, rfl, (Or.inl ⟨by decide, by decide⟩), _, rfl, _, _, rfl, rfl, (by walk_at "bnd"), _, rfl, _, _, rfl, rfl, (by walk_at "bnd"), _, _, rfl, rfl, _, rfl, _, _, rfl, rfl, (Or.inl ⟨by decide, by decide⟩), _, rfl, _, _, rfl, rfl, (by walk_at "bnd"), _, _, rfl, rfl, ?_⟩
    have ed : 9 * c.b2 * c.b4 * c.b6 - c.b2 * c.b2 * c.b8 - 8 * c.b4 * c.b4 * c.b4 - 27 * c.b6 * c.b6 = c.disc := by
      unfold C5.disc
      grind
    first | refine sigN [some (.ref p), some (.int (c.a1)), some (.int (c.a2)), some (.int (c.a3)), some (.int (c.a4)), some (.int (c.a6)), some (.int (c.b2)), some (.int (c.b4)), some (.int (c.b6)), some (.int (c.b8)), some (.int (c4 c)), some (.int (c6 c)), some (.int (9 * c.b2 * c.b4 * c.b6 - c.b2 * c.b2 * c.b8 - 8 * c.b4 * c.b4 * c.b4 - 27 * c.b6 * c.b6))] (by rfl) ?_ | refine sig [some (.ref p), some (.int (c.a1)), some (.int (c.a2)), some (.int (c.a3)), some (.int (c.a4)), some (.int (c.a6)), some (.int (c.b2)), some (.int (c.b4)), some (.int (c.b6)), some (.int (c.b8)), some (.int (c4 c)), some (.int (c6 c)), some (.int (9 * c.b2 * c.b4 * c.b6 - c.b2 * c.b2 * c.b8 - 8 * c.b4 * c.b4 * c.b4 - 27 * c.b6 * c.b6))] (by rfl) ?_
    rw [ed]
    refine ⟨_, rfl, _, rfl, _, rfl, _, rfl, _, rfl, _, rfl, _, rfl, (by show 7 ≤ sizeLine; decide), fun t2 nt2 => ?_⟩
    exact q t2 nt2
def sp_law_numbers (K : PySem.W.Frag) : Sp := fun vs H Q _ => ∃ (p : Addr) (c : C5), vs = [.ref p] ∧ SqT K H p (cL c) ∧ Sm c ∧ ∀ t, H t = none → Q (.ref t) (upd H t (.tup (nums c)))
abbrev s__law_numbers : Stmt := topS 32
theorem sc__law_numbers : FnScope ["five_v", "a", "b", "c", "d", "e", "b2", "b4", "b6", "b8", "c4", "c6", "disc"] ["five_v"] (defScope s__law_numbers) := ⟨rfl, rfl, rfl, by decide +kernel, rfl, by decide +kernel, by decide +kernel⟩
theorem k_law_numbers (T : Tx K mg) (D : Df K mg "_law_numbers" s__law_numbers ["five_v"])  : Kl P w K mg base 1 "_law_numbers" (sp_law_numbers K) := by
  have nd := sc__law_numbers.nd
  refine Kl.by_body D sc__law_numbers (fun vs H Q E h => ?_) (fun f cdv A outer s H vs Q E hr h => ?_)
  · obtain ⟨_, _, rfl, _⟩ := h
    rfl
  · obtain ⟨p, c, rfl, hx, hm, q⟩ := h
    have hu1 := hu_of hr
    refine ⟨_, (pss_cons (ps_asg (pv 0) (pg_tup rfl (pgs_cons (pg_name (i := 1) nd rfl (by first | exact Or.inl rfl | exact Or.inr rfl)) (pgs_cons (pg_name (i := 2) nd rfl (by first | exact Or.inl rfl | exact Or.inr rfl)) (pgs_cons (pg_name (i := 3) nd rfl (by first | exact Or.inl rfl | exact Or.inr rfl)) (pgs_cons (pg_name (i := 4) nd rfl (by first | exact Or.inl rfl | exact Or.inr rfl)) (pgs_cons (pg_name (i := 5) nd rfl (by first | exact Or.inl rfl | exact Or.inr rfl)) pgs_nil)))))))
      (pss_cons (ps_par3 (i := 6) (j := 7) (l := 8) (by rfl) nd rfl rfl rfl (by decide) (by decide) (by decide) rfl rfl rfl (pa_cons (pe_op op_add (pe_op op_mulW (pv 1) (pv 1)) (pe_op op_mul pe_int (pv 2))) (pa_cons (pe_op op_add (pe_op op_mul pe_int (pv 4)) (pe_op op_mulW (pv 1) (pv 3))) (pa_cons (pe_op op_add (pe_op op_mulW (pv 3) (pv 3)) (pe_op op_mul pe_int (pv 5))) pa_nil))) (by rfl))
      (pss_cons (ps_set (i := 9) nd rfl (by first | exact Or.inl rfl | exact Or.inr rfl) (pe_op op_fdiv (pe_op op_sub (pe_op op_mulW (pv 6) (pv 8)) (pe_op op_mulW (pv 7) (pv 7))) pe_int))
      (pss_cons (ps_par (i := 10) (j := 11) (by rfl) nd rfl rfl (by decide) rfl rfl (pa_cons (pe_op op_sub (pe_op op_mulW (pv 6) (pv 6)) (pe_op op_mul pe_int (pv 7))) (pa_cons (pe_op op_sub (pe_op op_sub (pe_op op_mulW (pe_op op_mul pe_int (pv 6)) (pv 7)) (pe_op op_pow (pv 6) pe_int)) (pe_op op_mul pe_int (pv 8))) pa_nil)) (by rfl))
      (pss_cons (ps_set (i := 12) nd rfl (by first | exact Or.inl rfl | exact Or.inr rfl) (pe_op op_sub (pe_op op_mulW (pe_op op_mulW (pe_op op_mul pe_int (pv 6)) (pv 7)) (pv 8)) (pe_op op_mulW (pe_op op_mulW (pv 6) (pv 6)) (pv 9))))
      (pss_one (ps_ret (pe_tup (pa_cons (pv 6) (pa_cons (pv 7) (pa_cons (pv 8) (pa_cons (pv 9) (pa_cons (pv 10) (pa_cons (pv 11) (pa_cons (pe_op op_sub (pe_op op_sub (pv 12) (pe_op op_mul pe_int (pe_op op_pow (pv 7) pe_int))) (pe_op op_mulW (pe_op op_mul pe_int (pv 8)) (pv 8))) pa_nil))))))))))))))), ?_⟩
    have e2 := hm.b2
    have e4 := hm.b4
    have e6 := hm.b6
    have h8 := hm.b8
    obtain ⟨h1, h2, h3, h4, h6⟩ := hm
    have p3 : B 140 (c.b2 ^ (3 : Int).toNat) := (e2.pow 3).up (by decide)
    have p4 : B 140 (c.b4 ^ (3 : Int).toNat) := (e4.pow 3).up (by decide)
    refine ⟨.ref p, rfl, p, _, rfl, hx, rfl, _, _, rfl, _, _, rfl, _, _, rfl, _, _, rfl, _, _, rfl, rfl, ?_⟩
    first | refine sigN [some (.ref p), some (.int (c.a1)), some (.int (c.a2)), some (.int (c.a3)), some (.int (c.a4)), some (.int (c.a6)), none, none, none, none, none, none, none] (by rfl) ?_ | refine sig [some (.ref p), some (.int (c.a1)), some (.int (c.a2)), some (.int (c.a3)), some (.int (c.a4)), some (.int (c.a6)), none, none, none, none, none, none, none] (by rfl) ?_
    refine ⟨_, rfl, _, rfl, _, _, rfl, rfl, (by walk_at "bnd"), _, rfl, _, _, rfl, rfl, (Or.inl ⟨by decide, by decide⟩), _, _, rfl, rfl, _, rfl, _, _, rfl, rfl, (Or.inl ⟨by decide, by decide⟩), _, rfl, _, rfl, _, _, rfl, rfl, (by walk_at "bnd"), _, _, rfl, rfl, _, rfl, _, rfl, _, _, rfl, rfl, (by walk_at "bnd"), _, rfl, _, _, rfl, rfl, (Or.inl ⟨by decide, by decide⟩), _, _, rfl, rfl, _, _, _, rfl, ?_⟩
    first | refine sigN [some (.ref p), some (.int (c.a1)), some (.int (c.a2)), some (.int (c.a3)), some (.int (c.a4)), some (.int (c.a6)), some (.int (c.b2)), some (.int (c.b4)), some (.int (c.b6)), none, none, none, none] (by rfl) ?_ | refine sig [some (.ref p), some (.int (c.a1)), some (.int (c.a2)), some (.int (c.a3)), some (.int (c.a4)), some (.int (c.a6)), some (.int (c.b2)), some (.int (c.b4)), some (.int (c.b6)), none, none, none, none] (by rfl) ?_
    refine ⟨_, rfl, _, rfl, _, _, rfl, rfl, (by walk_at "bnd"), _, rfl, _, rfl, _, _, rfl, rfl, (by walk_at "bnd"), _, _, rfl, rfl, _, _, rfl, rfl, ⟨by decide, by decide⟩, ?_⟩
    have e8 : (c.b2 * c.b6 - c.b4 * c.b4) / 4 = c.b8 := by
      rw [c.b8_4]
      omega
    first | refine sigN [some (.ref p), some (.int (c.a1)), some (.int (c.a2)), some (.int (c.a3)), some (.int (c.a4)), some (.int (c.a6)), some (.int (c.b2)), some (.int (c.b4)), some (.int (c.b6)), some (.int ((c.b2 * c.b6 - c.b4 * c.b4) / 4)), none, none, none] (by rfl) ?_ | refine sig [some (.ref p), some (.int (c.a1)), some (.int (c.a2)), some (.int (c.a3)), some (.int (c.a4)), some (.int (c.a6)), some (.int (c.b2)), some (.int (c.b4)), some (.int (c.b6)), some (.int ((c.b2 * c.b6 - c.b4 * c.b4) / 4)), none, none, none] (by rfl) ?_
    rw [e8]
    refine ⟨_, rfl, _, rfl, _, _, rfl, rfl, (by walk_at "bnd"), _, rfl, _, _, rfl, rfl, (Or.inl ⟨by decide, by decide⟩), _, _, rfl, rfl, _, rfl, _, _, rfl, rfl, (Or.inl ⟨by decide, by decide⟩), _, rfl, _, _, rfl, rfl, (by walk_at "bnd"), _, rfl, _, _, rfl, rfl, ⟨by decide, by decide, by walk_at "pw"⟩, _, _, rfl, rfl, _, rfl, _, _, rfl, rfl, (Or.inl ⟨by decide, by decide⟩), _, _, rfl, rfl, _, _, rfl, ?_⟩
    first | refine sigN [some (.ref p), some (.int (c.a1)), some (.int (c.a2)), some (.int (c.a3)), some (.int (c.a4)), some (.int (c.a6)), some (.int (c.b2)), some (.int (c.b4)), some (.int (c.b6)), some (.int (c.b8)), some (.int (c.b2 * c.b2 - 24 * c.b4)), some (.int (36 * c.b2 * c.b4 - c.b2 ^ 3 - 216 * c.b6)), none] (by rfl) ?_ | refine sig [some (.ref p), some (.int (c.a1)), some (.int (c.a2)), some (.int (c.a3)), some (.int (c.a4)), some (.int (c.a6)), some (.int (c.b2)), some (.int (c.b4)), some (.int (c.b6)), some (.int (c.b8)), some (.int (c.b2 * c.b2 - 24 * c.b4)), some (.int (36 * c.b2 * c.b4 - c.b2 ^ 3 - 216 * c.b6)), none] (by rfl) ?_
    refine ⟨_, rfl, _, _, rfl, rfl, (Or.inl ⟨by decide, by decide⟩), _, rfl, _, _, rfl, rfl, (by walk_at "bnd"), _, rfl, _, _, rfl, rfl, (by walk_at "bnd"), _, rfl, _, rfl, _, _, rfl, rfl, (by walk_at "bnd"), _, rfl, _, _, rfl, rfl, (by walk_at "bnd"), _, _, rfl, rfl, ?_⟩
    first | refine sigN [some (.ref p), some (.int (c.a1)), some (.int (c.a2)), some (.int (c.a3)), some (.int (c.a4)), some (.int (c.a6)), some (.int (c.b2)), some (.int (c.b4)), some (.int (c.b6)), some (.int (c.b8)), some (.int (c.b2 * c.b2 - 24 * c.b4)), some (.int (36 * c.b2 * c.b4 - c.b2 ^ 3 - 216 * c.b6)), some (.int (9 * c.b2 * c.b4 * c.b6 - c.b2 * c.b2 * c.b8))] (by rfl) ?_ | refine sig [some (.ref p), some (.int (c.a1)), some (.int (c.a2)), some (.int (c.a3)), some (.int (c.a4)), some (.int (c.a6)), some (.int (c.b2)), some (.int (c.b4)), some (.int (c.b6)), some (.int (c.b8)), some (.int (c.b2 * c.b2 - 24 * c.b4)), some (.int (36 * c.b2 * c.b4 - c.b2 ^ 3 - 216 * c.b6)), some (.int (9 * c.b2 * c.b4 * c.b6 - c.b2 * c.b2 * c.b8))] (by rfl) ?_
    refine ⟨_, rfl, _, rfl, _, rfl, _, rfl, _, rfl, _, rfl, _, rfl, _, rfl, _, _, rfl, rfl, ⟨by decide, by decide, by walk_at "pw"⟩, _, _, rfl, rfl, (Or.inl ⟨by decide, by decide⟩), _, _, rfl, rfl, _, rfl, _, _, rfl, rfl, (Or.inl ⟨by decide, by decide⟩), _, rfl, _, _, rfl, rfl, (by walk_at "bnd"), _, _, rfl, rfl, (by show 7 ≤ sizeLine; decide), fun t nt => ?_⟩
    have := q t nt
    unfold nums at this
    rw [← law_disc, ← law_c6] at this
    exact this
end
end K40
set_option Elab.async false
set_option linter.all false
set_option maxRecDepth 100000
set_option maxHeartbeats 4000000
namespace K40
open PySem PySem.Spec PyProof.Rows L2 Gd QM K45M EcZ SvM
local macro_rules | `(tactic| walk_at "bd") => `(tactic| (repeat (first | assumption | apply B.add | apply B.sub | apply B.mul | apply B.neg | exact B.lit (n := 8) (by decide))))
local macro_rules | `(tactic| walk_at "bnd") => `(tactic| (apply B.mulW; walk_at "bd"; decide))
theorem map_int {ns : List Int} {i : Nat} {x : V} (h : (ns.map V.int)[i]? = some x) : ∃ y : Int, ns[i]? = some y ∧ x = .int y := by
  rw [List.getElem?_map] at h
  cases e : ns[i]? with
  | none =>
    rw [e] at h
    cases h
  | some y =>
    rw [e] at h
    exact ⟨y, rfl, (Option.some.inj h).symm⟩
theorem drop_step {f : List Int} {i : Nat} {c : Int} (h : f[f.length - 1 - i]? = some c) (hi : i < f.length) : f.drop (f.length - (i + 1)) = c :: f.drop (f.length - i) := by
  obtain ⟨h1, h2⟩ := List.getElem?_eq_some_iff.mp h
  rw [show f.length - (i + 1) = f.length - 1 - i by omega, List.drop_eq_getElem_cons h1, h2, show f.length - 1 - i + 1 = f.length - i by omega]
theorem on_eq (c : C5) (x y : Int) : y * (y + c.a1 * x + c.a3) - c.a6 - x * (c.a4 + x * (c.a2 + x)) = lhs c x y := by
  unfold lhs
  grind
section
variable {P : Program} {w : World} {K : PySem.W.Frag} {mg : Str → Option Value} {base : Heap}
def sp_value_over (K : PySem.W.Frag) : Sp := fun vs H Q _ => ∃ (p : Addr) (f : List Int) (x m : Int), vs = [.ref p, .int x, .int m] ∧ SqT K H p (f.map V.int) ∧ f.length ≤ 5 ∧ (∀ c ∈ f, B 60 c) ∧ B 40 x ∧ 0 < m ∧ m ≤ 1000 ∧ Q (.int (ev f x % m)) H
abbrev s_value_over : Stmt := topS 14
theorem sc_value_over : FnScope ["f", "x", "m", "total", "c"] ["f", "x", "m"] (defScope s_value_over) := ⟨rfl, rfl, rfl, by decide +kernel, rfl, by decide +kernel, by decide +kernel⟩
theorem k_value_over (T : Tx K mg) (D : Df K mg "value_over" s_value_over ["f", "x", "m"])  : Kl P w K mg base 1 "value_over" (sp_value_over K) := by
  have nd := sc_value_over.nd
  refine Kl.by_body D sc_value_over (fun vs H Q E h => ?_) (fun f cdv A outer s H vs Q E hr h => ?_)
  · obtain ⟨_, _, _, _, rfl, _⟩ := h
    rfl
  · obtain ⟨p, f, x, m, rfl, hp, hl, hB, hx, hm, hm1, q⟩ := h
    have hu1 := hu_of hr
    refine ⟨_, (pss_cons (ps_set (i := 3) nd rfl (by first | exact Or.inl rfl | exact Or.inr rfl) pe_int)
      (pss_cons (ps_for PassesOwn.never rfl (RT.pi_revA (by rfl) T.reversed (pv 0)) (pg_name (i := 4) nd rfl (by first | exact Or.inl rfl | exact Or.inr rfl)) (pss_one (ps_set (i := 3) nd rfl (by first | exact Or.inl rfl | exact Or.inr rfl) (pe_op op_mod (pe_op op_add (pe_op op_mulW (pv 3) (pv 1)) (pv 4)) (pv 2)))))
      (pss_one (ps_ret (pv 3))))), ?_⟩
    have hlm : (f.map V.int).length = f.length := List.length_map ..
    refine ⟨_, rfl, p, _, rfl, .inr ⟨hp, ?_⟩⟩
    refine RT.for_ItvT (K := K) (a := p) (xs := f.map V.int) (fun i σ H2 => H2 = H ∧ ∃ v : Option V, σ = [some (.ref p), some (.int x), some (.int m), some (.int (ev (f.drop (f.length - i)) x % m)), v]) ⟨rfl, none, ?_⟩ ?_ ?_ ?_
    · rw [Nat.sub_zero, List.drop_length]
      show _ = [some (V.ref p), some (.int x), some (.int m), some (.int (0 % m)), none]
      rw [Int.zero_emod]
      rfl
    · rintro i σ H2 ⟨rfl, _⟩
      exact hp
    · rintro i z σ H2 hi hz ⟨rfl, v, rfl⟩
      rw [hlm] at hi hz
      obtain ⟨c, hc, rfl⟩ := map_int hz
      have b2 : B 12 (ev (f.drop (f.length - i)) x % m) := by
        have h1 := Int.emod_nonneg (ev (f.drop (f.length - i)) x) (show m ≠ 0 by omega)
        have h2 := Int.emod_lt_of_pos (ev (f.drop (f.length - i)) x) hm
        unfold Gd.B
        omega
      refine ⟨_, rfl, _, rfl, _, _, rfl, rfl, b2.mulW hx (by decide), _, rfl, _, _, rfl, rfl, _, rfl, _, _, rfl, rfl, hm, ?_⟩
      refine ⟨rfl, some (.int c), ?_⟩
      rw [drop_step hc hi, ev_cons]
      have e : (ev (f.drop (f.length - i)) x % m * x + c) % m = (ev (f.drop (f.length - i)) x * x + c) % m := (Mo.mod.mul Mo.rfl').add Mo.rfl'
      rw [← e]
      rfl
    · rintro σ H2 ⟨rfl, v, rfl⟩
      rw [hlm, Nat.sub_self, List.drop_zero]
      exact ⟨_, rfl, q⟩
/-! ### on the curve -/
def sp_is_solution (K : PySem.W.Frag) : Sp := fun vs H Q _ => ∃ (p : Int) (ca : Addr) (c : C5) (x y : Int), vs = [.int p, .ref ca, .int x, .int y] ∧ SqT K H ca (cL c) ∧ Sm c ∧ 0 < p ∧ B 10 x ∧ B 10 y ∧ Q (.bl (decide (lhs c x y % p = 0))) H
abbrev s_is_solution : Stmt := topS 21
theorem sc_is_solution : FnScope ["p", "curve", "x", "y", "a1", "a2", "a3", "a4", "a6"] ["p", "curve", "x", "y"] (defScope s_is_solution) := ⟨rfl, rfl, rfl, by decide +kernel, rfl, by decide +kernel, by decide +kernel⟩
theorem k_is_solution (T : Tx K mg) (D : Df K mg "is_solution" s_is_solution ["p", "curve", "x", "y"])  : Kl P w K mg base 1 "is_solution" (sp_is_solution K) := by
  have nd := sc_is_solution.nd
  refine Kl.by_body D sc_is_solution (fun vs H Q E h => ?_) (fun f cdv A outer s H vs Q E hr h => ?_)
  · obtain ⟨_, _, _, _, _, rfl, _⟩ := h
    rfl
  · obtain ⟨p, ca, c, x, y, rfl, hc, hm, hp0, xB, yB, q⟩ := h
    have hu1 := hu_of hr
    refine ⟨_, (pss_cons (ps_asg (pv 1) (pg_tup rfl (pgs_cons (pg_name (i := 4) nd rfl (by first | exact Or.inl rfl | exact Or.inr rfl)) (pgs_cons (pg_name (i := 5) nd rfl (by first | exact Or.inl rfl | exact Or.inr rfl)) (pgs_cons (pg_name (i := 6) nd rfl (by first | exact Or.inl rfl | exact Or.inr rfl)) (pgs_cons (pg_name (i := 7) nd rfl (by first | exact Or.inl rfl | exact Or.inr rfl)) (pgs_cons (pg_name (i := 8) nd rfl (by first | exact Or.inl rfl | exact Or.inr rfl)) pgs_nil)))))))
      (pss_one (ps_ret (pe_cmpR op_eq (pe_op op_mod (pe_op op_sub (pe_op op_sub (pe_op op_mulW (pv 3) (pe_op op_add (pe_op op_add (pv 3) (pe_op op_mulW (pv 4) (pv 2))) (pv 6))) (pv 8)) (pe_op op_mulW (pv 2) (pe_op op_add (pv 7) (pe_op op_mulW (pv 2) (pe_op op_add (pv 5) (pv 2)))))) (pv 0)) pe_int (nomark _))))), ?_⟩
    obtain ⟨h1, h2, h3, h4, h6⟩ := hm
    refine ⟨_, rfl, ca, _, rfl, hc, rfl, _, _, rfl, _, _, rfl, _, _, rfl, _, _, rfl, _, _, rfl, rfl, ?_⟩
    first | refine sigN [some (.int (p)), some (.ref ca), some (.int (x)), some (.int (y)), some (.int (c.a1)), some (.int (c.a2)), some (.int (c.a3)), some (.int (c.a4)), some (.int (c.a6))] (by rfl) ?_ | refine sig [some (.int (p)), some (.ref ca), some (.int (x)), some (.int (y)), some (.int (c.a1)), some (.int (c.a2)), some (.int (c.a3)), some (.int (c.a4)), some (.int (c.a6))] (by rfl) ?_
    refine ⟨_, rfl, _, rfl, _, rfl, _, rfl, _, _, rfl, rfl, h1.mulW xB (by decide), _, _, rfl, rfl, _, rfl, _, _, rfl, rfl, _, _, rfl, rfl, yB.mulW ((yB.add (h1.mul xB)).add h3) (by decide), _, rfl, _, _, rfl, rfl, _, rfl, _, rfl, _, rfl, _, rfl, _, rfl, _, _, rfl, rfl, _, _, rfl, rfl, xB.mulW (h2.add xB) (by decide), _, _, rfl, rfl, _, _, rfl, rfl, xB.mulW (h4.add (xB.mul (h2.add xB))) (by decide), _, _, rfl, rfl, _, rfl, _, _, rfl, rfl, hp0, rfl, ?_⟩
    rw [dec_int, on_eq]
    exact q
/-! ### the cubic -/
def fB (p : Int) (c : C5) : List Int := [c.b6 % p, 2 * c.b4 % p, c.b2 % p, 4]
def sp_cubic_of (K : PySem.W.Frag) : Sp := fun vs H Q _ => ∃ (p : Int) (ca : Addr) (c : C5), vs = [.int p, .ref ca] ∧ SqT K H ca (cL c) ∧ Sm c ∧ 0 < p ∧ ∀ H' t, Same H H' → H' t = some (.tup ((fB p c).map V.int)) → Q (.ref t) H'
abbrev s_cubic_of : Stmt := topS 23
theorem sc_cubic_of : FnScope ["p", "curve", "b2", "b4", "b6", "_"] ["p", "curve"] (defScope s_cubic_of) := ⟨rfl, rfl, rfl, by decide +kernel, rfl, by decide +kernel, by decide +kernel⟩
theorem k_cubic_of (T : Tx K mg) (D : Df K mg "cubic_of" s_cubic_of ["p", "curve"]) (c_numbers_of : Kl P w K mg base 2 "numbers_of" (sp_numbers_of K)) : Kl P w K mg base 3 "cubic_of" (sp_cubic_of K) := by
  have nd := sc_cubic_of.nd
  refine Kl.by_body D sc_cubic_of (fun vs H Q E h => ?_) (fun f cdv A outer s H vs Q E hr h => ?_)
  · obtain ⟨_, _, _, rfl, _⟩ := h
    rfl
  · obtain ⟨p, ca, c, rfl, hc, hm, hp0, q⟩ := h
    have hu1 := hu_of hr
    refine ⟨_, (pss_cons (ps_asg (pe_k c_numbers_of  hr (by decide) (by rfl) (pa_cons (pv 1) pa_nil)) (pg_tup rfl (pgs_cons (pg_name (i := 2) nd rfl (by first | exact Or.inl rfl | exact Or.inr rfl)) (pgs_cons (pg_name (i := 3) nd rfl (by first | exact Or.inl rfl | exact Or.inr rfl)) (pgs_cons (pg_name (i := 4) nd rfl (by first | exact Or.inl rfl | exact Or.inr rfl)) (pgs_cons (pg_name (i := 5) nd rfl (by first | exact Or.inl rfl | exact Or.inr rfl)) (pgs_cons (pg_name (i := 5) nd rfl (by first | exact Or.inl rfl | exact Or.inr rfl)) (pgs_cons (pg_name (i := 5) nd rfl (by first | exact Or.inl rfl | exact Or.inr rfl)) (pgs_cons (pg_name (i := 5) nd rfl (by first | exact Or.inl rfl | exact Or.inr rfl)) pgs_nil)))))))))
      (pss_one (ps_ret (pe_tup (pa_cons (pe_op op_mod (pv 4) (pv 0)) (pa_cons (pe_op op_mod (pe_op op_mul pe_int (pv 3)) (pv 0)) (pa_cons (pe_op op_mod (pv 2) (pv 0)) (pa_cons pe_int pa_nil)))))))), ?_⟩
    refine ⟨_, rfl, ca, c, rfl, hc, hm, fun t nt => ?_⟩
    have s1 := Same.new (H := H) (p := t) (o := .tup (nums c)) nt
    have g1 : upd H t (.tup (nums c)) t = some (.tup (nums c)) := upd_same
    generalize upd H t (.tup (nums c)) = H1 at s1 g1 ⊢
    refine ⟨t, _, rfl, tup_of g1, rfl, _, _, rfl, _, _, rfl, _, _, rfl, _, _, rfl, _, _, rfl, _, _, rfl, _, _, rfl, rfl, ?_⟩
    first | refine sigN [some (.int (p)), some (.ref ca), some (.int (c.b2)), some (.int (c.b4)), some (.int (c.b6)), some (.int (c.disc))] (by rfl) ?_ | refine sig [some (.int (p)), some (.ref ca), some (.int (c.b2)), some (.int (c.b4)), some (.int (c.b6)), some (.int (c.disc))] (by rfl) ?_
    refine ⟨_, rfl, _, rfl, _, _, rfl, rfl, hp0, _, rfl, _, _, rfl, rfl, (Or.inl ⟨by decide, by decide⟩), _, rfl, _, _, rfl, rfl, hp0, _, rfl, _, rfl, _, _, rfl, rfl, hp0, (by show 4 ≤ sizeLine; decide), fun t2 nt2 => ?_⟩
    exact q _ t2 (s1.trans (Same.new nt2)) upd_same
/-- Horner over the cubic's remainders -/
theorem ev_cub (p : Int) (c : C5) (x : Int) : Mo p (ev (fB p c) x) (cub c x) := by
  have e : ev (fB p c) x = c.b6 % p + x * (2 * c.b4 % p + x * (c.b2 % p + x * 4)) := by
    show (((0 * x + 4) * x + c.b2 % p) * x + 2 * c.b4 % p) * x + c.b6 % p = _
    generalize c.b2 % p = u2
    generalize 2 * c.b4 % p = u4
    generalize c.b6 % p = u6
    grind
  rw [e]
  refine (Mo.mod.add (Mo.rfl'.mul (Mo.mod.add (Mo.rfl'.mul (Mo.mod.add Mo.rfl'))))).trans (Mo.of_eq ?_)
  unfold cub
  grind
end
end K40
set_option Elab.async false
set_option linter.all false
set_option maxRecDepth 100000
set_option maxHeartbeats 4000000
namespace K40
open PySem PySem.Spec PyProof.Rows L2 Gd QM K45M EcZ SvM
local macro_rules | `(tactic| walk_at "bd") => `(tactic| (repeat (first | assumption | apply B.add | apply B.sub | apply B.mul | apply B.neg | exact B.lit (n := 8) (by decide))))
local macro_rules | `(tactic| walk_at "bnd") => `(tactic| (apply B.mulW; walk_at "bd"; decide))
local macro_rules | `(tactic| walk_at "pw") => `(tactic| exact B.up (n := 64) (by assumption) (by decide))
section
variable {P : Program} {w : World} {K : PySem.W.Frag} {mg : Str → Option Value} {base : Heap}
/-! ### the law's count -/
def sp_law_many (K : PySem.W.Frag) : Sp := fun vs H Q _ => ∃ (n : Nat) (ca : Addr) (c : C5), vs = [.int (n : Int), .ref ca] ∧ SqT K H ca (cL c) ∧ Sm c ∧ 0 < n ∧ n ≤ 1000 ∧ ∀ H', Same H H' → Q (.int ((1 + cntTo n n (cub c) : Nat) : Int)) H'
abbrev s__law_many : Stmt := topS 39
theorem sc__law_many : FnScope ["p", "five_v", "b2", "b4", "b6", "roots", "found", "y", "x", "side"] ["p", "five_v"] (defScope s__law_many) := ⟨rfl, rfl, rfl, by decide +kernel, rfl, by decide +kernel, by decide +kernel⟩
theorem k_law_many (T : Tx K mg) (D : Df K mg "_law_many" s__law_many ["p", "five_v"]) (c_law_numbers : Kl P w K mg base 1 "_law_numbers" (sp_law_numbers K)) : Kl P w K mg base 2 "_law_many" (sp_law_many K) := by
  have nd := sc__law_many.nd
  refine Kl.by_body D sc__law_many (fun vs H Q E h => ?_) (fun f cdv A outer s H vs Q E hr h => ?_)
  · obtain ⟨_, _, _, rfl, _⟩ := h
    rfl
  · obtain ⟨n, ca, c, rfl, hc, hm, hn, hn9, q⟩ := h
    have hu1 := hu_of hr
    refine ⟨_, (pss_cons (ps_asg (pe_slice sl_tup (pe_k c_law_numbers  hr (by decide) (by rfl) (pa_cons (pv 1) pa_nil)) po_none (po_some pe_int)) (pg_tup rfl (pgs_cons (pg_name (i := 2) nd rfl (by first | exact Or.inl rfl | exact Or.inr rfl)) (pgs_cons (pg_name (i := 3) nd rfl (by first | exact Or.inl rfl | exact Or.inr rfl)) (pgs_cons (pg_name (i := 4) nd rfl (by first | exact Or.inl rfl | exact Or.inr rfl)) pgs_nil)))))
      (pss_cons (ps_par (i := 5) (j := 6) (by rfl) nd rfl rfl (by decide) rfl rfl (pa_cons (pe_op op_rep (pe_lst (pa_cons pe_int pa_nil)) (pv 0)) (pa_cons pe_int pa_nil)) (by rfl))
      (pss_cons (ps_for PassesOwn.never rfl (pi_range1 (by rfl) T.range (pa_cons (pv 0) pa_nil)) (pg_name (i := 7) nd rfl (by first | exact Or.inl rfl | exact Or.inr rfl)) (pss_one (ps_asg (pe_op op_add (pe_ix ix_list (pv 5) (pe_op op_mod (pe_callTy call_intI (by rfl) T.int (by decide +kernel) (pa_cons (pe_op op_mulW (pv 7) (pv 7)) pa_nil)) (pv 0)) (fun _ _ => rfl)) pe_int) (pg_sub (pv 5) (pe_op op_mod (pe_callTy call_intI (by rfl) T.int (by decide +kernel) (pa_cons (pe_op op_mulW (pv 7) (pv 7)) pa_nil)) (pv 0)) set_list))))
      (pss_cons (ps_for PassesOwn.never rfl (pi_range1 (by rfl) T.range (pa_cons (pv 0) pa_nil)) (pg_name (i := 8) nd rfl (by first | exact Or.inl rfl | exact Or.inr rfl)) (pss_cons (ps_set (i := 9) nd rfl (by first | exact Or.inl rfl | exact Or.inr rfl) (pe_op op_add (pe_op op_add (pe_op op_mul pe_int (pe_op op_pow (pv 8) pe_int)) (pe_op op_mulW (pe_op op_mulW (pv 2) (pv 8)) (pv 8))) (pe_op op_mulW (pe_op op_mul pe_int (pv 3)) (pv 8))))
      (pss_one (ps_set (i := 6) nd rfl (by first | exact Or.inl rfl | exact Or.inr rfl) (pe_op op_add (pv 6) (pe_ix ix_list (pv 5) (pe_op op_mod (pe_callTy call_intI (by rfl) T.int (by decide +kernel) (pa_cons (pe_op op_add (pv 9) (pv 4)) pa_nil)) (pv 0)) (fun _ _ => rfl)))))))
      (pss_one (ps_ret (pv 6))))))), ?_⟩
    refine ⟨_, rfl, ca, c, rfl, hc, hm, fun t nt => ?_⟩
    have s1 := Same.new (H := H) (p := t) (o := .tup (nums c)) nt
    have g1 : upd H t (.tup (nums c)) t = some (.tup (nums c)) := upd_same
    generalize upd H t (.tup (nums c)) = H1 at s1 g1 ⊢
    refine ⟨3, rfl, t, _, rfl, tup_of g1, (by simp [nums, cutV, HT.sIx]), fun t2 nt2 => ?_⟩
    rw [show cutV (nums c) none (some 3) = [.int c.b2, .int c.b4, .int c.b6] from rfl]
    have s2 := Same.new (H := H1) (p := t2) (o := .tup [.int c.b2, .int c.b4, .int c.b6]) nt2
    have g2 : upd H1 t2 (.tup [.int c.b2, .int c.b4, .int c.b6]) t2 = some (.tup [.int c.b2, .int c.b4, .int c.b6]) := upd_same
    generalize upd H1 t2 (.tup [.int c.b2, .int c.b4, .int c.b6]) = H2 at s2 g2 ⊢
    refine ⟨t2, _, rfl, tup_of g2, rfl, _, _, rfl, _, _, rfl, _, _, rfl, rfl, ?_⟩
    first | refine sigN [some (.int ((n : Int))), some (.ref ca), some (.int (c.b2)), some (.int (c.b4)), some (.int (c.b6)), none, none, none, none, none] (by rfl) ?_ | refine sig [some (.int ((n : Int))), some (.ref ca), some (.int (c.b2)), some (.int (c.b4)), some (.int (c.b6)), none, none, none, none, none] (by rfl) ?_
    refine ⟨(by show 1 ≤ sizeLine; decide), fun l nl => ?_⟩
    have s3 := Same.new (H := H2) (p := l) (o := .lst [.int 0]) nl
    have g3 : upd H2 l (.lst [.int 0]) l = some (.lst [.int 0]) := upd_same
    generalize upd H2 l (.lst [.int 0]) = H3 at s3 g3 ⊢
    refine ⟨_, rfl, l, (n : Int), _, rfl, rfl, g3, by omega, by omega, ?_, fun r nr => ?_⟩
    · rw [List.length_singleton, Int.toNat_natCast, Nat.one_mul]
      exact small (by omega)
    have e0 : (List.replicate (n : Int).toNat [V.int 0]).flatten = (tl n 0).map V.int := by
      simp [tl_zero]
    rw [e0]
    have s4 := Same.new (H := H3) (p := r) (o := .lst ((tl n 0).map V.int)) nr
    have g4 : upd H3 r (.lst ((tl n 0).map V.int)) r = some (.lst ((tl n 0).map V.int)) := upd_same
    generalize upd H3 r (.lst ((tl n 0).map V.int)) = H4 at s4 g4 ⊢
    refine ⟨_, _, rfl, ?_⟩
    first | refine sigN [some (.int ((n : Int))), some (.ref ca), some (.int (c.b2)), some (.int (c.b4)), some (.int (c.b6)), some (.ref r), some (.int (1)), none, none, none] (by rfl) ?_ | refine sig [some (.int ((n : Int))), some (.ref ca), some (.int (c.b2)), some (.int (c.b4)), some (.int (c.b6)), some (.ref r), some (.int (1)), none, none, none] (by rfl) ?_
    have sA := s1.trans (s2.trans (s3.trans s4))
    have hp0 : (0 : Int) < (n : Int) := by omega
    have e2 := hm.b2
    have e4 := hm.b4
    have e6 := hm.b6
    have r0 : H r = none := by
      cases h : H r with
      | none => rfl
      | some o =>
        have := (s1.trans (s2.trans s3)) _ _ h
        rw [nr] at this
        exact nomatch this
    refine ⟨_, rfl, (n : Int), rfl, by omega, by omega, for_range (lo := 0) (n := (n : Int).toNat) (fun j σ H5 => But r H4 H5 ∧ ∃ v7 : Option V, σ = [some (.int (n : Int)), some (.ref ca), some (.int c.b2), some (.int c.b4), some (.int c.b6), some (.ref r), some (.int 1), v7, none, none] ∧ H5 r = some (.lst ((tl n j).map V.int))) ⟨But.refl r _, none, rfl, g4⟩ ?_ ?_⟩
    · rintro j σ H5 hj ⟨b5, v7, rfl, g5⟩
      first | refine sigN [some (.int ((n : Int))), some (.ref ca), some (.int (c.b2)), some (.int (c.b4)), some (.int (c.b6)), some (.ref r), some (.int (1)), some (.int (0 + (j : Int))), none, none] (by rfl) ?_ | refine sig [some (.int ((n : Int))), some (.ref ca), some (.int (c.b2)), some (.int (c.b4)), some (.int (c.b6)), some (.ref r), some (.int (1)), some (.int (0 + (j : Int))), none, none] (by rfl) ?_
      rw [Int.zero_add]
      have jB : B 10 (j : Int) := by
        unfold Gd.B
        omega
      have ej : ((j : Int) * (j : Int)) % (n : Int) = ((j * j % n : Nat) : Int) := by
        rw [Int.natCast_emod, Int.natCast_mul]
      have hv : j * j % n < n := Nat.mod_lt _ hn
      have hat : atI ((tl n j).map V.int) (((j : Int) * (j : Int)) % (n : Int)) = some (.int ((tal n j (j * j % n) : Nat) : Int)) := by
        rw [ej]
        refine atI_nat ?_
        rw [List.getElem?_map, tl_get hv]
        rfl
      refine ⟨_, rfl, _, rfl, _, rfl, _, _, rfl, rfl, jB.mulW jB (by decide), _, rfl, _, rfl, _, _, rfl, rfl, hp0, r, _, _, _, rfl, rfl, lst_of g5, hat, _, _, rfl, rfl, ?_⟩
      refine ⟨_, rfl, _, rfl, _, rfl, _, _, rfl, rfl, jB.mulW jB (by decide), _, rfl, _, rfl, _, _, rfl, rfl, hp0, r, _, _, j * j % n, rfl, rfl, g5, ?_, ?_⟩
      · rw [List.length_map, tl_len]
        show ixN n (((j : Int) * (j : Int)) % (n : Int)) = _
        rw [ej]
        unfold ixN
        rw [if_pos (by omega), if_pos (by omega), Int.toNat_natCast]
      · refine ⟨b5.trans But.upd, _, rfl, ?_⟩
        rw [upd_same, ← tl_set hn, List.map_set]
    · rintro σ H5 ⟨b5, v7, rfl, g5⟩
      rw [Int.toNat_natCast] at g5
      refine ⟨_, rfl, (n : Int), rfl, by omega, by omega, for_range (lo := 0) (n := (n : Int).toNat) (fun j σ H6 => H6 = H5 ∧ ∃ v8 v9 : Option V, σ = [some (.int (n : Int)), some (.ref ca), some (.int c.b2), some (.int c.b4), some (.int c.b6), some (.ref r), some (.int ((1 + cntTo n j (cub c) : Nat) : Int)), v7, v8, v9]) ⟨rfl, none, none, rfl⟩ ?_ ?_⟩
      · rintro j σ H6 hj ⟨rfl, v8, v9, rfl⟩
        first | refine sigN [some (.int ((n : Int))), some (.ref ca), some (.int (c.b2)), some (.int (c.b4)), some (.int (c.b6)), some (.ref r), some (.int (((1 + cntTo n j (cub c) : Nat) : Int))), v7, some (.int (0 + (j : Int))), v9] (by rfl) ?_ | refine sig [some (.int ((n : Int))), some (.ref ca), some (.int (c.b2)), some (.int (c.b4)), some (.int (c.b6)), some (.ref r), some (.int (((1 + cntTo n j (cub c) : Nat) : Int))), v7, some (.int (0 + (j : Int))), v9] (by rfl) ?_
        rw [Int.zero_add]
        have jB : B 10 (j : Int) := by
          unfold Gd.B
          omega
        have p3 : B 64 ((j : Int) ^ (3 : Int).toNat) := (jB.pow 3).up (by decide)
        refine ⟨_, rfl, _, _, rfl, rfl, ⟨by decide, by decide, by walk_at "pw"⟩, _, _, rfl, rfl, (Or.inl ⟨by decide, by decide⟩), _, rfl, _, rfl, _, _, rfl, rfl, (by walk_at "bnd"), _, rfl, _, _, rfl, rfl, (by walk_at "bnd"), _, _, rfl, rfl, _, rfl, _, _, rfl, rfl, (Or.inl ⟨by decide, by decide⟩), _, rfl, _, _, rfl, rfl, (by walk_at "bnd"), _, _, rfl, rfl, ?_⟩
        first | refine sigN [some (.int ((n : Int))), some (.ref ca), some (.int (c.b2)), some (.int (c.b4)), some (.int (c.b6)), some (.ref r), some (.int (((1 + cntTo n j (cub c) : Nat) : Int))), v7, some (.int ((j : Int))), some (.int (4 * (j : Int) ^ 3 + c.b2 * (j : Int) * (j : Int) + 2 * c.b4 * (j : Int)))] (by rfl) ?_ | refine sig [some (.int ((n : Int))), some (.ref ca), some (.int (c.b2)), some (.int (c.b4)), some (.int (c.b6)), some (.ref r), some (.int (((1 + cntTo n j (cub c) : Nat) : Int))), v7, some (.int ((j : Int))), some (.int (4 * (j : Int) ^ 3 + c.b2 * (j : Int) * (j : Int) + 2 * c.b4 * (j : Int)))] (by rfl) ?_
        have ec : 4 * (j : Int) ^ 3 + c.b2 * (j : Int) * (j : Int) + 2 * c.b4 * (j : Int) + c.b6 = cub c (j : Int) := by
          unfold cub
          generalize c.b2 = u2
          generalize c.b4 = u4
          generalize c.b6 = u6
          generalize (j : Int) = x
          grind
        have v0 := Int.emod_nonneg (cub c (j : Int)) (show (n : Int) ≠ 0 by omega)
        have hat : atI ((tl n n).map V.int) ((4 * (j : Int) ^ 3 + c.b2 * (j : Int) * (j : Int) + 2 * c.b4 * (j : Int) + c.b6) % (n : Int)) = some (.int ((nsq n (cub c (j : Int)) : Nat) : Int)) := by
          rw [ec]
          have h := atI_nat (xs := (tl n n).map V.int) (j := (cub c (j : Int) % (n : Int)).toNat) (v := .int ((nsq n (cub c (j : Int)) : Nat) : Int)) (by rw [List.getElem?_map, tl_at hn]; rfl)
          rwa [Int.toNat_of_nonneg v0] at h
        refine ⟨_, rfl, _, rfl, _, rfl, _, rfl, _, _, rfl, rfl, _, rfl, _, rfl, _, _, rfl, rfl, hp0, r, _, _, _, rfl, rfl, lst_of g5, hat, _, _, rfl, rfl, ?_⟩
        refine ⟨rfl, some (.int (j : Int)), some (.int (4 * (j : Int) ^ 3 + c.b2 * (j : Int) * (j : Int) + 2 * c.b4 * (j : Int))), ?_⟩
        rw [cntTo_succ, ← Nat.add_assoc, Int.natCast_add (1 + cntTo n j (cub c))]
        rfl
      · rintro σ H6 ⟨rfl, v8, v9, rfl⟩
        rw [Int.toNat_natCast]
        exact ⟨_, rfl, q _ (But.same sA b5 r0)⟩
end
end K40
set_option Elab.async false
set_option linter.all false
set_option maxRecDepth 100000
set_option maxHeartbeats 4000000
namespace K40
open PySem PySem.Spec PyProof.Rows L2 Gd QM K45M EcZ SvM PaM
local macro_rules | `(tactic| walk_at "bd") => `(tactic| (repeat (first | assumption | apply B.add | apply B.sub | apply B.mul | apply B.neg | exact B.lit (n := 8) (by decide))))
local macro_rules | `(tactic| walk_at "bnd") => `(tactic| (apply B.mulW; walk_at "bd"; decide))
local macro_rules | `(tactic| walk_at "pw") => `(tactic| exact B.up (n := 64) (by assumption) (by decide))
/-- rows of roots at as, as far as j -/
structure RT (H : Hp) (r : Addr) (as : List Addr) (n j : Nat) : Prop where
  top : H r = some (.lst (as.map V.ref))
  len : as.length = n
  nd : (r :: as).Nodup
  row : ∀ (v : Nat) (a : Addr), as[v]? = some a → H a = some (.lst ((rl n j v).map V.int))
theorem RT.same {H H' : Hp} {r : Addr} {as : List Addr} {n j : Nat} (h : RT H r as n j) (s : Same H H') : RT H' r as n j := ⟨s _ _ h.top, h.len, h.nd, fun v a e => s _ _ (h.row v a e)⟩
theorem RT.step {H : Hp} {r a : Addr} {as : List Addr} {n j : Nat} (h : RT H r as n j) (e : as[j * j % n]? = some a) : RT (upd H a (.lst ((rl n j (j * j % n)).map V.int ++ [V.int (j : Int)]))) r as n (j + 1) := by
  have hm : a ∈ as := List.mem_of_getElem? e
  have hr : r ≠ a := fun z => (List.nodup_cons.mp h.nd).1 (z ▸ hm)
  refine ⟨?_, h.len, h.nd, fun v b eb => ?_⟩
  · rw [upd_ne hr]
    exact h.top
  · by_cases z : j * j % n = v
    · subst z
      obtain rfl : a = b := Option.some.inj (e.symm.trans eb)
      rw [upd_same, rl_succ, if_pos rfl, List.map_append]
      rfl
    · have nb : b ≠ a := fun q => by
        subst q
        obtain ⟨h1, h2⟩ := List.getElem?_eq_some_iff.mp e
        obtain ⟨h3, h4⟩ := List.getElem?_eq_some_iff.mp eb
        exact z ((List.getElem_inj (List.nodup_cons.mp h.nd).2).mp (h2.trans h4.symm))
      rw [upd_ne nb, h.row v b eb, rl_succ, if_neg z, List.append_nil]
section
variable {P : Program} {w : World} {K : PySem.W.Frag} {mg : Str → Option Value} {base : Heap}
/-! ### rows of roots -/
def sp_root_table (K : PySem.W.Frag) : Sp := fun vs H Q _ => ∃ (n : Nat), vs = [.int (n : Int)] ∧ 0 < n ∧ n ≤ 60 ∧ ∀ H' r as, Same H H' → RT H' r as n n → Q (.ref r) H'
abbrev s_root_table : Stmt := topS 22
theorem sc_root_table : FnScope ["p", "roots", "_", "z"] ["p"] (defScope s_root_table) := ⟨rfl, rfl, rfl, by decide +kernel, rfl, by decide +kernel, by decide +kernel⟩
theorem k_root_table (T : Tx K mg) (D : Df K mg "root_table" s_root_table ["p"])  : Kl P w K mg base 1 "root_table" (sp_root_table K) := by
  have nd := sc_root_table.nd
  refine Kl.by_body D sc_root_table (fun vs H Q E h => ?_) (fun f cdv A outer s H vs Q E hr h => ?_)
  · obtain ⟨_, rfl, _⟩ := h
    rfl
  · obtain ⟨n, rfl, hn, hn9, q⟩ := h
    have hu1 := hu_of hr
    refine ⟨_, (pss_cons (ps_setLc (i := 1) (own := [("_", 2)]) (g := gName 2) rfl nd rfl rfl (sw_true rfl rfl rfl (by decide +kernel)) (pi_range1 (by rfl) T.range (pa_cons (pv 0) pa_nil)) (blkOk_by (N := ["p", "roots", "_", "z"]) (sc := defScope s_root_table) (by decide +kernel)) (fun _ _ _ _ _ => (pg_name (i := 2) nd rfl (by first | exact Or.inl rfl | exact Or.inr rfl))) (fun _ _ _ _ _ => pts_nil) (fun _ _ _ _ _ => (pe_lst pa_nil)))
      (pss_cons (ps_for PassesOwn.never rfl (pi_range1 (by rfl) T.range (pa_cons (pv 0) pa_nil)) (pg_name (i := 3) nd rfl (by first | exact Or.inl rfl | exact Or.inr rfl)) (pss_one (ps_expr (pe_bm PySem.F.plainAttrs_list PySem.F.slot_list_append PySem.F.type_list_append mt_append (pe_ix ix_list (pv 1) (pe_op op_mod (pe_op op_mulW (pv 3) (pv 3)) (pv 0)) (fun _ _ => rfl)) (pa_cons (pv 3) pa_nil)))))
      (pss_one (ps_ret (pv 1))))), ?_⟩
    refine ⟨_, rfl, (n : Int), rfl, by omega, by omega, fun D nD => ?_⟩
    refine lc_range (lo := 0) (n := (n : Int).toNat) (fun j H4 => Same H H4 ∧ ∃ as : List Addr, H4 D = some (.lst (as.map V.ref)) ∧ as.length = j ∧ (D :: as).Nodup ∧ (∀ a ∈ as, H4 a = some (.lst [])) ∧ ∀ a ∈ D :: as, H a = none) ⟨Same.new nD, [], upd_same, rfl, by simp, (by intro a ha; cases ha), (by intro a ha; rw [List.mem_singleton.mp ha]; exact nD)⟩ (fun j H4 hj z => ?_) (fun H4 z => ?_)
    · obtain ⟨s4, as, g4, l4, nd4, e4, f4⟩ := z
      refine ⟨rfl, (by show 0 ≤ sizeLine; decide), fun t nt => ?_⟩
      have hDt : D ≠ t := ne_of_none g4 nt
      have hat : ∀ a ∈ as, a ≠ t := fun a ha => ne_of_none (e4 a ha) nt
      refine ⟨_, by rw [upd_ne hDt]; exact g4, by rw [List.length_map]; exact small1000 (by omega), Same.put (Same.put s4 (s4.free nt)) nD, as ++ [t], ?_, by rw [List.length_append, l4]; rfl, ?_, fun a ha => ?_, fun a ha => ?_⟩
      · rw [upd_same, List.map_append]
        rfl
      · rw [← List.cons_append]
        exact List.nodup_append.mpr ⟨nd4, by simp, fun a ha b hb => by
          rw [List.mem_singleton.mp hb]
          rcases List.mem_cons.mp ha with rfl | ha
          · exact hDt
          · exact hat a ha⟩
      · rcases List.mem_append.mp ha with ha | ha
        · rw [upd_ne (show a ≠ D from fun z => (List.nodup_cons.mp nd4).1 (by rw [← z]; exact ha)), upd_ne (hat a ha)]
          exact e4 a ha
        · rw [List.mem_singleton.mp ha, upd_ne (fun z => hDt z.symm), upd_same]
      · rcases List.mem_cons.mp ha with rfl | ha
        · exact nD
        · rcases List.mem_append.mp ha with ha | ha
          · exact f4 a (List.mem_cons_of_mem _ ha)
          · rw [List.mem_singleton.mp ha]
            exact s4.free nt
    · obtain ⟨s4, as, g4, l4, nd4, e4, f4⟩ := z
      rw [Int.toNat_natCast] at l4
      have R0 : RT H4 D as n 0 := ⟨g4, l4, nd4, fun v a e => e4 a (List.mem_of_getElem? e)⟩
      first | refine sigN [some (.int ((n : Int))), some (.ref D), none, none] (by rfl) ?_ | refine sig [some (.int ((n : Int))), some (.ref D), none, none] (by rfl) ?_
      refine ⟨_, rfl, (n : Int), rfl, by omega, by omega, for_range (lo := 0) (n := (n : Int).toNat) (fun j σ H5 => Same H H5 ∧ ∃ v3 : Option V, σ = [some (.int (n : Int)), some (.ref D), none, v3] ∧ RT H5 D as n j) ⟨s4, none, rfl, R0⟩ ?_ ?_⟩
      · rintro j σ H5 hj ⟨s5, v3, rfl, R5⟩
        first | refine sigN [some (.int ((n : Int))), some (.ref D), none, some (.int (0 + (j : Int)))] (by rfl) ?_ | refine sig [some (.int ((n : Int))), some (.ref D), none, some (.int (0 + (j : Int)))] (by rfl) ?_
        rw [Int.zero_add]
        have jB : B 10 (j : Int) := by
          unfold Gd.B
          omega
        have hv : j * j % n < n := Nat.mod_lt _ hn
        have hp0 : (0 : Int) < (n : Int) := by omega
        have ej : ((j : Int) * (j : Int)) % (n : Int) = ((j * j % n : Nat) : Int) := by
          rw [Int.natCast_emod, Int.natCast_mul]
        obtain ⟨a, ea⟩ : ∃ a, as[j * j % n]? = some a := ⟨_, List.getElem?_eq_getElem (by rw [R5.len]; exact hv)⟩
        have hat : atI (as.map V.ref) (((j : Int) * (j : Int)) % (n : Int)) = some (.ref a) := by
          rw [ej]
          refine atI_nat ?_
          rw [List.getElem?_map, ea]
          rfl
        have ga := R5.row _ _ ea
        refine ⟨_, rfl, _, rfl, _, rfl, _, _, rfl, rfl, jB.mulW jB (by decide), _, rfl, _, _, rfl, rfl, hp0, D, _, _, _, rfl, rfl, lst_of R5.top, hat, .inl ⟨rfl, _, lst_of ga⟩, ?_⟩
        refine ⟨_, rfl, a, _, _, rfl, rfl, ga, ?_, ?_⟩
        · rw [List.length_map]
          have := rl_len n j (j * j % n)
          exact small1000 (by omega)
        · exact ⟨Same.put s5 (f4 a (List.mem_cons_of_mem _ (List.mem_of_getElem? ea))), _, rfl, R5.step ea⟩
      · rintro σ H5 ⟨s5, v3, rfl, R5⟩
        rw [Int.toNat_natCast] at R5
        exact ⟨_, rfl, q _ D as s5 R5⟩
end
end K40
set_option Elab.async false
set_option linter.all false
set_option maxRecDepth 100000
set_option maxHeartbeats 4000000
namespace K40
open PySem PySem.Spec PyProof.Rows L2 Gd QM K45M EcZ SvM PaM
local macro_rules | `(tactic| walk_at "bd") => `(tactic| (repeat (first | assumption | apply B.add | apply B.sub | apply B.mul | apply B.neg | exact B.lit (n := 8) (by decide))))
local macro_rules | `(tactic| walk_at "bnd") => `(tactic| (apply B.mulW; walk_at "bd"; decide))
local macro_rules | `(tactic| walk_at "pw") => `(tactic| exact B.up (n := 64) (by assumption) (by decide))
/-- the first j places over x -/
def row (n : Nat) (c : C5) (x j : Nat) : List (Int × Int) := ((List.range j).filter fun (y : Nat) => decide (lhs c (x : Int) (y : Int) % (n : Int) = 0)).map fun (y : Nat) => ((x : Int), (y : Int))
theorem row_le (n : Nat) (c : C5) (x : Nat) {j : Nat} (h : j ≤ n) : (row n c x j).length ≤ n := by
  unfold row
  rw [List.length_map]
  refine Nat.le_trans (List.length_filter_le ..) ?_
  rw [List.length_range]
  exact h
theorem rl_mem {n j v : Nat} {z : Int} (h : z ∈ rl n j v) : 0 ≤ z ∧ z < (j : Int) := by
  unfold rl at h
  obtain ⟨y, hy, rfl⟩ := List.mem_map.mp h
  have := List.mem_range.mp (List.mem_filter.mp hy).1
  omega
theorem row_zero (n : Nat) (c : C5) (x : Nat) : row n c x 0 = [] := rfl
theorem row_step (n : Nat) (c : C5) (x j : Nat) : row n c x (j + 1) = row n c x j ++ (if lhs c (x : Int) (j : Int) % (n : Int) = 0 then [((x : Int), (j : Int))] else []) := by
  unfold row
  rw [List.range_succ, List.filter_append, List.map_append]
  congr 1
  by_cases z : lhs c (x : Int) (j : Int) % (n : Int) = 0
  · rw [if_pos z]
    simp [z]
  · rw [if_neg z]
    simp [z]
section
variable {P : Program} {w : World} {K : PySem.W.Frag} {mg : Str → Option Value} {base : Heap}
def sp_points_over (K : PySem.W.Frag) : Sp := fun vs H Q _ => ∃ (n : Nat) (ca : Addr) (c : C5), vs = [.int (n : Int), .ref ca] ∧ SqT K H ca (cL c) ∧ Sm c ∧ (n = 2 ∨ (n : Int) % 2 = 1) ∧ n ≤ 31 ∧ ∀ H' t e ts, Same H H' → H' t = some (.tup (.ref e :: ts)) → H' e = some (.tup []) → PA H' ts (due n c n) → Q (.ref t) H'
abbrev s_points_over : Stmt := topS 24
theorem sc_points_over : FnScope ["p", "curve", "pairs", "x", "y", "roots", "cubic", "half", "found", "shift", "digits", "z"] ["p", "curve"] (defScope s_points_over) := ⟨rfl, rfl, rfl, by decide +kernel, rfl, by decide +kernel, by decide +kernel⟩
theorem k_points_over (T : Tx K mg) (D : Df K mg "points_over" s_points_over ["p", "curve"]) (c_root_table : Kl P w K mg base 1 "root_table" (sp_root_table K)) (c_cubic_of : Kl P w K mg base 3 "cubic_of" (sp_cubic_of K)) (c_is_solution : Kl P w K mg base 1 "is_solution" (sp_is_solution K)) (c_value_over : Kl P w K mg base 1 "value_over" (sp_value_over K)) : Kl P w K mg base 4 "points_over" (sp_points_over K) := by
  have nd := sc_points_over.nd
  refine Kl.by_body D sc_points_over (fun vs H Q E h => ?_) (fun f cdv A outer s H vs Q E hr h => ?_)
  · obtain ⟨_, _, _, rfl, _⟩ := h
    rfl
  · obtain ⟨n, ca, c, rfl, hc, hm, hn, hn9, q⟩ := h
    have hu1 := hu_of hr
    refine ⟨_, (pss_cons (ps_if (pt_cmpR op_eq (pv 0) pe_int (nomark _)) (pss_cons (ps_setLc2 (i := 2) (own := [("x", 3), ("y", 4)]) (vs1 := [4]) (g := gName 3) (g1 := gName 4) rfl nd rfl rfl (sw_true rfl rfl rfl (by decide +kernel)) (pi_range1 (by rfl) T.range (pa_cons pe_int pa_nil)) (blkOk_by (N := ["p", "curve", "pairs", "x", "y", "roots", "cubic", "half", "found", "shift", "digits", "z"]) (sc := defScope s_points_over) (by decide +kernel)) (by decide) (fun _ _ _ _ _ => (pg_name (i := 3) nd rfl (by first | exact Or.inl rfl | exact Or.inr rfl))) (fun _ _ _ _ _ => pts_nil) (fun _ _ _ _ _ => (pi_range1 (by rfl) T.range (pa_cons pe_int pa_nil))) (fun _ _ _ _ _ => (pg_name (i := 4) nd rfl (by first | exact Or.inl rfl | exact Or.inr rfl))) (fun _ _ _ _ _ => (pts_one (pt_val (pe_k c_is_solution  hr (by decide) (by rfl) (pa_cons (pv 0) (pa_cons (pv 1) (pa_cons (pv 3) (pa_cons (pv 4) pa_nil)))))))) (fun _ _ _ _ _ => (pe_tup (pa_cons (pv 3) (pa_cons (pv 4) pa_nil)))))
      (pss_one (ps_ret (pe_tup (pa_cons (pe_tup pa_nil) (StX.pa_star (pv 2) pa_nil)))))) pss_nil)
      (pss_cons (ps_set (i := 5) nd rfl (by first | exact Or.inl rfl | exact Or.inr rfl) (pe_k c_root_table  hr (by decide) (by rfl) (pa_cons (pv 0) pa_nil)))
      (pss_cons (ps_set (i := 6) nd rfl (by first | exact Or.inl rfl | exact Or.inr rfl) (pe_k c_cubic_of  hr (by decide) (by rfl) (pa_cons (pv 0) (pa_cons (pv 1) pa_nil))))
      (pss_cons (ps_set (i := 7) nd rfl (by first | exact Or.inl rfl | exact Or.inr rfl) (pe_op op_fdiv (pe_op op_add (pv 0) pe_int) pe_int))
      (pss_cons (ps_set (i := 8) nd rfl (by first | exact Or.inl rfl | exact Or.inr rfl) (pe_lst (pa_cons (pe_tup pa_nil) pa_nil)))
      (pss_cons (ps_for PassesOwn.never rfl (pi_range1 (by rfl) T.range (pa_cons (pv 0) pa_nil)) (pg_name (i := 3) nd rfl (by first | exact Or.inl rfl | exact Or.inr rfl)) (pss_cons (ps_set (i := 9) nd rfl (by first | exact Or.inl rfl | exact Or.inr rfl) (pe_op op_add (pe_op op_mulW (pe_ix ix_tup (pv 1) pe_int (fun _ _ => rfl)) (pv 3)) (pe_ix ix_tup (pv 1) pe_int (fun _ _ => rfl))))
      (pss_cons (ps_setLc (i := 10) (own := [("z", 11)]) (g := gName 11) rfl nd rfl rfl (sw_true rfl rfl rfl (by decide +kernel)) (pi_list (pe_ix ix_list (pv 5) (pe_k c_value_over  hr (by decide) (by rfl) (pa_cons (pv 6) (pa_cons (pv 3) (pa_cons (pv 0) pa_nil)))) (fun _ _ => rfl))) (blkOk_by (N := ["p", "curve", "pairs", "x", "y", "roots", "cubic", "half", "found", "shift", "digits", "z"]) (sc := defScope s_points_over) (by decide +kernel)) (fun _ _ _ _ _ => (pg_name (i := 11) nd rfl (by first | exact Or.inl rfl | exact Or.inr rfl))) (fun _ _ _ _ _ => pts_nil) (fun _ _ _ _ _ => (pe_op op_mod (pe_op op_mulW (pe_op op_sub (pv 11) (pv 9)) (pv 7)) (pv 0))))
      (pss_one (ps_expr (pe_bm PySem.F.plainAttrs_list PySem.F.slot_list_extend PySem.F.type_list_extend mt_extend (pv 8) (pa_cons (pe_lc (own := [("y", 4)]) (g := gName 4) rfl nd (pi_list (pe_callB cr_sorted (by rfl) T.sorted (by decide +kernel) (pa_cons (pv 10) pa_nil))) (blkOk_by (N := ["p", "curve", "pairs", "x", "y", "roots", "cubic", "half", "found", "shift", "digits", "z"]) (sc := defScope s_points_over) (by decide +kernel)) (fun _ _ _ _ _ => (pg_name (i := 4) nd rfl (by first | exact Or.inl rfl | exact Or.inr rfl))) (fun _ _ _ _ _ => pts_nil) (fun _ _ _ _ _ => (pe_tup (pa_cons (pv 3) (pa_cons (pv 4) pa_nil))))) pa_nil)))))))
      (pss_one (ps_ret (pe_callTy call_tuple_of (by rfl) T.tuple (by decide +kernel) (pa_cons (pv 8) pa_nil)))))))))), ?_⟩
    refine ⟨_, rfl, rfl, _, rfl, ?_⟩
    rw [dec_int]
    by_cases h2 : (n : Int) = 2
    · refine iteY (by simpa using h2) ?_
      obtain rfl : n = 2 := by omega
      refine ⟨2, rfl, by decide, by decide, fun D nD => ?_⟩
      refine it_range (lo := 0) (n := 2) (fun i H4 => Same H H4 ∧ ∃ ts, H4 D = some (.lst ts) ∧ PA H4 ts (due 2 c i)) ⟨Same.new nD, [], upd_same, .nil⟩ (fun i H4 hi z => ?_) (fun H4 z => ?_)
      · obtain ⟨s4, ts, g4, pa⟩ := z
        refine ⟨rfl, ?_⟩
        refine ⟨2, rfl, by decide, by decide, ?_⟩
        have iB : B 10 (0 + (i : Int)) := by
          unfold Gd.B
          omega
        refine it_range (lo := 0) (n := 2) (fun j H5 => Same H H5 ∧ ∃ ts, H5 D = some (.lst ts) ∧ PA H5 ts (due 2 c i ++ row 2 c i j)) ⟨s4, ts, g4, by rw [row_zero, List.append_nil]; exact pa⟩ (fun j H5 hj z => ?_) (fun H5 z => ?_)
        · obtain ⟨s5, ts, g5, pa⟩ := z
          have jB : B 10 (0 + (j : Int)) := by
            unfold Gd.B
            omega
          refine ⟨rfl, _, rfl, .ref ca, rfl, _, rfl, _, rfl, _, ca, c, _, _, rfl, Same.tup s5 hc, hm, by decide, iB, jB, ?_⟩
          rw [Int.zero_add, Int.zero_add]
          refine ⟨_, rfl, ?_⟩
          have r1 : (row 2 c i j).length ≤ 2 := row_le 2 c i (by omega)
          have r2 := due_le 2 c i
          have r3 := pa.len
          rw [List.length_append] at r3
          by_cases h0 : lhs c (i : Int) (j : Int) % ((2 : Nat) : Int) = 0
          · refine iteY (decide_eq_true h0) ?_
            refine ⟨_, rfl, _, rfl, (by show 2 ≤ sizeLine; decide), fun t nt => ?_⟩
            have s6 := Same.new (H := H5) (p := t) (o := .tup [.int (i : Int), .int (j : Int)]) nt
            have g6 : upd H5 t (.tup [.int (i : Int), .int (j : Int)]) t = some (.tup [.int (i : Int), .int (j : Int)]) := upd_same
            generalize upd H5 t (.tup [.int (i : Int), .int (j : Int)]) = H6 at s6 g6 ⊢
            have gD := s6 _ _ g5
            refine ⟨_, gD, small1000 (by omega), Same.put (s5.trans s6) nD, ts ++ [.ref t], upd_same, ?_⟩
            rw [row_step, if_pos h0, ← List.append_assoc]
            exact ((pa.same s6).put gD).app (.cons (by rw [upd_ne (ne_of g6 gD (by intro z; cases z))]; exact g6) .nil)
          · refine iteN (fun z => h0 (of_decide_eq_true z)) ?_
            refine ⟨s5, ts, g5, ?_⟩
            rw [row_step, if_neg h0, List.append_nil]
            exact pa
        · obtain ⟨s5, ts, g5, pa⟩ := z
          exact ⟨s5, ts, g5, by rw [due_succ]; exact pa⟩
      · obtain ⟨s4, ts, g4, pa⟩ := z
        first | refine sigN [some (.int (2)), some (.ref ca), some (.ref D), none, none, none, none, none, none, none, none, none] (by rfl) ?_ | refine sig [some (.int (2)), some (.ref ca), some (.ref D), none, none, none, none, none, none, none, none, none] (by rfl) ?_
        refine ⟨(by show 0 ≤ sizeLine; decide), fun e ne => ?_⟩
        have s5 := Same.new (H := H4) (p := e) (o := .tup []) ne
        have ge : upd H4 e (.tup []) e = some (.tup []) := upd_same
        generalize upd H4 e (.tup []) = H5 at s5 ge ⊢
        refine ⟨_, rfl, D, ts, rfl, .inr (lst_of (s5 _ _ g4)), ?_, fun t nt => ?_⟩
        · rw [List.append_nil]
          show ts.length + 1 ≤ _
          have := pa.len
          have := due_le 2 c 2
          exact small (by omega)
        · rw [List.append_nil]
          have s6 := Same.new (o := .tup (.ref e :: ts)) nt
          exact q _ t e ts (s4.trans (s5.trans s6)) upd_same (s6 _ _ ge) ((pa.same s5).same s6)
    · refine iteN (by simpa using h2) ?_
      have ho : (n : Int) % 2 = 1 := hn.resolve_left fun z => h2 (by omega)
      have hp0 : (0 : Int) < (n : Int) := by omega
      refine ⟨_, rfl, n, rfl, by omega, by omega, fun H1 r as s1 R1 => ?_⟩
      first | refine sigN [some (.int ((n : Int))), some (.ref ca), none, none, none, some (.ref r), none, none, none, none, none, none] (by rfl) ?_ | refine sig [some (.int ((n : Int))), some (.ref ca), none, none, none, some (.ref r), none, none, none, none, none, none] (by rfl) ?_
      refine ⟨_, rfl, .ref ca, rfl, (n : Int), ca, c, rfl, Same.tup s1 hc, hm, hp0, fun H2 t s2 gt => ?_⟩
      first | refine sigN [some (.int ((n : Int))), some (.ref ca), none, none, none, some (.ref r), some (.ref t), none, none, none, none, none] (by rfl) ?_ | refine sig [some (.int ((n : Int))), some (.ref ca), none, none, none, some (.ref r), some (.ref t), none, none, none, none, none] (by rfl) ?_
      refine ⟨_, rfl, _, _, rfl, rfl, _, _, rfl, rfl, ⟨by decide, by decide⟩, ?_⟩
      first | refine sigN [some (.int ((n : Int))), some (.ref ca), none, none, none, some (.ref r), some (.ref t), some (.int (((n : Int) + 1) / 2)), none, none, none, none] (by rfl) ?_ | refine sig [some (.int ((n : Int))), some (.ref ca), none, none, none, some (.ref r), some (.ref t), some (.int (((n : Int) + 1) / 2)), none, none, none, none] (by rfl) ?_
      refine ⟨(by show 0 ≤ sizeLine; decide), fun e ne => ?_⟩
      have s3 := Same.new (H := H2) (p := e) (o := .tup []) ne
      have ge : upd H2 e (.tup []) e = some (.tup []) := upd_same
      generalize upd H2 e (.tup []) = H3 at s3 ge ⊢
      refine ⟨(by show 1 ≤ sizeLine; decide), fun f nf => ?_⟩
      have s4 := Same.new (H := H3) (p := f) (o := .lst [.ref e]) nf
      have gf : upd H3 f (.lst [.ref e]) f = some (.lst [.ref e]) := upd_same
      generalize upd H3 f (.lst [.ref e]) = H4 at s4 gf ⊢
      first | refine sigN [some (.int ((n : Int))), some (.ref ca), none, none, none, some (.ref r), some (.ref t), some (.int (((n : Int) + 1) / 2)), some (.ref f), none, none, none] (by rfl) ?_ | refine sig [some (.int ((n : Int))), some (.ref ca), none, none, none, some (.ref r), some (.ref t), some (.int (((n : Int) + 1) / 2)), some (.ref f), none, none, none] (by rfl) ?_
      have R0 := R1
      replace R1 := ((R1.same s2).same s3).same s4
      replace gt := s4 _ _ (s3 _ _ gt)
      replace ge := s4 _ _ ge
      have sA := s1.trans (s2.trans (s3.trans s4))
      have hc4 := Same.tup sA hc
      obtain ⟨h1B, h2B, h3B, h4B, h6B⟩ := hm
      have f0 : H f = none := (s1.trans (s2.trans s3)).free nf
      refine ⟨_, rfl, (n : Int), rfl, by omega, by omega, for_range (lo := 0) (n := (n : Int).toNat) (fun j σ H5 => But f H4 H5 ∧ ∃ (ts : List V) (v3 v4 v9 v10 v11 : Option V), σ = [some (.int (n : Int)), some (.ref ca), none, v3, v4, some (.ref r), some (.ref t), some (.int (((n : Int) + 1) / 2)), some (.ref f), v9, v10, v11] ∧ H5 f = some (.lst (.ref e :: ts)) ∧ PA H5 ts (due n c j)) ⟨But.refl f _, [], none, none, none, none, none, rfl, gf, .nil⟩ ?_ ?_⟩
      · rintro j σ H5 hj ⟨b5, ts, v3, v4, v9, v10, v11, rfl, g5, pa⟩
        rw [Int.zero_add]
        first | refine sigN [some (.int ((n : Int))), some (.ref ca), none, some (.int ((j : Int))), v4, some (.ref r), some (.ref t), some (.int (((n : Int) + 1) / 2)), some (.ref f), v9, v10, v11] (by rfl) ?_ | refine sig [some (.int ((n : Int))), some (.ref ca), none, some (.int ((j : Int))), v4, some (.ref r), some (.ref t), some (.int (((n : Int) + 1) / 2)), some (.ref f), v9, v10, v11] (by rfl) ?_
        have jB : B 10 (j : Int) := by
          unfold Gd.B
          omega
        have b5' : Same H H5 := But.same sA b5 f0
        have hc5 : SqT K H5 ca (cL c) := Same.tup b5' hc
        have ne_f : ∀ {b : Addr} {o : HO}, H4 b = some o → (∀ L, o ≠ .lst (.ref e :: L)) → H5 b = some o := fun {b o} hb hL => b5 _ _ hb (fun z => by
          subst z
          rw [gf] at hb
          exact hL [] (Option.some.inj hb).symm)
        have R5 : ∀ (v : Nat) (a : Addr), as[v]? = some a → H5 a = some (.lst ((rl n n v).map V.int)) := fun v a ea => ne_f (R1.row v a ea) (fun L z => by
          cases hq : (rl n n v) with
          | nil =>
            rw [hq] at z
            cases z
          | cons x xs =>
            rw [hq] at z
            cases z)
        have gt5 := ne_f gt (by intro L z; cases z)
        have ge5 := ne_f ge (by intro L z; cases z)
        have gr5 : H5 r = some (.lst (as.map V.ref)) := b5 _ _ R1.top (fun z => by
          have h1 := s3 _ _ (s2 _ _ R0.top)
          rw [z, nf] at h1
          cases h1)
        refine ⟨_, rfl, ca, _, 0, _, rfl, rfl, hc5, rfl, _, rfl, _, _, rfl, rfl, h1B.mulW jB (by decide), _, rfl, ca, _, 2, _, rfl, rfl, hc5, rfl, _, _, rfl, rfl, ?_⟩
        first | refine sigN [some (.int ((n : Int))), some (.ref ca), none, some (.int ((j : Int))), v4, some (.ref r), some (.ref t), some (.int (((n : Int) + 1) / 2)), some (.ref f), some (.int (sh c (j : Int))), v10, v11] (by rfl) ?_ | refine sig [some (.int ((n : Int))), some (.ref ca), none, some (.int ((j : Int))), v4, some (.ref r), some (.ref t), some (.int (((n : Int) + 1) / 2)), some (.ref f), some (.int (sh c (j : Int))), v10, v11] (by rfl) ?_
        have v0 := Int.emod_nonneg (cub c (j : Int)) (show (n : Int) ≠ 0 by omega)
        have v1 := Int.emod_lt_of_pos (cub c (j : Int)) hp0
        obtain ⟨v, hv⟩ : ∃ v : Nat, (cub c (j : Int) % (n : Int)).toNat = v := ⟨_, rfl⟩
        obtain ⟨a, ea⟩ : ∃ a, as[v]? = some a := ⟨_, List.getElem?_eq_getElem (by rw [R1.len]; omega)⟩
        have hat : atI (as.map V.ref) (ev (fB n c) (j : Int) % (n : Int)) = some (.ref a) := by
          rw [show ev (fB n c) (j : Int) % (n : Int) = cub c (j : Int) % (n : Int) from ev_cub n c j, show cub c (j : Int) % (n : Int) = ((v : Nat) : Int) by omega]
          refine atI_nat ?_
          rw [List.getElem?_map, ea]
          rfl
        refine ⟨_, rfl, _, rfl, _, rfl, _, rfl, t, fB n c, (j : Int), (n : Int), rfl, tup_of gt5, (by show 4 ≤ 5; decide), ?_, jB.up (by decide), hp0, by omega, ?_⟩
        · intro z hz
          have h4 : ∀ u : Int, B 60 (u % (n : Int)) := fun u => by
            have h1 := Int.emod_nonneg u (show (n : Int) ≠ 0 by omega)
            have h2 := Int.emod_lt_of_pos u hp0
            unfold Gd.B
            omega
          unfold fB at hz
          simp only [List.mem_cons, List.not_mem_nil, or_false] at hz
          rcases hz with rfl | rfl | rfl | rfl
          · exact h4 _
          · exact h4 _
          · exact h4 _
          · exact B.lit (by decide)
        refine ⟨r, _, _, _, rfl, rfl, lst_of gr5, hat, a, rfl, ⟨_, lst_of (R5 v a ea)⟩, fun D nD => ?_⟩
        refine lc_list (K := K) (a := a) (xs := (rl n n v).map V.int) (fun i H6 => Same H5 H6 ∧ H6 D = some (.lst ((((rl n n v).take i).map fun z => yz (n : Int) c (j : Int) z).map V.int))) ⟨Same.new nD, upd_same⟩ (fun i H6 _ z => lst_of (z.1 _ _ (R5 v a ea))) (fun i x H6 hi z => ?_) (fun H6 z => ?_)
        · obtain ⟨s6, g6⟩ := z
          obtain ⟨y, hy, rfl⟩ := map_int hi
          have yB : B 10 y := by
            have := rl_mem (List.mem_of_getElem? hy)
            unfold Gd.B
            omega
          have hB : B 10 (((n : Int) + 1) / 2) := by
            unfold Gd.B
            omega
          refine ⟨rfl, _, rfl, _, rfl, _, _, rfl, rfl, _, rfl, _, _, rfl, rfl, (yB.sub ((h1B.mul jB).add h3B)).mulW hB (by decide), _, rfl, _, _, rfl, rfl, hp0, ?_⟩
          refine ⟨_, g6, ?_, Same.put s6 nD, ?_⟩
          · rw [List.length_map, List.length_map]
            have := rl_len n n v
            exact small1000 (by rw [List.length_take]; omega)
          · rw [upd_same, List.take_add_one, hy, List.map_append, List.map_append]
            rfl
        · obtain ⟨s6, g6⟩ := z
          rw [List.length_map, List.take_length] at g6
          first | refine sigN [some (.int ((n : Int))), some (.ref ca), none, some (.int ((j : Int))), v4, some (.ref r), some (.ref t), some (.int (((n : Int) + 1) / 2)), some (.ref f), some (.int (sh c (j : Int))), some (.ref D), v11] (by rfl) ?_ | refine sig [some (.int ((n : Int))), some (.ref ca), none, some (.int ((j : Int))), v4, some (.ref r), some (.ref t), some (.int (((n : Int) + 1) / 2)), some (.ref f), some (.int (sh c (j : Int))), some (.ref D), v11] (by rfl) ?_
          have gf6 := s6 _ _ g5
          refine ⟨_, rfl, .inl ⟨rfl, _, lst_of gf6⟩, _, rfl, D, _, rfl, lst_of g6, ?_, fun ns' p' hperm hasc np => ?_⟩
          · rw [List.length_map]
            have := rl_len n n v
            omega
          obtain rfl := sorted_ys ho c j (by rw [hv]; exact hperm) hasc
          have s7 := Same.new (H := H6) (p := p') (o := .lst (((ys n c j).map fun (y : Nat) => (y : Int)).map V.int)) np
          have g7 : upd H6 p' (.lst (((ys n c j).map fun (y : Nat) => (y : Int)).map V.int)) p' = some (.lst (((ys n c j).map fun (y : Nat) => (y : Int)).map V.int)) := upd_same
          generalize upd H6 p' (.lst (((ys n c j).map fun (y : Nat) => (y : Int)).map V.int)) = H7 at s7 g7 ⊢
          refine ⟨p', rfl, ⟨_, lst_of g7⟩, fun D2 nD2 => ?_⟩
          have yl := ys_le n c j
          refine lc_list (K := K) (a := p') (xs := ((ys n c j).map fun (y : Nat) => (y : Int)).map V.int) (fun i H8 => Same H7 H8 ∧ ∃ us, H8 D2 = some (.lst us) ∧ PA H8 us (((ys n c j).take i).map fun (y : Nat) => ((j : Int), (y : Int)))) ⟨Same.new nD2, [], upd_same, .nil⟩ (fun i H8 _ z => lst_of (z.1 _ _ g7)) (fun i x H8 hi z => ?_) (fun H8 z => ?_)
          · obtain ⟨s8, us, g8, pb⟩ := z
            obtain ⟨y, hy, rfl⟩ := map_int hi
            rw [List.getElem?_map] at hy
            obtain ⟨y', hy', rfl⟩ := Option.map_eq_some_iff.mp hy
            refine ⟨rfl, _, rfl, _, rfl, (by show 2 ≤ sizeLine; decide), fun w' nw => ?_⟩
            have s9 := Same.new (H := H8) (p := w') (o := .tup [.int (j : Int), .int (y' : Int)]) nw
            have g9 : upd H8 w' (.tup [.int (j : Int), .int (y' : Int)]) w' = some (.tup [.int (j : Int), .int (y' : Int)]) := upd_same
            generalize upd H8 w' (.tup [.int (j : Int), .int (y' : Int)]) = H9 at s9 g9 ⊢
            have gD := s9 _ _ g8
            have ul := pb.len
            rw [List.length_map, List.length_take] at ul
            refine ⟨_, gD, small1000 (by omega), Same.put (s8.trans s9) nD2, us ++ [.ref w'], upd_same, ?_⟩
            rw [List.take_add_one, hy', List.map_append]
            exact ((pb.same s9).put gD).app (.cons (by rw [upd_ne (ne_of g9 gD (by intro z; cases z))]; exact g9) .nil)
          · obtain ⟨s8, us, g8, pb⟩ := z
            rw [List.length_map, List.length_map, List.take_length] at pb
            have gf8 := s8 _ _ (s7 _ _ gf6)
            have ul := pb.len
            rw [List.length_map] at ul
            have l1 := pa.len
            have l2 := due_le n c j
            have l3 : j * n ≤ 31 * 31 := Nat.mul_le_mul (by omega) hn9
            refine ⟨f, D2, _, _, rfl, rfl, gf8, g8, small (by show ts.length + 1 + us.length ≤ 1000; omega), ?_⟩
            refine ⟨((b5.trans (But.of s6)).trans ((But.of s7).trans (But.of s8))).trans But.upd, ts ++ us, _, _, _, _, _, rfl, upd_same, ?_⟩
            rw [due_succ]
            exact ((((pa.same s6).same s7).same s8).put gf8).app (pb.put gf8)
      · rintro σ H5 ⟨b5, ts, v3, v4, v9, v10, v11, rfl, g5, pa⟩
        rw [Int.toNat_natCast] at pa
        have b5' : Same H H5 := But.same sA b5 f0
        have ge5 := b5 _ _ ge (ne_of ge gf (by intro z; cases z))
        have l1 := pa.len
        have l2 := due_le n c n
        have l3 : n * n ≤ 31 * 31 := Nat.mul_le_mul hn9 hn9
        refine ⟨_, rfl, f, _, rfl, .inl ⟨lst_of g5, fun u nu => ?_⟩⟩
        have s6 := Same.new (o := .tup (.ref e :: ts)) nu
        exact q _ u e ts (b5'.trans s6) upd_same (s6 _ _ ge5) (pa.same s6)
end
end K40
set_option Elab.async false
set_option linter.all false
set_option maxRecDepth 100000
set_option maxHeartbeats 4000000
namespace K40
open PySem PySem.Spec PyProof.Rows L2 Gd QM K45M EcZ SvM PaM
/-- twos are taken out of a -/
def inn : Nat → Nat → Nat → Int → Option (Nat × Int)
  | 0, _, _, _ => none
  | k + 1, n, a, s => if a % 2 = 0 then inn k n (a / 2) (if n % 8 = 3 ∨ n % 8 = 5 then -s else s) else some (a, s)
def sym : Nat → Nat → Nat → Int → Option Int
  | 0, _, _, _ => none
  | k + 1, a, n, s => if a = 0 then some (if n = 1 then s else 0) else
    match inn 12 n a s with
    | none => none
    | some (b, t) => sym k (n % b) b (if b % 4 = 3 ∧ n % 4 = 3 then -t else t)
theorem inn_odd : ∀ {k n a : Nat} {s : Int} {b : Nat} {t : Int}, inn k n a s = some (b, t) → b % 2 = 1 ∧ b ≤ a
  | 0, _, _, _, _, _, h => nomatch h
  | k + 1, n, a, s, b, t, h => by
    unfold inn at h
    by_cases e : a % 2 = 0
    · rw [if_pos e] at h
      have := inn_odd h
      omega
    · rw [if_neg e] at h
      obtain ⟨rfl, rfl⟩ := Prod.mk.inj (Option.some.inj h)
      omega
section
variable {P : Program} {w : World} {K : PySem.W.Frag} {mg : Str → Option Value} {base : Heap}
def sp_symbol (K : PySem.W.Frag) : Sp := fun vs H Q _ => ∃ (a n : Nat) (r : Int), vs = [.int (a : Int), .int (n : Int)] ∧ n % 2 = 1 ∧ n < 1000 ∧ sym 12 (a % n) n 1 = some r ∧ Q (.int r) H
abbrev s_symbol : Stmt := topS 11
theorem sc_symbol : FnScope ["a", "n", "sign"] ["a", "n"] (defScope s_symbol) := ⟨rfl, rfl, rfl, by decide +kernel, rfl, by decide +kernel, by decide +kernel⟩
theorem k_symbol (T : Tx K mg) (D : Df K mg "symbol" s_symbol ["a", "n"])  : Kl P w K mg base 1 "symbol" (sp_symbol K) := by
  have nd := sc_symbol.nd
  refine Kl.by_body D sc_symbol (fun vs H Q E h => ?_) (fun f cdv A outer s H vs Q E hr h => ?_)
  · obtain ⟨_, _, _, rfl, _⟩ := h
    rfl
  · obtain ⟨a, n, r, rfl, hn, hn9, hs, q⟩ := h
    have hu1 := hu_of hr
    refine ⟨_, (pss_cons (ps_if (PW.pt (pw_or (pt_cmpR op_lt (pv 1) pe_int (nomark _)) (pw_or1 (pt_cmpR op_eq (pe_op op_mod (pv 1) pe_int) pe_int (nomark _))))) (pss_one ps_no) pss_nil)
      (pss_cons (ps_set (i := 0) nd rfl (by first | exact Or.inl rfl | exact Or.inr rfl) (pe_op op_mod (pv 0) (pv 1)))
      (pss_cons (ps_set (i := 2) nd rfl (by first | exact Or.inl rfl | exact Or.inr rfl) pe_int)
      (pss_cons (ps_while PassesOwn.never (pt_cmpR op_ne (pv 0) pe_int (nomark _)) (pss_cons (ps_while PassesOwn.never (pt_cmpR op_eq (pe_op op_mod (pv 0) pe_int) pe_int (nomark _)) (pss_cons (ps_aug (i := 0) nd rfl (by first | exact Or.inl rfl | exact Or.inr rfl) pe_int ip_fdivAny)
      (pss_one (ps_if (PW.pt (pw_or (pt_cmpR op_eq (pe_op op_mod (pv 1) pe_int) pe_int (nomark _)) (pw_or1 (pt_cmpR op_eq (pe_op op_mod (pv 1) pe_int) pe_int (nomark _))))) (pss_one (ps_set (i := 2) nd rfl (by first | exact Or.inl rfl | exact Or.inr rfl) (pe_un un_neg (pv 2)))) pss_nil))))
      (pss_cons (ps_if (PW.pt (pw_and (pt_cmpR op_eq (pe_op op_mod (pv 0) pe_int) pe_int (nomark _)) (pw_and1 (pt_cmpR op_eq (pe_op op_mod (pv 1) pe_int) pe_int (nomark _))))) (pss_one (ps_set (i := 2) nd rfl (by first | exact Or.inl rfl | exact Or.inr rfl) (pe_un un_neg (pv 2)))) pss_nil)
      (pss_one (ps_par (i := 0) (j := 1) (by rfl) nd rfl rfl (by decide) rfl rfl (pa_cons (pe_op op_mod (pv 1) (pv 0)) (pa_cons (pv 0) pa_nil)) (by rfl))))))
      (pss_one (ps_ret (pe_ifExp (pt_cmpR op_eq (pv 1) pe_int (nomark _)) (pv 2) pe_int))))))), ?_⟩
    have n0 : 0 < n := by omega
    have np : (0 : Int) < (n : Int) := by omega
    refine ⟨_, rfl, _, _, rfl, rfl, _, rfl, ?_⟩
    refine iteN (by simp; omega) ?_
    have n1 : (n : Int) % 2 = 1 := by omega
    refine ⟨_, rfl, _, _, rfl, rfl, (by show (0 : Int) < 2; decide), rfl, _, rfl, ?_⟩
    rw [dec_int]
    refine iteN (by rw [n1]; decide) ?_
    refine ⟨_, rfl, _, rfl, _, _, rfl, rfl, np, ?_⟩
    have h0 : a % n < 1000 := by
      have := Nat.mod_lt a n0
      omega
    refine sigN [some (.int ((a % n : Nat) : Int)), some (.int (n : Int)), none] (by rw [Int.natCast_emod]; rfl) ?_
    generalize a % n = a0 at hs h0 ⊢
    refine while_by (fun σ H2 => H2 = H ∧ ∃ (k a n : Nat) (s : Int), σ = [some (.int (a : Int)), some (.int (n : Int)), some (.int s)] ∧ sym k a n s = some r ∧ a < 1000)
      (fun σ _ => match σ with | [some (.int a), _, _] => a.toNat | _ => 0) ⟨rfl, 12, a0, n, 1, rfl, hs, h0⟩ ?_ ?_
    · rintro σ H2 ⟨rfl, k, a, n, s, rfl, hs, h0⟩
      refine ⟨_, rfl, rfl, _, rfl, ?_⟩
      rw [dec_int]
      cases k with
      | zero => cases hs
      | succ k =>
        unfold sym at hs
        by_cases ha : a = 0
        · rw [if_pos ha] at hs
          refine iteN (by simp [ha]) ?_
          refine ⟨_, rfl, rfl, _, rfl, ?_⟩
          rw [dec_int]
          obtain rfl := Option.some.inj hs
          by_cases h1 : n = 1
          · rw [if_pos h1] at q
            exact iteY (by simp [h1]) ⟨_, rfl, q⟩
          · rw [if_neg h1] at q
            exact iteN (by simp; omega) q
        · rw [if_neg ha] at hs
          refine iteY (by simpa using ha) ?_
          cases hi : inn 12 n a s with
          | none =>
            rw [hi] at hs
            cases hs
          | some bt =>
            obtain ⟨b, t⟩ := bt
            rw [hi] at hs
            obtain ⟨o1, o2⟩ := inn_odd hi
            replace hs : sym k (n % b) b (if b % 4 = 3 ∧ n % 4 = 3 then -t else t) = some r := hs
            refine while_by (fun σ H3 => H3 = H2 ∧ ∃ (k a : Nat) (s : Int), σ = [some (.int (a : Int)), some (.int (n : Int)), some (.int s)] ∧ inn k n a s = some (b, t) ∧ a < 1000)
              (fun σ _ => match σ with | [some (.int a), _, _] => a.toNat | _ => 0) ⟨rfl, 12, a, s, rfl, hi, h0⟩ ?_ ?_
            · rintro σ H3 ⟨rfl, k', a', s', rfl, hi', h0'⟩
              refine ⟨_, rfl, _, _, rfl, rfl, (by show (0 : Int) < 2; decide), rfl, _, rfl, ?_⟩
              rw [dec_int]
              cases k' with
              | zero => cases hi'
              | succ k' =>
                unfold inn at hi'
                by_cases he : a' % 2 = 0
                · rw [if_pos he] at hi'
                  refine iteY (by simp; omega) ?_
                  have oo := inn_odd hi'
                  have ed : (a' : Int).fdiv 2 = ((a' / 2 : Nat) : Int) := by
                    rw [Int.fdiv_eq_ediv_of_nonneg _ (by decide)]
                    omega
                  refine ⟨_, rfl, _, _, rfl, rfl, div_any (m := 3) (by decide) (by unfold B; decide) (by decide), ?_⟩
                  refine sig [some (.int ((a' / 2 : Nat) : Int)), some (.int (n : Int)), some (.int s')] (by rw [← ed]; rfl) ?_
                  have lt : ((a' / 2 : Nat) : Int).toNat < ((a' : Nat) : Int).toNat := by omega
                  refine ⟨_, rfl, _, _, rfl, rfl, (by show (0 : Int) < 8; decide), rfl, _, rfl, ?_⟩
                  rw [dec_int]
                  by_cases h3 : n % 8 = 3
                  · rw [if_pos (Or.inl h3)] at hi'
                    refine iteY (by simp; omega) ?_
                    exact ⟨_, rfl, _, rfl, ⟨rfl, k', _, _, rfl, hi', by omega⟩, lt⟩
                  · refine iteN (by simp; omega) ?_
                    refine ⟨_, rfl, _, _, rfl, rfl, (by show (0 : Int) < 8; decide), rfl, _, rfl, ?_⟩
                    rw [dec_int]
                    by_cases h5 : n % 8 = 5
                    · rw [if_pos (Or.inr h5)] at hi'
                      refine iteY (by simp; omega) ?_
                      exact ⟨_, rfl, _, rfl, ⟨rfl, k', _, _, rfl, hi', by omega⟩, lt⟩
                    · rw [if_neg (by omega)] at hi'
                      refine iteN (by simp; omega) ?_
                      exact ⟨⟨rfl, k', _, _, rfl, hi', by omega⟩, lt⟩
                · rw [if_neg he] at hi'
                  obtain ⟨rfl, rfl⟩ := Prod.mk.inj (Option.some.inj hi')
                  refine iteN (by simp; omega) ?_
                  have bp : (0 : Int) < (a' : Int) := by omega
                  have lt : ((n % a' : Nat) : Int).toNat < ((a : Nat) : Int).toNat := by
                    have := Nat.mod_lt n (show 0 < a' by omega)
                    omega
                  have em : (n : Int) % (a' : Int) = ((n % a' : Nat) : Int) := by rw [Int.natCast_emod]
                  have lt9 : n % a' < 1000 := by
                    have := Nat.mod_lt n (show 0 < a' by omega)
                    omega
                  refine ⟨_, rfl, _, _, rfl, rfl, (by show (0 : Int) < 4; decide), rfl, _, rfl, ?_⟩
                  rw [dec_int]
                  by_cases h3 : a' % 4 = 3
                  · refine iteY (by simp; omega) ?_
                    refine ⟨_, rfl, _, _, rfl, rfl, (by show (0 : Int) < 4; decide), rfl, _, rfl, ?_⟩
                    rw [dec_int]
                    by_cases h5 : n % 4 = 3
                    · rw [if_pos ⟨h3, h5⟩] at hs
                      refine iteY (by simp; omega) ?_
                      refine ⟨_, rfl, _, rfl, ?_⟩
                      refine ⟨_, rfl, _, rfl, _, _, rfl, rfl, bp, _, rfl, _, _, rfl, ?_⟩
                      exact ⟨⟨rfl, k, _, _, _, by rw [← em]; rfl, hs, lt9⟩, lt⟩
                    · rw [if_neg (fun z => h5 z.2)] at hs
                      refine iteN (by simp; omega) ?_
                      refine ⟨_, rfl, _, rfl, _, _, rfl, rfl, bp, _, rfl, _, _, rfl, ?_⟩
                      exact ⟨⟨rfl, k, _, _, _, by rw [← em]; rfl, hs, lt9⟩, lt⟩
                  · rw [if_neg (fun z => h3 z.1)] at hs
                    refine iteN (by simp; omega) ?_
                    refine ⟨_, rfl, _, rfl, _, _, rfl, rfl, bp, _, rfl, _, _, rfl, ?_⟩
                    exact ⟨⟨rfl, k, _, _, _, by rw [← em]; rfl, hs, lt9⟩, lt⟩
            · rintro σ H2 Q1 Q2 i ⟨v, hv, x, y, e1, e2, c, e3, b, e4, z⟩
              exact ⟨v, hv, x, y, e1, e2, c, e3, b, e4, i _ _ z⟩
    · rintro σ H2 Q1 Q2 i ⟨v, hv, e, b, e2, z⟩
      exact ⟨v, hv, e, b, e2, i _ _ z⟩
def sp_least_nonsquare (K : PySem.W.Frag) : Sp := fun vs H Q _ => ∃ (p d : Nat), vs = [.int (p : Int)] ∧ p % 2 = 1 ∧ p < 1000 ∧ 2 ≤ d ∧ d ≤ 10 ∧ sym 12 (d % p) p 1 = some (-1) ∧ (∀ a, 2 ≤ a → a < d → ∃ r, sym 12 (a % p) p 1 = some r ∧ r ≠ -1) ∧ Q (.int (d : Int)) H
abbrev s_least_nonsquare : Stmt := topS 12
theorem sc_least_nonsquare : FnScope ["p", "a"] ["p"] (defScope s_least_nonsquare) := ⟨rfl, rfl, rfl, by decide +kernel, rfl, by decide +kernel, by decide +kernel⟩
theorem k_least_nonsquare (T : Tx K mg) (D : Df K mg "least_nonsquare" s_least_nonsquare ["p"]) (c_symbol : Kl P w K mg base 1 "symbol" (sp_symbol K)) : Kl P w K mg base 2 "least_nonsquare" (sp_least_nonsquare K) := by
  have nd := sc_least_nonsquare.nd
  refine Kl.by_body D sc_least_nonsquare (fun vs H Q E h => ?_) (fun f cdv A outer s H vs Q E hr h => ?_)
  · obtain ⟨_, _, rfl, _⟩ := h
    rfl
  · obtain ⟨p, d, rfl, hp, hp9, d2, d10, hd, ha, q⟩ := h
    have hu1 := hu_of hr
    refine ⟨_, (pss_cons (ps_set (i := 1) nd rfl (by first | exact Or.inl rfl | exact Or.inr rfl) pe_int)
      (pss_cons (ps_while PassesOwn.never (pt_cmpR op_ne (pe_k c_symbol  hr (by decide) (by rfl) (pa_cons (pv 1) (pa_cons (pv 0) pa_nil))) (pe_un un_neg pe_int) (nomark _)) (pss_one (ps_aug (i := 1) nd rfl (by first | exact Or.inl rfl | exact Or.inr rfl) pe_int ip_add)))
      (pss_one (ps_ret (pv 1))))), ?_⟩
    refine while_by (fun σ H2 => H2 = H ∧ ∃ a : Nat, σ = [some (.int (p : Int)), some (.int (a : Int))] ∧ 2 ≤ a ∧ a ≤ d)
      (fun σ _ => match σ with | [_, some (.int a)] => (d - a).toNat | _ => 0) ⟨rfl, 2, rfl, by decide, d2⟩ ?_ ?_
    · rintro σ H2 ⟨rfl, a, rfl, a2, ad⟩
      by_cases e : a = d
      · subst e
        refine ⟨_, rfl, _, rfl, a, p, -1, rfl, hp, hp9, hd, _, rfl, rfl, _, rfl, ?_⟩
        rw [dec_int]
        refine iteN (by decide) ?_
        exact ⟨_, rfl, q⟩
      · obtain ⟨r, h1, h2⟩ := ha a a2 (by omega)
        refine ⟨_, rfl, _, rfl, a, p, r, rfl, hp, hp9, h1, _, rfl, rfl, _, rfl, ?_⟩
        rw [dec_int]
        refine iteY (by simpa using h2) ?_
        refine ⟨_, rfl, _, _, rfl, rfl, ?_⟩
        refine ⟨⟨rfl, a + 1, rfl, by omega, by omega⟩, ?_⟩
        show ((d : Int) - (a + 1)).toNat < ((d : Int) - a).toNat
        omega
    · rintro σ H2 Q1 Q2 i ⟨v, hv, v2, hv2, a, n, r, e1, e2, e3, e4, x, e5, e6, b, e7, z⟩
      exact ⟨v, hv, v2, hv2, a, n, r, e1, e2, e3, e4, x, e5, e6, b, e7, i _ _ z⟩
end
end K40
set_option Elab.async false
set_option linter.all false
set_option maxRecDepth 100000
set_option maxHeartbeats 4000000
namespace K40
open PySem PySem.Spec PyProof.Rows L2 Gd QM K45M EcZ SvM PaM DpM
def areW (m : Int) : PyData → Bool
  | .tuple ds => decide ((ds.length : Int) = m) && ds.all isI
  | _ => false
def isDg (p : Int) : PyData → Bool
  | .int i => decide (0 ≤ i ∧ i < p)
  | _ => false
def areD (p m : Int) : PyData → Bool
  | .tuple ds => decide ((ds.length : Int) = m) && ds.all (isDg p)
  | _ => false
def isTu (m : Int) : PyData → Bool
  | .tuple ds => decide ((ds.length : Int) = m)
  | _ => false
section
variable {P : Program} {w : World} {K : PySem.W.Frag} {mg : Str → Option Value} {base : Heap}
def sp_is_whole (K : PySem.W.Frag) : Sp := fun vs H Q _ => ∃ (x : V) (d : PyData), vs = [x] ∧ Dp K H x d ∧ Q (.bl (isI d)) H
abbrev s_is_whole : Stmt := topS 1
theorem sc_is_whole : FnScope ["value"] ["value"] (defScope s_is_whole) := ⟨rfl, rfl, rfl, by decide +kernel, rfl, by decide +kernel, by decide +kernel⟩
theorem k_is_whole (T : Tx K mg) (D : Df K mg "is_whole" s_is_whole ["value"])  : Kl P w K mg base 1 "is_whole" (sp_is_whole K) := by
  have nd := sc_is_whole.nd
  refine Kl.by_body D sc_is_whole (fun vs H Q E h => ?_) (fun f cdv A outer s H vs Q E hr h => ?_)
  · obtain ⟨_, _, rfl, _⟩ := h
    rfl
  · obtain ⟨x, d, rfl, hx, q⟩ := h
    have hu1 := hu_of hr
    refine ⟨_, (pss_one (ps_ret (pe_cmpR op_isTy (pe_callTy call_type1 (by rfl) T.type (by decide +kernel) (pa_cons (pv 0) pa_nil)) (pe_bltn (v := .ty "int") (by rfl) T.int (by decide +kernel) rfl) (nomark _)))), ?_⟩
    rw [← int_ty] at q
    exact ⟨x, rfl, x, _, rfl, ty hx, _, "int", rfl, rfl, q⟩
def sp_is_tuple (K : PySem.W.Frag) : Sp := fun vs H Q _ => ∃ (x : V) (m : Int) (d : PyData), vs = [x, .int m] ∧ Vd K H x d ∧ Q (.bl (isTu m d)) H
abbrev s_is_tuple : Stmt := topS 2
theorem sc_is_tuple : FnScope ["value", "many"] ["value", "many"] (defScope s_is_tuple) := ⟨rfl, rfl, rfl, by decide +kernel, rfl, by decide +kernel, by decide +kernel⟩
theorem k_is_tuple (T : Tx K mg) (D : Df K mg "is_tuple" s_is_tuple ["value", "many"])  : Kl P w K mg base 1 "is_tuple" (sp_is_tuple K) := by
  have nd := sc_is_tuple.nd
  refine Kl.by_body D sc_is_tuple (fun vs H Q E h => ?_) (fun f cdv A outer s H vs Q E hr h => ?_)
  · obtain ⟨_, _, _, rfl, _⟩ := h
    rfl
  · obtain ⟨x, m, d, rfl, hx, q⟩ := h
    have hu1 := hu_of hr
    refine ⟨_, (pss_one (ps_ret (pe_and (pe_callB call_isi (by rfl) T.isinstance (by decide +kernel) (pa_cons (pv 0) (pa_cons (pe_bltn (v := .ty "tuple") (by rfl) T.tuple (by decide +kernel) rfl) pa_nil))) (pe_one (pe_cmpR op_eq (pe_callB call_len_seq (by rfl) T.len (by decide +kernel) (pa_cons (pv 0) pa_nil)) (pv 1) (nomark _)))))), ?_⟩
    have no : isT d = false → Q (.bl false) H := fun e => by
      cases d <;> first | exact q | cases e
    refine ⟨x, rfl, x, .ty "tuple", _, .type "tuple", isT d, rfl, .ty _, hx.tyx, kit_tup, _, rfl, ?_⟩
    cases hd : isT d with
    | false => exact iteF (no hd)
    | true =>
      refine iteT ?_
      cases hx.dp with
      | tup h r =>
        refine ⟨_, rfl, _, _, rfl, .inr h, _, rfl, rfl, ?_⟩
        rw [dec_int, len r]
        exact q
      | non => cases hd
      | bl b => cases hd
      | int i => cases hd
      | str z => cases hd
      | lst h r => cases hd
def sp_are_whole (K : PySem.W.Frag) : Sp := fun vs H Q _ => ∃ (x : V) (m : Int) (d : PyData), vs = [x, .int m] ∧ Vd K H x d ∧ m ≤ 900 ∧ ∀ H', Same H H' → Q (.bl (areW m d)) H'
abbrev s_are_whole : Stmt := topS 5
theorem sc_are_whole : FnScope ["value", "many", "n"] ["value", "many"] (defScope s_are_whole) := ⟨rfl, rfl, rfl, by decide +kernel, rfl, by decide +kernel, by decide +kernel⟩
theorem k_are_whole (T : Tx K mg) (D : Df K mg "are_whole" s_are_whole ["value", "many"]) (c_is_tuple : Kl P w K mg base 1 "is_tuple" (sp_is_tuple K)) (c_is_whole : Kl P w K mg base 1 "is_whole" (sp_is_whole K)) : Kl P w K mg base 2 "are_whole" (sp_are_whole K) := by
  have nd := sc_are_whole.nd
  refine Kl.by_body D sc_are_whole (fun vs H Q E h => ?_) (fun f cdv A outer s H vs Q E hr h => ?_)
  · obtain ⟨_, _, _, rfl, _⟩ := h
    rfl
  · obtain ⟨x, m, d, rfl, hx, hm, q⟩ := h
    have hu1 := hu_of hr
    refine ⟨_, (pss_one (ps_ret (pe_and (pe_k c_is_tuple  hr (by decide) (by rfl) (pa_cons (pv 0) (pa_cons (pv 1) pa_nil))) (pe_one (pe_callB (cr_all rfl) (by rfl) T.all (by decide +kernel) (pa_cons (pe_lc (own := [("n", 2)]) (g := gName 2) rfl nd (pi_tup (pv 0)) (blkOk_by (N := ["value", "many", "n"]) (sc := defScope s_are_whole) (by decide +kernel)) (fun _ _ _ _ _ => (pg_name (i := 2) nd rfl (by first | exact Or.inl rfl | exact Or.inr rfl))) (fun _ _ _ _ _ => pts_nil) (fun _ _ _ _ _ => (pe_k c_is_whole  hr (by decide) (by rfl) (pa_cons (pv 2) pa_nil)))) pa_nil)))))), ?_⟩
    refine ⟨x, rfl, _, rfl, x, m, d, rfl, hx, _, rfl, ?_⟩
    cases hd : isTu m d with
    | false =>
      refine iteF ?_
      have e : areW m d = false := by
        cases d <;> first | rfl | (show (_ && _) = false; rw [show decide _ = false from hd]; rfl)
      rw [e] at q
      exact q _ (Same.refl _)
    | true =>
      refine iteT ?_
      have hdp := hx.dp
      cases hx with
      | lst h r => cases hd
      | data h hl =>
      cases h with
      | tup h r =>
        rename_i a vs ds
        have hl := len r
        have hm2 : (ds.length : Int) = m := of_decide_eq_true hd
        refine ⟨_, rfl, a, rfl, ⟨vs, h⟩, fun D nD => ?_⟩
        refine lc_tup (K := K) (a := a) (xs := vs) (fun i H4 => Same H H4 ∧ H4 D = some (.lst ((((ds.take i).map isI)).map V.bl))) ⟨Same.new nD, upd_same⟩ (fun i H4 _ z => Same.tup z.1 h) (fun i x H4 hi z => ?_) (fun H4 z => ?_)
        · obtain ⟨s4, g4⟩ := z
          obtain ⟨d, hd, hx⟩ := at_ r hi
          refine ⟨rfl, x, rfl, x, d, rfl, dpS s4 hx, ?_⟩
          refine ⟨_, g4, ?_, Same.put s4 nD, ?_⟩
          · rw [List.length_map, List.length_map, List.length_take]
            exact small1000 (by omega)
          · rw [upd_same, List.take_add_one, hd, List.map_append, List.map_append]
            rfl
        · obtain ⟨s4, g4⟩ := z
          rw [hl, List.take_length] at g4
          refine ⟨D, ds.map isI, rfl, lst_of g4, ?_⟩
          have e : areW m (.tuple ds) = (ds.map isI).all id := by
            show (decide _ && ds.all isI) = _
            rw [decide_eq_true hm2, Bool.true_and, List.all_map]
            rfl
          rw [← e]
          exact q _ s4
      | non => cases hd
      | bl b => cases hd
      | int i => cases hd
      | str z => cases hd
      | lst h r => cases hd
def sp_are_digits (K : PySem.W.Frag) : Sp := fun vs H Q _ => ∃ (x : V) (p m : Int) (d : PyData), vs = [.int p, x, .int m] ∧ Vd K H x d ∧ m ≤ 900 ∧ ∀ H', Same H H' → Q (.bl (areD p m d)) H'
theorem areD_W {p m : Int} {d : PyData} (h : areW m d = false) : areD p m d = false := by
  cases d with
  | tuple ds =>
    show (_ && _) = false
    rcases (Bool.and_eq_false_iff.mp (show (_ && _) = false from h)) with z | z
    · rw [z]
      rfl
    · have : ds.all (isDg p) = false := by
        rw [List.all_eq_false] at z ⊢
        obtain ⟨x, h1, h2⟩ := z
        refine ⟨x, h1, fun q => h2 ?_⟩
        cases x <;> first | rfl | cases q
      rw [this, Bool.and_false]
  | _ => rfl
abbrev s_are_digits : Stmt := topS 16
theorem sc_are_digits : FnScope ["p", "value", "many", "n"] ["p", "value", "many"] (defScope s_are_digits) := ⟨rfl, rfl, rfl, by decide +kernel, rfl, by decide +kernel, by decide +kernel⟩
theorem k_are_digits (T : Tx K mg) (D : Df K mg "are_digits" s_are_digits ["p", "value", "many"]) (c_are_whole : Kl P w K mg base 2 "are_whole" (sp_are_whole K)) : Kl P w K mg base 3 "are_digits" (sp_are_digits K) := by
  have nd := sc_are_digits.nd
  refine Kl.by_body D sc_are_digits (fun vs H Q E h => ?_) (fun f cdv A outer s H vs Q E hr h => ?_)
  · obtain ⟨_, _, _, _, rfl, _⟩ := h
    rfl
  · obtain ⟨x, p, m, d, rfl, hx, hm, q⟩ := h
    have hu1 := hu_of hr
    refine ⟨_, (pss_one (ps_ret (pe_and (pe_k c_are_whole  hr (by decide) (by rfl) (pa_cons (pv 1) (pa_cons (pv 2) pa_nil))) (pe_one (pe_callB (cr_all rfl) (by rfl) T.all (by decide +kernel) (pa_cons (pe_lc (own := [("n", 3)]) (g := gName 3) rfl nd (pi_tup (pv 1)) (blkOk_by (N := ["p", "value", "many", "n"]) (sc := defScope s_are_digits) (by decide +kernel)) (fun _ _ _ _ _ => (pg_name (i := 3) nd rfl (by first | exact Or.inl rfl | exact Or.inr rfl))) (fun _ _ _ _ _ => pts_nil) (fun _ _ _ _ _ => (pe_chain op_le op_lt pe_int (pv 3) (pv 0)))) pa_nil)))))), ?_⟩
    refine ⟨x, rfl, _, rfl, x, m, d, rfl, hx, hm, fun H1 s1 => ⟨_, rfl, ?_⟩⟩
    cases hd : areW m d with
    | false =>
      refine iteF ?_
      rw [areD_W hd] at q
      exact q _ s1
    | true =>
      refine iteT ?_
      cases hx with
      | lst h r => cases hd
      | data h hl =>
      cases h with
      | tup h r =>
        rename_i a vs ds
        obtain ⟨h1, h2⟩ := (Bool.and_eq_true _ _).mp (show (_ && _) = true from hd)
        have hm2 : (ds.length : Int) = m := of_decide_eq_true h1
        obtain ⟨ns, rfl, rfl⟩ := allInts r h2
        rw [List.length_map] at hm2
        replace h := Same.tup s1 h
        refine ⟨_, rfl, a, rfl, ⟨_, h⟩, fun D nD => ?_⟩
        refine lc_tup (K := K) (a := a) (xs := ns.map V.int) (fun i H4 => Same H1 H4 ∧ H4 D = some (.lst ((((ns.take i).map fun n => decide (0 ≤ n ∧ n < p))).map V.bl))) ⟨Same.new nD, upd_same⟩ (fun i H4 _ z => Same.tup z.1 h) (fun i x H4 hi z => ?_) (fun H4 z => ?_)
        · obtain ⟨s4, g4⟩ := z
          obtain ⟨y, hy, rfl⟩ := map_int hi
          have ll : (ns.take i).length ≤ 900 := by
            rw [List.length_take]
            omega
          have fin : ∀ b : Bool, decide (0 ≤ y ∧ y < p) = b → ∃ acc, H4 D = some (.lst acc) ∧ acc.length < sizeLine ∧ (Same H1 (upd H4 D (.lst (acc ++ [V.bl b]))) ∧ (upd H4 D (.lst (acc ++ [V.bl b]))) D = some (.lst ((((ns.take (i + 1)).map fun n => decide (0 ≤ n ∧ n < p))).map V.bl))) := by
            rintro b rfl
            refine ⟨_, g4, ?_, Same.put s4 nD, ?_⟩
            · rw [List.length_map, List.length_map]
              exact small1000 (by omega)
            · rw [upd_same, List.take_add_one, hy, List.map_append, List.map_append]
              rfl
          refine ⟨rfl, _, rfl, _, _, rfl, rfl, _, rfl, ?_⟩
          by_cases y0 : 0 ≤ y
          · refine iteY (decide_eq_true y0) ?_
            refine ⟨_, rfl, _, _, rfl, rfl, ?_⟩
            exact fin _ (decide_eq_decide.mpr ⟨fun z => z.2, fun z => ⟨y0, z⟩⟩)
          · refine iteN (by simpa using y0) ?_
            exact fin _ (decide_eq_false fun z => y0 z.1)
        · obtain ⟨s4, g4⟩ := z
          rw [List.length_map, List.take_length] at g4
          refine ⟨D, ns.map fun n => decide (0 ≤ n ∧ n < p), rfl, lst_of g4, ?_⟩
          have e : areD p m (.tuple (ns.map PyData.int)) = (ns.map fun n => decide (0 ≤ n ∧ n < p)).all id := by
            show (decide _ && (ns.map PyData.int).all (isDg p)) = _
            rw [List.length_map, decide_eq_true hm2, Bool.true_and, List.all_map, List.all_map]
            rfl
          rw [← e]
          exact q _ (s1.trans s4)
      | non => cases hd
      | bl b => cases hd
      | int i => cases hd
      | str z => cases hd
      | lst h r => cases hd
end
end K40
set_option Elab.async false
set_option linter.all false
set_option maxRecDepth 100000
set_option maxHeartbeats 4000000
namespace K40
open PySem PySem.Spec PyProof.Rows L2 Gd QM K45M EcZ SvM PaM DpM
local macro_rules | `(tactic| walk_at "bd") => `(tactic| (repeat (first | assumption | apply B.add | apply B.sub | apply B.mul | apply B.neg | exact B.lit (n := 8) (by decide))))
local macro_rules | `(tactic| walk_at "bnd") => `(tactic| (apply B.mulW; walk_at "bd"; decide))
def dL (c : C5) : List PyData := [.int c.a1, .int c.a2, .int c.a3, .int c.a4, .int c.a6]
def Dig (p : Int) (c : C5) : Prop := Dg p c.a1 ∧ Dg p c.a2 ∧ Dg p c.a3 ∧ Dg p c.a4 ∧ Dg p c.a6
theorem Dig.sm {p : Int} {c : C5} (h : Dig p c) (hp : p ≤ 1000) : Sm c := by
  obtain ⟨⟨a1, a2⟩, ⟨b1, b2⟩, ⟨c1, c2⟩, ⟨d1, d2⟩, e1, e2⟩ := h
  constructor <;> (unfold Gd.B; omega)
def toC : PyData → C5
  | .tuple [.int a, .int b, .int c, .int d, .int e] => ⟨a, b, c, d, e⟩
  | _ => ⟨0, 0, 0, 0, 0⟩
def isCv (p : Int) (d : PyData) : Bool := areD p 5 d && decide (¬ (toC d).disc % p = 0)
theorem isDg_is {p : Int} {x : PyData} (h : isDg p x = true) : ∃ i, x = .int i ∧ Dg p i := by
  cases x with
  | int i => exact ⟨i, rfl, of_decide_eq_true (p := 0 ≤ i ∧ i < p) h⟩
  | _ => exact nomatch h
theorem dig_of {p : Int} {d : PyData} (h : areD p 5 d = true) : ∃ c, d = .tuple (dL c) ∧ Dig p c := by
  cases d with
  | tuple ds =>
    obtain ⟨h1, h2⟩ := (Bool.and_eq_true _ _).mp (show (_ && _) = true from h)
    have h1 := of_decide_eq_true h1
    have g : ∀ x ∈ ds, ∃ i, x = .int i ∧ Dg p i := fun x hx => isDg_is (List.all_eq_true.mp h2 x hx)
    match ds, h1 with
    | [x1, x2, x3, x4, x5], _ =>
      obtain ⟨a, rfl, ha⟩ := g x1 (by simp)
      obtain ⟨b, rfl, hb⟩ := g x2 (by simp)
      obtain ⟨c, rfl, hc⟩ := g x3 (by simp)
      obtain ⟨d, rfl, hd⟩ := g x4 (by simp)
      obtain ⟨e, rfl, he⟩ := g x5 (by simp)
      exact ⟨⟨a, b, c, d, e⟩, rfl, ha, hb, hc, hd, he⟩
    | [], h => simp at h
    | [_], h => simp at h
    | [_, _], h => simp at h
    | [_, _, _], h => simp at h
    | [_, _, _, _], h => simp at h
    | _ :: _ :: _ :: _ :: _ :: _ :: _, h => simp at h; omega
  | _ => cases h
theorem dp_c {K : PySem.W.Frag} {H : Hp} {a : Addr} {c : C5} (h : Dp K H (.ref a) (.tuple (dL c))) : SqT K H a (cL c) := by
  cases h with
  | tup h r =>
    cases r with
    | cons h1 r =>
    cases r with
    | cons h2 r =>
    cases r with
    | cons h3 r =>
    cases r with
    | cons h4 r =>
    cases r with
    | cons h5 r =>
    cases r
    cases h1
    cases h2
    cases h3
    cases h4
    cases h5
    exact h
theorem cv_dig {p : Int} {c : C5} : isCv p (.tuple (dL c)) = true ↔ Dig p c ∧ ¬ c.disc % p = 0 := by
  unfold isCv
  rw [Bool.and_eq_true, decide_eq_true_iff]
  refine and_congr ?_ Iff.rfl
  show (decide (((dL c).length : Int) = 5) && List.all [PyData.int c.a1, .int c.a2, .int c.a3, .int c.a4, .int c.a6] (isDg p)) = true ↔ _
  unfold Dig Dg
  simp [isDg, dL, and_assoc]
section
variable {P : Program} {w : World} {K : PySem.W.Frag} {mg : Str → Option Value} {base : Heap}
def sp_is_curve_over (K : PySem.W.Frag) : Sp := fun vs H Q _ => ∃ (x : V) (p : Int) (d : PyData), vs = [.int p, x] ∧ Vd K H x d ∧ 1 < p ∧ p ≤ 1000 ∧ ∀ H', Same H H' → Q (.bl (isCv p d)) H'
abbrev s_is_curve_over : Stmt := topS 17
theorem sc_is_curve_over : FnScope ["p", "value"] ["p", "value"] (defScope s_is_curve_over) := ⟨rfl, rfl, rfl, by decide +kernel, rfl, by decide +kernel, by decide +kernel⟩
theorem k_is_curve_over (T : Tx K mg) (D : Df K mg "is_curve_over" s_is_curve_over ["p", "value"]) (c_are_digits : Kl P w K mg base 3 "are_digits" (sp_are_digits K)) (c_numbers_of : Kl P w K mg base 2 "numbers_of" (sp_numbers_of K)) : Kl P w K mg base 4 "is_curve_over" (sp_is_curve_over K) := by
  have nd := sc_is_curve_over.nd
  refine Kl.by_body D sc_is_curve_over (fun vs H Q E h => ?_) (fun f cdv A outer s H vs Q E hr h => ?_)
  · obtain ⟨_, _, _, rfl, _⟩ := h
    rfl
  · obtain ⟨x, p, d, rfl, hx, hp, hp9, q⟩ := h
    have hu1 := hu_of hr
    refine ⟨_, (pss_one (ps_ret (pe_and (pe_k c_are_digits  hr (by decide) (by rfl) (pa_cons (pv 0) (pa_cons (pv 1) (pa_cons pe_int pa_nil)))) (pe_one (pe_cmpR op_ne (pe_op op_mod (pe_ix ix_tup (pe_k c_numbers_of  hr (by decide) (by rfl) (pa_cons (pv 1) pa_nil)) pe_int (fun _ _ => rfl)) (pv 0)) pe_int (nomark _)))))), ?_⟩
    refine ⟨_, rfl, x, rfl, x, p, 5, d, rfl, hx, by decide, fun H1 s1 => ⟨_, rfl, ?_⟩⟩
    cases hd : areD p 5 d with
    | false =>
      refine iteF ?_
      have e : isCv p d = false := by
        unfold isCv
        rw [hd]
        rfl
      rw [e] at q
      exact q _ s1
    | true =>
      refine iteT ?_
      obtain ⟨c, rfl, hc⟩ := dig_of hd
      have hdp := hx.dp
      obtain ⟨a, rfl⟩ : ∃ a, x = .ref a := by
        cases hdp
        exact ⟨_, rfl⟩
      have ht := Same.tup s1 (dp_c hdp)
      refine ⟨_, rfl, a, c, rfl, ht, hc.sm hp9, fun t nt => ?_⟩
      have s2 := Same.new (H := H1) (p := t) (o := .tup (nums c)) nt
      have gt : upd H1 t (.tup (nums c)) t = some (.tup (nums c)) := upd_same
      generalize upd H1 t (.tup (nums c)) = H2 at s2 gt ⊢
      refine ⟨t, _, 6, _, rfl, rfl, tup_of gt, rfl, _, rfl, _, _, rfl, rfl, (by show (0 : Int) < p; omega), rfl, ?_⟩
      have e : isCv p (.tuple (dL c)) = (!decide (c.disc % p = 0)) := by
        unfold isCv
        rw [hd, Bool.true_and, decide_not]
        rfl
      have e2 : (!(c.disc % p == 0)) = isCv p (.tuple (dL c)) := by
        rw [e]
        congr 1
      rw [dec_int, e2]
      exact q _ (s1.trans s2)
def fstI : PyData → Int
  | .tuple [.int x, .int _] => x
  | _ => 0
def sndI : PyData → Int
  | .tuple [.int _, .int y] => y
  | _ => 0
def isPt (p : Int) (c : C5) (d : PyData) : Bool := PyData.eqv d (.tuple []) || (areD p 2 d && decide (lhs c (fstI d) (sndI d) % p = 0))
theorem two_of_d {p : Int} {d : PyData} (h : areD p 2 d = true) : ∃ x y, d = .tuple [.int x, .int y] ∧ Dg p x ∧ Dg p y := by
  cases d with
  | tuple ds =>
    obtain ⟨h1, h2⟩ := (Bool.and_eq_true _ _).mp (show (_ && _) = true from h)
    have h1 := of_decide_eq_true h1
    have g : ∀ x ∈ ds, ∃ i, x = .int i ∧ Dg p i := fun x hx => isDg_is (List.all_eq_true.mp h2 x hx)
    match ds, h1 with
    | [x1, x2], _ =>
      obtain ⟨a, rfl, ha⟩ := g x1 (by simp)
      obtain ⟨b, rfl, hb⟩ := g x2 (by simp)
      exact ⟨a, b, rfl, ha, hb⟩
    | [], h => simp at h
    | [_], h => simp at h
    | _ :: _ :: _ :: _, h => simp at h; omega
  | _ => cases h
def sp_is_point_over (K : PySem.W.Frag) : Sp := fun vs H Q _ => ∃ (x : V) (p : Int) (ca : Addr) (c : C5) (d : PyData), vs = [.int p, .ref ca, x] ∧ Vd K H x d ∧ SeqAt.shaped d = true ∧ SqT K H ca (cL c) ∧ Sm c ∧ 0 < p ∧ p ≤ 1000 ∧ ∀ H', Same H H' → Q (.bl (isPt p c d)) H'
abbrev s_is_point_over : Stmt := topS 20
theorem sc_is_point_over : FnScope ["p", "curve", "value"] ["p", "curve", "value"] (defScope s_is_point_over) := ⟨rfl, rfl, rfl, by decide +kernel, rfl, by decide +kernel, by decide +kernel⟩
theorem k_is_point_over (T : Tx K mg) (D : Df K mg "is_point_over" s_is_point_over ["p", "curve", "value"]) (c_are_digits : Kl P w K mg base 3 "are_digits" (sp_are_digits K)) (c_is_solution : Kl P w K mg base 1 "is_solution" (sp_is_solution K)) : Kl P w K mg base 4 "is_point_over" (sp_is_point_over K) := by
  have nd := sc_is_point_over.nd
  refine Kl.by_body D sc_is_point_over (fun vs H Q E h => ?_) (fun f cdv A outer s H vs Q E hr h => ?_)
  · obtain ⟨_, _, _, _, _, rfl, _⟩ := h
    rfl
  · obtain ⟨x, p, ca, c, d, rfl, hx, sd, hc, hm, hp, hp9, q⟩ := h
    have hu1 := hu_of hr
    refine ⟨_, (pss_cons (ps_if (pt_cmpR (op_eqD hr.units) (pv 2) (pe_tup pa_nil) (nomark _)) (pss_one (ps_ret pe_bl)) pss_nil)
      (pss_one (ps_ret (pe_and (pe_k c_are_digits  hr (by decide) (by rfl) (pa_cons (pv 0) (pa_cons (pv 2) (pa_cons pe_int pa_nil)))) (pe_one (pe_k c_is_solution  hr (by decide) (by rfl) (pa_cons (pv 0) (pa_cons (pv 1) (pa_cons (pe_ix ix_tup (pv 2) pe_int (fun _ _ => rfl)) (pa_cons (pe_ix ix_tup (pv 2) pe_int (fun _ _ => rfl)) pa_nil)))))))))), ?_⟩
    refine ⟨x, rfl, (by show 0 ≤ sizeLine; decide), fun e ne => ?_⟩
    have s1 := Same.new (H := H) (p := e) (o := .tup []) ne
    have ge : upd H e (.tup []) e = some (.tup []) := upd_same
    generalize upd H e (.tup []) = H1 at s1 ge ⊢
    refine ⟨d, .tuple [], dpS s1 hx.dp, .tup (tup_of ge) .nil, sd, rfl, _, rfl, ?_⟩
    cases he : PyData.eqv d (.tuple []) with
    | true =>
      refine iteT ?_
      have e2 : isPt p c d = true := by
        unfold isPt
        rw [he]
        rfl
      rw [e2] at q
      exact q _ s1
    | false =>
      refine iteF ?_
      refine ⟨_, rfl, x, rfl, x, p, 2, d, rfl, hx.same s1, by decide, fun H2 s2 => ⟨_, rfl, ?_⟩⟩
      have e2 : isPt p c d = (areD p 2 d && decide (lhs c (fstI d) (sndI d) % p = 0)) := by
        unfold isPt
        rw [he]
        rfl
      rw [e2] at q
      cases hd : areD p 2 d with
      | false =>
        refine iteF ?_
        rw [hd] at q
        exact q _ (s1.trans s2)
      | true =>
        refine iteT ?_
        rw [hd] at q
        obtain ⟨u, v, rfl, du, dv⟩ := two_of_d hd
        have hdp := dpS (s1.trans s2) hx.dp
        obtain ⟨a, rfl, ha⟩ : ∃ a, x = .ref a ∧ SqT K H2 a [.int u, .int v] := by
          cases hdp with
          | tup h r =>
            cases r with
            | cons h1 r =>
            cases r with
            | cons h2 r =>
            cases r
            cases h1
            cases h2
            exact ⟨_, rfl, h⟩
        have uB : B 10 u := by
          have := du.1
          have := du.2
          unfold Gd.B
          omega
        have vB : B 10 v := by
          have := dv.1
          have := dv.2
          unfold Gd.B
          omega
        refine ⟨_, rfl, .ref ca, rfl, _, rfl, a, _, 0, _, rfl, rfl, ha, rfl, _, rfl, a, _, 1, _, rfl, rfl, ha, rfl, p, ca, c, u, v, rfl, Same.tup (s1.trans s2) hc, hm, hp, uB, vB, ?_⟩
        exact q _ (s1.trans s2)
end
end K40
set_option Elab.async false
set_option linter.all false
set_option maxRecDepth 100000
set_option maxHeartbeats 4000000
namespace K40
open PySem PySem.Spec PyProof.Rows L2 Gd QM K45M EcZ SvM PaM DpM
local macro_rules | `(tactic| walk_at "bd") => `(tactic| (repeat (first | assumption | apply B.add | apply B.sub | apply B.mul | apply B.neg | exact B.lit (n := 8) (by decide))))
local macro_rules | `(tactic| walk_at "bnd") => `(tactic| (apply B.mulW; walk_at "bd"; decide))
local macro_rules | `(tactic| walk_at "pw") => `(tactic| exact B.up (n := 64) (by assumption) (by decide))
def md (p : Int) (c : C5) : C5 := ⟨c.a1 % p, c.a2 % p, c.a3 % p, c.a4 % p, c.a6 % p⟩
theorem md_map (p : Int) (c : C5) : [c.a1, c.a2, c.a3, c.a4, c.a6].map (fun z => z % p) = [(md p c).a1, (md p c).a2, (md p c).a3, (md p c).a4, (md p c).a6] := rfl
structure NS (n d : Nat) : Prop where
  odd : n % 2 = 1
  lt : n < 1000
  d2 : 2 ≤ d
  d10 : d ≤ 10
  is : sym 12 (d % n) n 1 = some (-1)
  no : ∀ a, 2 ≤ a → a < d → ∃ r, sym 12 (a % n) n 1 = some r ∧ r ≠ -1
theorem sum_cast (n : Nat) (f : Nat → Nat) : ((List.range n).map fun (x : Nat) => ((f x : Nat) : Int)).sum = ((((List.range n).map f).sum : Nat) : Int) := by
  induction n with
  | zero => rfl
  | succ n ih =>
    rw [List.range_succ, List.map_append, List.map_append, List.sum_append, List.sum_append, ih]
    simp
section
variable {P : Program} {w : World} {K : PySem.W.Frag} {mg : Str → Option Value} {base : Heap}
def sp_digits_of (K : PySem.W.Frag) : Sp := fun vs H Q _ => ∃ (ca : Addr) (c : C5) (p : Int), vs = [.ref ca, .int p] ∧ SqT K H ca (cL c) ∧ 0 < p ∧ ∀ H' t, Same H H' → H' t = some (.tup (cL (md p c))) → Q (.ref t) H'
abbrev s_digits_of : Stmt := topS 19
theorem sc_digits_of : FnScope ["curve", "p", "n"] ["curve", "p"] (defScope s_digits_of) := ⟨rfl, rfl, rfl, by decide +kernel, rfl, by decide +kernel, by decide +kernel⟩
theorem k_digits_of (T : Tx K mg) (D : Df K mg "digits_of" s_digits_of ["curve", "p"]) (c_five : Kl P w K mg base 1 "five" (sp_five K)) : Kl P w K mg base 2 "digits_of" (sp_digits_of K) := by
  have nd := sc_digits_of.nd
  refine Kl.by_body D sc_digits_of (fun vs H Q E h => ?_) (fun f cdv A outer s H vs Q E hr h => ?_)
  · obtain ⟨_, _, _, rfl, _⟩ := h
    rfl
  · obtain ⟨ca, c, p, rfl, hc, hp, q⟩ := h
    have hu1 := hu_of hr
    refine ⟨_, (pss_one (ps_ret (pe_callTy call_tuple_of (by rfl) T.tuple (by decide +kernel) (pa_cons (pe_lc (own := [("n", 2)]) (g := gName 2) rfl nd (pi_tup (pe_k c_five  hr (by decide) (by rfl) (pa_cons (pv 0) pa_nil))) (blkOk_by (N := ["curve", "p", "n"]) (sc := defScope s_digits_of) (by decide +kernel)) (fun _ _ _ _ _ => (pg_name (i := 2) nd rfl (by first | exact Or.inl rfl | exact Or.inr rfl))) (fun _ _ _ _ _ => pts_nil) (fun _ _ _ _ _ => (pe_op op_mod (pv 2) (pv 1)))) pa_nil)))), ?_⟩
    refine ⟨.ref ca, rfl, ca, c, rfl, hc, ca, rfl, ⟨_, hc⟩, fun D nD => ?_⟩
    refine lc_tup (K := K) (a := ca) (xs := cL c) (fun i H4 => Same H H4 ∧ H4 D = some (.lst ((([c.a1, c.a2, c.a3, c.a4, c.a6].take i).map fun z => z % p).map V.int))) ⟨Same.new nD, upd_same⟩ (fun i H4 _ z => Same.tup z.1 hc) (fun i x H4 hi z => ?_) (fun H4 z => ?_)
    · obtain ⟨s4, g4⟩ := z
      obtain ⟨y, hy, rfl⟩ := map_int (ns := [c.a1, c.a2, c.a3, c.a4, c.a6]) hi
      refine ⟨rfl, _, rfl, _, rfl, _, _, rfl, rfl, hp, ?_⟩
      refine ⟨_, g4, ?_, Same.put s4 nD, ?_⟩
      · rw [List.length_map, List.length_map, List.length_take]
        exact small1000 (by show min i 5 ≤ 1000; omega)
      · rw [upd_same, List.take_add_one, hy, List.map_append, List.map_append]
        rfl
    · obtain ⟨s4, g4⟩ := z
      refine ⟨D, _, rfl, .inl ⟨lst_of g4, fun t nt => ?_⟩⟩
      exact q _ t (s4.trans (Same.new nt)) upd_same
def sp_curve_modulo (K : PySem.W.Frag) : Sp := fun vs H Q _ => ∃ (ca : Addr) (c : C5) (p : Int), vs = [.ref ca, .int p] ∧ SqT K H ca (cL c) ∧ Sm c ∧ 0 < p ∧ (c.disc % p = 0 → ∀ H', Same H H' → Q .non H') ∧ (¬ c.disc % p = 0 → ∀ H' t, Same H H' → H' t = some (.tup (cL (md p c))) → Q (.ref t) H')
abbrev s_curve_modulo : Stmt := topS 18
theorem sc_curve_modulo : FnScope ["curve", "p"] ["curve", "p"] (defScope s_curve_modulo) := ⟨rfl, rfl, rfl, by decide +kernel, rfl, by decide +kernel, by decide +kernel⟩
theorem k_curve_modulo (T : Tx K mg) (D : Df K mg "curve_modulo" s_curve_modulo ["curve", "p"]) (c_digits_of : Kl P w K mg base 2 "digits_of" (sp_digits_of K)) (c_numbers_of : Kl P w K mg base 2 "numbers_of" (sp_numbers_of K)) : Kl P w K mg base 3 "curve_modulo" (sp_curve_modulo K) := by
  have nd := sc_curve_modulo.nd
  refine Kl.by_body D sc_curve_modulo (fun vs H Q E h => ?_) (fun f cdv A outer s H vs Q E hr h => ?_)
  · obtain ⟨_, _, _, rfl, _⟩ := h
    rfl
  · obtain ⟨ca, c, p, rfl, hc, hm, hp, q0, q1⟩ := h
    have hu1 := hu_of hr
    refine ⟨_, (pss_cons (ps_if (pt_cmpR op_eq (pe_op op_mod (pe_ix ix_tup (pe_k c_numbers_of  hr (by decide) (by rfl) (pa_cons (pv 0) pa_nil)) pe_int (fun _ _ => rfl)) (pv 1)) pe_int (nomark _)) (pss_one (ps_ret pe_non)) pss_nil)
      (pss_one (ps_ret (pe_k c_digits_of  hr (by decide) (by rfl) (pa_cons (pv 0) (pa_cons (pv 1) pa_nil)))))), ?_⟩
    refine ⟨.ref ca, rfl, ca, c, rfl, hc, hm, fun t nt => ?_⟩
    have s1 := Same.new (H := H) (p := t) (o := .tup (nums c)) nt
    have gt : upd H t (.tup (nums c)) t = some (.tup (nums c)) := upd_same
    generalize upd H t (.tup (nums c)) = H1 at s1 gt ⊢
    refine ⟨t, _, 6, _, rfl, rfl, tup_of gt, rfl, _, rfl, _, _, rfl, rfl, hp, rfl, _, rfl, ?_⟩
    rw [dec_int]
    by_cases hd : c.disc % p = 0
    · refine iteY (by simpa using hd) ?_
      exact q0 hd _ s1
    · refine iteN (by simpa using hd) ?_
      refine ⟨.ref ca, rfl, _, rfl, ca, c, p, rfl, Same.tup s1 hc, hp, fun H2 t s2 g2 => q1 hd _ _ (s1.trans s2) g2⟩
def sp_twist_over (K : PySem.W.Frag) : Sp := fun vs H Q _ => ∃ (n d : Nat) (ca : Addr) (c : C5), vs = [.int (n : Int), .ref ca] ∧ SqT K H ca (cL c) ∧ Sm c ∧ NS n d ∧ ∀ H' t, Same H H' → H' t = some (.tup (cL (md (n : Int) (tw (d : Int) c)))) → Q (.ref t) H'
abbrev s_twist_over : Stmt := topS 26
theorem sc_twist_over : FnScope ["p", "curve", "d", "b2", "b4", "b6", "_"] ["p", "curve"] (defScope s_twist_over) := ⟨rfl, rfl, rfl, by decide +kernel, rfl, by decide +kernel, by decide +kernel⟩
theorem k_twist_over (T : Tx K mg) (D : Df K mg "twist_over" s_twist_over ["p", "curve"]) (c_least_nonsquare : Kl P w K mg base 2 "least_nonsquare" (sp_least_nonsquare K)) (c_numbers_of : Kl P w K mg base 2 "numbers_of" (sp_numbers_of K)) (c_digits_of : Kl P w K mg base 2 "digits_of" (sp_digits_of K)) : Kl P w K mg base 3 "twist_over" (sp_twist_over K) := by
  have nd := sc_twist_over.nd
  refine Kl.by_body D sc_twist_over (fun vs H Q E h => ?_) (fun f cdv A outer s H vs Q E hr h => ?_)
  · obtain ⟨_, _, _, _, rfl, _⟩ := h
    rfl
  · obtain ⟨n, d, ca, c, rfl, hc, hm, ns, q⟩ := h
    have hu1 := hu_of hr
    refine ⟨_, (pss_cons (ps_set (i := 2) nd rfl (by first | exact Or.inl rfl | exact Or.inr rfl) (pe_k c_least_nonsquare  hr (by decide) (by rfl) (pa_cons (pv 0) pa_nil)))
      (pss_cons (ps_asg (pe_k c_numbers_of  hr (by decide) (by rfl) (pa_cons (pv 1) pa_nil)) (pg_tup rfl (pgs_cons (pg_name (i := 3) nd rfl (by first | exact Or.inl rfl | exact Or.inr rfl)) (pgs_cons (pg_name (i := 4) nd rfl (by first | exact Or.inl rfl | exact Or.inr rfl)) (pgs_cons (pg_name (i := 5) nd rfl (by first | exact Or.inl rfl | exact Or.inr rfl)) (pgs_cons (pg_name (i := 6) nd rfl (by first | exact Or.inl rfl | exact Or.inr rfl)) (pgs_cons (pg_name (i := 6) nd rfl (by first | exact Or.inl rfl | exact Or.inr rfl)) (pgs_cons (pg_name (i := 6) nd rfl (by first | exact Or.inl rfl | exact Or.inr rfl)) (pgs_cons (pg_name (i := 6) nd rfl (by first | exact Or.inl rfl | exact Or.inr rfl)) pgs_nil)))))))))
      (pss_one (ps_ret (pe_k c_digits_of  hr (by decide) (by rfl) (pa_cons (pe_tup (pa_cons pe_int (pa_cons (pe_op op_mulW (pv 2) (pv 3)) (pa_cons pe_int (pa_cons (pe_op op_mulW (pe_op op_mulW (pe_op op_mul pe_int (pv 2)) (pv 2)) (pv 4)) (pa_cons (pe_op op_mulW (pe_op op_mulW (pe_op op_mulW (pe_op op_mul pe_int (pv 2)) (pv 2)) (pv 2)) (pv 5)) pa_nil)))))) (pa_cons (pv 0) pa_nil))))))), ?_⟩
    have hn := ns.odd
    have d2 := ns.d2
    have d10 := ns.d10
    refine ⟨_, rfl, n, d, rfl, ns.odd, ns.lt, ns.d2, ns.d10, ns.is, ns.no, ?_⟩
    first | refine sigN [some (.int ((n : Int))), some (.ref ca), some (.int ((d : Int))), none, none, none, none] (by rfl) ?_ | refine sig [some (.int ((n : Int))), some (.ref ca), some (.int ((d : Int))), none, none, none, none] (by rfl) ?_
    refine ⟨.ref ca, rfl, ca, c, rfl, hc, hm, fun t nt => ?_⟩
    have s1 := Same.new (H := H) (p := t) (o := .tup (nums c)) nt
    have gt : upd H t (.tup (nums c)) t = some (.tup (nums c)) := upd_same
    generalize upd H t (.tup (nums c)) = H1 at s1 gt ⊢
    refine ⟨t, _, rfl, tup_of gt, rfl, _, _, rfl, _, _, rfl, _, _, rfl, _, _, rfl, _, _, rfl, _, _, rfl, _, _, rfl, rfl, ?_⟩
    first | refine sigN [some (.int ((n : Int))), some (.ref ca), some (.int ((d : Int))), some (.int (c.b2)), some (.int (c.b4)), some (.int (c.b6)), some (.int (c.disc))] (by rfl) ?_ | refine sig [some (.int ((n : Int))), some (.ref ca), some (.int ((d : Int))), some (.int (c.b2)), some (.int (c.b4)), some (.int (c.b6)), some (.int (c.disc))] (by rfl) ?_
    have e2 := hm.b2
    have e4 := hm.b4
    have e6 := hm.b6
    have dB : B 4 (d : Int) := by
      unfold Gd.B
      omega
    refine ⟨_, rfl, _, rfl, _, _, rfl, rfl, (by walk_at "bnd"), _, rfl, _, _, rfl, rfl, (Or.inl ⟨by decide, by decide⟩), _, rfl, _, _, rfl, rfl, (by walk_at "bnd"), _, rfl, _, _, rfl, rfl, (by walk_at "bnd"), _, rfl, _, _, rfl, rfl, (Or.inl ⟨by decide, by decide⟩), _, rfl, _, _, rfl, rfl, (by walk_at "bnd"), _, rfl, _, _, rfl, rfl, (by walk_at "bnd"), _, rfl, _, _, rfl, rfl, (by walk_at "bnd"), (by show 5 ≤ sizeLine; decide), fun u nu => ?_⟩
    refine ⟨_, rfl, u, tw (d : Int) c, (n : Int), rfl, tup_of (upd_same (o := .tup (cL (tw (d : Int) c)))), by omega, fun H3 r s3 g3 => q _ r (s1.trans ((Same.new nu).trans s3)) g3⟩
def sp_count_over (K : PySem.W.Frag) : Sp := fun vs H Q _ => ∃ (n : Nat) (ca : Addr) (c : C5), vs = [.int (n : Int), .ref ca] ∧ SqT K H ca (cL c) ∧ Sm c ∧ (n = 2 ∨ (n : Int) % 2 = 1) ∧ n ≤ 1000 ∧ ∀ H', Same H H' → Q (.int ((1 + (due n c n).length : Nat) : Int)) H'
abbrev s_count_over : Stmt := topS 25
theorem sc_count_over : FnScope ["p", "curve", "many", "z", "cubic", "x"] ["p", "curve"] (defScope s_count_over) := ⟨rfl, rfl, rfl, by decide +kernel, rfl, by decide +kernel, by decide +kernel⟩
theorem k_count_over (T : Tx K mg) (D : Df K mg "count_over" s_count_over ["p", "curve"]) (c_cubic_of : Kl P w K mg base 3 "cubic_of" (sp_cubic_of K)) (c_points_over : Kl P w K mg base 4 "points_over" (sp_points_over K)) (c_value_over : Kl P w K mg base 1 "value_over" (sp_value_over K)) : Kl P w K mg base 5 "count_over" (sp_count_over K) := by
  have nd := sc_count_over.nd
  refine Kl.by_body D sc_count_over (fun vs H Q E h => ?_) (fun f cdv A outer s H vs Q E hr h => ?_)
  · obtain ⟨_, _, _, rfl, _⟩ := h
    rfl
  · obtain ⟨n, ca, c, rfl, hc, hm, hn, hn9, q⟩ := h
    have hu1 := hu_of hr
    refine ⟨_, (pss_cons (ps_if (pt_cmpR op_eq (pv 0) pe_int (nomark _)) (pss_one (ps_ret (pe_callB call_len_seq (by rfl) T.len (by decide +kernel) (pa_cons (pe_k c_points_over  hr (by decide) (by rfl) (pa_cons (pv 0) (pa_cons (pv 1) pa_nil))) pa_nil)))) pss_nil)
      (pss_cons (ps_set (i := 2) nd rfl (by first | exact Or.inl rfl | exact Or.inr rfl) (pe_op op_rep (pe_lst (pa_cons pe_int pa_nil)) (pv 0)))
      (pss_cons (ps_for PassesOwn.never rfl (pi_range1 (by rfl) T.range (pa_cons (pv 0) pa_nil)) (pg_name (i := 3) nd rfl (by first | exact Or.inl rfl | exact Or.inr rfl)) (pss_one (ps_augS (pv 2) (pe_op op_mod (pe_op op_mulW (pv 3) (pv 3)) (pv 0)) get_list pe_int ip_add set_list)))
      (pss_cons (ps_set (i := 4) nd rfl (by first | exact Or.inl rfl | exact Or.inr rfl) (pe_k c_cubic_of  hr (by decide) (by rfl) (pa_cons (pv 0) (pa_cons (pv 1) pa_nil))))
      (pss_one (ps_ret (pe_op op_add pe_int (pe_callB (cr_sum rfl) (by rfl) T.sum (by decide +kernel) (pa_cons (pe_lc (own := [("x", 5)]) (g := gName 5) rfl nd (pi_range1 (by rfl) T.range (pa_cons (pv 0) pa_nil)) (blkOk_by (N := ["p", "curve", "many", "z", "cubic", "x"]) (sc := defScope s_count_over) (by decide +kernel)) (fun _ _ _ _ _ => (pg_name (i := 5) nd rfl (by first | exact Or.inl rfl | exact Or.inr rfl))) (fun _ _ _ _ _ => pts_nil) (fun _ _ _ _ _ => (pe_ix (ix_listK (K := K) rfl) (pv 2) (pe_k c_value_over  hr (by decide) (by rfl) (pa_cons (pv 4) (pa_cons (pv 5) (pa_cons (pv 0) pa_nil)))) (fun _ _ => rfl)))) pa_nil))))))))), ?_⟩
    refine ⟨_, rfl, rfl, _, rfl, ?_⟩
    rw [dec_int]
    by_cases h2 : (n : Int) = 2
    · refine iteY (by simpa using h2) ?_
      obtain rfl : n = 2 := by omega
      refine ⟨_, rfl, .ref ca, rfl, 2, ca, c, rfl, hc, hm, .inl rfl, by decide, fun H1 t e ts s1 gt ge pa => ?_⟩
      refine ⟨t, _, rfl, .inr (tup_of gt), ?_⟩
      have e : ((V.ref e :: ts).length : Int) = ((1 + (due 2 c 2).length : Nat) : Int) := by
        rw [List.length_cons, pa.len]
        omega
      rw [e]
      exact q _ s1
    · refine iteN (by simpa using h2) ?_
      have ho : (n : Int) % 2 = 1 := hn.resolve_left fun z => h2 (by omega)
      have hp0 : (0 : Int) < (n : Int) := by omega
      have hn0 : 0 < n := by omega
      rw [due_len ho] at q
      first | refine sigN [some (.int ((n : Int))), some (.ref ca), none, none, none, none] (by rfl) ?_ | refine sig [some (.int ((n : Int))), some (.ref ca), none, none, none, none] (by rfl) ?_
      refine ⟨(by show 1 ≤ sizeLine; decide), fun l nl => ?_⟩
      have s3 := Same.new (H := H) (p := l) (o := .lst [.int 0]) nl
      have g3 : upd H l (.lst [.int 0]) l = some (.lst [.int 0]) := upd_same
      generalize upd H l (.lst [.int 0]) = H3 at s3 g3 ⊢
      refine ⟨_, rfl, l, (n : Int), _, rfl, rfl, g3, by omega, by omega, ?_, fun r nr => ?_⟩
      · rw [List.length_singleton, Int.toNat_natCast, Nat.one_mul]
        exact small (by omega)
      have e0 : (List.replicate (n : Int).toNat [V.int 0]).flatten = (tl n 0).map V.int := by
        simp [tl_zero]
      rw [e0]
      have s4 := Same.new (H := H3) (p := r) (o := .lst ((tl n 0).map V.int)) nr
      have g4 : upd H3 r (.lst ((tl n 0).map V.int)) r = some (.lst ((tl n 0).map V.int)) := upd_same
      generalize upd H3 r (.lst ((tl n 0).map V.int)) = H4 at s4 g4 ⊢
      first | refine sigN [some (.int ((n : Int))), some (.ref ca), some (.ref r), none, none, none] (by rfl) ?_ | refine sig [some (.int ((n : Int))), some (.ref ca), some (.ref r), none, none, none] (by rfl) ?_
      have sA := s3.trans s4
      have r0 : H r = none := s3.free nr
      refine ⟨_, rfl, (n : Int), rfl, by omega, by omega, for_range (lo := 0) (n := (n : Int).toNat) (fun j σ H5 => But r H4 H5 ∧ ∃ v3 : Option V, σ = [some (.int (n : Int)), some (.ref ca), some (.ref r), v3, none, none] ∧ H5 r = some (.lst ((tl n j).map V.int))) ⟨But.refl r _, none, rfl, g4⟩ ?_ ?_⟩
      · rintro j σ H5 hj ⟨b5, v7, rfl, g5⟩
        first | refine sigN [some (.int ((n : Int))), some (.ref ca), some (.ref r), some (.int (0 + (j : Int))), none, none] (by rfl) ?_ | refine sig [some (.int ((n : Int))), some (.ref ca), some (.ref r), some (.int (0 + (j : Int))), none, none] (by rfl) ?_
        rw [Int.zero_add]
        have jB : B 10 (j : Int) := by
          unfold Gd.B
          omega
        have ej : ((j : Int) * (j : Int)) % (n : Int) = ((j * j % n : Nat) : Int) := by
          rw [Int.natCast_emod, Int.natCast_mul]
        have hv : j * j % n < n := Nat.mod_lt _ hn0
        have hat : atI ((tl n j).map V.int) (((j : Int) * (j : Int)) % (n : Int)) = some (.int ((tal n j (j * j % n) : Nat) : Int)) := by
          rw [ej]
          refine atI_nat ?_
          rw [List.getElem?_map, tl_get hv]
          rfl
        refine ⟨_, rfl, _, rfl, _, rfl, _, _, rfl, rfl, jB.mulW jB (by decide), _, rfl, _, _, rfl, rfl, hp0, ?_⟩
        refine ⟨r, (tl n j).map V.int, j * j % n, .int ((tal n j (j * j % n) : Nat) : Int), rfl, congrArg V.int ej, lst_of g5, ?_, ?_⟩
        · rw [List.getElem?_map, tl_get hv]
          rfl
        refine ⟨_, _, rfl, rfl, r, _, _, j * j % n, rfl, rfl, g5, ?_, ?_⟩
        · rw [List.length_map, tl_len]
          show ixN n (((j : Int) * (j : Int)) % (n : Int)) = _
          rw [ej]
          unfold ixN
          rw [if_pos (by omega), if_pos (by omega), Int.toNat_natCast]
        · refine ⟨b5.trans But.upd, _, rfl, ?_⟩
          rw [upd_same, ← tl_set hn0, List.map_set]
      · rintro σ H5 ⟨b5, v7, rfl, g5⟩
        rw [Int.toNat_natCast] at g5
        have b5' := But.same sA b5 r0
        have hc5 := Same.tup b5' hc
        refine ⟨_, rfl, .ref ca, rfl, (n : Int), ca, c, rfl, hc5, hm, hp0, fun H6 t s6 gt => ?_⟩
        first | refine sigN [some (.int ((n : Int))), some (.ref ca), some (.ref r), v7, some (.ref t), none] (by rfl) ?_ | refine sig [some (.int ((n : Int))), some (.ref ca), some (.ref r), v7, some (.ref t), none] (by rfl) ?_
        replace g5 := s6 _ _ g5
        refine ⟨_, rfl, (n : Int), rfl, by omega, by omega, fun D nD => ?_⟩
        refine lc_range (lo := 0) (n := (n : Int).toNat) (fun j H7 => Same H6 H7 ∧ H7 D = some (.lst (((List.range j).map fun (x : Nat) => ((nsq n (cub c (x : Int)) : Nat) : Int)).map V.int))) ⟨Same.new nD, upd_same⟩ (fun j H7 hj z => ?_) (fun H7 z => ?_)
        · obtain ⟨s7, g7⟩ := z
          rw [Int.zero_add]
          have jB : B 40 (j : Int) := by
            unfold Gd.B
            omega
          have v0 := Int.emod_nonneg (cub c (j : Int)) (show (n : Int) ≠ 0 by omega)
          have hat : atI ((tl n n).map V.int) (ev (fB n c) (j : Int) % (n : Int)) = some (.int ((nsq n (cub c (j : Int)) : Nat) : Int)) := by
            rw [show ev (fB n c) (j : Int) % (n : Int) = cub c (j : Int) % (n : Int) from ev_cub n c j]
            have h := atI_nat (xs := (tl n n).map V.int) (j := (cub c (j : Int) % (n : Int)).toNat) (v := .int ((nsq n (cub c (j : Int)) : Nat) : Int)) (by rw [List.getElem?_map, tl_at hn0]; rfl)
            rwa [Int.toNat_of_nonneg v0] at h
          refine ⟨rfl, _, rfl, _, rfl, _, rfl, _, rfl, t, fB n c, (j : Int), (n : Int), rfl, tup_of (s7 _ _ gt), (by show 4 ≤ 5; decide), ?_, jB, hp0, by omega, ?_⟩
          · intro z hz
            have h4 : ∀ u : Int, B 60 (u % (n : Int)) := fun u => by
              have h1 := Int.emod_nonneg u (show (n : Int) ≠ 0 by omega)
              have h2 := Int.emod_lt_of_pos u hp0
              unfold Gd.B
              omega
            unfold fB at hz
            simp only [List.mem_cons, List.not_mem_nil, or_false] at hz
            rcases hz with rfl | rfl | rfl | rfl
            · exact h4 _
            · exact h4 _
            · exact h4 _
            · exact B.lit (by decide)
          refine ⟨r, _, _, _, rfl, rfl, lst_of (s7 _ _ g5), hat, ?_⟩
          refine ⟨_, g7, ?_, Same.put s7 nD, ?_⟩
          · rw [List.length_map, List.length_map, List.length_range]
            exact small1000 (by omega)
          · rw [upd_same, List.range_succ, List.map_append, List.map_append]
            rfl
        · obtain ⟨s7, g7⟩ := z
          rw [Int.toNat_natCast] at g7
          refine ⟨D, _, rfl, lst_of g7, _, _, rfl, rfl, ?_⟩
          have e : (1 : Int) + ((List.range n).map fun (x : Nat) => ((nsq n (cub c (x : Int)) : Nat) : Int)).sum = ((1 + cntTo n n (cub c) : Nat) : Int) := by
            rw [sum_cast]
            unfold cntTo
            omega
          have q2 := q _ (b5'.trans (s6.trans s7))
          rw [← e] at q2
          exact q2
end
end K40
set_option Elab.async false
set_option linter.all false
set_option maxRecDepth 100000
set_option maxHeartbeats 4000000
namespace K40
open PySem PySem.Spec PyProof.Rows L2 Gd QM K45M EcZ SvM PaM DpM
local macro_rules | `(tactic| walk_at "bd") => `(tactic| (repeat (first | assumption | apply B.add | apply B.sub | apply B.mul | apply B.neg | exact B.lit (n := 8) (by decide))))
local macro_rules | `(tactic| walk_at "bnd") => `(tactic| (apply B.mulW; walk_at "bd"; decide))
local macro_rules | `(tactic| walk_at "pw") => `(tactic| exact B.up (n := 64) (by assumption) (by decide))
local macro_rules | `(tactic| walk_at "md") => `(tactic| assumption)
/-- which digits are no squares -/
def nsqs (n : Nat) : List Nat := (List.range n).filter fun k => !((List.range n).map fun y => y * y % n).contains k
/-- all that is asked of a prime and its least nonsquare -/
structure Pr (n d : Nat) : Prop where
  ns : NS n d
  first : (nsqs n)[0]? = some d
  two : two n (d : Int) = true
  u8 : ∃ t, Mo (n : Int) (8 * (d : Int) * t) 1
  u4 : ∃ t, Mo (n : Int) (4 * (d : Int) * t) 1
theorem inV_ints (i : Int) (L : List Int) : inV (.int i) (L.map V.int) = decide (i ∈ L) := by
  unfold inV
  induction L with
  | nil => rfl
  | cons x L ih =>
    rw [List.map_cons, List.any_cons, ih, Bool.eq_iff_iff, Bool.or_eq_true, decide_eq_true_iff, decide_eq_true_iff, List.mem_cons]
    refine or_congr ?_ Iff.rfl
    show decide (x = i) = true ↔ _
    rw [decide_eq_true_iff, eq_comm]
theorem flat_ints (L : List Int) : (L.map V.int).all flatV = true := by
  rw [List.all_map]
  exact List.all_eq_true.mpr fun x _ => rfl
section
variable {P : Program} {w : World} {K : PySem.W.Frag} {mg : Str → Option Value} {base : Heap}
def sp_law_p_points (K : PySem.W.Frag) : Sp := fun vs H Q _ => ∃ (n : Nat) (ca : Addr) (c : C5), vs = [.int (n : Int), .ref ca] ∧ SqT K H ca (cL c) ∧ Sm c ∧ 0 < n ∧ n ≤ 31 ∧ ∀ H' t e ts, Same H H' → H' t = some (.lst (.ref e :: ts)) → H' e = some (.tup []) → PA H' ts (due n c n) → Q (.ref t) H'
abbrev s__law_p_points : Stmt := topS 36
theorem sc__law_p_points : FnScope ["p", "five_v", "a1", "a2", "a3", "a4", "a6", "found", "x", "side", "y"] ["p", "five_v"] (defScope s__law_p_points) := ⟨rfl, rfl, rfl, by decide +kernel, rfl, by decide +kernel, by decide +kernel⟩
theorem k_law_p_points (T : Tx K mg) (D : Df K mg "_law_p_points" s__law_p_points ["p", "five_v"])  : Kl P w K mg base 1 "_law_p_points" (sp_law_p_points K) := by
  have nd := sc__law_p_points.nd
  refine Kl.by_body D sc__law_p_points (fun vs H Q E h => ?_) (fun f cdv A outer s H vs Q E hr h => ?_)
  · obtain ⟨_, _, _, rfl, _⟩ := h
    rfl
  · obtain ⟨n, ca, c, rfl, hc, hm, hn0, hn9, q⟩ := h
    have hu1 := hu_of hr
    refine ⟨_, (pss_cons (ps_asg (pv 1) (pg_tup rfl (pgs_cons (pg_name (i := 2) nd rfl (by first | exact Or.inl rfl | exact Or.inr rfl)) (pgs_cons (pg_name (i := 3) nd rfl (by first | exact Or.inl rfl | exact Or.inr rfl)) (pgs_cons (pg_name (i := 4) nd rfl (by first | exact Or.inl rfl | exact Or.inr rfl)) (pgs_cons (pg_name (i := 5) nd rfl (by first | exact Or.inl rfl | exact Or.inr rfl)) (pgs_cons (pg_name (i := 6) nd rfl (by first | exact Or.inl rfl | exact Or.inr rfl)) pgs_nil)))))))
      (pss_cons (ps_set (i := 7) nd rfl (by first | exact Or.inl rfl | exact Or.inr rfl) (pe_lst (pa_cons (pe_tup pa_nil) pa_nil)))
      (pss_cons (ps_for PassesOwn.never rfl (pi_range1 (by rfl) T.range (pa_cons (pv 0) pa_nil)) (pg_name (i := 8) nd rfl (by first | exact Or.inl rfl | exact Or.inr rfl)) (pss_cons (ps_set (i := 9) nd rfl (by first | exact Or.inl rfl | exact Or.inr rfl) (pe_op op_add (pe_op op_add (pe_op op_add (pe_op op_pow (pv 8) pe_int) (pe_op op_mulW (pe_op op_mulW (pv 3) (pv 8)) (pv 8))) (pe_op op_mulW (pv 5) (pv 8))) (pv 6)))
      (pss_one (ps_set (i := 7) nd rfl (by first | exact Or.inl rfl | exact Or.inr rfl) (pe_op op_cat (pv 7) (pe_lc (own := [("y", 10)]) (g := gName 10) rfl nd (pi_range1 (by rfl) T.range (pa_cons (pv 0) pa_nil)) (blkOk_by (N := ["p", "five_v", "a1", "a2", "a3", "a4", "a6", "found", "x", "side", "y"]) (sc := defScope s__law_p_points) (by decide +kernel)) (fun _ _ _ _ _ => (pg_name (i := 10) nd rfl (by first | exact Or.inl rfl | exact Or.inr rfl))) (fun _ _ _ _ _ => (pts_one (pt_cmpR op_eq (pe_op op_mod (pe_callTy call_intI (by rfl) T.int (by decide +kernel) (pa_cons (pe_op op_sub (pe_op op_mulW (pv 10) (pe_op op_add (pe_op op_add (pv 10) (pe_op op_mulW (pv 2) (pv 8))) (pv 4))) (pv 9)) pa_nil)) (pv 0)) pe_int (nomark _)))) (fun _ _ _ _ _ => (pe_tup (pa_cons (pv 8) (pa_cons (pv 10) pa_nil))))))))))
      (pss_one (ps_ret (pv 7)))))), ?_⟩
    have hp0 : (0 : Int) < (n : Int) := by omega
    obtain ⟨aB, a2B, a3B, a4B, a6B⟩ := hm
    refine ⟨_, rfl, ca, _, rfl, hc, rfl, _, _, rfl, _, _, rfl, _, _, rfl, _, _, rfl, _, _, rfl, rfl, ?_⟩
    first | refine sigN [some (.int ((n : Int))), some (.ref ca), some (.int (c.a1)), some (.int (c.a2)), some (.int (c.a3)), some (.int (c.a4)), some (.int (c.a6)), none, none, none, none] (by rfl) ?_ | refine sig [some (.int ((n : Int))), some (.ref ca), some (.int (c.a1)), some (.int (c.a2)), some (.int (c.a3)), some (.int (c.a4)), some (.int (c.a6)), none, none, none, none] (by rfl) ?_
    refine ⟨(by show 0 ≤ sizeLine; decide), fun e ne => ?_⟩
    have s1 := Same.new (H := H) (p := e) (o := .tup []) ne
    have ge : upd H e (.tup []) e = some (.tup []) := upd_same
    generalize upd H e (.tup []) = H1 at s1 ge ⊢
    refine ⟨(by show 1 ≤ sizeLine; decide), fun f nf => ?_⟩
    have s2 := Same.new (H := H1) (p := f) (o := .lst [.ref e]) nf
    have gf : upd H1 f (.lst [.ref e]) f = some (.lst [.ref e]) := upd_same
    generalize upd H1 f (.lst [.ref e]) = H2 at s2 gf ⊢
    first | refine sigN [some (.int ((n : Int))), some (.ref ca), some (.int (c.a1)), some (.int (c.a2)), some (.int (c.a3)), some (.int (c.a4)), some (.int (c.a6)), some (.ref f), none, none, none] (by rfl) ?_ | refine sig [some (.int ((n : Int))), some (.ref ca), some (.int (c.a1)), some (.int (c.a2)), some (.int (c.a3)), some (.int (c.a4)), some (.int (c.a6)), some (.ref f), none, none, none] (by rfl) ?_
    replace ge := s2 _ _ ge
    refine ⟨_, rfl, (n : Int), rfl, by omega, by omega, for_range (lo := 0) (n := (n : Int).toNat) (fun i σ H3 => Same H2 H3 ∧ ∃ (f : Addr) (ts : List V) (v1 v2 v3 : Option V), σ = [some (.int (n : Int)), some (.ref ca), some (.int c.a1), some (.int c.a2), some (.int c.a3), some (.int c.a4), some (.int c.a6), some (.ref f), v1, v2, v3] ∧ H3 f = some (.lst (.ref e :: ts)) ∧ PA H3 ts (due n c i)) ⟨Same.refl _, f, [], none, none, none, rfl, gf, .nil⟩ ?_ ?_⟩
    · rintro i σ H3 hi ⟨s3, f, ts, v1, v2, v3, rfl, gf3, pa⟩
      rw [Int.zero_add]
      have xB : B 10 (i : Int) := by
        unfold Gd.B
        omega
      have p3 : B 64 ((i : Int) ^ (3 : Int).toNat) := (xB.pow 3).up (by decide)
      first | refine sigN [some (.int ((n : Int))), some (.ref ca), some (.int (c.a1)), some (.int (c.a2)), some (.int (c.a3)), some (.int (c.a4)), some (.int (c.a6)), some (.ref f), some (.int ((i : Int))), v2, v3] (by rfl) ?_ | refine sig [some (.int ((n : Int))), some (.ref ca), some (.int (c.a1)), some (.int (c.a2)), some (.int (c.a3)), some (.int (c.a4)), some (.int (c.a6)), some (.ref f), some (.int ((i : Int))), v2, v3] (by rfl) ?_
      refine ⟨_, rfl, _, _, rfl, rfl, ⟨by decide, by decide, by walk_at "pw"⟩, _, rfl, _, rfl, _, _, rfl, rfl, (by walk_at "bnd"), _, rfl, _, _, rfl, rfl, (by walk_at "bnd"), _, _, rfl, rfl, _, rfl, _, rfl, _, _, rfl, rfl, (by walk_at "bnd"), _, _, rfl, rfl, _, rfl, _, _, rfl, rfl, ?_⟩
      first | refine sigN [some (.int ((n : Int))), some (.ref ca), some (.int (c.a1)), some (.int (c.a2)), some (.int (c.a3)), some (.int (c.a4)), some (.int (c.a6)), some (.ref f), some (.int ((i : Int))), some (.int ((i : Int) ^ 3 + c.a2 * (i : Int) * (i : Int) + c.a4 * (i : Int) + c.a6)), v3] (by rfl) ?_ | refine sig [some (.int ((n : Int))), some (.ref ca), some (.int (c.a1)), some (.int (c.a2)), some (.int (c.a3)), some (.int (c.a4)), some (.int (c.a6)), some (.ref f), some (.int ((i : Int))), some (.int ((i : Int) ^ 3 + c.a2 * (i : Int) * (i : Int) + c.a4 * (i : Int) + c.a6)), v3] (by rfl) ?_
      refine ⟨_, rfl, _, rfl, (n : Int), rfl, by omega, by omega, fun D nD => ?_⟩
      refine lc_range (lo := 0) (n := (n : Int).toNat) (fun j H4 => Same H3 H4 ∧ ∃ us, H4 D = some (.lst us) ∧ PA H4 us (row n c i j)) ⟨Same.new nD, [], upd_same, .nil⟩ (fun j H4 hj z => ?_) (fun H4 z => ?_)
      · obtain ⟨s4, us, g4, pb⟩ := z
        rw [Int.zero_add]
        have yB : B 10 (j : Int) := by
          unfold Gd.B
          omega
        have l1 := pb.len
        have l2 := row_le n c i (j := j) (by omega)
        refine ⟨rfl, _, rfl, _, rfl, _, rfl, _, rfl, _, _, rfl, rfl, aB.mulW xB (by decide), _, _, rfl, rfl, _, rfl, _, _, rfl, rfl, _, _, rfl, rfl, yB.mulW ((yB.add (aB.mul xB)).add a3B) (by decide), _, rfl, _, _, rfl, rfl, _, rfl, _, rfl, _, _, rfl, rfl, hp0, rfl, _, rfl, ?_⟩
        rw [dec_int]
        have el : (j : Int) * ((j : Int) + c.a1 * (i : Int) + c.a3) - ((i : Int) ^ 3 + c.a2 * (i : Int) * (i : Int) + c.a4 * (i : Int) + c.a6) = lhs c (i : Int) (j : Int) := rfl
        by_cases h0 : lhs c (i : Int) (j : Int) % (n : Int) = 0
        · refine iteY (by simpa [el] using h0) ?_
          refine ⟨_, rfl, _, rfl, (by show 2 ≤ sizeLine; decide), fun t nt => ?_⟩
          have s5 := Same.new (H := H4) (p := t) (o := .tup [.int (i : Int), .int (j : Int)]) nt
          have g5 : upd H4 t (.tup [.int (i : Int), .int (j : Int)]) t = some (.tup [.int (i : Int), .int (j : Int)]) := upd_same
          generalize upd H4 t (.tup [.int (i : Int), .int (j : Int)]) = H5 at s5 g5 ⊢
          have gD := s5 _ _ g4
          refine ⟨_, gD, small1000 (by omega), Same.put (s4.trans s5) nD, us ++ [.ref t], upd_same, ?_⟩
          rw [row_step, if_pos h0]
          exact ((pb.same s5).put gD).app (.cons (by rw [upd_ne (ne_of g5 gD (by intro z; cases z))]; exact g5) .nil)
        · refine iteN (by simpa [el] using h0) ?_
          refine ⟨s4, us, g4, ?_⟩
          rw [row_step, if_neg h0, List.append_nil]
          exact pb
      · obtain ⟨s4, us, g4, pb⟩ := z
        have l1 := pa.len
        have l2 := due_le n c i
        have l3 : i * n ≤ 31 * 31 := Nat.mul_le_mul (by omega) hn9
        have l4 := pb.len
        have l5 := row_le n c i (j := (n : Int).toNat) (by omega)
        refine ⟨f, D, _, _, rfl, rfl, s4 _ _ gf3, g4, small (by show ts.length + 1 + us.length ≤ 1000; omega), fun r nr => ?_⟩
        have s5 := Same.new (H := H4) (p := r) (o := .lst (.ref e :: ts ++ us)) nr
        have g5 : upd H4 r (.lst (.ref e :: ts ++ us)) r = some (.lst (.ref e :: ts ++ us)) := upd_same
        generalize upd H4 r (.lst (.ref e :: ts ++ us)) = H5 at s5 g5 ⊢
        refine ⟨s3.trans (s4.trans s5), r, ts ++ us, _, _, _, rfl, g5, ?_⟩
        rw [due_succ]
        exact ((pa.same s4).same s5).app (pb.same s5)
    · rintro σ H3 ⟨s3, f, ts, v1, v2, v3, rfl, gf3, pa⟩
      exact ⟨_, rfl, q _ f e ts (s1.trans (s2.trans s3)) gf3 (s3 _ _ ge) pa⟩
def sp_law_over_p (K : PySem.W.Frag) : Sp := fun vs H Q _ => ∃ (m cl pa : Addr) (n : Nat) (ps : List Int), vs = [.ref m, .ref pa] ∧ SqL K H pa (ps.map V.int) ∧ 0 < ps.length ∧ ps.length ≤ 1000 ∧ (∀ p ∈ ps, 1 < p ∧ p ≤ 1000) ∧ n ≤ 900000 ∧ MAt H m cl n ∧ ∀ H' t ca p c, But m H H' → MAt H' m cl (n + 301) → SqT K H' t [.int p, .ref ca] → SqT K H' ca (cL c) → (p = 2 ∧ c = ⟨0, 0, 1, 0, 0⟩ ∨ p ∈ ps) → Dig p c → ¬ c.disc % p = 0 → Q (.ref t) H'
abbrev s__law_over_p : Stmt := topS 37
theorem sc__law_over_p : FnScope ["m", "primes", "p", "lap", "five_v", "k"] ["m", "primes"] (defScope s__law_over_p) := ⟨rfl, rfl, rfl, by decide +kernel, rfl, by decide +kernel, by decide +kernel⟩
theorem k_law_over_p (T : Tx K mg) (D : Df K mg "_law_over_p" s__law_over_p ["m", "primes"]) (c_law_of : Kl P w K mg base 2 "_law_of" (sp_law_of K)) (c_law_draw : Kl P w K mg base 1 "_law_draw" (sp_law_draw K)) (c_law_numbers : Kl P w K mg base 1 "_law_numbers" (sp_law_numbers K)) : Kl P w K mg base 3 "_law_over_p" (sp_law_over_p K) := by
  have nd := sc__law_over_p.nd
  refine Kl.by_body D sc__law_over_p (fun vs H Q E h => ?_) (fun f cdv A outer s H vs Q E hr h => ?_)
  · obtain ⟨_, _, _, _, _, rfl, _⟩ := h
    rfl
  · obtain ⟨m, cl, pa, n, ps, rfl, hps, h0, h1, hpr, hn, hM, q⟩ := h
    have hu1 := hu_of hr
    refine ⟨_, (pss_cons (ps_set (i := 2) nd rfl (by first | exact Or.inl rfl | exact Or.inr rfl) (pe_k c_law_of  hr (by decide) (by rfl) (pa_cons (pv 0) (pa_cons (pv 1) pa_nil))))
      (pss_cons (ps_for PassesOwn.never rfl (pi_range1 (by rfl) T.range (pa_cons pe_int pa_nil)) (pg_name (i := 3) nd rfl (by first | exact Or.inl rfl | exact Or.inr rfl)) (pss_cons (ps_set (i := 4) nd rfl (by first | exact Or.inl rfl | exact Or.inr rfl) (pe_callTy call_tuple_of (by rfl) T.tuple (by decide +kernel) (pa_cons (pe_lc (own := [("k", 5)]) (g := gName 5) rfl nd (pi_range1 (by rfl) T.range (pa_cons pe_int pa_nil)) (blkOk_by (N := ["m", "primes", "p", "lap", "five_v", "k"]) (sc := defScope s__law_over_p) (by decide +kernel)) (fun _ _ _ _ _ => (pg_name (i := 5) nd rfl (by first | exact Or.inl rfl | exact Or.inr rfl))) (fun _ _ _ _ _ => pts_nil) (fun _ _ _ _ _ => (pe_k c_law_draw  hr (by decide) (by rfl) (pa_cons (pv 0) (pa_cons (pv 2) pa_nil))))) pa_nil)))
      (pss_one (ps_if (pt_cmpR op_ne (pe_op op_mod (pe_callTy call_intI (by rfl) T.int (by decide +kernel) (pa_cons (pe_ix ix_tup (pe_k c_law_numbers  hr (by decide) (by rfl) (pa_cons (pv 4) pa_nil)) pe_int (fun _ _ => rfl)) pa_nil)) (pv 2)) pe_int (nomark _)) (pss_one (ps_ret (pe_tup (pa_cons (pv 2) (pa_cons (pv 4) pa_nil))))) pss_nil))))
      (pss_one (ps_ret (pe_tup (pa_cons pe_int (pa_cons (pe_tup (pa_cons pe_int (pa_cons pe_int (pa_cons pe_int (pa_cons pe_int (pa_cons pe_int pa_nil)))))) pa_nil))))))), ?_⟩
    refine ⟨_, rfl, _, rfl, m, cl, pa, _, n, rfl, hps, by rw [List.length_map]; exact h0, by rw [List.length_map]; exact h1, by omega, hM, fun H1 z b1 m1 hz => ?_⟩
    obtain ⟨p, hp, rfl⟩ := List.mem_map.mp hz
    obtain ⟨p1, p31⟩ := hpr p hp
    have hp0 : 0 < p := by omega
    first | refine sigN [some (.ref m), some (.ref pa), some (.int (p)), none, none, none] (by rfl) ?_ | refine sig [some (.ref m), some (.ref pa), some (.int (p)), none, none, none] (by rfl) ?_
    refine ⟨60, rfl, by decide, by decide, for_range (lo := 0) (n := 60) (fun i σ H2 => But m H1 H2 ∧ MAt H2 m cl (n + 1 + 5 * i) ∧ ∃ v1 v2 v3 : Option V, σ = [some (.ref m), some (.ref pa), some (.int p), v1, v2, v3]) ⟨But.refl m _, m1, none, none, none, rfl⟩ ?_ ?_⟩
    · rintro i σ H2 hi ⟨b2, m2, v1, v2, v3, rfl⟩
      first | refine sigN [some (.ref m), some (.ref pa), some (.int (p)), some (.int (0 + (i : Int))), v2, v3] (by rfl) ?_ | refine sig [some (.ref m), some (.ref pa), some (.int (p)), some (.int (0 + (i : Int))), v2, v3] (by rfl) ?_
      refine ⟨5, rfl, by decide, by decide, fun D hD => ?_⟩
      have hmD := m2.ne hD
      refine lc_range (lo := 0) (n := 5) (fun j H3 => ∃ L : List Int, H3 D = some (.lst (L.map V.int)) ∧ L.length = j ∧ (∀ x ∈ L, Dg p x) ∧ But m H2 H3 ∧ MAt H3 m cl (n + 1 + 5 * i + j)) ⟨[], upd_same, rfl, (by intro x hx; cases hx), But.of (Same.new hD), m2.same (Same.new hD)⟩ (fun j H3 hj z => ?_) (fun H3 z => ?_)
      · obtain ⟨L, hL, el, hB, b3, m3⟩ := z
        refine ⟨rfl, _, rfl, _, rfl, m, cl, p, n + 1 + 5 * i + j, rfl, hp0, by omega, by omega, m3, fun H4 r b4 m4 r0 r1 => ?_⟩
        refine ⟨_, b4.lst m3 hL, by rw [List.length_map]; exact small1000 (by omega), L ++ [r], ?_, by rw [List.length_append, el]; rfl, ?_, fun c o e nc => ?_, ?_⟩
        · rw [upd_same, List.map_append]
          rfl
        · intro x hx
          rcases List.mem_append.mp hx with hx | hx
          · exact hB x hx
          · rw [List.mem_singleton.mp hx]
            exact ⟨r0, r1⟩
        · rw [upd_ne (ne_of_none e hD)]
          exact (b3.trans b4) c o e nc
        · exact m4.put hmD
      obtain ⟨L, hL, el, hB, b3, m3⟩ := z
      obtain ⟨c, rfl⟩ : ∃ c : C5, L = [c.a1, c.a2, c.a3, c.a4, c.a6] := by
        match L, el with
        | [x1, x2, x3, x4, x6], _ => exact ⟨⟨x1, x2, x3, x4, x6⟩, rfl⟩
      have dg : Dig p c := ⟨hB c.a1 (by simp), hB c.a2 (by simp), hB c.a3 (by simp), hB c.a4 (by simp), hB c.a6 (by simp)⟩
      refine ⟨D, cL c, rfl, .inl ⟨lst_of hL, fun f nf => ?_⟩⟩
      have s4 := Same.new (H := H3) (p := f) (o := .tup (cL c)) nf
      have gf : upd H3 f (.tup (cL c)) f = some (.tup (cL c)) := upd_same
      generalize upd H3 f (.tup (cL c)) = H4 at s4 gf ⊢
      first | refine sigN [some (.ref m), some (.ref pa), some (.int (p)), some (.int (0 + (i : Int))), some (.ref f), v3] (by rfl) ?_ | refine sig [some (.ref m), some (.ref pa), some (.int (p)), some (.int (0 + (i : Int))), some (.ref f), v3] (by rfl) ?_
      have m4 := m3.same s4
      refine ⟨_, rfl, f, c, rfl, tup_of gf, dg.sm p31, fun u nu => ?_⟩
      have s5 := Same.new (H := H4) (p := u) (o := .tup (nums c)) nu
      have gu : upd H4 u (.tup (nums c)) u = some (.tup (nums c)) := upd_same
      generalize upd H4 u (.tup (nums c)) = H5 at s5 gu ⊢
      have m5 := m4.same s5
      have bA : But m H1 H5 := b2.trans (b3.trans (But.of (s4.trans s5)))
      refine ⟨u, _, 6, _, rfl, rfl, tup_of gu, rfl, _, rfl, _, rfl, _, _, rfl, rfl, hp0, rfl, _, rfl, ?_⟩
      rw [dec_int]
      by_cases hd : c.disc % p = 0
      · refine iteN (by simpa using hd) ?_
        exact ⟨bA, m5.up (by omega), _, _, _, rfl⟩
      · refine iteY (by simpa using hd) ?_
        refine ⟨_, rfl, _, rfl, (by show 2 ≤ sizeLine; decide), fun t nt => ?_⟩
        have s6 := Same.new (o := .tup [.int p, .ref f]) nt
        refine q _ t f p c (b1.trans (bA.trans (But.of s6))) ((m5.same s6).up (by omega)) (tup_of upd_same) (Same.tup s6 (tup_of (s5 _ _ gf))) (.inr hp) dg hd
    · rintro σ H2 ⟨b2, m2, v1, v2, v3, rfl⟩
      refine ⟨(by show 5 ≤ sizeLine; decide), fun f nf => ?_⟩
      have s3 := Same.new (H := H2) (p := f) (o := .tup [.int 0, .int 0, .int 1, .int 0, .int 0]) nf
      have gf : upd H2 f (.tup [.int 0, .int 0, .int 1, .int 0, .int 0]) f = some (.tup [.int 0, .int 0, .int 1, .int 0, .int 0]) := upd_same
      generalize upd H2 f (.tup [.int 0, .int 0, .int 1, .int 0, .int 0]) = H3 at s3 gf ⊢
      refine ⟨(by show 2 ≤ sizeLine; decide), fun t nt => ?_⟩
      have s4 := Same.new (o := .tup [.int 2, .ref f]) nt
      exact q _ t f 2 ⟨0, 0, 1, 0, 0⟩ (b1.trans (b2.trans (But.of (s3.trans s4)))) ((m2.same (s3.trans s4)).up (by omega)) (tup_of upd_same) (Same.tup s4 (tup_of gf)) (.inl ⟨rfl, rfl⟩) (by refine ⟨⟨?_, ?_⟩, ⟨?_, ?_⟩, ⟨?_, ?_⟩, ⟨?_, ?_⟩, ⟨?_, ?_⟩⟩ <;> decide) (by decide)
def sp_law_twist (K : PySem.W.Frag) : Sp := fun vs H Q _ => ∃ (n d : Nat) (ca : Addr) (c : C5), vs = [.int (n : Int), .ref ca] ∧ SqT K H ca (cL c) ∧ Sm c ∧ Pr n d ∧ n ≤ 31 ∧ ∀ H' t, Same H H' → H' t = some (.tup (cL (md (n : Int) (tw (d : Int) c)))) → Q (.ref t) H'
abbrev s__law_twist : Stmt := topS 40
theorem sc__law_twist : FnScope ["p", "five_v", "squares", "y", "d", "k", "b2", "b4", "b6"] ["p", "five_v"] (defScope s__law_twist) := ⟨rfl, rfl, rfl, by decide +kernel, rfl, by decide +kernel, by decide +kernel⟩
theorem k_law_twist (T : Tx K mg) (D : Df K mg "_law_twist" s__law_twist ["p", "five_v"]) (c_law_numbers : Kl P w K mg base 1 "_law_numbers" (sp_law_numbers K)) : Kl P w K mg base 2 "_law_twist" (sp_law_twist K) := by
  have nd := sc__law_twist.nd
  refine Kl.by_body D sc__law_twist (fun vs H Q E h => ?_) (fun f cdv A outer s H vs Q E hr h => ?_)
  · obtain ⟨_, _, _, _, rfl, _⟩ := h
    rfl
  · obtain ⟨n, d, ca, c, rfl, hc, hm, pr, hn9, q⟩ := h
    have hu1 := hu_of hr
    refine ⟨_, (pss_cons (ps_set (i := 2) nd rfl (by first | exact Or.inl rfl | exact Or.inr rfl) (pe_lc (own := [("y", 3)]) (g := gName 3) rfl nd (pi_range1 (by rfl) T.range (pa_cons (pv 0) pa_nil)) (blkOk_by (N := ["p", "five_v", "squares", "y", "d", "k", "b2", "b4", "b6"]) (sc := defScope s__law_twist) (by decide +kernel)) (fun _ _ _ _ _ => (pg_name (i := 3) nd rfl (by first | exact Or.inl rfl | exact Or.inr rfl))) (fun _ _ _ _ _ => pts_nil) (fun _ _ _ _ _ => (pe_op op_mod (pe_callTy call_intI (by rfl) T.int (by decide +kernel) (pa_cons (pe_op op_mulW (pv 3) (pv 3)) pa_nil)) (pv 0)))))
      (pss_cons (ps_set (i := 4) nd rfl (by first | exact Or.inl rfl | exact Or.inr rfl) (pe_ix ix_list (pe_lc (own := [("k", 5)]) (g := gName 5) rfl nd (pi_range1 (by rfl) T.range (pa_cons (pv 0) pa_nil)) (blkOk_by (N := ["p", "five_v", "squares", "y", "d", "k", "b2", "b4", "b6"]) (sc := defScope s__law_twist) (by decide +kernel)) (fun _ _ _ _ _ => (pg_name (i := 5) nd rfl (by first | exact Or.inl rfl | exact Or.inr rfl))) (fun _ _ _ _ _ => (pts_one (pt_cmpR (op_notIn_seqK (K := K) rfl) (pv 5) (pv 2) rfl))) (fun _ _ _ _ _ => (pv 5))) pe_int (fun _ _ => rfl)))
      (pss_cons (ps_asg (pe_slice sl_tup (pe_k c_law_numbers  hr (by decide) (by rfl) (pa_cons (pv 1) pa_nil)) po_none (po_some pe_int)) (pg_tup rfl (pgs_cons (pg_name (i := 6) nd rfl (by first | exact Or.inl rfl | exact Or.inr rfl)) (pgs_cons (pg_name (i := 7) nd rfl (by first | exact Or.inl rfl | exact Or.inr rfl)) (pgs_cons (pg_name (i := 8) nd rfl (by first | exact Or.inl rfl | exact Or.inr rfl)) pgs_nil)))))
      (pss_one (ps_ret (pe_tup (pa_cons pe_int (pa_cons (pe_op op_mod (pe_callTy call_intI (by rfl) T.int (by decide +kernel) (pa_cons (pe_op op_mulW (pv 4) (pv 6)) pa_nil)) (pv 0)) (pa_cons pe_int (pa_cons (pe_op op_mod (pe_callTy call_intI (by rfl) T.int (by decide +kernel) (pa_cons (pe_op op_mulW (pe_op op_mulW (pe_op op_mul pe_int (pv 4)) (pv 4)) (pv 7)) pa_nil)) (pv 0)) (pa_cons (pe_op op_mod (pe_callTy call_intI (by rfl) T.int (by decide +kernel) (pa_cons (pe_op op_mulW (pe_op op_mul pe_int (pe_op op_pow (pv 4) pe_int)) (pv 8)) pa_nil)) (pv 0)) pa_nil))))))))))), ?_⟩
    have hn := pr.ns.odd
    have hp0 : (0 : Int) < (n : Int) := by omega
    have hn0 : 0 < n := by omega
    have d10 := pr.ns.d10
    have e2 := hm.b2
    have e4 := hm.b4
    have e6 := hm.b6
    refine ⟨_, rfl, (n : Int), rfl, by omega, by omega, fun D nD => ?_⟩
    refine lc_range (lo := 0) (n := (n : Int).toNat) (fun j H4 => Same H H4 ∧ H4 D = some (.lst (((List.range j).map fun (y : Nat) => ((y * y % n : Nat) : Int)).map V.int))) ⟨Same.new nD, upd_same⟩ (fun j H4 hj z => ?_) (fun H4 z => ?_)
    · obtain ⟨s4, g4⟩ := z
      rw [Int.zero_add]
      have jB : B 10 (j : Int) := by
        unfold Gd.B
        omega
      refine ⟨rfl, _, rfl, _, rfl, _, _, rfl, rfl, jB.mulW jB (by decide), _, rfl, _, rfl, _, _, rfl, rfl, hp0, ?_⟩
      refine ⟨_, g4, ?_, Same.put s4 nD, ?_⟩
      · rw [List.length_map, List.length_map, List.length_range]
        exact small1000 (by omega)
      · rw [upd_same, List.range_succ, List.map_append, List.map_append]
        show _ = some (HO.lst (_ ++ [V.int ((j * j % n : Nat) : Int)]))
        rw [Int.natCast_emod, Int.natCast_mul]
    obtain ⟨s4, g4⟩ := z
    rw [Int.toNat_natCast] at g4
    first | refine sigN [some (.int ((n : Int))), some (.ref ca), some (.ref D), none, none, none, none, none, none] (by rfl) ?_ | refine sig [some (.int ((n : Int))), some (.ref ca), some (.ref D), none, none, none, none, none, none] (by rfl) ?_
    refine ⟨_, rfl, (n : Int), rfl, by omega, by omega, fun D2 nD2 => ?_⟩
    refine lc_range (lo := 0) (n := (n : Int).toNat) (fun j H5 => Same H4 H5 ∧ H5 D2 = some (.lst ((((List.range j).filter fun k => !((List.range n).map fun y => y * y % n).contains k).map fun (y : Nat) => (y : Int)).map V.int))) ⟨Same.new nD2, upd_same⟩ (fun j H5 hj z => ?_) (fun H5 z => ?_)
    · obtain ⟨s5, g5⟩ := z
      rw [Int.zero_add]
      refine ⟨rfl, _, rfl, _, rfl, D, _, rfl, .inl (lst_of (s5 _ _ g4)), rfl, flat_ints _, _, rfl, ?_⟩
      have ei : inV (.int (j : Int)) (((List.range n).map fun (y : Nat) => ((y * y % n : Nat) : Int)).map V.int) = ((List.range n).map fun y => y * y % n).contains j := by
        rw [inV_ints, Bool.eq_iff_iff, decide_eq_true_iff, List.contains_iff_mem]
        simp only [List.mem_map]
        constructor
        · rintro ⟨y, h1, h2⟩
          exact ⟨y, h1, by omega⟩
        · rintro ⟨y, h1, h2⟩
          exact ⟨y, h1, by omega⟩
      have ll : ((List.range j).filter fun k => !((List.range n).map fun y => y * y % n).contains k).length ≤ j := by
        refine Nat.le_trans (List.length_filter_le ..) ?_
        rw [List.length_range]
        exact Nat.le_refl _
      rw [if_pos rfl, ei]
      cases hb : ((List.range n).map fun y => y * y % n).contains j with
      | true =>
        refine iteN (by decide) ?_
        refine ⟨s5, ?_⟩
        have ef : ([j].filter fun k => !((List.range n).map fun y => y * y % n).contains k) = [] := by
          rw [List.filter_cons, hb]
          rfl
        rw [g5, List.range_succ, List.filter_append, ef, List.append_nil]
      | false =>
        refine iteY (by decide) ?_
        refine ⟨_, rfl, _, g5, ?_, Same.put s5 nD2, ?_⟩
        · rw [List.length_map, List.length_map]
          exact small1000 (by omega)
        · have ef : ([j].filter fun k => !((List.range n).map fun y => y * y % n).contains k) = [j] := by
            rw [List.filter_cons, hb]
            rfl
          rw [upd_same, List.range_succ, List.filter_append, ef, List.map_append, List.map_append]
          rfl
    obtain ⟨s5, g5⟩ := z
    rw [Int.toNat_natCast] at g5
    have hat : atI (((nsqs n).map fun (y : Nat) => (y : Int)).map V.int) 0 = some (.int (d : Int)) := by
      refine atI_nat (j := 0) ?_
      rw [List.getElem?_map, List.getElem?_map, pr.first]
      rfl
    refine ⟨D2, _, 0, _, rfl, rfl, lst_of g5, hat, ?_⟩
    first | refine sigN [some (.int ((n : Int))), some (.ref ca), some (.ref D), none, some (.int ((d : Int))), none, none, none, none] (by rfl) ?_ | refine sig [some (.int ((n : Int))), some (.ref ca), some (.ref D), none, some (.int ((d : Int))), none, none, none, none] (by rfl) ?_
    have hc5 := Same.tup (s4.trans s5) hc
    refine ⟨_, rfl, ca, c, rfl, hc5, hm, fun t nt => ?_⟩
    have s6 := Same.new (H := H5) (p := t) (o := .tup (nums c)) nt
    have g6 : upd H5 t (.tup (nums c)) t = some (.tup (nums c)) := upd_same
    generalize upd H5 t (.tup (nums c)) = H6 at s6 g6 ⊢
    refine ⟨3, rfl, t, _, rfl, tup_of g6, (by simp [nums, cutV, HT.sIx]), fun t2 nt2 => ?_⟩
    rw [show cutV (nums c) none (some 3) = [.int c.b2, .int c.b4, .int c.b6] from rfl]
    have s7 := Same.new (H := H6) (p := t2) (o := .tup [.int c.b2, .int c.b4, .int c.b6]) nt2
    have g7 : upd H6 t2 (.tup [.int c.b2, .int c.b4, .int c.b6]) t2 = some (.tup [.int c.b2, .int c.b4, .int c.b6]) := upd_same
    generalize upd H6 t2 (.tup [.int c.b2, .int c.b4, .int c.b6]) = H7 at s7 g7 ⊢
    refine ⟨t2, _, rfl, tup_of g7, rfl, _, _, rfl, _, _, rfl, _, _, rfl, rfl, ?_⟩
    first | refine sigN [some (.int ((n : Int))), some (.ref ca), some (.ref D), none, some (.int ((d : Int))), none, some (.int (c.b2)), some (.int (c.b4)), some (.int (c.b6))] (by rfl) ?_ | refine sig [some (.int ((n : Int))), some (.ref ca), some (.ref D), none, some (.int ((d : Int))), none, some (.int (c.b2)), some (.int (c.b4)), some (.int (c.b6))] (by rfl) ?_
    have dB : B 4 (d : Int) := by
      unfold Gd.B
      omega
    have p3 : B 64 ((d : Int) ^ (3 : Int).toNat) := (dB.pow 3).up (by decide)
    refine ⟨_, rfl, _, rfl, _, _, rfl, rfl, (by walk_at "bnd"), _, rfl, _, rfl, _, _, rfl, rfl, (by walk_at "md"), _, rfl, _, _, rfl, rfl, (Or.inl ⟨by decide, by decide⟩), _, rfl, _, _, rfl, rfl, (by walk_at "bnd"), _, rfl, _, _, rfl, rfl, (by walk_at "bnd"), _, rfl, _, rfl, _, _, rfl, rfl, (by walk_at "md"), _, rfl, _, _, rfl, rfl, ⟨by decide, by decide, by walk_at "pw"⟩, _, _, rfl, rfl, (Or.inl ⟨by decide, by decide⟩), _, rfl, _, _, rfl, rfl, (by walk_at "bnd"), _, rfl, _, rfl, _, _, rfl, rfl, (by walk_at "md"), (by show 5 ≤ sizeLine; decide), fun u nu => ?_⟩
    have e3 : 16 * (d : Int) ^ 3 * c.b6 = 16 * (d : Int) * d * d * c.b6 := by
      generalize c.b6 = u6
      generalize (d : Int) = x
      grind
    refine q _ u (s4.trans (s5.trans (s6.trans (s7.trans (Same.new nu))))) (upd_same.trans ?_)
    show some (HO.tup [V.int 0, V.int ((d : Int) * c.b2 % n), V.int 0, V.int (8 * (d : Int) * d * c.b4 % n), V.int (16 * (d : Int) ^ 3 * c.b6 % n)]) = _
    rw [e3]
    show _ = some (HO.tup [V.int ((0 : Int) % n), V.int ((d : Int) * c.b2 % n), V.int ((0 : Int) % n), V.int (8 * (d : Int) * d * c.b4 % n), V.int (16 * (d : Int) * d * d * c.b6 % n)])
    rw [Int.zero_emod]
end
end K40
set_option Elab.async false
set_option linter.all false
set_option maxRecDepth 100000
set_option maxHeartbeats 4000000
namespace K40
open PySem PySem.Spec PyProof.Rows L2 Gd QM K45M EcZ SvM PaM DpM
theorem two_only {n : Nat} (h : sym 12 (2 % n) n 1 = some 1) : ∀ a, 2 ≤ a → a < 3 → ∃ r, sym 12 (a % n) n 1 = some r ∧ r ≠ -1 := fun a h1 h2 => by
  obtain rfl : a = 2 := by omega
  exact ⟨1, h, by decide⟩
theorem pr_3 : Pr 3 2 := ⟨⟨by decide, by decide, by decide, by decide, by decide, fun a h1 h2 => by omega⟩, by decide +kernel, two_3, ⟨1, by unfold Mo; decide⟩, ⟨2, by unfold Mo; decide⟩⟩
theorem pr_5 : Pr 5 2 := ⟨⟨by decide, by decide, by decide, by decide, by decide, fun a h1 h2 => by omega⟩, by decide +kernel, two_5, ⟨1, by unfold Mo; decide⟩, ⟨2, by unfold Mo; decide⟩⟩
theorem pr_7 : Pr 7 3 := ⟨⟨by decide, by decide, by decide, by decide, by decide, two_only (by decide)⟩, by decide +kernel, two_7, ⟨5, by unfold Mo; decide⟩, ⟨3, by unfold Mo; decide⟩⟩
theorem pr_11 : Pr 11 2 := ⟨⟨by decide, by decide, by decide, by decide, by decide, fun a h1 h2 => by omega⟩, by decide +kernel, two_11, ⟨9, by unfold Mo; decide⟩, ⟨7, by unfold Mo; decide⟩⟩
theorem pr_13 : Pr 13 2 := ⟨⟨by decide, by decide, by decide, by decide, by decide, fun a h1 h2 => by omega⟩, by decide +kernel, two_13, ⟨9, by unfold Mo; decide⟩, ⟨5, by unfold Mo; decide⟩⟩
theorem pr_17 : Pr 17 3 := ⟨⟨by decide, by decide, by decide, by decide, by decide, two_only (by decide)⟩, by decide +kernel, two_17, ⟨5, by unfold Mo; decide⟩, ⟨10, by unfold Mo; decide⟩⟩
theorem pr_19 : Pr 19 2 := ⟨⟨by decide, by decide, by decide, by decide, by decide, fun a h1 h2 => by omega⟩, by decide +kernel, two_19, ⟨6, by unfold Mo; decide⟩, ⟨12, by unfold Mo; decide⟩⟩
theorem pr_23 : Pr 23 5 := ⟨⟨by decide, by decide, by decide, by decide, by decide, fun a h1 h2 => by
  rcases (show a = 2 ∨ a = 3 ∨ a = 4 by omega) with rfl | rfl | rfl
  · exact ⟨1, by decide, by decide⟩
  · exact ⟨1, by decide, by decide⟩
  · exact ⟨1, by decide, by decide⟩⟩, by decide +kernel, two_23, ⟨19, by unfold Mo; decide⟩, ⟨15, by unfold Mo; decide⟩⟩
theorem pr_29 : Pr 29 2 := ⟨⟨by decide, by decide, by decide, by decide, by decide, fun a h1 h2 => by omega⟩, by decide +kernel, two_29, ⟨20, by unfold Mo; decide⟩, ⟨11, by unfold Mo; decide⟩⟩
theorem pr_31 : Pr 31 3 := ⟨⟨by decide, by decide, by decide, by decide, by decide, two_only (by decide)⟩, by decide +kernel, two_31, ⟨22, by unfold Mo; decide⟩, ⟨13, by unfold Mo; decide⟩⟩
theorem pr_all {p : Int} (h : p ∈ [(3 : Int), 5, 7, 11, 13, 17, 19, 23, 29, 31]) : ∃ n d : Nat, p = (n : Int) ∧ n ≤ 31 ∧ 2 < n ∧ Pr n d := by
  simp only [List.mem_cons, List.not_mem_nil, or_false] at h
  rcases h with rfl | rfl | rfl | rfl | rfl | rfl | rfl | rfl | rfl | rfl
  · exact ⟨3, 2, rfl, by decide, by decide, pr_3⟩
  · exact ⟨5, 2, rfl, by decide, by decide, pr_5⟩
  · exact ⟨7, 3, rfl, by decide, by decide, pr_7⟩
  · exact ⟨11, 2, rfl, by decide, by decide, pr_11⟩
  · exact ⟨13, 2, rfl, by decide, by decide, pr_13⟩
  · exact ⟨17, 3, rfl, by decide, by decide, pr_17⟩
  · exact ⟨19, 2, rfl, by decide, by decide, pr_19⟩
  · exact ⟨23, 5, rfl, by decide, by decide, pr_23⟩
  · exact ⟨29, 2, rfl, by decide, by decide, pr_29⟩
  · exact ⟨31, 3, rfl, by decide, by decide, pr_31⟩
def okIt (d : PyData) : Bool := notL d && d.canLay0 && decide (d.depth ≤ 3)
def itOk : PyData → Bool
  | .tuple ds => ds.all okIt
  | _ => true
theorem sh_items : ∀ {ds : List PyData}, (∀ d ∈ ds, okIt d = true) → PyData.canLayAll0 ds = true ∧ PyData.depthAll ds ≤ 3
  | [], _ => ⟨rfl, Nat.zero_le _⟩
  | d :: ds, h => by
    obtain ⟨h1, h2⟩ := sh_items fun x hx => h x (List.mem_cons_of_mem _ hx)
    have h0 := h d List.mem_cons_self
    unfold okIt at h0
    rw [Bool.and_eq_true, Bool.and_eq_true, decide_eq_true_iff] at h0
    constructor
    · show (d.canLay0 && PyData.canLayAll0 ds) = true
      rw [h0.1.2, h1]
      rfl
    · simp only [PyData.depthAll]
      omega
theorem sh_list {ds : List PyData} (h : ∀ d ∈ ds, okIt d = true) : SeqAt.shaped (.list ds) = true := by
  obtain ⟨h1, h2⟩ := sh_items h
  unfold SeqAt.shaped
  rw [Bool.and_eq_true, decide_eq_true_iff]
  refine ⟨h1, ?_⟩
  simp only [PyData.depth]
  omega
theorem sh_tup {ds : List PyData} (h : ∀ d ∈ ds, okIt d = true) : SeqAt.shaped (.tuple ds) = true := by
  obtain ⟨h1, h2⟩ := sh_items h
  unfold SeqAt.shaped
  rw [Bool.and_eq_true, decide_eq_true_iff]
  refine ⟨h1, ?_⟩
  simp only [PyData.depth]
  omega
theorem ty_c {K : PySem.W.Frag} {H : Hp} {x : V} {d : PyData} (h : Dp K H x d) (ho : okIt d = true) : TyX K H x (.type (tyn d)) := by
  unfold okIt at ho
  rw [Bool.and_eq_true, Bool.and_eq_true] at ho
  exact tyx h ho.1.1
section
variable {P : Program} {w : World} {K : PySem.W.Frag} {mg : Str → Option Value} {base : Heap}
def sp_law_is_curve (K : PySem.W.Frag) : Sp := fun vs H Q _ => ∃ (x : V) (p : Int) (d : PyData), vs = [.int p, x] ∧ Vd K H x d ∧ itOk d = true ∧ 1 < p ∧ p ≤ 1000 ∧ ∀ H', Same H H' → Q (.bl (isCv p d)) H'
abbrev s__law_is_curve : Stmt := topS 38
theorem sc__law_is_curve : FnScope ["p", "value", "bad", "part"] ["p", "value"] (defScope s__law_is_curve) := ⟨rfl, rfl, rfl, by decide +kernel, rfl, by decide +kernel, by decide +kernel⟩
theorem k_law_is_curve (T : Tx K mg) (D : Df K mg "_law_is_curve" s__law_is_curve ["p", "value"]) (c_law_numbers : Kl P w K mg base 1 "_law_numbers" (sp_law_numbers K)) : Kl P w K mg base 2 "_law_is_curve" (sp_law_is_curve K) := by
  have nd := sc__law_is_curve.nd
  refine Kl.by_body D sc__law_is_curve (fun vs H Q E h => ?_) (fun f cdv A outer s H vs Q E hr h => ?_)
  · obtain ⟨_, _, _, rfl, _⟩ := h
    rfl
  · obtain ⟨x, p, d, rfl, hx, hi, hp, hp9, q⟩ := h
    have hu1 := hu_of hr
    refine ⟨_, (pss_cons (ps_if (PW.pt (pw_or (pt_not (pt_val (pe_callB call_isi (by rfl) T.isinstance (by decide +kernel) (pa_cons (pv 1) (pa_cons (pe_bltn (v := .ty "tuple") (by rfl) T.tuple (by decide +kernel) rfl) pa_nil))))) (pw_or1 (pt_cmpR op_ne (pe_callB call_len_seq (by rfl) T.len (by decide +kernel) (pa_cons (pv 1) pa_nil)) pe_int (nomark _))))) (pss_one (ps_ret pe_bl)) pss_nil)
      (pss_cons (ps_setLc (i := 2) (own := [("part", 3)]) (g := gName 3) rfl nd rfl rfl (sw_true rfl rfl rfl (by decide +kernel)) (pi_tup (pv 1)) (blkOk_by (N := ["p", "value", "bad", "part"]) (sc := defScope s__law_is_curve) (by decide +kernel)) (fun _ _ _ _ _ => (pg_name (i := 3) nd rfl (by first | exact Or.inl rfl | exact Or.inr rfl))) (fun _ _ _ _ _ => (pts_one (PW.pt (pw_or (pt_not (pt_val (pe_callB (call_isiK (K:=K) rfl) (by rfl) T.isinstance (by decide +kernel) (pa_cons (pv 3) (pa_cons (pe_bltn (v := .ty "int") (by rfl) T.int (by decide +kernel) rfl) pa_nil))))) (pw_or (pt_val (pe_callB (call_isiK (K:=K) rfl) (by rfl) T.isinstance (by decide +kernel) (pa_cons (pv 3) (pa_cons (pe_bltn (v := .ty "bool") (by rfl) T.bool (by decide +kernel) rfl) pa_nil)))) (pw_or1 (pt_not (pt_chain op_le op_lt pe_int (pv 3) (pv 0))))))))) (fun _ _ _ _ _ => (pv 3)))
      (pss_one (ps_ret (pe_and (pe_cmpR (op_eqD hr.units) (pv 2) (pe_lst pa_nil) (nomark _)) (pe_one (pe_cmpR op_ne (pe_op op_mod (pe_callTy call_intI (by rfl) T.int (by decide +kernel) (pa_cons (pe_ix ix_tup (pe_k c_law_numbers  hr (by decide) (by rfl) (pa_cons (pv 1) pa_nil)) pe_int (fun _ _ => rfl)) pa_nil)) (pv 0)) pe_int (nomark _)))))))), ?_⟩
    have no : isTu 5 d = false → isCv p d = false := fun e => by
      unfold isCv
      cases d with
      | tuple ds =>
        have : areD p 5 (.tuple ds) = false := by
          show (decide _ && _) = false
          rw [show decide ((ds.length : Int) = 5) = false from e]
          rfl
        rw [this]
        rfl
      | _ => rfl
    refine ⟨x, rfl, x, .ty "tuple", _, .type "tuple", isT d, rfl, .ty _, hx.tyx, kit_tup, ?_⟩
    cases hd : isT d with
    | false =>
      refine ⟨_, rfl, iteT ?_⟩
      have e : isTu 5 d = false := by
        cases d <;> first | rfl | cases hd
      rw [no e] at q
      exact q _ (Same.refl _)
    | true =>
      refine ⟨_, rfl, iteF ?_⟩
      have hdp := hx.dp
      cases hdp with
      | non => cases hd
      | bl b => cases hd
      | int i => cases hd
      | str z => cases hd
      | lst h r => cases hd
      | tup h r =>
      rename_i a vs ds
      have hl := len r
      refine ⟨_, rfl, a, vs, rfl, .inr h, rfl, _, rfl, ?_⟩
      rw [dec_int]
      have hi2 : ∀ d ∈ ds, okIt d = true := fun d hd => List.all_eq_true.mp hi d hd
      by_cases h5 : (ds.length : Int) = 5
      · refine iteN (by rw [hl]; simpa using h5) ?_
        refine ⟨_, rfl, a, rfl, ⟨_, h⟩, fun D nD => ?_⟩
        refine lc_tup (K := K) (a := a) (xs := vs) (fun i H4 => Same H H4 ∧ ∃ bs, H4 D = some (.lst bs) ∧ DpAll K H bs ((ds.take i).filter fun d => !isDg p d)) ⟨Same.new nD, [], upd_same, .nil⟩ (fun i H4 _ z => Same.tup z.1 h) (fun i x H4 hi z => ?_) (fun H4 z => ?_)
        · obtain ⟨s4, bs, g4, pb⟩ := z
          obtain ⟨d, hd, hx⟩ := at_ r hi
          have hx4 := dpS s4 hx
          have hok := hi2 d (List.mem_of_getElem? hd)
          have hty := ty_c hx4 hok
          have et : (ds.take (i + 1)).filter (fun d => !isDg p d) = (ds.take i).filter (fun d => !isDg p d) ++ (if isDg p d = true then [] else [d]) := by
            rw [List.take_add_one, hd, List.filter_append]
            congr 1
            show List.filter _ [d] = _
            rw [List.filter_cons]
            cases isDg p d <;> rfl
          have hlen : bs.length ≤ 5 := by
            rw [len pb]
            refine Nat.le_trans (List.length_filter_le ..) ?_
            rw [List.length_take]
            omega
          have good : isDg p d = true → Same H H4 ∧ ∃ bs, H4 D = some (.lst bs) ∧ DpAll K H bs ((ds.take (i + 1)).filter fun d => !isDg p d) := fun e => by
            rw [et, if_pos e, List.append_nil]
            exact ⟨s4, bs, g4, pb⟩
          have bad : isDg p d = false → ∃ acc, H4 D = some (.lst acc) ∧ acc.length < sizeLine ∧ (Same H (upd H4 D (.lst (acc ++ [x]))) ∧ ∃ bs, (upd H4 D (.lst (acc ++ [x]))) D = some (.lst bs) ∧ DpAll K H bs ((ds.take (i + 1)).filter fun d => !isDg p d)) := fun e => by
            refine ⟨bs, g4, small1000 (by omega), Same.put s4 nD, bs ++ [x], upd_same, ?_⟩
            rw [et, if_neg (by rw [e]; decide)]
            exact app pb (.cons hx .nil)
          refine ⟨rfl, _, rfl, x, .ty "int", _, .type "int", isI d || isB d, rfl, .ty _, hty, kit_int, ?_⟩
          cases hI : isI d || isB d with
          | false =>
            refine ⟨_, rfl, iteT ?_⟩
            refine iteT ?_
            refine ⟨_, rfl, bad ?_⟩
            cases d <;> first | rfl | cases hI
          | true =>
            refine ⟨_, rfl, iteF ?_⟩
            refine ⟨_, rfl, x, .ty "bool", _, .type "bool", isB d, rfl, .ty _, hty, kit_bool, ?_⟩
            cases hB : isB d with
            | true =>
              refine ⟨_, rfl, iteT ?_⟩
              refine iteT ?_
              refine ⟨_, rfl, bad ?_⟩
              cases d <;> first | rfl | cases hB
            | false =>
              refine ⟨_, rfl, iteF ?_⟩
              obtain ⟨i0, rfl, rfl⟩ : ∃ i0, d = .int i0 ∧ x = .int i0 := by
                cases hx with
                | int i0 => exact ⟨i0, rfl, rfl⟩
                | non => cases hI
                | bl b => cases hB
                | str z => cases hI
                | lst h r => cases hI
                | tup h r => cases hI
              refine ⟨_, rfl, _, _, rfl, rfl, _, rfl, ?_⟩
              by_cases y0 : 0 ≤ i0
              · refine iteY (decide_eq_true y0) ?_
                refine ⟨_, rfl, _, _, rfl, rfl, _, rfl, ?_⟩
                by_cases y1 : i0 < p
                · refine iteN (by simpa using y1) ?_
                  exact good (decide_eq_true ⟨y0, y1⟩)
                · refine iteY (by simpa using y1) ?_
                  exact ⟨_, rfl, bad (decide_eq_false fun z => y1 z.2)⟩
              · refine iteN (by simpa using y0) ?_
                refine ⟨_, rfl, iteY (by decide) ?_⟩
                exact ⟨_, rfl, bad (decide_eq_false fun z => y0 z.1)⟩
        · obtain ⟨s4, bs, g4, pb⟩ := z
          rw [hl, List.take_length] at pb
          refine ⟨_, rfl, (by show 0 ≤ sizeLine; decide), fun e0 ne0 => ?_⟩
          have s5 := Same.new (H := H4) (p := e0) (o := .lst []) ne0
          have g5 : upd H4 e0 (.lst []) e0 = some (.lst []) := upd_same
          generalize upd H4 e0 (.lst []) = H5 at s5 g5 ⊢
          refine ⟨.list _, .list [], .lst (lst_of (s5 _ _ g4)) (dpAllS (s4.trans s5) pb), .lst (lst_of g5) .nil, sh_list (fun d hd => hi2 d (List.mem_filter.mp hd).1), rfl, ?_⟩
          cases hA : areD p 5 (.tuple ds) with
          | false =>
            have e : isCv p (.tuple ds) = false := by
              unfold isCv
              rw [hA]
              rfl
            rw [e] at q
            have e2 : PyData.eqv (.list (ds.filter fun d => !isDg p d)) (.list []) = false := by
              cases hF : ds.filter fun d => !isDg p d with
              | cons x xs => rfl
              | nil =>
                exfalso
                have h1 : ds.all (isDg p) = false := by
                  have : (decide ((ds.length : Int) = 5) && ds.all (isDg p)) = false := hA
                  rw [decide_eq_true h5, Bool.true_and] at this
                  exact this
                rw [List.all_eq_false] at h1
                obtain ⟨y, y1, y2⟩ := h1
                have : y ∈ ds.filter fun d => !isDg p d := List.mem_filter.mpr ⟨y1, by simpa using y2⟩
                rw [hF] at this
                cases this
            rw [e2]
            exact ⟨_, rfl, iteF (q _ (s4.trans s5))⟩
          | true =>
            obtain ⟨c, ec, hc⟩ := dig_of hA
            have e2 : PyData.eqv (.list (ds.filter fun d => !isDg p d)) (.list []) = true := by
              have : (ds.filter fun d => !isDg p d) = [] := by
                rw [List.filter_eq_nil_iff]
                intro y hy
                have h1 : ds.all (isDg p) = true := ((Bool.and_eq_true _ _).mp (show (decide ((ds.length : Int) = 5) && ds.all (isDg p)) = true from hA)).2
                rw [List.all_eq_true.mp h1 y hy]
                decide
              rw [this]
              rfl
            rw [e2]
            refine ⟨_, rfl, iteT ?_⟩
            have ht : SqT K H a (cL c) := dp_c (by rw [← ec]; exact .tup h r)
            rw [ec] at q hA
            refine ⟨_, rfl, a, c, rfl, Same.tup (s4.trans s5) ht, hc.sm hp9, fun t nt => ?_⟩
            have s6 := Same.new (H := H5) (p := t) (o := .tup (nums c)) nt
            have gt : upd H5 t (.tup (nums c)) t = some (.tup (nums c)) := upd_same
            generalize upd H5 t (.tup (nums c)) = H6 at s6 gt ⊢
            refine ⟨t, _, 6, _, rfl, rfl, tup_of gt, rfl, _, rfl, _, rfl, _, _, rfl, rfl, (by show (0 : Int) < p; omega), rfl, ?_⟩
            have e : isCv p (.tuple (dL c)) = (!decide (c.disc % p = 0)) := by
              unfold isCv
              rw [hA, Bool.true_and, decide_not]
              rfl
            have e3 : (!(c.disc % p == 0)) = isCv p (.tuple (dL c)) := by
              rw [e]
              congr 1
            rw [dec_int, e3]
            exact q _ (s4.trans (s5.trans s6))
      · refine iteY (by rw [hl]; simpa using h5) ?_
        rw [no (decide_eq_false h5)] at q
        exact q _ (Same.refl _)
end
end K40
set_option Elab.async false
set_option linter.all false
set_option maxRecDepth 100000
set_option maxHeartbeats 4000000
namespace K40
open PySem PySem.Spec PyProof.Rows L2 Gd QM K45M EcZ SvM PaM DpM
theorem ok_ints (ns : List Int) : (ns.map PyData.int).all okIt = true := by
  rw [List.all_map]
  exact List.all_eq_true.mpr fun x _ => rfl
section
variable {P : Program} {w : World} {K : PySem.W.Frag} {mg : Str → Option Value} {base : Heap}
def sp_law_bent (K : PySem.W.Frag) : Sp := fun vs H Q _ => ∃ (m cl ca : Addr) (p : Int) (c : C5) (n : Nat), vs = [.ref m, .int p, .ref ca] ∧ SqT K H ca (cL c) ∧ 1 < p ∧ p ≤ 1000 ∧ n ≤ 900000 ∧ MAt H m cl n ∧ ∀ H' x d, But m H H' → MAt H' m cl (n + 4) → Vd K H' x d → itOk d = true → Q x H'
abbrev s__law_bent : Stmt := topS 41
theorem sc__law_bent : FnScope ["m", "p", "five_v", "k", "other"] ["m", "p", "five_v"] (defScope s__law_bent) := ⟨rfl, rfl, rfl, by decide +kernel, rfl, by decide +kernel, by decide +kernel⟩
theorem k_law_bent (T : Tx K mg) (D : Df K mg "_law_bent" s__law_bent ["m", "p", "five_v"]) (c_law_of : Kl P w K mg base 2 "_law_of" (sp_law_of K)) (c_law_draw : Kl P w K mg base 1 "_law_draw" (sp_law_draw K)) : Kl P w K mg base 3 "_law_bent" (sp_law_bent K) := by
  have nd := sc__law_bent.nd
  refine Kl.by_body D sc__law_bent (fun vs H Q E h => ?_) (fun f cdv A outer s H vs Q E hr h => ?_)
  · obtain ⟨_, _, _, _, _, _, rfl, _⟩ := h
    rfl
  · obtain ⟨m, cl, ca, p, c, n, rfl, hc, hp, hp9, hn, hM, q⟩ := h
    have hu1 := hu_of hr
    refine ⟨_, (pss_cons (ps_par (i := 3) (j := 4) (by rfl) nd rfl rfl (by decide) rfl rfl (pa_cons (pe_k c_law_draw  hr (by decide) (by rfl) (pa_cons (pv 0) (pa_cons pe_int pa_nil))) (pa_cons (pe_k c_law_of  hr (by decide) (by rfl) (pa_cons (pv 0) (pa_cons (pe_lst (pa_cons (pv 1) (pa_cons (pe_un un_neg pe_int) (pa_cons pe_non (pa_cons pe_bl (pa_cons (pe_tup (pa_cons pe_int pa_nil)) (pa_cons pe_str (pa_cons (pe_k c_law_draw  hr (by decide) (by rfl) (pa_cons (pv 0) (pa_cons (pv 1) pa_nil))) pa_nil)))))))) pa_nil))) pa_nil)) (by rfl))
      (pss_one (ps_ret (pe_k c_law_of  hr (by decide) (by rfl) (pa_cons (pv 0) (pa_cons (pe_lst (pa_cons (pe_slice sl_tupA (pv 2) po_none (po_some pe_int)) (pa_cons (pe_op op_catA (pv 2) (pe_tup (pa_cons pe_int pa_nil))) (pa_cons (pe_callTy call_list_of (by rfl) T.list (by decide +kernel) (pa_cons (pv 2) pa_nil)) (pa_cons (pe_op op_catA (pe_op op_catA (pe_slice sl_tupA (pv 2) po_none (po_some (pv 3))) (pe_tup (pa_cons (pv 4) pa_nil))) (pe_slice sl_tupA (pv 2) (po_some (pe_op op_add (pv 3) pe_int)) po_none)) (pa_cons pe_non (pa_cons (pe_tup (pa_cons pe_int (pa_cons pe_int (pa_cons pe_int (pa_cons pe_int (pa_cons pe_int pa_nil)))))) pa_nil))))))) pa_nil)))))), ?_⟩
    refine ⟨_, rfl, m, cl, 5, n, rfl, by decide, by decide, by omega, hM, fun H1 k b1 m1 k0 k1 => ?_⟩
    have hc1 : SqT K H1 ca (cL c) := b1.seqT hM hc
    refine ⟨_, rfl, _, rfl, _, rfl, (by show 1 ≤ sizeLine; decide), fun t1 nt1 => ?_⟩
    have s1 := Same.new (H := H1) (p := t1) (o := .tup [.int 1]) nt1
    have g1 : upd H1 t1 (.tup [.int 1]) t1 = some (.tup [.int 1]) := upd_same
    generalize upd H1 t1 (.tup [.int 1]) = H2 at s1 g1 ⊢
    have m2 := m1.same s1
    refine ⟨_, rfl, _, rfl, m, cl, p, _, rfl, by omega, by omega, by omega, m2, fun H3 y b3 m3 y0 y1 => ?_⟩
    have g13 := b3.tup m2 g1
    refine ⟨(by show 7 ≤ sizeLine; decide), fun l nl => ?_⟩
    have s4 := Same.new (H := H3) (p := l) (o := .lst [.int p, .int (-1), .non, .bl true, .ref t1, .str "0", .int y]) nl
    have g4 : upd H3 l (.lst [.int p, .int (-1), .non, .bl true, .ref t1, .str "0", .int y]) l = some (.lst [.int p, .int (-1), .non, .bl true, .ref t1, .str "0", .int y]) := upd_same
    generalize upd H3 l (.lst [.int p, .int (-1), .non, .bl true, .ref t1, .str "0", .int y]) = H4 at s4 g4 ⊢
    have m4 := m3.same s4
    refine ⟨m, cl, l, _, _, rfl, lst_of g4, (by show 0 < 7; decide), (by show 7 ≤ 1000; decide), by omega, m4, fun H5 o b5 m5 ho => ?_⟩
    have bA : But m H1 H5 := (But.of s1).trans (b3.trans ((But.of s4).trans b5))
    have hc5 : SqT K H5 ca (cL c) := bA.seqT m1 hc1
    obtain ⟨d0, hd0, ok0⟩ : ∃ d0, Dp K H5 o d0 ∧ okIt d0 = true := by
      have ht : Dp K H5 (.ref t1) (.tuple [.int 1]) := .tup (tup_of (b5.tup m4 (s4 _ _ g13))) (.cons (.int 1) .nil)
      simp only [List.mem_cons, List.not_mem_nil, or_false] at ho
      rcases ho with rfl | rfl | rfl | rfl | rfl | rfl | rfl
      · exact ⟨_, .int _, rfl⟩
      · exact ⟨_, .int _, rfl⟩
      · exact ⟨_, .non, rfl⟩
      · exact ⟨_, .bl true, rfl⟩
      · exact ⟨_, ht, by decide⟩
      · exact ⟨_, .str "0", by decide +kernel⟩
      · exact ⟨_, .int _, rfl⟩
    refine ⟨_, _, rfl, ?_⟩
    first | refine sigN [some (.ref m), some (.int (p)), some (.ref ca), some (.int (k)), some o] (by rfl) ?_ | refine sig [some (.ref m), some (.int (p)), some (.ref ca), some (.int (k)), some o] (by rfl) ?_
    refine ⟨_, rfl, .ref ca, rfl, 4, rfl, slA_any hc5 fun p1 H6 s6 e1 => ?_⟩
    refine ⟨.ref ca, rfl, (by show 1 ≤ sizeLine; decide), fun u1 nu1 => ?_⟩
    have s7 := Same.new (H := H6) (p := u1) (o := .tup [.int 0]) nu1
    have g7 : upd H6 u1 (.tup [.int 0]) u1 = some (.tup [.int 0]) := upd_same
    generalize upd H6 u1 (.tup [.int 0]) = H7 at s7 g7 ⊢
    have s57 := s6.trans s7
    refine catA_any (Same.tup s57 hc5) (tup_of g7) (by show 5 + 1 ≤ 1000; decide) fun p2 H8 s8 e2 => ?_
    have s58 := s57.trans s8
    refine ⟨.ref ca, rfl, ca, _, rfl, .inr (Same.tup s58 hc5), fun l2 nl2 => ?_⟩
    have s9 := Same.new (H := H8) (p := l2) (o := .lst (cL c)) nl2
    have g9 : upd H8 l2 (.lst (cL c)) l2 = some (.lst (cL c)) := upd_same
    generalize upd H8 l2 (.lst (cL c)) = H9 at s9 g9 ⊢
    have s59 := s58.trans s9
    refine ⟨.ref ca, rfl, _, rfl, k, rfl, slA_any (Same.tup s59 hc5) fun p3 Ha sa ea => ?_⟩
    refine ⟨_, rfl, (by show 1 ≤ sizeLine; decide), fun u2 nu2 => ?_⟩
    have sb := Same.new (H := Ha) (p := u2) (o := .tup [o]) nu2
    have gb : upd Ha u2 (.tup [o]) u2 = some (.tup [o]) := upd_same
    generalize upd Ha u2 (.tup [o]) = Hb at sb gb ⊢
    obtain ⟨ms1, c1, l1⟩ := cut_int (ns := [c.a1, c.a2, c.a3, c.a4, c.a6]) none (some k)
    obtain ⟨ms2, c2, l2'⟩ := cut_int (ns := [c.a1, c.a2, c.a3, c.a4, c.a6]) (some (k + 1)) none
    have z1 : ms1.length ≤ 5 := l1
    have z2 : ms2.length ≤ 5 := l2'
    replace c1 : cutV (cL c) none (some k) = ms1.map V.int := c1
    replace c2 : cutV (cL c) (some (k + 1)) none = ms2.map V.int := c2
    rw [c1] at ea
    refine catA_any (Same.tup sb ea) (tup_of gb) (by rw [List.length_map]; show _ + 1 ≤ 1000; omega) fun p4 Hc sc e4 => ?_
    have s5c := ((s59.trans sa).trans sb).trans sc
    refine ⟨.ref ca, rfl, _, rfl, _, _, rfl, rfl, _, rfl, ?_⟩
    unfold tNoPart
    refine slA_any (Same.tup s5c hc5) fun p5 Hd sd e5 => ?_
    rw [c2] at e5
    refine catA_any (Same.tup sd e4) e5 (by rw [List.length_append, List.length_map, List.length_map]; show _ + 1 + _ ≤ 1000; omega) fun p6 He se e6 => ?_
    have s5e := (s5c.trans sd).trans se
    refine ⟨(by show 5 ≤ sizeLine; decide), fun z nz => ?_⟩
    have sf := Same.new (H := He) (p := z) (o := .tup [.int 0, .int 0, .int 0, .int 0, .int 0]) nz
    have gf : upd He z (.tup [.int 0, .int 0, .int 0, .int 0, .int 0]) z = some (.tup [.int 0, .int 0, .int 0, .int 0, .int 0]) := upd_same
    generalize upd He z (.tup [.int 0, .int 0, .int 0, .int 0, .int 0]) = Hf at sf gf ⊢
    refine ⟨(by show 6 ≤ sizeLine; decide), fun r nr => ?_⟩
    have sg := Same.new (H := Hf) (p := r) (o := .lst [.ref p1, .ref p2, .ref l2, .ref p6, .non, .ref z]) nr
    have gg : upd Hf r (.lst [.ref p1, .ref p2, .ref l2, .ref p6, .non, .ref z]) r = some (.lst [.ref p1, .ref p2, .ref l2, .ref p6, .non, .ref z]) := upd_same
    generalize upd Hf r (.lst [.ref p1, .ref p2, .ref l2, .ref p6, .non, .ref z]) = Hg at sg gg ⊢
    have s5g := (s5e.trans sf).trans sg
    have mg' := m5.same s5g
    refine ⟨m, cl, r, _, _, rfl, lst_of gg, (by show 0 < 6; decide), (by show 6 ≤ 1000; decide), by omega, mg', fun Hz v bz mz hv => ?_⟩
    obtain ⟨d, hd, ok⟩ : ∃ d, Vd K Hg v d ∧ itOk d = true := by
      simp only [List.mem_cons, List.not_mem_nil, or_false] at hv
      rcases hv with rfl | rfl | rfl | rfl | rfl | rfl
      · obtain ⟨ms, c3, _⟩ := cut_int (ns := [c.a1, c.a2, c.a3, c.a4, c.a6]) none (some 4)
        replace c3 : cutV (cL c) none (some 4) = ms.map V.int := c3
        rw [c3] at e1
        exact ⟨.tuple (ms.map PyData.int), .data (.tup (Same.tup ((((((((s7.trans s8).trans s9).trans sa).trans sb).trans sc).trans sd).trans se).trans (sf.trans sg)) e1) (ofInts _)) rfl, ok_ints _⟩
      · exact ⟨.tuple ((([c.a1, c.a2, c.a3, c.a4, c.a6] : List Int) ++ [0]).map PyData.int), .data (.tup (Same.tup (((((((s9.trans sa).trans sb).trans sc).trans sd).trans se).trans (sf.trans sg))) e2) (by exact ofInts (([c.a1, c.a2, c.a3, c.a4, c.a6] : List Int) ++ [0]))) rfl, (by exact ok_ints (([c.a1, c.a2, c.a3, c.a4, c.a6] : List Int) ++ [0]))⟩
      · exact ⟨.list (([c.a1, c.a2, c.a3, c.a4, c.a6] : List Int).map PyData.int), .lst ((((((sa.trans sb).trans sc).trans sd).trans se).trans (sf.trans sg)) _ _ g9) (ofInts ([c.a1, c.a2, c.a3, c.a4, c.a6] : List Int)), rfl⟩
      · refine ⟨.tuple (ms1.map PyData.int ++ [d0] ++ ms2.map PyData.int), .data (.tup (Same.tup (sf.trans sg) e6) (app (app (ofInts _) (.cons (dpS s5g hd0) .nil)) (ofInts _))) rfl, ?_⟩
        show List.all _ okIt = true
        rw [List.all_append, List.all_append, ok_ints, ok_ints, List.all_cons, ok0]
        rfl
      · exact ⟨.none, .data .non rfl, rfl⟩
      · exact ⟨.tuple (([0, 0, 0, 0, 0] : List Int).map PyData.int), .data (.tup (tup_of (sg _ _ gf)) (ofInts ([0, 0, 0, 0, 0] : List Int))) rfl, ok_ints _⟩
    exact q Hz v d (b1.trans (bA.trans ((But.of s5g).trans bz))) (mz.up (by omega)) (hd.but bz mg') ok
end
end K40
set_option Elab.async false
set_option linter.all false
set_option maxRecDepth 100000
set_option maxHeartbeats 4000000
namespace K40
open PySem PySem.Spec PyProof.Rows L2 Gd QM K45M EcZ SvM PaM DpM
def pD (x y : Int) : PyData := .tuple [.int x, .int y]
def dueD (n : Nat) (c : C5) : List PyData := .tuple [] :: dps (due n c n)
theorem any_dps {ps : List (Int × Int)} {x y : Int} : ((dps ps).any fun z => PyData.eqv z (pD x y)) = decide ((x, y) ∈ ps) := by
  induction ps with
  | nil => rfl
  | cons p ps ih =>
    show ((.tuple [.int p.1, .int p.2] :: dps ps).any _) = _
    rw [List.any_cons, ih, Bool.eq_iff_iff, Bool.or_eq_true, decide_eq_true_iff, decide_eq_true_iff, List.mem_cons]
    refine or_congr ?_ Iff.rfl
    show (p.1 == x && (p.2 == y && true)) = true ↔ _
    rw [Bool.and_true, Bool.and_eq_true, beq_iff_eq, beq_iff_eq, Prod.mk.injEq, eq_comm, @eq_comm _ p.2]
theorem any_dps01 {ps : List (Int × Int)} : ((dps ps).any fun z => PyData.eqv z (.tuple [.int 0, .bool true])) = decide (((0 : Int), (1 : Int)) ∈ ps) := by
  induction ps with
  | nil => rfl
  | cons p ps ih =>
    show ((.tuple [.int p.1, .int p.2] :: dps ps).any _) = _
    rw [List.any_cons, ih, Bool.eq_iff_iff, Bool.or_eq_true, decide_eq_true_iff, decide_eq_true_iff, List.mem_cons]
    refine or_congr ?_ Iff.rfl
    show (p.1 == 0 && (p.2 == 1 && true)) = true ↔ _
    rw [Bool.and_true, Bool.and_eq_true, beq_iff_eq, beq_iff_eq, @eq_comm _ ((0 : Int), (1 : Int)), Prod.mk.injEq]
theorem any_no {ps : List (Int × Int)} {d : PyData} (h : ∀ x y, PyData.eqv (pD x y) d = false) : ((dps ps).any fun z => PyData.eqv z d) = false := by
  rw [List.any_eq_false]
  intro z hz
  obtain ⟨p, _, rfl⟩ := List.mem_map.mp hz
  have := h p.1 p.2
  unfold pD at this
  rw [this]
  decide
theorem shown_no : ∀ x < 31, ∀ y < 31, (pD ((x : Nat) : Int) ((y : Nat) : Int)).shown ≠ (PyData.tuple [.int 0, .bool true]).shown := by decide +kernel
theorem shown_no0 : (PyData.tuple []).shown ≠ (PyData.tuple [.int 0, .bool true]).shown := by decide +kernel
/-- in the row of all points, and shown as one of them -/
def isIn (n : Nat) (c : C5) (d : PyData) : Bool := (dueD n c).any fun z => PyData.eqv z d
def rep (n : Nat) (c : C5) (d : PyData) : Bool := ((dueD n c).map PyData.shown).contains d.shown
def pts (u v p : Int) : List PyData := [pD u v, pD 0 p, pD p 0, .tuple [.int 0], .none, .tuple [.int 0, .bool true], .tuple [.int 1, .int 1, .int 1], .tuple [], pD (-1) 0]
theorem rep_mem {n : Nat} {c : C5} {d : PyData} (h : d ∈ dueD n c) : rep n c d = true := List.contains_iff_mem.mpr (List.mem_map.mpr ⟨d, h, rfl⟩)
theorem right_pair (n : Nat) (c : C5) (x y : Int) : (isIn n c (pD x y) && rep n c (pD x y)) = isPt (n : Int) c (pD x y) := by
  have e1 : isIn n c (pD x y) = decide ((x, y) ∈ due n c n) := by
    rw [← any_dps]
    rfl
  have e2 : isPt (n : Int) c (pD x y) = decide ((x, y) ∈ due n c n) := by
    rw [Bool.eq_iff_iff, decide_eq_true_iff, due_mem]
    have e3 : isPt (n : Int) c (pD x y) = ((decide (0 ≤ x ∧ x < (n : Int)) && decide (0 ≤ y ∧ y < (n : Int))) && decide (lhs c x y % (n : Int) = 0)) := by
      show (PyData.eqv (pD x y) (.tuple []) || (areD (n : Int) 2 (pD x y) && decide (lhs c x y % (n : Int) = 0))) = _
      have e4 : areD (n : Int) 2 (pD x y) = (decide (0 ≤ x ∧ x < (n : Int)) && decide (0 ≤ y ∧ y < (n : Int))) := by
        simp [areD, pD, isDg]
      rw [e4, show PyData.eqv (pD x y) (.tuple []) = false from rfl, Bool.false_or]
    rw [e3, Bool.and_eq_true, Bool.and_eq_true, decide_eq_true_iff, decide_eq_true_iff, decide_eq_true_iff]
    constructor
    · rintro ⟨⟨⟨a, b⟩, c, d⟩, e⟩
      exact ⟨a, b, c, d, e⟩
    · rintro ⟨a, b, c, d, e⟩
      exact ⟨⟨⟨a, b⟩, c, d⟩, e⟩
  rw [e1, e2]
  by_cases h : (x, y) ∈ due n c n
  · rw [decide_eq_true h, rep_mem]
    · rfl
    · exact List.mem_cons_of_mem _ (List.mem_map.mpr ⟨(x, y), h, rfl⟩)
  · rw [decide_eq_false h]
    rfl
theorem right_all {n : Nat} (hn : n ≤ 31) (c : C5) (u v : Int) : ∀ d ∈ pts u v (n : Int), (isIn n c d && rep n c d) = isPt (n : Int) c d := by
  intro d hd
  have no : ∀ d : PyData, (∀ x y, PyData.eqv (pD x y) d = false) → PyData.eqv (.tuple []) d = false → isPt (n : Int) c d = false → (isIn n c d && rep n c d) = isPt (n : Int) c d := fun d h h0 h1 => by
    have : isIn n c d = false := by
      show (PyData.eqv (.tuple []) d || (dps (due n c n)).any fun z => PyData.eqv z d) = false
      rw [any_no h, h0]
      rfl
    rw [this, h1]
    rfl
  simp only [pts, List.mem_cons, List.not_mem_nil, or_false] at hd
  rcases hd with rfl | rfl | rfl | rfl | rfl | rfl | rfl | rfl | rfl
  · exact right_pair n c _ _
  · exact right_pair n c _ _
  · exact right_pair n c _ _
  · exact no _ (fun x y => by show (_ && false) = false; rw [Bool.and_false]) rfl rfl
  · exact no _ (fun x y => rfl) rfl rfl
  · have h1 : rep n c (.tuple [.int 0, .bool true]) = false := by
      unfold rep
      rw [Bool.eq_false_iff]
      intro h
      obtain ⟨z, hz, e⟩ := List.mem_map.mp (List.contains_iff_mem.mp h)
      rcases List.mem_cons.mp hz with rfl | hz
      · exact shown_no0 e
      · obtain ⟨⟨x, y⟩, hp, rfl⟩ := List.mem_map.mp hz
        obtain ⟨x0, x1, y0, y1, _⟩ := due_mem.mp hp
        have := shown_no x.toNat (by omega) y.toNat (by omega)
        rw [Int.toNat_of_nonneg x0, Int.toNat_of_nonneg y0] at this
        exact this e
    have h2 : isPt (n : Int) c (.tuple [.int 0, .bool true]) = false := by
      have e4 : areD (n : Int) 2 (.tuple [.int 0, .bool true]) = false := by
        simp [areD, isDg]
      show (PyData.eqv _ (.tuple []) || (areD (n : Int) 2 _ && _)) = false
      rw [e4]
      rfl
    rw [h1, h2, Bool.and_false]
  · exact no _ (fun x y => by show (_ && (_ && false)) = false; rw [Bool.and_false, Bool.and_false]) rfl rfl
  · rw [show isPt (n : Int) c (.tuple []) = true from rfl, rep_mem List.mem_cons_self]
    rfl
  · exact right_pair n c _ _
theorem pts_sh (u v p : Int) : ∀ d ∈ pts u v p, SeqAt.shaped d = true ∧ notL d = true := by
  intro d hd
  simp only [pts, List.mem_cons, List.not_mem_nil, or_false] at hd
  rcases hd with rfl | rfl | rfl | rfl | rfl | rfl | rfl | rfl | rfl <;> exact ⟨rfl, rfl⟩
end K40
set_option Elab.async false
set_option linter.all false
set_option maxRecDepth 100000
set_option maxHeartbeats 4000000
namespace K40
open PySem PySem.Spec PyProof.Rows L2 Gd QM K45M EcZ SvM PaM DpM
theorem inV_strs (x : Str) (L : List Str) : inV (.str x) (L.map V.str) = L.contains x := by
  unfold inV
  induction L with
  | nil => rfl
  | cons y L ih =>
    rw [List.map_cons, List.any_cons, ih, List.contains_cons]
    congr 1
    show (y == x) = (x == y)
    rw [Bool.eq_iff_iff, beq_iff_eq, beq_iff_eq, eq_comm]
theorem flat_strs (L : List Str) : (L.map V.str).all flatV = true := by
  rw [List.all_map]
  exact List.all_eq_true.mpr fun x _ => rfl
theorem due_len9 {n : Nat} (hn : n ≤ 31) (c : C5) : (due n c n).length ≤ 961 := by
  have l2 := due_le n c n
  have l3 : n * n ≤ 31 * 31 := Nat.mul_le_mul hn hn
  omega
theorem rd_ok {n : Nat} (hn : n ≤ 31) (c : C5) (i : Int) (hi : B 20 i) : okk 20 (.list [.tuple (dueD n c), .int i]) = true ∧ (PyData.list [.tuple (dueD n c), .int i]).depth ≤ 40 ∧ wtk 20 (.list [.tuple (dueD n c), .int i]) ≤ 16000000 := by
  have hl := due_len9 hn c
  have hb : ∀ p ∈ due n c n, B 20 p.1 ∧ B 20 p.2 := fun p hp => by
    obtain ⟨x0, x1, y0, y1, _⟩ := due_mem.mp (show (p.1, p.2) ∈ due n c n from hp)
    constructor <;> (unfold Gd.B; omega)
  refine ⟨?_, ?_, ?_⟩
  · have h1 := dps_okk (k := 20) (by decide) hb
    have h2 := log_k hi (by decide)
    show (okkAll 20 (dueD n c) && (decide (i.natAbs.log2 < 20) && true)) = true
    rw [decide_eq_true h2]
    show ((true && okkAll 20 (dps (due n c n))) && _) = true
    rw [h1]
    rfl
  · have h1 := dps_depth (due n c n)
    simp only [PyData.depth, PyData.depthAll, dueD]
    omega
  · have h1 := dps_wtk 20 (due n c n)
    simp only [wtk, wtkAll, dueD]
    rw [h1]
    omega
theorem sh_due {n : Nat} (c : C5) : SeqAt.shaped (.tuple (dueD n c)) = true := by
  refine sh_tup fun d hd => ?_
  rcases List.mem_cons.mp hd with rfl | hd
  · rfl
  · obtain ⟨p, _, rfl⟩ := List.mem_map.mp hd
    rfl
theorem okk_d {n : Nat} {c : C5} (hn : n ≤ 31) : ∀ d ∈ dueD n c, okk 20 d = true ∧ d.depth ≤ 40 ∧ wtk 20 d ≤ 16000000 := by
  intro d hd
  rcases List.mem_cons.mp hd with rfl | hd
  · exact ⟨rfl, by decide, by decide⟩
  · obtain ⟨⟨x, y⟩, hp, rfl⟩ := List.mem_map.mp hd
    obtain ⟨x0, x1, y0, y1, _⟩ := due_mem.mp hp
    have h1 : (x.natAbs).log2 < 20 := log_k (show B 20 x by unfold Gd.B; omega) (by decide)
    have h2 : (y.natAbs).log2 < 20 := log_k (show B 20 y by unfold Gd.B; omega) (by decide)
    refine ⟨?_, by simp [PyData.depth, PyData.depthAll], by simp [wtk, wtkAll]⟩
    show (decide (x.natAbs.log2 < 20) && (decide (y.natAbs.log2 < 20) && true)) = true
    rw [decide_eq_true h1, decide_eq_true h2]
    rfl
theorem okk_pts {u v p : Int} (hu : B 20 u) (hv : B 20 v) (hp : B 20 p) : ∀ d ∈ pts u v p, okk 20 d = true ∧ d.depth ≤ 40 ∧ wtk 20 d ≤ 16000000 := by
  have pr : ∀ x y : Int, B 20 x → B 20 y → okk 20 (pD x y) = true ∧ (pD x y).depth ≤ 40 ∧ wtk 20 (pD x y) ≤ 16000000 := fun x y hx hy => by
    have h1 := log_k hx (by decide)
    have h2 := log_k hy (by decide)
    refine ⟨?_, by simp [pD, PyData.depth, PyData.depthAll], by simp [pD, wtk, wtkAll]⟩
    show (decide (x.natAbs.log2 < 20) && (decide (y.natAbs.log2 < 20) && true)) = true
    rw [decide_eq_true h1, decide_eq_true h2]
    rfl
  have l0 : B 20 (0 : Int) := B.lit (by decide)
  intro d hd
  simp only [pts, List.mem_cons, List.not_mem_nil, or_false] at hd
  rcases hd with rfl | rfl | rfl | rfl | rfl | rfl | rfl | rfl | rfl
  · exact pr _ _ hu hv
  · exact pr _ _ l0 hp
  · exact pr _ _ hp l0
  · exact ⟨by decide +kernel, by decide +kernel, by decide +kernel⟩
  · exact ⟨by decide +kernel, by decide +kernel, by decide +kernel⟩
  · exact ⟨by decide +kernel, by decide +kernel, by decide +kernel⟩
  · exact ⟨by decide +kernel, by decide +kernel, by decide +kernel⟩
  · exact ⟨by decide +kernel, by decide +kernel, by decide +kernel⟩
  · exact pr _ _ (B.lit (by decide)) l0
theorem okk_c {p : Int} {c : C5} (h : Dig p c) (hp : p ≤ 1000) : okk 20 (.tuple (dL c)) = true ∧ (PyData.tuple (dL c)).depth ≤ 40 ∧ wtk 20 (.tuple (dL c)) ≤ 16000000 := by
  have hs := h.sm hp
  have h1 := log_k (hs.h1.up (n := 20) (by decide)) (by decide)
  have h2 := log_k (hs.h2.up (n := 20) (by decide)) (by decide)
  have h3 := log_k (hs.h3.up (n := 20) (by decide)) (by decide)
  have h4 := log_k (hs.h4.up (n := 20) (by decide)) (by decide)
  have h6 := log_k (hs.h6.up (n := 20) (by decide)) (by decide)
  refine ⟨?_, by simp [dL, PyData.depth, PyData.depthAll], by simp [dL, wtk, wtkAll]⟩
  show (decide (c.a1.natAbs.log2 < 20) && (decide (c.a2.natAbs.log2 < 20) && (decide (c.a3.natAbs.log2 < 20) && (decide (c.a4.natAbs.log2 < 20) && (decide (c.a6.natAbs.log2 < 20) && true))))) = true
  rw [decide_eq_true h1, decide_eq_true h2, decide_eq_true h3, decide_eq_true h4, decide_eq_true h6]
  rfl
theorem cub_md (p : Int) (c : C5) (x : Int) : Mo p (cub (md p c) x) (cub c x) := by
  have h2 : Mo p (md p c).b2 c.b2 := by
    show Mo p (c.a1 % p * (c.a1 % p) + 4 * (c.a2 % p)) (c.a1 * c.a1 + 4 * c.a2)
    exact (Mo.mod.mul Mo.mod).add (Mo.rfl'.mul Mo.mod)
  have h4 : Mo p (md p c).b4 c.b4 := by
    show Mo p (2 * (c.a4 % p) + c.a1 % p * (c.a3 % p)) (2 * c.a4 + c.a1 * c.a3)
    exact (Mo.rfl'.mul Mo.mod).add (Mo.mod.mul Mo.mod)
  have h6 : Mo p (md p c).b6 c.b6 := by
    show Mo p (c.a3 % p * (c.a3 % p) + 4 * (c.a6 % p)) (c.a3 * c.a3 + 4 * c.a6)
    exact (Mo.mod.mul Mo.mod).add (Mo.rfl'.mul Mo.mod)
  unfold cub
  exact ((Mo.rfl'.add ((h2.mul Mo.rfl').mul Mo.rfl')).add ((Mo.rfl'.mul h4).mul Mo.rfl')).add h6
theorem sum_tw {n d : Nat} (hn0 : 0 < n) (ho : (n : Int) % 2 = 1) (pr : Pr n d) (c : C5) : (due n c n).length + (due n (md (n : Int) (tw (d : Int) c)) n).length = 2 * n := by
  obtain ⟨t8, u8⟩ := pr.u8
  obtain ⟨t4, u4⟩ := pr.u4
  have h := cnt_twist hn0 u8 u4 pr.two c
  rw [due_len ho, due_len ho]
  have e : cntTo n n (cub (md (n : Int) (tw (d : Int) c))) = cntTo n n (cub (tw (d : Int) c)) := by
    unfold cntTo
    congr 1
    exact List.map_congr_left fun x _ => nsq_congr (cub_md _ _ _)
  rw [e]
  exact h
section
variable {P : Program} {w : World} {K : PySem.W.Frag} {mg : Str → Option Value} {base : Heap}
def sp_law_small_right (K : PySem.W.Frag) : Sp := fun vs H Q _ => ∃ (m cl ca : Addr) (n N : Nat) (c : C5), vs = [.ref m, .int (n : Int), .ref ca] ∧ SqT K H ca (cL c) ∧ Dig (n : Int) c ∧ n ≤ 31 ∧ 0 < n ∧ (n = 2 ∨ 2 < n ∧ ∃ d, Pr n d) ∧ N ≤ 900000 ∧ MAt H m cl N ∧ ∀ H', But m H H' → MAt H' m cl (N + 2) → Q (.bl true) H'
abbrev s__law_small_right : Stmt := topS 42
theorem sc__law_small_right : FnScope ["m", "p", "five_v", "due", "point", "is_right", "one", "other", "told"] ["m", "p", "five_v"] (defScope s__law_small_right) := ⟨rfl, rfl, rfl, by decide +kernel, rfl, by decide +kernel, by decide +kernel⟩
theorem k_law_small_right (T : Tx K mg) (D : Df K mg "_law_small_right" s__law_small_right ["m", "p", "five_v"]) (c_law_p_points : Kl P w K mg base 1 "_law_p_points" (sp_law_p_points K)) (c_law_twist : Kl P w K mg base 2 "_law_twist" (sp_law_twist K)) (c_twist_over : Kl P w K mg base 3 "twist_over" (sp_twist_over K)) (c_law_draw : Kl P w K mg base 1 "_law_draw" (sp_law_draw K)) (c_is_point_over : Kl P w K mg base 4 "is_point_over" (sp_is_point_over K)) (c_points_over : Kl P w K mg base 4 "points_over" (sp_points_over K)) (c_count_over : Kl P w K mg base 5 "count_over" (sp_count_over K)) : Kg P w K mg base 6 "_law_small_right" (sp_law_small_right K) := by
  have nd := sc__law_small_right.nd
  refine Kg.by_body D sc__law_small_right (fun vs H Q E h => ?_) (fun f cdv A outer s H vs Q E hgd hr h => ?_)
  · obtain ⟨_, _, _, _, _, _, rfl, _⟩ := h
    rfl
  · obtain ⟨m, cl, ca, n, N, c, rfl, hc, hdg, hn9, hn0, hnp, hN, hM, q⟩ := h
    have hu1 := hu_of hr
    refine ⟨_, (pss_cons (ps_set (i := 3) nd rfl (by first | exact Or.inl rfl | exact Or.inr rfl) (pe_callTy call_tuple_of (by rfl) T.tuple (by decide +kernel) (pa_cons (pe_k c_law_p_points  hr (by decide) (by rfl) (pa_cons (pv 1) (pa_cons (pv 2) pa_nil))) pa_nil)))
      (pss_cons (ps_if (pt_cmpR op_ne (pe_callB (PaM.call_reprK hgd hr.units) (by rfl) T.repr (by decide +kernel) (pa_cons (pe_lst (pa_cons (pe_k c_points_over  hr (by decide) (by rfl) (pa_cons (pv 1) (pa_cons (pv 2) pa_nil))) (pa_cons (pe_k c_count_over  hr (by decide) (by rfl) (pa_cons (pv 1) (pa_cons (pv 2) pa_nil))) pa_nil))) pa_nil)) (pe_callB (PaM.call_reprK hgd hr.units) (by rfl) T.repr (by decide +kernel) (pa_cons (pe_lst (pa_cons (pv 3) (pa_cons (pe_callB call_len_seq (by rfl) T.len (by decide +kernel) (pa_cons (pv 3) pa_nil)) pa_nil))) pa_nil)) (nomark _)) (pss_one (ps_ret pe_bl)) pss_nil)
      (pss_cons (ps_for PassesOwn.never rfl (pi_list (pe_lst (pa_cons (pe_tup (pa_cons (pe_k c_law_draw  hr (by decide) (by rfl) (pa_cons (pv 0) (pa_cons (pv 1) pa_nil))) (pa_cons (pe_k c_law_draw  hr (by decide) (by rfl) (pa_cons (pv 0) (pa_cons (pv 1) pa_nil))) pa_nil))) (pa_cons (pe_tup (pa_cons pe_int (pa_cons (pv 1) pa_nil))) (pa_cons (pe_tup (pa_cons (pv 1) (pa_cons pe_int pa_nil))) (pa_cons (pe_tup (pa_cons pe_int pa_nil)) (pa_cons pe_non (pa_cons (pe_tup (pa_cons pe_int (pa_cons pe_bl pa_nil))) (pa_cons (pe_tup (pa_cons pe_int (pa_cons pe_int (pa_cons pe_int pa_nil)))) (pa_cons (pe_tup pa_nil) (pa_cons (pe_tup (pa_cons (pe_un un_neg pe_int) (pa_cons pe_int pa_nil))) pa_nil))))))))))) (pg_name (i := 4) nd rfl (by first | exact Or.inl rfl | exact Or.inr rfl)) (C8.pss_cut (ps_set (i := 5) nd rfl (by first | exact Or.inl rfl | exact Or.inr rfl) (pe_and (pe_cmpR (op_inDT (un65 hr)) (pv 4) (pv 3) rfl) (pe_one (pe_cmpR op_in_seq (pe_callB (PaM.call_reprK hgd hr.units) (by rfl) T.repr (by decide +kernel) (pa_cons (pv 4) pa_nil)) (pe_lc (own := [("one", 6)]) (g := gName 6) rfl nd (pi_tup (pv 3)) (blkOk_by (N := ["m", "p", "five_v", "due", "point", "is_right", "one", "other", "told"]) (sc := defScope s__law_small_right) (by decide +kernel)) (fun _ _ _ _ _ => (pg_name (i := 6) nd rfl (by first | exact Or.inl rfl | exact Or.inr rfl))) (fun _ _ _ _ _ => pts_nil) (fun _ _ _ _ _ => (pe_callB (call_reprKK (K:=K) rfl hgd hr.units) (by rfl) T.repr (by decide +kernel) (pa_cons (pv 6) pa_nil)))) rfl))))
      (pss_one (ps_if (pt_cmpR op_ne (pe_k c_is_point_over  hr (by decide) (by rfl) (pa_cons (pv 1) (pa_cons (pv 2) (pa_cons (pv 4) pa_nil)))) (pv 5) (nomark _)) (pss_one (ps_ret pe_bl)) pss_nil))))
      (pss_cons (ps_if (pt_cmpR op_gt (pv 1) pe_int (nomark _)) (pss_cons (ps_set (i := 7) nd rfl (by first | exact Or.inl rfl | exact Or.inr rfl) (pe_k c_law_twist  hr (by decide) (by rfl) (pa_cons (pv 1) (pa_cons (pv 2) pa_nil))))
      (pss_cons (ps_set (i := 8) nd rfl (by first | exact Or.inl rfl | exact Or.inr rfl) (pe_k c_twist_over  hr (by decide) (by rfl) (pa_cons (pv 1) (pa_cons (pv 2) pa_nil))))
      (pss_one (ps_if (PW.pt (pw_or (pt_cmpR op_ne (pe_callB (PaM.call_reprK hgd hr.units) (by rfl) T.repr (by decide +kernel) (pa_cons (pv 8) pa_nil)) (pe_callB (PaM.call_reprK hgd hr.units) (by rfl) T.repr (by decide +kernel) (pa_cons (pv 7) pa_nil)) (nomark _)) (pw_or1 (pt_cmpR op_ne (pe_op op_add (pe_callB call_len_seq (by rfl) T.len (by decide +kernel) (pa_cons (pv 3) pa_nil)) (pe_k c_count_over  hr (by decide) (by rfl) (pa_cons (pv 1) (pa_cons (pv 8) pa_nil)))) (pe_op op_add (pe_op op_mul pe_int (pv 1)) pe_int) (nomark _))))) (pss_one (ps_ret pe_bl)) pss_nil)))) pss_nil)
      (pss_one (ps_ret pe_bl)))))), ?_⟩
    have hm : Sm c := hdg.sm (by omega)
    have hodd : n = 2 ∨ (n : Int) % 2 = 1 := hnp.imp id fun z => by
      obtain ⟨d, pr⟩ := z.2
      have := pr.ns.odd
      omega
    refine ⟨_, rfl, .ref ca, rfl, n, ca, c, rfl, hc, hm, hn0, hn9, fun H1 l e ts s1 gl ge pa => ?_⟩
    refine ⟨l, _, rfl, .inl ⟨lst_of gl, fun du ndu => ?_⟩⟩
    have s2 := Same.new (H := H1) (p := du) (o := .tup (.ref e :: ts)) ndu
    have gd : upd H1 du (.tup (.ref e :: ts)) du = some (.tup (.ref e :: ts)) := upd_same
    generalize upd H1 du (.tup (.ref e :: ts)) = H2 at s2 gd ⊢
    first | refine sigN [some (.ref m), some (.int ((n : Int))), some (.ref ca), some (.ref du), none, none, none, none, none] (by rfl) ?_ | refine sig [some (.ref m), some (.int ((n : Int))), some (.ref ca), some (.ref du), none, none, none, none, none] (by rfl) ?_
    have dda : DpAll K H2 (.ref e :: ts) (dueD n c) := .cons (.tup (tup_of (s2 _ _ ge)) .nil) (PA.dp (pa.same s2))
    have ddu : Dp K H2 (.ref du) (.tuple (dueD n c)) := .tup (tup_of gd) dda
    have ld := due_len9 hn9 c
    have lt := pa.len
    have eln : ((V.ref e :: ts).length : Int) = ((1 + (due n c n).length : Nat) : Int) := by
      rw [List.length_cons, lt]
      omega
    have liB : B 20 ((1 + (due n c n).length : Nat) : Int) := by
      unfold Gd.B
      omega
    obtain ⟨k1, k2, k3⟩ := rd_ok hn9 c _ liB
    refine ⟨_, rfl, .ref ca, rfl, n, ca, c, rfl, Same.tup (s1.trans s2) hc, hm, hodd, hn9, fun H3 t e3 ts3 s3 g3 ge3 pa3 => ?_⟩
    refine ⟨_, rfl, .ref ca, rfl, n, ca, c, rfl, Same.tup ((s1.trans s2).trans s3) hc, hm, hodd, by omega, fun H4 s4 => ?_⟩
    refine ⟨(by show 2 ≤ sizeLine; decide), fun l1 nl1 => ?_⟩
    have s5 := Same.new (H := H4) (p := l1) (o := .lst [.ref t, .int ((1 + (due n c n).length : Nat) : Int)]) nl1
    have gl1 : upd H4 l1 (.lst [.ref t, .int ((1 + (due n c n).length : Nat) : Int)]) l1 = some (.lst [.ref t, .int ((1 + (due n c n).length : Nat) : Int)]) := upd_same
    generalize upd H4 l1 (.lst [.ref t, .int ((1 + (due n c n).length : Nat) : Int)]) = H5 at s5 gl1 ⊢
    have d1 : Dp K H5 (.ref l1) (.list [.tuple (dueD n c), .int ((1 + (due n c n).length : Nat) : Int)]) := .lst (lst_of gl1) (.cons (.tup (tup_of (s5 _ _ (s4 _ _ g3))) (.cons (.tup (tup_of (s5 _ _ (s4 _ _ ge3))) .nil) (PA.dp ((pa3.same s4).same s5)))) (.cons (.int _) .nil))
    refine ⟨.ref l1, _, 20, rfl, d1, by decide, by decide, k1, k2, k3, ?_⟩
    have s25 := s3.trans (s4.trans s5)
    refine ⟨_, rfl, _, rfl, du, _, rfl, .inr (tup_of (s25 _ _ gd)), ?_⟩
    rw [eln]
    refine ⟨(by show 2 ≤ sizeLine; decide), fun l2 nl2 => ?_⟩
    have s6 := Same.new (H := H5) (p := l2) (o := .lst [.ref du, .int ((1 + (due n c n).length : Nat) : Int)]) nl2
    have gl2 : upd H5 l2 (.lst [.ref du, .int ((1 + (due n c n).length : Nat) : Int)]) l2 = some (.lst [.ref du, .int ((1 + (due n c n).length : Nat) : Int)]) := upd_same
    generalize upd H5 l2 (.lst [.ref du, .int ((1 + (due n c n).length : Nat) : Int)]) = H6 at s6 gl2 ⊢
    have d2 : Dp K H6 (.ref l2) (.list [.tuple (dueD n c), .int ((1 + (due n c n).length : Nat) : Int)]) := .lst (lst_of gl2) (.cons (dpS (s25.trans s6) ddu) (.cons (.int _) .nil))
    refine ⟨.ref l2, _, 20, rfl, d2, by decide, by decide, k1, k2, k3, rfl, _, rfl, ?_⟩
    refine iteN (by simp) ?_
    have s26 := s25.trans s6
    have s06 := (s1.trans s2).trans s26
    have m6 := hM.same s06
    replace ddu := dpS s26 ddu
    replace dda := dpAllS s26 dda
    have gdu : H6 du = some (.tup (.ref e :: ts)) := s26 _ _ gd
    have hc6 := Same.tup s06 hc
    clear s1 s2 s3 s4 s5 s6 s25 s26 d1 d2 gl1 gl2 g3 ge3 pa3 k1 k2 k3 gd gl
    have np : (0 : Int) < (n : Int) := by omega
    refine ⟨_, rfl, _, rfl, m, cl, (n : Int), N, rfl, np, by omega, by omega, m6, fun H7 u b7 m7 u0 u1 => ?_⟩
    refine ⟨_, rfl, _, rfl, m, cl, (n : Int), N + 1, rfl, np, by omega, by omega, m7, fun H8 v b8 m8 v0 v1 => ?_⟩
    have b68 := b7.trans b8
    replace ddu := dpB b68 m6 ddu
    replace dda := dpAllB b68 m6 dda
    replace gdu := b68.tup m6 gdu
    have hc8 := b68.seqT m6 hc6
    have b08 : But m H H8 := (But.of s06).trans b68
    refine ⟨(by show 2 ≤ sizeLine; decide), fun t1 h1 => ?_⟩
    have r1 := Same.new (H := H8) (p := t1) (o := .tup [.int u, .int v]) h1
    have g1 : upd H8 t1 (.tup [.int u, .int v]) t1 = some (.tup [.int u, .int v]) := upd_same
    generalize upd H8 t1 (.tup [.int u, .int v]) = J1 at r1 g1 ⊢
    refine ⟨_, rfl, (by show 2 ≤ sizeLine; decide), fun t2 h2 => ?_⟩
    have r2 := Same.new (H := J1) (p := t2) (o := .tup [.int 0, .int (n : Int)]) h2
    have g2 : upd J1 t2 (.tup [.int 0, .int (n : Int)]) t2 = some (.tup [.int 0, .int (n : Int)]) := upd_same
    generalize upd J1 t2 (.tup [.int 0, .int (n : Int)]) = J2 at r2 g2 ⊢
    refine ⟨_, rfl, (by show 2 ≤ sizeLine; decide), fun t3 h3 => ?_⟩
    have r3 := Same.new (H := J2) (p := t3) (o := .tup [.int (n : Int), .int 0]) h3
    have g3 : upd J2 t3 (.tup [.int (n : Int), .int 0]) t3 = some (.tup [.int (n : Int), .int 0]) := upd_same
    generalize upd J2 t3 (.tup [.int (n : Int), .int 0]) = J3 at r3 g3 ⊢
    refine ⟨(by show 1 ≤ sizeLine; decide), fun t4 h4 => ?_⟩
    have r4 := Same.new (H := J3) (p := t4) (o := .tup [.int 0]) h4
    have g4 : upd J3 t4 (.tup [.int 0]) t4 = some (.tup [.int 0]) := upd_same
    generalize upd J3 t4 (.tup [.int 0]) = J4 at r4 g4 ⊢
    refine ⟨(by show 2 ≤ sizeLine; decide), fun t5 h5 => ?_⟩
    have r5 := Same.new (H := J4) (p := t5) (o := .tup [.int 0, .bl true]) h5
    have g5 : upd J4 t5 (.tup [.int 0, .bl true]) t5 = some (.tup [.int 0, .bl true]) := upd_same
    generalize upd J4 t5 (.tup [.int 0, .bl true]) = J5 at r5 g5 ⊢
    refine ⟨(by show 3 ≤ sizeLine; decide), fun t6 h6 => ?_⟩
    have r6 := Same.new (H := J5) (p := t6) (o := .tup [.int 1, .int 1, .int 1]) h6
    have g6 : upd J5 t6 (.tup [.int 1, .int 1, .int 1]) t6 = some (.tup [.int 1, .int 1, .int 1]) := upd_same
    generalize upd J5 t6 (.tup [.int 1, .int 1, .int 1]) = J6 at r6 g6 ⊢
    refine ⟨(by show 0 ≤ sizeLine; decide), fun t7 h7 => ?_⟩
    have r7 := Same.new (H := J6) (p := t7) (o := .tup []) h7
    have g7 : upd J6 t7 (.tup []) t7 = some (.tup []) := upd_same
    generalize upd J6 t7 (.tup []) = J7 at r7 g7 ⊢
    refine ⟨_, rfl, (by show 2 ≤ sizeLine; decide), fun t8 h8 => ?_⟩
    have r8 := Same.new (H := J7) (p := t8) (o := .tup [.int (-1), .int 0]) h8
    have g8 : upd J7 t8 (.tup [.int (-1), .int 0]) t8 = some (.tup [.int (-1), .int 0]) := upd_same
    generalize upd J7 t8 (.tup [.int (-1), .int 0]) = J8 at r8 g8 ⊢
    refine ⟨(by show 9 ≤ sizeLine; decide), fun l hl => ?_⟩
    have r9 := Same.new (H := J8) (p := l) (o := .lst [.ref t1, .ref t2, .ref t3, .ref t4, .non, .ref t5, .ref t6, .ref t7, .ref t8]) hl
    have gl : upd J8 l (.lst [.ref t1, .ref t2, .ref t3, .ref t4, .non, .ref t5, .ref t6, .ref t7, .ref t8]) l = some (.lst [.ref t1, .ref t2, .ref t3, .ref t4, .non, .ref t5, .ref t6, .ref t7, .ref t8]) := upd_same
    generalize upd J8 l (.lst [.ref t1, .ref t2, .ref t3, .ref t4, .non, .ref t5, .ref t6, .ref t7, .ref t8]) = J9 at r9 gl ⊢
    have e8 := r9
    have e7 := r8.trans e8
    have e6 := r7.trans e7
    have e5 := r6.trans e6
    have e4 := r5.trans e5
    have e3 := r4.trans e4
    have e2 := r3.trans e3
    have e1 := r2.trans e2
    have dpt : DpAll K J9 [.ref t1, .ref t2, .ref t3, .ref t4, .non, .ref t5, .ref t6, .ref t7, .ref t8] (pts u v (n : Int)) := by
      refine .cons (.tup (tup_of (e1 _ _ g1)) (.cons (.int _) (.cons (.int _) .nil))) ?_
      refine .cons (.tup (tup_of (e2 _ _ g2)) (.cons (.int _) (.cons (.int _) .nil))) ?_
      refine .cons (.tup (tup_of (e3 _ _ g3)) (.cons (.int _) (.cons (.int _) .nil))) ?_
      refine .cons (.tup (tup_of (e4 _ _ g4)) (.cons (.int _) .nil)) ?_
      refine .cons .non ?_
      refine .cons (.tup (tup_of (e5 _ _ g5)) (.cons (.int _) (.cons (.bl _) .nil))) ?_
      refine .cons (.tup (tup_of (e6 _ _ g6)) (.cons (.int _) (.cons (.int _) (.cons (.int _) .nil)))) ?_
      refine .cons (.tup (tup_of (e7 _ _ g7)) .nil) ?_
      refine .cons (.tup (tup_of (e8 _ _ g8)) (.cons (.int _) (.cons (.int _) .nil))) .nil
    have s89 := r1.trans e1
    replace ddu := dpS s89 ddu
    replace dda := dpAllS s89 dda
    replace gdu := s89 _ _ gdu
    replace hc8 := Same.tup s89 hc8
    have m9 := m8.same s89
    have b09 : But m H J9 := b08.trans (But.of s89)
    clear e1 e2 e3 e4 e5 e6 e7 e8 r1 r2 r3 r4 r5 r6 r7 r8 r9 g1 g2 g3 g4 g5 g6 g7 g8 h1 h2 h3 h4 h5 h6 h7 h8
    have hlen := len dpt
    have rp := right_all hn9 c u v
    have psh := pts_sh u v (n : Int)
    have pok := okk_pts (u := u) (v := v) (p := (n : Int)) (by unfold Gd.B; omega) (by unfold Gd.B; omega) (by unfold Gd.B; omega)
    have dok := okk_d (n := n) (c := c) hn9
    generalize [V.ref t1, V.ref t2, V.ref t3, V.ref t4, V.non, V.ref t5, V.ref t6, V.ref t7, V.ref t8] = pv at dpt gl hlen
    refine ⟨l, rfl, ⟨_, lst_of gl⟩, for_list (K := K) (a := l) (xs := pv) (fun i σ G => Same J9 G ∧ ∃ v4 v5 v6 : Option V, σ = [some (.ref m), some (.int (n : Int)), some (.ref ca), some (.ref du), v4, v5, v6, none, none]) ⟨Same.refl _, none, none, none, rfl⟩ (fun i σ G _ z => lst_of (z.1 _ _ gl)) ?_ ?_⟩
    · rintro i x σ G hi ⟨sg, v4, v5, v6, rfl⟩
      obtain ⟨d, hd, hx⟩ := at_ dpt hi
      have hdm := List.mem_of_getElem? hd
      obtain ⟨sh1, sh2⟩ := psh d hdm
      have hx0 := hx
      replace hx := dpS sg hx
      have ddg := dpS sg ddu
      have gdg := sg _ _ gdu
      first | refine sigN [some (.ref m), some (.int ((n : Int))), some (.ref ca), some (.ref du), some x, v5, v6, none, none] (by rfl) ?_ | refine sig [some (.ref m), some (.int ((n : Int))), some (.ref ca), some (.ref du), some x, v5, v6, none, none] (by rfl) ?_
      refine ⟨fun σ' G' => Same J9 G' ∧ ∃ v6 : Option V, σ' = [some (.ref m), some (.int (n : Int)), some (.ref ca), some (.ref du), some x, some (.bl (isPt (n : Int) c d)), v6, none, none], ?_, ?_⟩
      · refine ⟨_, rfl, _, rfl, d, dueD n c, hx, ddg, sh1, sh_due c, _, rfl, ?_⟩
        have key := rp d hdm
        rw [show ((dueD n c).any fun z => PyData.eqv z d) = isIn n c d from rfl]
        cases hb : isIn n c d with
        | false =>
          refine iteF ?_
          rw [hb, Bool.false_and] at key
          rw [← key]
          exact ⟨sg, _, rfl⟩
        | true =>
          refine iteT ?_
          rw [hb, Bool.true_and] at key
          rw [← key]
          obtain ⟨o1, o2, o3⟩ := pok d hdm
          refine ⟨x, rfl, x, d, 20, rfl, hx, by decide, by decide, o1, o2, o3, ?_⟩
          refine ⟨_, rfl, du, rfl, ⟨_, tup_of gdg⟩, fun D nD => ?_⟩
          have ddl : DpAll K G (.ref e :: ts) (dueD n c) := dpAllS sg dda
          refine lc_tup (K := K) (a := du) (xs := .ref e :: ts) (fun i H4 => Same G H4 ∧ H4 D = some (.lst ((((dueD n c).take i).map PyData.shown).map V.str))) ⟨Same.new nD, upd_same⟩ (fun i H4 _ z => tup_of (z.1 _ _ gdg)) (fun i x H4 hi z => ?_) (fun H4 z => ?_)
          · obtain ⟨s4, g4⟩ := z
            obtain ⟨dd, hdd, hxx⟩ := at_ ddl hi
            obtain ⟨p1, p2, p3⟩ := dok dd (List.mem_of_getElem? hdd)
            refine ⟨rfl, x, rfl, x, dd, 20, rfl, dpS s4 hxx, by decide, by decide, p1, p2, p3, ?_⟩
            refine ⟨_, g4, ?_, Same.put s4 nD, ?_⟩
            · rw [List.length_map, List.length_map, List.length_take]
              have := len ddl
              exact small1000 (by have := eln; simp at *; omega)
            · rw [upd_same, List.take_add_one, hdd, List.map_append, List.map_append]
              rfl
          · obtain ⟨s4, g4⟩ := z
            rw [len ddl, List.take_length] at g4
            refine ⟨D, _, rfl, .inl (lst_of g4), rfl, flat_strs _, ?_⟩
            rw [if_neg (by decide), inV_strs]
            exact ⟨sg.trans s4, _, rfl⟩
      · rintro σ' G' ⟨sg', v6', rfl⟩
        have mG := m9.same sg'
        refine ⟨_, rfl, .ref ca, rfl, x, rfl, x, (n : Int), ca, c, d, rfl, .data (dpS sg' hx0) sh2, sh1, Same.tup sg' hc8, hm, np, by omega, fun G2 s2 => ?_⟩
        refine ⟨_, rfl, rfl, _, rfl, ?_⟩
        refine iteN (by simp) ?_
        exact ⟨sg'.trans s2, _, _, _, rfl⟩
    · rintro σ G ⟨sg, v4, v5, v6, rfl⟩
      have mG := m9.same sg
      have hcG := Same.tup sg hc8
      have gdg := sg _ _ gdu
      have bG : But m H G := b09.trans (But.of sg)
      refine ⟨_, rfl, _, _, rfl, rfl, _, rfl, ?_⟩
      by_cases h2 : (2 : Int) < (n : Int)
      · refine iteY (decide_eq_true h2) ?_
        obtain ⟨d, pr⟩ := (hnp.resolve_left (by omega)).2
        refine ⟨_, rfl, .ref ca, rfl, n, d, ca, c, rfl, hcG, hm, pr, hn9, fun G1 t1 s1 g1 => ?_⟩
        first | refine sigN [some (.ref m), some (.int ((n : Int))), some (.ref ca), some (.ref du), v4, v5, v6, some (.ref t1), none] (by rfl) ?_ | refine sig [some (.ref m), some (.int ((n : Int))), some (.ref ca), some (.ref du), v4, v5, v6, some (.ref t1), none] (by rfl) ?_
        refine ⟨_, rfl, .ref ca, rfl, n, d, ca, c, rfl, Same.tup s1 hcG, hm, pr.ns, fun G2 t2 s2 g2 => ?_⟩
        first | refine sigN [some (.ref m), some (.int ((n : Int))), some (.ref ca), some (.ref du), v4, v5, v6, some (.ref t1), some (.ref t2)] (by rfl) ?_ | refine sig [some (.ref m), some (.int ((n : Int))), some (.ref ca), some (.ref du), v4, v5, v6, some (.ref t1), some (.ref t2)] (by rfl) ?_
        have dg2 : Dig (n : Int) (md (n : Int) (tw (d : Int) c)) := by
          refine ⟨⟨?_, ?_⟩, ⟨?_, ?_⟩, ⟨?_, ?_⟩, ⟨?_, ?_⟩, ⟨?_, ?_⟩⟩ <;> first | exact Int.emod_nonneg _ (by omega) | exact Int.emod_lt_of_pos _ np
        have dd2 : ∀ {G : Hp} {t : Addr}, G t = some (.tup (cL (md (n : Int) (tw (d : Int) c)))) → Dp K G (.ref t) (.tuple (dL (md (n : Int) (tw (d : Int) c)))) := fun h => .tup (tup_of h) (.cons (.int _) (.cons (.int _) (.cons (.int _) (.cons (.int _) (.cons (.int _) .nil)))))
        obtain ⟨k1, k2, k3⟩ := okk_c dg2 (by omega)
        refine ⟨_, rfl, .ref t2, _, 20, rfl, dd2 g2, by decide, by decide, k1, k2, k3, ?_⟩
        refine ⟨_, rfl, .ref t1, _, 20, rfl, dd2 (s2 _ _ g1), by decide, by decide, k1, k2, k3, ?_⟩
        generalize (PyData.tuple (dL (md (n : Int) (tw (d : Int) c)))).shown = S
        refine ⟨rfl, _, rfl, ?_⟩
        refine iteN (by simp) ?_
        refine ⟨_, rfl, du, _, rfl, .inr (tup_of (s2 _ _ (s1 _ _ gdg))), ?_⟩
        rw [eln]
        have ho := hodd.resolve_left (by omega)
        refine ⟨_, rfl, .ref t2, rfl, n, t2, _, rfl, tup_of g2, dg2.sm (by omega), .inr ho, by omega, fun G3 s3 => ?_⟩
        refine ⟨_, _, rfl, rfl, _, rfl, _, _, rfl, rfl, (Or.inl ⟨by decide, by decide⟩), _, _, rfl, rfl, rfl, _, rfl, ?_⟩
        have e9 : ((1 + (due n c n).length : Nat) : Int) + ((1 + (due n (md (n : Int) (tw (d : Int) c)) n).length : Nat) : Int) = 2 * (n : Int) + 2 := by
          have := sum_tw hn0 ho pr c
          omega
        refine iteN (by simpa using e9) ?_
        exact q _ (bG.trans (But.of (s1.trans (s2.trans s3)))) ((mG.same (s1.trans (s2.trans s3))).up (by omega))
      · refine iteN (by simpa using h2) ?_
        exact q _ bG (mG.up (by omega))
end
end K40
set_option Elab.async false
set_option linter.all false
set_option maxRecDepth 100000
set_option maxHeartbeats 4000000
namespace K40
open PySem PySem.Spec PyProof.Rows L2 Gd QM K45M EcZ SvM PaM DpM
theorem pr_of {p : Int} (h : p = 2 ∨ p ∈ [(3 : Int), 5, 7, 11, 13, 17, 19, 23, 29, 31]) : ∃ n : Nat, p = (n : Int) ∧ n ≤ 31 ∧ 0 < n ∧ (n = 2 ∨ 2 < n ∧ ∃ d, Pr n d) := by
  rcases h with rfl | h
  · exact ⟨2, rfl, by decide, by decide, .inl rfl⟩
  · obtain ⟨n, d, h1, h2, h3, h4⟩ := pr_all h
    exact ⟨n, h1, h2, by omega, .inr ⟨h3, d, h4⟩⟩
theorem okL (c : C5) : itOk (.tuple (dL c)) = true := rfl
theorem dd_c {K : PySem.W.Frag} {G : Hp} {t : Addr} {c : C5} (h : SqT K G t (cL c)) : Dp K G (.ref t) (.tuple (dL c)) := .tup h (.cons (.int _) (.cons (.int _) (.cons (.int _) (.cons (.int _) (.cons (.int _) .nil)))))
section
variable {P : Program} {w : World} {K : PySem.W.Frag} {mg : Str → Option Value} {base : Heap}
def sp_law_two_three_right (K : PySem.W.Frag) : Sp := fun vs H Q _ => ∃ (m cl : Addr) (N : Nat), vs = [.ref m] ∧ N ≤ 1000 ∧ MAt H m cl N ∧ ∀ H', But m H H' → Q (.bl true) H'
abbrev s__law_two_three_right : Stmt := topS 43
theorem sc__law_two_three_right : FnScope ["m", "p", "some", "step", "k", "parts", "turn", "five_v"] ["m"] (defScope s__law_two_three_right) := ⟨rfl, rfl, rfl, by decide +kernel, rfl, by decide +kernel, by decide +kernel⟩
theorem k_law_two_three_right (T : Tx K mg) (D : Df K mg "_law_two_three_right" s__law_two_three_right ["m"]) (c_law_draw : Kl P w K mg base 1 "_law_draw" (sp_law_draw K)) (c_is_curve_over : Kl P w K mg base 4 "is_curve_over" (sp_is_curve_over K)) (c_law_is_curve : Kl P w K mg base 2 "_law_is_curve" (sp_law_is_curve K)) (c_law_small_right : Kg P w K mg base 6 "_law_small_right" (sp_law_small_right K)) : Kg P w K mg base 7 "_law_two_three_right" (sp_law_two_three_right K) := by
  have nd := sc__law_two_three_right.nd
  refine Kg.by_body D sc__law_two_three_right (fun vs H Q E h => ?_) (fun f cdv A outer s H vs Q E hgd hr h => ?_)
  · obtain ⟨_, _, _, rfl, _⟩ := h
    rfl
  · obtain ⟨m, cl, N, rfl, hN, hM, q⟩ := h
    have hu1 := hu_of hr
    refine ⟨_, (pss_cons (ps_for PassesOwn.never rfl (pi_tup (pe_tup (pa_cons pe_int (pa_cons pe_int pa_nil)))) (pg_name (i := 1) nd rfl (by first | exact Or.inl rfl | exact Or.inr rfl)) (pss_cons (ps_set (i := 2) nd rfl (by first | exact Or.inl rfl | exact Or.inr rfl) (pe_k c_law_draw  hr (by decide) (by rfl) (pa_cons (pv 0) (pa_cons (pe_op op_pow (pv 1) pe_int) pa_nil))))
      (pss_one (ps_for PassesOwn.never rfl (pi_range1 (by rfl) T.range (pa_cons pe_int pa_nil)) (pg_name (i := 3) nd rfl (by first | exact Or.inl rfl | exact Or.inr rfl)) (pss_cons (ps_par (i := 4) (j := 5) (by rfl) nd rfl rfl (by decide) rfl rfl (pa_cons (pe_op op_add (pv 2) (pe_op op_mul pe_int (pv 3))) (pa_cons (pe_lst pa_nil) pa_nil)) (by rfl))
      (pss_cons (ps_for PassesOwn.never rfl (pi_range1 (by rfl) T.range (pa_cons pe_int pa_nil)) (pg_name (i := 6) nd rfl (by first | exact Or.inl rfl | exact Or.inr rfl)) (pss_cons (ps_expr (pe_bm PySem.F.plainAttrs_list PySem.F.slot_list_append PySem.F.type_list_append mt_append (pv 5) (pa_cons (pe_op op_mod (pe_callTy call_intI (by rfl) T.int (by decide +kernel) (pa_cons (pv 4) pa_nil)) (pv 1)) pa_nil)))
      (pss_one (ps_set (i := 4) nd rfl (by first | exact Or.inl rfl | exact Or.inr rfl) (pe_op op_fdivAny (pv 4) (pv 1))))))
      (pss_cons (ps_set (i := 7) nd rfl (by first | exact Or.inl rfl | exact Or.inr rfl) (pe_callTy call_tuple_of (by rfl) T.tuple (by decide +kernel) (pa_cons (pv 5) pa_nil)))
      (pss_cons (ps_if (pt_cmpR op_ne (pe_k c_is_curve_over  hr (by decide) (by rfl) (pa_cons (pv 1) (pa_cons (pv 7) pa_nil))) (pe_k c_law_is_curve  hr (by decide) (by rfl) (pa_cons (pv 1) (pa_cons (pv 7) pa_nil))) (nomark _)) (pss_one (ps_ret pe_bl)) pss_nil)
      (pss_one (ps_if (PW.pt (pw_and (pt_val (pe_k c_law_is_curve  hr (by decide) (by rfl) (pa_cons (pv 1) (pa_cons (pv 7) pa_nil)))) (pw_and1 (pt_not (pt_val (pe_g c_law_small_right hgd hr (by decide) (by rfl) (pa_cons (pv 0) (pa_cons (pv 1) (pa_cons (pv 7) pa_nil))))))))) (pss_one (ps_ret pe_bl)) pss_nil))))))))))
      (pss_one (ps_ret pe_bl))), ?_⟩
    refine ⟨(by show 2 ≤ sizeLine; decide), fun t nt => ?_⟩
    have s1 := Same.new (H := H) (p := t) (o := .tup [.int 2, .int 3]) nt
    have gt : upd H t (.tup [.int 2, .int 3]) t = some (.tup [.int 2, .int 3]) := upd_same
    generalize upd H t (.tup [.int 2, .int 3]) = H1 at s1 gt ⊢
    refine ⟨t, rfl, ⟨_, tup_of gt⟩, for_tup (K := K) (a := t) (xs := [.int 2, .int 3]) (fun i σ G => But m H1 G ∧ MAt G m cl (N + 50 * i) ∧ ∃ v1 v2 v3 v4 v5 v6 v7 : Option V, σ = [some (.ref m), v1, v2, v3, v4, v5, v6, v7]) ⟨But.refl m _, hM.same s1, none, none, none, none, none, none, none, rfl⟩ (fun i σ G _ z => tup_of (z.1.tup (hM.same s1) gt)) ?_ ?_⟩
    · rintro i x σ G hi ⟨bG, mG, v1, v2, v3, v4, v5, v6, v7, rfl⟩
      obtain ⟨n, rfl, hn2, hnp⟩ : ∃ n : Nat, x = .int (n : Int) ∧ (n = 2 ∨ n = 3) ∧ (n = 2 ∨ 2 < n ∧ ∃ d, Pr n d) := by
        rcases (show i = 0 ∨ i = 1 ∨ 2 ≤ i by omega) with rfl | rfl | z
        · obtain rfl := Option.some.inj hi
          exact ⟨2, rfl, .inl rfl, .inl rfl⟩
        · obtain rfl := Option.some.inj hi
          exact ⟨3, rfl, .inr rfl, .inr ⟨by decide, 2, pr_3⟩⟩
        · rw [List.getElem?_eq_none (by simpa using z)] at hi
          cases hi
      have i2 : i < 2 := (List.getElem?_eq_some_iff.mp hi).1
      first | refine sigN [some (.ref m), some (.int ((n : Int))), v2, v3, v4, v5, v6, v7] (by rfl) ?_ | refine sig [some (.ref m), some (.int ((n : Int))), v2, v3, v4, v5, v6, v7] (by rfl) ?_
      have hp5 : 0 < (n : Int) ^ (5 : Int).toNat ∧ (n : Int) ^ (5 : Int).toNat < 1000 := by
        rcases hn2 with rfl | rfl <;> decide
      refine ⟨_, rfl, _, rfl, _, _, rfl, rfl, ⟨by decide, by decide, by omega⟩, ?_⟩
      obtain ⟨pw, hpw⟩ : ∃ pw, (n : Int) ^ (5 : Int).toNat = pw := ⟨_, rfl⟩
      rw [hpw] at hp5
      refine ⟨m, cl, pw, _, (by show [V.ref m, V.int ((n : Int) ^ (5 : Int).toNat)] = _; rw [hpw]), hp5.1, by omega, by omega, mG, fun G1 some0 b1 m1 r0 r1 => ?_⟩
      first | refine sigN [some (.ref m), some (.int ((n : Int))), some (.int (some0)), v3, v4, v5, v6, v7] (by rfl) ?_ | refine sig [some (.ref m), some (.int ((n : Int))), some (.int (some0)), v3, v4, v5, v6, v7] (by rfl) ?_
      refine ⟨12, rfl, by decide, by decide, for_range (lo := 0) (n := 12) (fun j σ G2 => But m G1 G2 ∧ MAt G2 m cl (N + 50 * i + 1 + 2 * j) ∧ ∃ v3 v4 v5 v6 v7 : Option V, σ = [some (.ref m), some (.int (n : Int)), some (.int some0), v3, v4, v5, v6, v7]) ⟨But.refl m _, m1, v3, v4, v5, v6, v7, rfl⟩ ?_ ?_⟩
      · rintro j σ G2 hj ⟨b2, m2, v3, v4, v5, v6, v7, rfl⟩
        first | refine sigN [some (.ref m), some (.int ((n : Int))), some (.int (some0)), some (.int (0 + (j : Int))), v4, v5, v6, v7] (by rfl) ?_ | refine sig [some (.ref m), some (.int ((n : Int))), some (.int (some0)), some (.int (0 + (j : Int))), v4, v5, v6, v7] (by rfl) ?_
        refine ⟨_, rfl, _, rfl, _, _, rfl, rfl, (Or.inl ⟨by decide, by decide⟩), _, _, rfl, rfl, (by show 0 ≤ sizeLine; decide), fun D nD => ?_⟩
        have mD := m2.ne nD
        have s3 := Same.new (H := G2) (p := D) (o := .lst []) nD
        have gD : upd G2 D (.lst []) D = some (.lst []) := upd_same
        generalize upd G2 D (.lst []) = G3 at s3 gD ⊢
        refine ⟨_, _, rfl, ?_⟩
        first | refine sigN [some (.ref m), some (.int ((n : Int))), some (.int (some0)), some (.int (0 + (j : Int))), some (.int (some0 + 7 * (0 + (j : Int)))), some (.ref D), v6, v7] (by rfl) ?_ | refine sig [some (.ref m), some (.int ((n : Int))), some (.int (some0)), some (.int (0 + (j : Int))), some (.int (some0 + 7 * (0 + (j : Int)))), some (.ref D), v6, v7] (by rfl) ?_
        have np : (0 : Int) < (n : Int) := by omega
        have m3 := m2.same s3
        refine ⟨5, rfl, by decide, by decide, for_range (lo := 0) (n := 5) (fun i' σ G4 => But D G3 G4 ∧ MAt G4 m cl (N + 50 * i + 1 + 2 * j) ∧ ∃ (L : List Int) (k : Int) (v6 : Option V), σ = [some (.ref m), some (.int (n : Int)), some (.int some0), some (.int (0 + (j : Int))), some (.int k), some (.ref D), v6, v7] ∧ G4 D = some (.lst (L.map V.int)) ∧ L.length = i' ∧ (∀ x ∈ L, Dg (n : Int) x)) ⟨But.refl D _, m3, [], _, v6, rfl, gD, rfl, (by intro x hx; cases hx)⟩ ?_ ?_⟩
        · rintro i' σ G4 hi' ⟨b4, m4, L, k, v6, rfl, g4, l4, d4⟩
          first | refine sigN [some (.ref m), some (.int ((n : Int))), some (.int (some0)), some (.int (0 + (j : Int))), some (.int (k)), some (.ref D), some (.int (0 + (i' : Int))), v7] (by rfl) ?_ | refine sig [some (.ref m), some (.int ((n : Int))), some (.int (some0)), some (.int (0 + (j : Int))), some (.int (k)), some (.ref D), some (.int (0 + (i' : Int))), v7] (by rfl) ?_
          refine ⟨_, rfl, .inl ⟨rfl, _, lst_of g4⟩, _, rfl, _, rfl, _, rfl, _, _, rfl, rfl, np, ?_⟩
          refine ⟨D, _, _, rfl, rfl, g4, by rw [List.length_map]; exact small1000 (by omega), ?_⟩
          refine ⟨_, rfl, _, rfl, _, _, rfl, rfl, div_any (m := 6) (by omega) (by unfold Gd.B; omega) (by decide), ?_⟩
          refine ⟨b4.trans But.upd, m4.put mD, L ++ [k % (n : Int)], _, _, rfl, ?_, by rw [List.length_append, l4]; rfl, ?_⟩
          · rw [upd_same, List.map_append]
            rfl
          · intro x hx
            rcases List.mem_append.mp hx with hx | hx
            · exact d4 x hx
            · rw [List.mem_singleton.mp hx]
              exact ⟨Int.emod_nonneg _ (by omega), Int.emod_lt_of_pos _ np⟩
        · rintro σ G4 ⟨b4, m4, L, k, v6, rfl, g4, l4, d4⟩
          obtain ⟨c, rfl⟩ : ∃ c : C5, L = [c.a1, c.a2, c.a3, c.a4, c.a6] := by
            match L, l4 with
            | [x1, x2, x3, x4, x6], _ => exact ⟨⟨x1, x2, x3, x4, x6⟩, rfl⟩
          have dg : Dig (n : Int) c := ⟨d4 c.a1 (by simp), d4 c.a2 (by simp), d4 c.a3 (by simp), d4 c.a4 (by simp), d4 c.a6 (by simp)⟩
          have s24 : Same G2 G4 := But.same s3 b4 nD
          refine ⟨_, rfl, D, cL c, rfl, .inl ⟨lst_of g4, fun f nf => ?_⟩⟩
          have s5 := Same.new (H := G4) (p := f) (o := .tup (cL c)) nf
          have gf : upd G4 f (.tup (cL c)) f = some (.tup (cL c)) := upd_same
          generalize upd G4 f (.tup (cL c)) = G5 at s5 gf ⊢
          first | refine sigN [some (.ref m), some (.int ((n : Int))), some (.int (some0)), some (.int (0 + (j : Int))), some (.int (k)), some (.ref D), v6, some (.ref f)] (by rfl) ?_ | refine sig [some (.ref m), some (.int ((n : Int))), some (.int (some0)), some (.int (0 + (j : Int))), some (.int (k)), some (.ref D), v6, some (.ref f)] (by rfl) ?_
          have m5 := m4.same s5
          have vd : Vd K G5 (.ref f) (.tuple (dL c)) := .data (dd_c (tup_of gf)) rfl
          refine ⟨_, rfl, _, rfl, .ref f, (n : Int), .tuple (dL c), rfl, vd, by omega, by omega, fun G6 s6 => ?_⟩
          refine ⟨_, rfl, _, rfl, .ref f, (n : Int), .tuple (dL c), rfl, vd.same s6, rfl, by omega, by omega, fun G7 s7 => ?_⟩
          refine ⟨rfl, _, rfl, iteN (by simp) ?_⟩
          refine ⟨_, rfl, _, rfl, .ref f, (n : Int), .tuple (dL c), rfl, vd.same (s6.trans s7), rfl, by omega, by omega, fun G8 s8 => ⟨_, rfl, ?_⟩⟩
          have s58 := s6.trans (s7.trans s8)
          have s28 := s24.trans (s5.trans s58)
          cases hcv : isCv (n : Int) (.tuple (dL c)) with
          | false =>
            refine iteF ?_
            exact ⟨b2.trans (But.of s28), (m2.same s28).up (by omega), _, _, _, _, _, rfl⟩
          | true =>
            refine iteT ?_
            refine ⟨_, rfl, _, rfl, _, rfl, m, cl, f, n, N + 50 * i + 1 + 2 * j, c, rfl, Same.tup s58 (tup_of gf), dg, by omega, by omega, hnp, by omega, (m2.same s28), fun G9 b9 m9 => ⟨_, rfl, ?_⟩⟩
            refine iteN (by decide) ?_
            exact ⟨(b2.trans (But.of s28)).trans b9, m9.up (by omega), _, _, _, _, _, rfl⟩
      · rintro σ G2 ⟨b2, m2, v3, v4, v5, v6, v7, rfl⟩
        exact ⟨bG.trans (b1.trans b2), m2.up (by omega), _, _, _, _, _, _, _, rfl⟩
    · rintro σ G ⟨bG, mG, v1, v2, v3, v4, v5, v6, v7, rfl⟩
      exact q _ ((But.of s1).trans bG)
def sp_law_right (K : PySem.W.Frag) : Sp := fun vs H Q _ => ∃ (m cl : Addr), vs = [.ref m] ∧ MAt H m cl 0 ∧ ∀ H', But m H H' → MAt H' m cl 900 → Q (.bl true) H'
abbrev s__law_right : Stmt := topS 44
theorem sc__law_right : FnScope ["m", "p", "five_v", "bent", "far", "k", "small", "part", "due"] ["m"] (defScope s__law_right) := ⟨rfl, rfl, rfl, by decide +kernel, rfl, by decide +kernel, by decide +kernel⟩
theorem k_law_right (T : Tx K mg) (D : Df K mg "_law_right" s__law_right ["m"]) (c_law_over_p : Kl P w K mg base 3 "_law_over_p" (sp_law_over_p K)) (c_law_bent : Kl P w K mg base 3 "_law_bent" (sp_law_bent K)) (c_law_small_right : Kg P w K mg base 6 "_law_small_right" (sp_law_small_right K)) (c_is_curve_over : Kl P w K mg base 4 "is_curve_over" (sp_is_curve_over K)) (c_law_is_curve : Kl P w K mg base 2 "_law_is_curve" (sp_law_is_curve K)) (c_law_between : Kl P w K mg base 2 "_law_between" (sp_law_between K)) (c_law_numbers : Kl P w K mg base 1 "_law_numbers" (sp_law_numbers K)) (c_count_over : Kl P w K mg base 5 "count_over" (sp_count_over K)) (c_law_many : Kl P w K mg base 2 "_law_many" (sp_law_many K)) (c_curve_modulo : Kl P w K mg base 3 "curve_modulo" (sp_curve_modulo K)) : Kg P w K mg base 7 "_law_right" (sp_law_right K) := by
  have nd := sc__law_right.nd
  refine Kg.by_body D sc__law_right (fun vs H Q E h => ?_) (fun f cdv A outer s H vs Q E hgd hr h => ?_)
  · obtain ⟨_, _, rfl, _⟩ := h
    rfl
  · obtain ⟨m, cl, rfl, hM, q⟩ := h
    have hu1 := hu_of hr
    refine ⟨_, (pss_cons (ps_asg (pe_k c_law_over_p  hr (by decide) (by rfl) (pa_cons (pv 0) (pa_cons (pe_lst (pa_cons pe_int (pa_cons pe_int (pa_cons pe_int (pa_cons pe_int (pa_cons pe_int (pa_cons pe_int (pa_cons pe_int (pa_cons pe_int (pa_cons pe_int pa_nil)))))))))) pa_nil))) (pg_tup rfl (pgs_cons (pg_name (i := 1) nd rfl (by first | exact Or.inl rfl | exact Or.inr rfl)) (pgs_cons (pg_name (i := 2) nd rfl (by first | exact Or.inl rfl | exact Or.inr rfl)) pgs_nil))))
      (pss_cons (ps_set (i := 3) nd rfl (by first | exact Or.inl rfl | exact Or.inr rfl) (pe_k c_law_bent  hr (by decide) (by rfl) (pa_cons (pv 0) (pa_cons (pv 1) (pa_cons (pv 2) pa_nil)))))
      (pss_cons (ps_if (PW.pt (pw_or (pt_cmpR op_ne (pe_k c_is_curve_over  hr (by decide) (by rfl) (pa_cons (pv 1) (pa_cons (pv 3) pa_nil))) (pe_k c_law_is_curve  hr (by decide) (by rfl) (pa_cons (pv 1) (pa_cons (pv 3) pa_nil))) (nomark _)) (pw_or1 (pt_cmpR op_notBl (pe_k c_is_curve_over  hr (by decide) (by rfl) (pa_cons (pv 1) (pa_cons (pv 2) pa_nil))) pe_bl (nomark _))))) (pss_one (ps_ret pe_bl)) pss_nil)
      (pss_cons (ps_if (pt_not (pt_val (pe_g c_law_small_right hgd hr (by decide) (by rfl) (pa_cons (pv 0) (pa_cons (pv 1) (pa_cons (pv 2) pa_nil)))))) (pss_one (ps_ret pe_bl)) pss_nil)
      (pss_cons (ps_set (i := 4) nd rfl (by first | exact Or.inl rfl | exact Or.inr rfl) (pe_callTy call_tuple_of (by rfl) T.tuple (by decide +kernel) (pa_cons (pe_lc (own := [("k", 5)]) (g := gName 5) rfl nd (pi_range1 (by rfl) T.range (pa_cons pe_int pa_nil)) (blkOk_by (N := ["m", "p", "five_v", "bent", "far", "k", "small", "part", "due"]) (sc := defScope s__law_right) (by decide +kernel)) (fun _ _ _ _ _ => (pg_name (i := 5) nd rfl (by first | exact Or.inl rfl | exact Or.inr rfl))) (fun _ _ _ _ _ => pts_nil) (fun _ _ _ _ _ => (pe_k c_law_between  hr (by decide) (by rfl) (pa_cons (pv 0) (pa_cons pe_int pa_nil))))) pa_nil)))
      (C8.pss_cut (ps_if (pt_cmpR op_ne (pe_ix ix_tup (pe_k c_law_numbers  hr (by decide) (by rfl) (pa_cons (pv 4) pa_nil)) pe_int (fun _ _ => rfl)) pe_int (nomark _)) (pss_cons (ps_set (i := 6) nd rfl (by first | exact Or.inl rfl | exact Or.inr rfl) (pe_callTy call_tuple_of (by rfl) T.tuple (by decide +kernel) (pa_cons (pe_lc (own := [("part", 7)]) (g := gName 7) rfl nd (pi_tup (pv 4)) (blkOk_by (N := ["m", "p", "five_v", "bent", "far", "k", "small", "part", "due"]) (sc := defScope s__law_right) (by decide +kernel)) (fun _ _ _ _ _ => (pg_name (i := 7) nd rfl (by first | exact Or.inl rfl | exact Or.inr rfl))) (fun _ _ _ _ _ => pts_nil) (fun _ _ _ _ _ => (pe_op op_mod (pe_callTy call_intI (by rfl) T.int (by decide +kernel) (pa_cons (pv 7) pa_nil)) (pv 1)))) pa_nil)))
      (pss_cons (ps_set (i := 8) nd rfl (by first | exact Or.inl rfl | exact Or.inr rfl) (pe_ifExp (pt_cmpR op_eq (pe_op op_mod (pe_callTy call_intI (by rfl) T.int (by decide +kernel) (pa_cons (pe_ix ix_tup (pe_k c_law_numbers  hr (by decide) (by rfl) (pa_cons (pv 4) pa_nil)) pe_int (fun _ _ => rfl)) pa_nil)) (pv 1)) pe_int (nomark _)) pe_non (pv 6)))
      (pss_one (ps_if (pt_cmpR op_ne (pe_callB (PaM.call_reprK hgd hr.units) (by rfl) T.repr (by decide +kernel) (pa_cons (pe_k c_curve_modulo  hr (by decide) (by rfl) (pa_cons (pv 4) (pa_cons (pv 1) pa_nil))) pa_nil)) (pe_callB (PaM.call_reprK hgd hr.units) (by rfl) T.repr (by decide +kernel) (pa_cons (pv 8) pa_nil)) (nomark _)) (pss_one (ps_ret pe_bl)) pss_nil)))) pss_nil)
      (pss_cons (ps_asg (pe_k c_law_over_p  hr (by decide) (by rfl) (pa_cons (pv 0) (pa_cons (pe_lst (pa_cons pe_int (pa_cons pe_int (pa_cons pe_int (pa_cons pe_int pa_nil))))) pa_nil))) (pg_tup rfl (pgs_cons (pg_name (i := 1) nd rfl (by first | exact Or.inl rfl | exact Or.inr rfl)) (pgs_cons (pg_name (i := 2) nd rfl (by first | exact Or.inl rfl | exact Or.inr rfl)) pgs_nil))))
      (pss_one (ps_ret (pe_cmpR op_eq (pe_callB (PaM.call_reprK hgd hr.units) (by rfl) T.repr (by decide +kernel) (pa_cons (pe_k c_count_over  hr (by decide) (by rfl) (pa_cons (pv 1) (pa_cons (pv 2) pa_nil))) pa_nil)) (pe_callB (PaM.call_reprK hgd hr.units) (by rfl) T.repr (by decide +kernel) (pa_cons (pe_k c_law_many  hr (by decide) (by rfl) (pa_cons (pv 1) (pa_cons (pv 2) pa_nil))) pa_nil)) (nomark _))))))))))), ?_⟩
    refine ⟨.ref m, rfl, (by show 9 ≤ sizeLine; decide), fun l nl => ?_⟩
    have s1 := Same.new (H := H) (p := l) (o := .lst [.int 5, .int 7, .int 11, .int 13, .int 17, .int 19, .int 23, .int 29, .int 31]) nl
    have gl : upd H l (.lst [.int 5, .int 7, .int 11, .int 13, .int 17, .int 19, .int 23, .int 29, .int 31]) l = some (.lst [.int 5, .int 7, .int 11, .int 13, .int 17, .int 19, .int 23, .int 29, .int 31]) := upd_same
    generalize upd H l (.lst [.int 5, .int 7, .int 11, .int 13, .int 17, .int 19, .int 23, .int 29, .int 31]) = H1 at s1 gl ⊢
    have m1 := hM.same s1
    refine ⟨m, cl, l, 0, [5, 7, 11, 13, 17, 19, 23, 29, 31], rfl, lst_of gl, by decide, by decide, by decide, by decide, m1, fun H2 t ca p c b2 m2 ht hc hp hdg hdd => ?_⟩
    have m2' := m2
    obtain ⟨n, rfl, hn9, hn0, hnp⟩ := pr_of (p := p) (hp.imp And.left fun h => by
      simp only [List.mem_cons, List.not_mem_nil, or_false] at h ⊢
      exact .inr h)
    have np : (0 : Int) < (n : Int) := by omega
    have n1 : (1 : Int) < (n : Int) := by omega
    refine ⟨t, _, rfl, ht, rfl, _, _, rfl, _, _, rfl, rfl, ?_⟩
    first | refine sigN [some (.ref m), some (.int ((n : Int))), some (.ref ca), none, none, none, none, none, none] (by rfl) ?_ | refine sig [some (.ref m), some (.int ((n : Int))), some (.ref ca), none, none, none, none, none, none] (by rfl) ?_
    refine ⟨.ref m, rfl, _, rfl, .ref ca, rfl, m, cl, ca, (n : Int), c, _, rfl, hc, n1, by omega, by omega, m2, fun H3 x d b3 m3 hx hok => ?_⟩
    first | refine sigN [some (.ref m), some (.int ((n : Int))), some (.ref ca), some x, none, none, none, none, none] (by rfl) ?_ | refine sig [some (.ref m), some (.int ((n : Int))), some (.ref ca), some x, none, none, none, none, none] (by rfl) ?_
    have hc3 := b3.seqT m2 hc
    refine ⟨_, rfl, x, rfl, x, (n : Int), d, rfl, hx, n1, by omega, fun H4 s4 => ?_⟩
    refine ⟨_, rfl, x, rfl, x, (n : Int), d, rfl, hx.same s4, hok, n1, by omega, fun H5 s5 => ⟨rfl, _, rfl, iteN (by simp) ?_⟩⟩
    have s35 := s4.trans s5
    have hcv : isCv (n : Int) (.tuple (dL c)) = true := cv_dig.mpr ⟨hdg, hdd⟩
    refine ⟨_, rfl, .ref ca, rfl, .ref ca, (n : Int), .tuple (dL c), rfl, .data (dd_c (Same.tup s35 hc3)) rfl, n1, by omega, fun H6 s6 => ?_⟩
    rw [hcv]
    refine ⟨_, _, rfl, rfl, _, rfl, iteN (by decide) ?_⟩
    have s36 := s35.trans s6
    have m6 := m3.same s36
    refine ⟨_, rfl, _, rfl, .ref ca, rfl, m, cl, ca, n, _, c, rfl, Same.tup s36 hc3, hdg, hn9, hn0, hnp, by omega, m6, fun H7 b7 m7 => ⟨_, rfl, iteN (by decide) ?_⟩⟩
    have b07 : But m H H7 := (But.of s1).trans (b2.trans (b3.trans ((But.of s36).trans b7)))
    refine ⟨5, rfl, by decide, by decide, fun D hD => ?_⟩
    have hmD := m7.ne hD
    refine lc_range (lo := 0) (n := 5) (fun j H8 => ∃ L : List Int, H8 D = some (.lst (L.map V.int)) ∧ L.length = j ∧ (∀ x ∈ L, B 10 x) ∧ But m H7 H8 ∧ MAt H8 m cl (400 + j)) ⟨[], upd_same, rfl, (by intro x hx; cases hx), But.of (Same.new hD), (m7.same (Same.new hD)).up (by omega)⟩ (fun j H8 hj z => ?_) (fun H8 z => ?_)
    · obtain ⟨L, hL, el, hB, b8, m8⟩ := z
      refine ⟨rfl, .ref m, rfl, m, cl, 40, 400 + j, rfl, by decide, by decide, by omega, m8, fun H9 r b9 m9 r0 r1 => ?_⟩
      refine ⟨_, b9.lst m8 hL, by rw [List.length_map]; exact small1000 (by omega), L ++ [r], ?_, by rw [List.length_append, el]; rfl, ?_, fun c o e nc => ?_, ?_⟩
      · rw [upd_same, List.map_append]
        rfl
      · intro y hy
        rcases List.mem_append.mp hy with hy | hy
        · exact hB y hy
        · rw [List.mem_singleton.mp hy]
          unfold Gd.B
          omega
      · rw [upd_ne (ne_of_none e hD)]
        exact (b8.trans b9) c o e nc
      · exact m9.put hmD
    obtain ⟨L, hL, el, hB, b8, m8⟩ := z
    obtain ⟨fc, rfl⟩ : ∃ c : C5, L = [c.a1, c.a2, c.a3, c.a4, c.a6] := by
      match L, el with
      | [x1, x2, x3, x4, x6], _ => exact ⟨⟨x1, x2, x3, x4, x6⟩, rfl⟩
    have fm : Sm fc := ⟨hB fc.a1 (by simp), hB fc.a2 (by simp), hB fc.a3 (by simp), hB fc.a4 (by simp), hB fc.a6 (by simp)⟩
    refine ⟨D, cL fc, rfl, .inl ⟨lst_of hL, fun f nf => ?_⟩⟩
    have s9 := Same.new (H := H8) (p := f) (o := .tup (cL fc)) nf
    have gf : upd H8 f (.tup (cL fc)) f = some (.tup (cL fc)) := upd_same
    generalize upd H8 f (.tup (cL fc)) = H9 at s9 gf ⊢
    first | refine sigN [some (.ref m), some (.int ((n : Int))), some (.ref ca), some x, some (.ref f), none, none, none, none] (by rfl) ?_ | refine sig [some (.ref m), some (.int ((n : Int))), some (.ref ca), some x, some (.ref f), none, none, none, none] (by rfl) ?_
    have m9 := m8.same s9
    have b09 : But m H H9 := b07.trans (b8.trans (But.of s9))
    refine ⟨fun σ' H' => But m H9 H' ∧ MAt H' m cl 405 ∧ ∃ v7 v8 v9 : Option V, σ' = [some (.ref m), some (.int (n : Int)), some (.ref ca), some x, some (.ref f), none, v7, v8, v9], ?_, ?_⟩
    · refine ⟨_, rfl, f, fc, rfl, tup_of gf, fm, fun u nu => ?_⟩
      have s10 := Same.new (H := H9) (p := u) (o := .tup (nums fc)) nu
      have gu : upd H9 u (.tup (nums fc)) u = some (.tup (nums fc)) := upd_same
      generalize upd H9 u (.tup (nums fc)) = H10 at s10 gu ⊢
      refine ⟨u, _, 6, _, rfl, rfl, tup_of gu, rfl, rfl, _, rfl, ?_⟩
      rw [dec_int]
      by_cases hd0 : fc.disc = 0
      · refine iteN (by simpa using hd0) ?_
        exact ⟨But.of s10, (m9.same s10).up (by omega), _, _, _, rfl⟩
      refine iteY (by simpa using hd0) ?_
      have gf10 := s10 _ _ gf
      refine ⟨_, rfl, f, rfl, ⟨_, tup_of gf10⟩, fun D2 nD2 => ?_⟩
      refine lc_tup (K := K) (a := f) (xs := cL fc) (fun i H4 => Same H10 H4 ∧ H4 D2 = some (.lst ((([fc.a1, fc.a2, fc.a3, fc.a4, fc.a6].take i).map fun z => z % (n : Int)).map V.int))) ⟨Same.new nD2, upd_same⟩ (fun i H4 _ z => tup_of (z.1 _ _ gf10)) (fun i x H4 hi z => ?_) (fun H4 z => ?_)
      · obtain ⟨s4, g4⟩ := z
        obtain ⟨y, hy, rfl⟩ := map_int (ns := [fc.a1, fc.a2, fc.a3, fc.a4, fc.a6]) hi
        refine ⟨rfl, _, rfl, _, rfl, _, rfl, _, _, rfl, rfl, np, ?_⟩
        refine ⟨_, g4, ?_, Same.put s4 nD2, ?_⟩
        · rw [List.length_map, List.length_map, List.length_take]
          exact small1000 (by show min i 5 ≤ 1000; omega)
        · rw [upd_same, List.take_add_one, hy, List.map_append, List.map_append]
          rfl
      obtain ⟨s11, g11⟩ := z
      refine ⟨D2, cL (md (n : Int) fc), rfl, .inl ⟨lst_of g11, fun sm nsm => ?_⟩⟩
      have s12 := Same.new (H := H4) (p := sm) (o := .tup (cL (md (n : Int) fc))) nsm
      have g12 : upd H4 sm (.tup (cL (md (n : Int) fc))) sm = some (.tup (cL (md (n : Int) fc))) := upd_same
      generalize upd H4 sm (.tup (cL (md (n : Int) fc))) = H5 at s12 g12 ⊢
      have s95 := (s10.trans s11).trans s12
      first | refine sigN [some (.ref m), some (.int ((n : Int))), some (.ref ca), some x, some (.ref f), none, some (.ref sm), none, none] (by rfl) ?_ | refine sig [some (.ref m), some (.int ((n : Int))), some (.ref ca), some x, some (.ref f), none, some (.ref sm), none, none] (by rfl) ?_
      have gf5 := s12 _ _ (s11 _ _ gf10)
      refine ⟨_, rfl, f, fc, rfl, tup_of gf5, fm, fun u2 nu2 => ?_⟩
      have s13 := Same.new (H := H5) (p := u2) (o := .tup (nums fc)) nu2
      have gu2 : upd H5 u2 (.tup (nums fc)) u2 = some (.tup (nums fc)) := upd_same
      generalize upd H5 u2 (.tup (nums fc)) = H6 at s13 gu2 ⊢
      refine ⟨u2, _, 6, _, rfl, rfl, tup_of gu2, rfl, _, rfl, _, rfl, _, _, rfl, rfl, np, rfl, _, rfl, ?_⟩
      rw [dec_int]
      have s96 := s95.trans s13
      have m6' := m9.same s96
      by_cases hd : fc.disc % (n : Int) = 0
      · refine iteY (by simpa using hd) ?_
        first | refine sigN [some (.ref m), some (.int ((n : Int))), some (.ref ca), some x, some (.ref f), none, some (.ref sm), none, some (V.non)] (by rfl) ?_ | refine sig [some (.ref m), some (.int ((n : Int))), some (.ref ca), some x, some (.ref f), none, some (.ref sm), none, some (V.non)] (by rfl) ?_
        refine ⟨_, rfl, _, rfl, f, fc, (n : Int), rfl, tup_of (s13 _ _ gf5), fm, np, (fun _ H7 s7 => ?_), (fun z => absurd hd z)⟩
        refine ⟨.non, .none, 20, rfl, .non, by decide, by decide, rfl, by decide, by decide, ?_⟩
        refine ⟨_, rfl, .non, .none, 20, rfl, .non, by decide, by decide, rfl, by decide, by decide, rfl, _, rfl, ?_⟩
        refine iteN (by simp) ?_
        exact ⟨But.of (s96.trans s7), (m6'.same s7).up (by omega), _, _, _, rfl⟩
      · refine iteN (by simpa using hd) ?_
        refine ⟨_, rfl, ?_⟩
        first | refine sigN [some (.ref m), some (.int ((n : Int))), some (.ref ca), some x, some (.ref f), none, some (.ref sm), none, some (.ref sm)] (by rfl) ?_ | refine sig [some (.ref m), some (.int ((n : Int))), some (.ref ca), some x, some (.ref f), none, some (.ref sm), none, some (.ref sm)] (by rfl) ?_
        refine ⟨_, rfl, _, rfl, f, fc, (n : Int), rfl, tup_of (s13 _ _ gf5), fm, np, (fun z => absurd z hd), (fun _ H7 r s7 gr => ?_)⟩
        have dg2 : Dig (n : Int) (md (n : Int) fc) := by
          refine ⟨⟨?_, ?_⟩, ⟨?_, ?_⟩, ⟨?_, ?_⟩, ⟨?_, ?_⟩, ⟨?_, ?_⟩⟩ <;> first | exact Int.emod_nonneg _ (by omega) | exact Int.emod_lt_of_pos _ np
        obtain ⟨k1, k2, k3⟩ := okk_c dg2 (by omega)
        refine ⟨.ref r, _, 20, rfl, dd_c (tup_of gr), by decide, by decide, k1, k2, k3, ?_⟩
        refine ⟨_, rfl, .ref sm, _, 20, rfl, dd_c (tup_of (s7 _ _ (s13 _ _ g12))), by decide, by decide, k1, k2, k3, ?_⟩
        generalize (PyData.tuple (dL (md (n : Int) fc))).shown = S
        refine ⟨rfl, _, rfl, iteN (by simp) ?_⟩
        exact ⟨But.of (s96.trans s7), (m6'.same s7).up (by omega), _, _, _, rfl⟩
    · rintro σ' H' ⟨b', m', v7, v8, v9, rfl⟩
      have bE : But m H H' := b09.trans b'
      refine ⟨.ref m, rfl, (by show 4 ≤ sizeLine; decide), fun l2 nl2 => ?_⟩
      have z1 := Same.new (H := H') (p := l2) (o := .lst [.int 101, .int 211, .int 499, .int 997]) nl2
      have gl2 : upd H' l2 (.lst [.int 101, .int 211, .int 499, .int 997]) l2 = some (.lst [.int 101, .int 211, .int 499, .int 997]) := upd_same
      generalize upd H' l2 (.lst [.int 101, .int 211, .int 499, .int 997]) = G1 at z1 gl2 ⊢
      have m1' := m'.same z1
      refine ⟨m, cl, l2, 405, [101, 211, 499, 997], rfl, lst_of gl2, by decide, by decide, by decide, by decide, m1', fun G2 t2 ca2 p2 c2 b2' m2' ht2 hc2 hp2 hdg2 hdd2 => ?_⟩
      obtain ⟨n2, rfl, h92, hn2, ec⟩ : ∃ n2 : Nat, p2 = (n2 : Int) ∧ n2 ≤ 1000 ∧ (n2 = 2 ∨ (n2 : Int) % 2 = 1) ∧ (due n2 c2 n2).length = cntTo n2 n2 (cub c2) := by
        rcases hp2 with ⟨rfl, rfl⟩ | hp2
        · exact ⟨2, rfl, by decide, .inl rfl, by decide +kernel⟩
        · simp only [List.mem_cons, List.not_mem_nil, or_false] at hp2
          rcases hp2 with rfl | rfl | rfl | rfl
          · exact ⟨101, rfl, by decide, .inr rfl, due_len rfl c2 101⟩
          · exact ⟨211, rfl, by decide, .inr rfl, due_len rfl c2 211⟩
          · exact ⟨499, rfl, by decide, .inr rfl, due_len rfl c2 499⟩
          · exact ⟨997, rfl, by decide, .inr rfl, due_len rfl c2 997⟩
      have hm2 : Sm c2 := hdg2.sm (by omega)
      refine ⟨t2, _, rfl, ht2, rfl, _, _, rfl, _, _, rfl, rfl, ?_⟩
      first | refine sigN [some (.ref m), some (.int ((n2 : Int))), some (.ref ca2), some x, some (.ref f), none, v7, v8, v9] (by rfl) ?_ | refine sig [some (.ref m), some (.int ((n2 : Int))), some (.ref ca2), some x, some (.ref f), none, v7, v8, v9] (by rfl) ?_
      have l0 := due_le n2 c2 n2
      have l1 : n2 * n2 ≤ 1000 * 1000 := Nat.mul_le_mul h92 h92
      have hn20 : 0 < n2 := by omega
      obtain ⟨r, hr⟩ : ∃ r : Int, ((1 + (due n2 c2 n2).length : Nat) : Int) = r := ⟨_, rfl⟩
      have rB : r.natAbs.log2 < 30 := log_k (show r.natAbs < 2 ^ 30 by omega) (by decide)
      have k1 : okk 30 (.int r) = true := decide_eq_true rB
      refine ⟨_, rfl, .ref ca2, rfl, n2, ca2, c2, rfl, hc2, hm2, hn2, h92, fun G3 s3 => ?_⟩
      rw [hr]
      refine ⟨.int r, .int r, 30, rfl, .int r, by decide, by decide, k1, by simp [PyData.depth], by simp [wtk], ?_⟩
      refine ⟨_, rfl, .ref ca2, rfl, n2, ca2, c2, rfl, Same.tup s3 hc2, hm2, hn20, h92, fun G4 s4 => ?_⟩
      rw [← ec, hr]
      refine ⟨.int r, .int r, 30, rfl, .int r, by decide, by decide, k1, by simp [PyData.depth], by simp [wtk], ?_⟩
      generalize (PyData.int r).shown = S
      refine ⟨rfl, ?_⟩
      rw [show (decide (V.str S = V.str S)) = true from decide_eq_true rfl]
      exact q _ (bE.trans ((But.of z1).trans (b2'.trans (But.of (s3.trans s4))))) ((m2'.same (s3.trans s4)).up (by omega))
def sp_law (K : PySem.W.Frag) : Sp := fun vs H Q _ => ∃ (a : Addr) (ns : List Int), vs = [.ref a] ∧ SqL K H a (ns.map V.int) ∧ ns.length ≤ 63 ∧ ∀ H', Q (.bl true) H'
abbrev s_law : Stmt := topS 45
theorem sc_law : FnScope ["script", "k", "m"] ["script"] (defScope s_law) := ⟨rfl, rfl, rfl, by decide +kernel, rfl, by decide +kernel, by decide +kernel⟩
theorem k_law {fl : Addr} {fdl : FuncData} (T : Tx K mg) (Fl : Fun K "law" "law" s_law fl fdl) (c_law_begun : Kl P w K mg base 1 "_law_begun" (sp_law_begun K)) (c_law_right : Kg P w K mg base 7 "_law_right" (sp_law_right K)) (c_law_two_three_right : Kg P w K mg base 7 "_law_two_three_right" (sp_law_two_three_right K)) : FnG P w K mg base 8 fl fdl ["script"] (sp_law K) := by
  have nd := sc_law.nd
  refine FnG.by_body Fl sc_law (fun vs H Q E h => ?_) (fun cdv A outer s H vs Q E hgd hr h => ?_)
  · obtain ⟨_, _, rfl, _⟩ := h
    rfl
  · obtain ⟨a, ns, rfl, hx, hl, q⟩ := h
    have hu1 := hu_of hr
    refine ⟨_, (pss_cons (ps_for PassesOwn.never rfl (pi_range1 (by rfl) T.range (pa_cons (pe_op op_add pe_int (pe_callB (call_min2 rfl) (by rfl) T.min (by decide +kernel) (pa_cons (pe_callB call_len_seq (by rfl) T.len (by decide +kernel) (pa_cons (pv 0) pa_nil)) (pa_cons pe_int pa_nil)))) pa_nil)) (pg_name (i := 1) nd rfl (by first | exact Or.inl rfl | exact Or.inr rfl)) (pss_cons (ps_set (i := 2) nd rfl (by first | exact Or.inl rfl | exact Or.inr rfl) (pe_k c_law_begun  hr (by decide) (by rfl) (pa_cons (pv 0) (pa_cons (pv 1) pa_nil))))
      (pss_one (ps_if (PW.pt (pw_or (pt_not (pt_val (pe_g c_law_right hgd hr (by decide) (by rfl) (pa_cons (pv 2) pa_nil)))) (pw_or1 (pt_not (pt_val (pe_g c_law_two_three_right hgd hr (by decide) (by rfl) (pa_cons (pv 2) pa_nil))))))) (pss_one (ps_ret pe_bl)) pss_nil))))
      (pss_one (ps_ret pe_bl))), ?_⟩
    obtain ⟨j, hj, j0, j1⟩ : ∃ j : Int, (2 : Int) + (if (2 : Int) < ((ns.map V.int).length : Int) then 2 else ((ns.map V.int).length : Int)) = j ∧ 0 ≤ j ∧ j ≤ 4 := ⟨_, rfl, by split <;> omega, by split <;> omega⟩
    refine ⟨.ref a, rfl, a, _, rfl, .inl hx, _, _, rfl, _, _, rfl, rfl, j, ?_, by omega, by omega, ?_⟩
    · rw [← hj]
    refine for_range (lo := 0) (n := j.toNat) (fun i σ H2 => Same H H2 ∧ ∃ v1 v2 : Option V, σ = [some (.ref a), v1, v2]) ⟨Same.refl _, none, none, rfl⟩ ?_ ?_
    · rintro i σ H2 hi ⟨s2, v1, v2, rfl⟩
      first | refine sigN [some (.ref a), some (.int (0 + (i : Int))), v2] (by rfl) ?_ | refine sig [some (.ref a), some (.int (0 + (i : Int))), v2] (by rfl) ?_
      refine ⟨.ref a, rfl, _, rfl, a, _, ns, rfl, s2.seq hx, hl, by omega, by omega, fun H3 m cl s3 nm ncl hM => ?_⟩
      first | refine sigN [some (.ref a), some (.int (0 + (i : Int))), some (.ref m)] (by rfl) ?_ | refine sig [some (.ref a), some (.int (0 + (i : Int))), some (.ref m)] (by rfl) ?_
      refine ⟨_, rfl, m, cl, rfl, hM, fun H4 b4 m4 => ⟨_, rfl, iteN (by decide) ?_⟩⟩
      refine ⟨_, rfl, m, cl, 900, rfl, by decide, m4, fun H5 b5 => ⟨_, rfl, iteN (by decide) ?_⟩⟩
      exact ⟨s2.trans (But.same s3 (b4.trans b5) nm), _, _, rfl⟩
    · rintro σ H2 ⟨s2, v1, v2, rfl⟩
      exact q _
end
end K40
set_option Elab.async false
set_option linter.all false
set_option maxRecDepth 100000
set_option maxHeartbeats 4000000
namespace K40
open PySem PySem.Spec PyProof.Rows L2 Gd
theorem all_mk {P : Program} {w : World} {K : PySem.W.Frag} {h : Heap} {mg : Str → Option Value} {fa : Addr} (X : K.In h) (G : h.Ns mainGlobals mg) (hfa : mg "law" = some (.ref fa))
    {f1 : Addr} {od1 an1 : Option Addr} {sl1 : Array (Option Value)} {oc1 kV1 dc1 pm1 cd1 ct1 : Value}
    {f2 : Addr} {od2 an2 : Option Addr} {sl2 : Array (Option Value)} {oc2 kV2 dc2 pm2 cd2 ct2 : Value}
    {f4 : Addr} {od4 an4 : Option Addr} {sl4 : Array (Option Value)} {oc4 kV4 dc4 pm4 cd4 ct4 : Value}
    {f5 : Addr} {od5 an5 : Option Addr} {sl5 : Array (Option Value)} {oc5 kV5 dc5 pm5 cd5 ct5 : Value}
    {f6 : Addr} {od6 an6 : Option Addr} {sl6 : Array (Option Value)} {oc6 kV6 dc6 pm6 cd6 ct6 : Value}
    {f11 : Addr} {od11 an11 : Option Addr} {sl11 : Array (Option Value)} {oc11 kV11 dc11 pm11 cd11 ct11 : Value}
    {f12 : Addr} {od12 an12 : Option Addr} {sl12 : Array (Option Value)} {oc12 kV12 dc12 pm12 cd12 ct12 : Value}
    {f14 : Addr} {od14 an14 : Option Addr} {sl14 : Array (Option Value)} {oc14 kV14 dc14 pm14 cd14 ct14 : Value}
    {f16 : Addr} {od16 an16 : Option Addr} {sl16 : Array (Option Value)} {oc16 kV16 dc16 pm16 cd16 ct16 : Value}
    {f17 : Addr} {od17 an17 : Option Addr} {sl17 : Array (Option Value)} {oc17 kV17 dc17 pm17 cd17 ct17 : Value}
    {f18 : Addr} {od18 an18 : Option Addr} {sl18 : Array (Option Value)} {oc18 kV18 dc18 pm18 cd18 ct18 : Value}
    {f19 : Addr} {od19 an19 : Option Addr} {sl19 : Array (Option Value)} {oc19 kV19 dc19 pm19 cd19 ct19 : Value}
    {f20 : Addr} {od20 an20 : Option Addr} {sl20 : Array (Option Value)} {oc20 kV20 dc20 pm20 cd20 ct20 : Value}
    {f21 : Addr} {od21 an21 : Option Addr} {sl21 : Array (Option Value)} {oc21 kV21 dc21 pm21 cd21 ct21 : Value}
    {f22 : Addr} {od22 an22 : Option Addr} {sl22 : Array (Option Value)} {oc22 kV22 dc22 pm22 cd22 ct22 : Value}
    {f23 : Addr} {od23 an23 : Option Addr} {sl23 : Array (Option Value)} {oc23 kV23 dc23 pm23 cd23 ct23 : Value}
    {f24 : Addr} {od24 an24 : Option Addr} {sl24 : Array (Option Value)} {oc24 kV24 dc24 pm24 cd24 ct24 : Value}
    {f25 : Addr} {od25 an25 : Option Addr} {sl25 : Array (Option Value)} {oc25 kV25 dc25 pm25 cd25 ct25 : Value}
    {f26 : Addr} {od26 an26 : Option Addr} {sl26 : Array (Option Value)} {oc26 kV26 dc26 pm26 cd26 ct26 : Value}
    {f28 : Addr} {od28 an28 : Option Addr} {sl28 : Array (Option Value)} {oc28 kV28 dc28 pm28 cd28 ct28 : Value}
    {f29 : Addr} {od29 an29 : Option Addr} {sl29 : Array (Option Value)} {oc29 kV29 dc29 pm29 cd29 ct29 : Value}
    {f30 : Addr} {od30 an30 : Option Addr} {sl30 : Array (Option Value)} {oc30 kV30 dc30 pm30 cd30 ct30 : Value}
    {f31 : Addr} {od31 an31 : Option Addr} {sl31 : Array (Option Value)} {oc31 kV31 dc31 pm31 cd31 ct31 : Value}
    {f32 : Addr} {od32 an32 : Option Addr} {sl32 : Array (Option Value)} {oc32 kV32 dc32 pm32 cd32 ct32 : Value}
    {f36 : Addr} {od36 an36 : Option Addr} {sl36 : Array (Option Value)} {oc36 kV36 dc36 pm36 cd36 ct36 : Value}
    {f37 : Addr} {od37 an37 : Option Addr} {sl37 : Array (Option Value)} {oc37 kV37 dc37 pm37 cd37 ct37 : Value}
    {f38 : Addr} {od38 an38 : Option Addr} {sl38 : Array (Option Value)} {oc38 kV38 dc38 pm38 cd38 ct38 : Value}
    {f39 : Addr} {od39 an39 : Option Addr} {sl39 : Array (Option Value)} {oc39 kV39 dc39 pm39 cd39 ct39 : Value}
    {f40 : Addr} {od40 an40 : Option Addr} {sl40 : Array (Option Value)} {oc40 kV40 dc40 pm40 cd40 ct40 : Value}
    {f41 : Addr} {od41 an41 : Option Addr} {sl41 : Array (Option Value)} {oc41 kV41 dc41 pm41 cd41 ct41 : Value}
    {f42 : Addr} {od42 an42 : Option Addr} {sl42 : Array (Option Value)} {oc42 kV42 dc42 pm42 cd42 ct42 : Value}
    {f43 : Addr} {od43 an43 : Option Addr} {sl43 : Array (Option Value)} {oc43 kV43 dc43 pm43 cd43 ct43 : Value}
    {f44 : Addr} {od44 an44 : Option Addr} {sl44 : Array (Option Value)} {oc44 kV44 dc44 pm44 cd44 ct44 : Value}
    {f45 : Addr} {od45 an45 : Option Addr} {sl45 : Array (Option Value)} {oc45 kV45 dc45 pm45 cd45 ct45 : Value}
    (a1 : PySem.W.nsIn K mainGlobals "is_whole" = some (some (.ref f1))) (l1 : K.lookup f1 = some ⟨oc1, od1, .func (PySem.W.fnOf "is_whole" "is_whole" (defArgs s_is_whole) (defBody s_is_whole) (defScope s_is_whole) .none kV1 dc1 pm1 an1 cd1 ct1), sl1⟩) (c1 : PySem.W.codeIn K cd1 "is_whole" = true) (k1 : PySem.W.keepIn K (.ref f1) = true)
    (a2 : PySem.W.nsIn K mainGlobals "is_tuple" = some (some (.ref f2))) (l2 : K.lookup f2 = some ⟨oc2, od2, .func (PySem.W.fnOf "is_tuple" "is_tuple" (defArgs s_is_tuple) (defBody s_is_tuple) (defScope s_is_tuple) .none kV2 dc2 pm2 an2 cd2 ct2), sl2⟩) (c2 : PySem.W.codeIn K cd2 "is_tuple" = true) (k2 : PySem.W.keepIn K (.ref f2) = true)
    (a4 : PySem.W.nsIn K mainGlobals "five" = some (some (.ref f4))) (l4 : K.lookup f4 = some ⟨oc4, od4, .func (PySem.W.fnOf "five" "five" (defArgs s_five) (defBody s_five) (defScope s_five) .none kV4 dc4 pm4 an4 cd4 ct4), sl4⟩) (c4 : PySem.W.codeIn K cd4 "five" = true) (k4 : PySem.W.keepIn K (.ref f4) = true)
    (a5 : PySem.W.nsIn K mainGlobals "are_whole" = some (some (.ref f5))) (l5 : K.lookup f5 = some ⟨oc5, od5, .func (PySem.W.fnOf "are_whole" "are_whole" (defArgs s_are_whole) (defBody s_are_whole) (defScope s_are_whole) .none kV5 dc5 pm5 an5 cd5 ct5), sl5⟩) (c5 : PySem.W.codeIn K cd5 "are_whole" = true) (k5 : PySem.W.keepIn K (.ref f5) = true)
    (a6 : PySem.W.nsIn K mainGlobals "numbers_of" = some (some (.ref f6))) (l6 : K.lookup f6 = some ⟨oc6, od6, .func (PySem.W.fnOf "numbers_of" "numbers_of" (defArgs s_numbers_of) (defBody s_numbers_of) (defScope s_numbers_of) .none kV6 dc6 pm6 an6 cd6 ct6), sl6⟩) (c6 : PySem.W.codeIn K cd6 "numbers_of" = true) (k6 : PySem.W.keepIn K (.ref f6) = true)
    (a11 : PySem.W.nsIn K mainGlobals "symbol" = some (some (.ref f11))) (l11 : K.lookup f11 = some ⟨oc11, od11, .func (PySem.W.fnOf "symbol" "symbol" (defArgs s_symbol) (defBody s_symbol) (defScope s_symbol) .none kV11 dc11 pm11 an11 cd11 ct11), sl11⟩) (c11 : PySem.W.codeIn K cd11 "symbol" = true) (k11 : PySem.W.keepIn K (.ref f11) = true)
    (a12 : PySem.W.nsIn K mainGlobals "least_nonsquare" = some (some (.ref f12))) (l12 : K.lookup f12 = some ⟨oc12, od12, .func (PySem.W.fnOf "least_nonsquare" "least_nonsquare" (defArgs s_least_nonsquare) (defBody s_least_nonsquare) (defScope s_least_nonsquare) .none kV12 dc12 pm12 an12 cd12 ct12), sl12⟩) (c12 : PySem.W.codeIn K cd12 "least_nonsquare" = true) (k12 : PySem.W.keepIn K (.ref f12) = true)
    (a14 : PySem.W.nsIn K mainGlobals "value_over" = some (some (.ref f14))) (l14 : K.lookup f14 = some ⟨oc14, od14, .func (PySem.W.fnOf "value_over" "value_over" (defArgs s_value_over) (defBody s_value_over) (defScope s_value_over) .none kV14 dc14 pm14 an14 cd14 ct14), sl14⟩) (c14 : PySem.W.codeIn K cd14 "value_over" = true) (k14 : PySem.W.keepIn K (.ref f14) = true)
    (a16 : PySem.W.nsIn K mainGlobals "are_digits" = some (some (.ref f16))) (l16 : K.lookup f16 = some ⟨oc16, od16, .func (PySem.W.fnOf "are_digits" "are_digits" (defArgs s_are_digits) (defBody s_are_digits) (defScope s_are_digits) .none kV16 dc16 pm16 an16 cd16 ct16), sl16⟩) (c16 : PySem.W.codeIn K cd16 "are_digits" = true) (k16 : PySem.W.keepIn K (.ref f16) = true)
    (a17 : PySem.W.nsIn K mainGlobals "is_curve_over" = some (some (.ref f17))) (l17 : K.lookup f17 = some ⟨oc17, od17, .func (PySem.W.fnOf "is_curve_over" "is_curve_over" (defArgs s_is_curve_over) (defBody s_is_curve_over) (defScope s_is_curve_over) .none kV17 dc17 pm17 an17 cd17 ct17), sl17⟩) (c17 : PySem.W.codeIn K cd17 "is_curve_over" = true) (k17 : PySem.W.keepIn K (.ref f17) = true)
    (a18 : PySem.W.nsIn K mainGlobals "curve_modulo" = some (some (.ref f18))) (l18 : K.lookup f18 = some ⟨oc18, od18, .func (PySem.W.fnOf "curve_modulo" "curve_modulo" (defArgs s_curve_modulo) (defBody s_curve_modulo) (defScope s_curve_modulo) .none kV18 dc18 pm18 an18 cd18 ct18), sl18⟩) (c18 : PySem.W.codeIn K cd18 "curve_modulo" = true) (k18 : PySem.W.keepIn K (.ref f18) = true)
    (a19 : PySem.W.nsIn K mainGlobals "digits_of" = some (some (.ref f19))) (l19 : K.lookup f19 = some ⟨oc19, od19, .func (PySem.W.fnOf "digits_of" "digits_of" (defArgs s_digits_of) (defBody s_digits_of) (defScope s_digits_of) .none kV19 dc19 pm19 an19 cd19 ct19), sl19⟩) (c19 : PySem.W.codeIn K cd19 "digits_of" = true) (k19 : PySem.W.keepIn K (.ref f19) = true)
    (a20 : PySem.W.nsIn K mainGlobals "is_point_over" = some (some (.ref f20))) (l20 : K.lookup f20 = some ⟨oc20, od20, .func (PySem.W.fnOf "is_point_over" "is_point_over" (defArgs s_is_point_over) (defBody s_is_point_over) (defScope s_is_point_over) .none kV20 dc20 pm20 an20 cd20 ct20), sl20⟩) (c20 : PySem.W.codeIn K cd20 "is_point_over" = true) (k20 : PySem.W.keepIn K (.ref f20) = true)
    (a21 : PySem.W.nsIn K mainGlobals "is_solution" = some (some (.ref f21))) (l21 : K.lookup f21 = some ⟨oc21, od21, .func (PySem.W.fnOf "is_solution" "is_solution" (defArgs s_is_solution) (defBody s_is_solution) (defScope s_is_solution) .none kV21 dc21 pm21 an21 cd21 ct21), sl21⟩) (c21 : PySem.W.codeIn K cd21 "is_solution" = true) (k21 : PySem.W.keepIn K (.ref f21) = true)
    (a22 : PySem.W.nsIn K mainGlobals "root_table" = some (some (.ref f22))) (l22 : K.lookup f22 = some ⟨oc22, od22, .func (PySem.W.fnOf "root_table" "root_table" (defArgs s_root_table) (defBody s_root_table) (defScope s_root_table) .none kV22 dc22 pm22 an22 cd22 ct22), sl22⟩) (c22 : PySem.W.codeIn K cd22 "root_table" = true) (k22 : PySem.W.keepIn K (.ref f22) = true)
    (a23 : PySem.W.nsIn K mainGlobals "cubic_of" = some (some (.ref f23))) (l23 : K.lookup f23 = some ⟨oc23, od23, .func (PySem.W.fnOf "cubic_of" "cubic_of" (defArgs s_cubic_of) (defBody s_cubic_of) (defScope s_cubic_of) .none kV23 dc23 pm23 an23 cd23 ct23), sl23⟩) (c23 : PySem.W.codeIn K cd23 "cubic_of" = true) (k23 : PySem.W.keepIn K (.ref f23) = true)
    (a24 : PySem.W.nsIn K mainGlobals "points_over" = some (some (.ref f24))) (l24 : K.lookup f24 = some ⟨oc24, od24, .func (PySem.W.fnOf "points_over" "points_over" (defArgs s_points_over) (defBody s_points_over) (defScope s_points_over) .none kV24 dc24 pm24 an24 cd24 ct24), sl24⟩) (c24 : PySem.W.codeIn K cd24 "points_over" = true) (k24 : PySem.W.keepIn K (.ref f24) = true)
    (a25 : PySem.W.nsIn K mainGlobals "count_over" = some (some (.ref f25))) (l25 : K.lookup f25 = some ⟨oc25, od25, .func (PySem.W.fnOf "count_over" "count_over" (defArgs s_count_over) (defBody s_count_over) (defScope s_count_over) .none kV25 dc25 pm25 an25 cd25 ct25), sl25⟩) (c25 : PySem.W.codeIn K cd25 "count_over" = true) (k25 : PySem.W.keepIn K (.ref f25) = true)
    (a26 : PySem.W.nsIn K mainGlobals "twist_over" = some (some (.ref f26))) (l26 : K.lookup f26 = some ⟨oc26, od26, .func (PySem.W.fnOf "twist_over" "twist_over" (defArgs s_twist_over) (defBody s_twist_over) (defScope s_twist_over) .none kV26 dc26 pm26 an26 cd26 ct26), sl26⟩) (c26 : PySem.W.codeIn K cd26 "twist_over" = true) (k26 : PySem.W.keepIn K (.ref f26) = true)
    (a28 : PySem.W.nsIn K mainGlobals "_law_begun" = some (some (.ref f28))) (l28 : K.lookup f28 = some ⟨oc28, od28, .func (PySem.W.fnOf "_law_begun" "_law_begun" (defArgs s__law_begun) (defBody s__law_begun) (defScope s__law_begun) .none kV28 dc28 pm28 an28 cd28 ct28), sl28⟩) (c28 : PySem.W.codeIn K cd28 "_law_begun" = true) (k28 : PySem.W.keepIn K (.ref f28) = true)
    (a29 : PySem.W.nsIn K mainGlobals "_law_draw" = some (some (.ref f29))) (l29 : K.lookup f29 = some ⟨oc29, od29, .func (PySem.W.fnOf "_law_draw" "_law_draw" (defArgs s__law_draw) (defBody s__law_draw) (defScope s__law_draw) .none kV29 dc29 pm29 an29 cd29 ct29), sl29⟩) (c29 : PySem.W.codeIn K cd29 "_law_draw" = true) (k29 : PySem.W.keepIn K (.ref f29) = true)
    (a30 : PySem.W.nsIn K mainGlobals "_law_of" = some (some (.ref f30))) (l30 : K.lookup f30 = some ⟨oc30, od30, .func (PySem.W.fnOf "_law_of" "_law_of" (defArgs s__law_of) (defBody s__law_of) (defScope s__law_of) .none kV30 dc30 pm30 an30 cd30 ct30), sl30⟩) (c30 : PySem.W.codeIn K cd30 "_law_of" = true) (k30 : PySem.W.keepIn K (.ref f30) = true)
    (a31 : PySem.W.nsIn K mainGlobals "_law_between" = some (some (.ref f31))) (l31 : K.lookup f31 = some ⟨oc31, od31, .func (PySem.W.fnOf "_law_between" "_law_between" (defArgs s__law_between) (defBody s__law_between) (defScope s__law_between) .none kV31 dc31 pm31 an31 cd31 ct31), sl31⟩) (c31 : PySem.W.codeIn K cd31 "_law_between" = true) (k31 : PySem.W.keepIn K (.ref f31) = true)
    (a32 : PySem.W.nsIn K mainGlobals "_law_numbers" = some (some (.ref f32))) (l32 : K.lookup f32 = some ⟨oc32, od32, .func (PySem.W.fnOf "_law_numbers" "_law_numbers" (defArgs s__law_numbers) (defBody s__law_numbers) (defScope s__law_numbers) .none kV32 dc32 pm32 an32 cd32 ct32), sl32⟩) (c32 : PySem.W.codeIn K cd32 "_law_numbers" = true) (k32 : PySem.W.keepIn K (.ref f32) = true)
    (a36 : PySem.W.nsIn K mainGlobals "_law_p_points" = some (some (.ref f36))) (l36 : K.lookup f36 = some ⟨oc36, od36, .func (PySem.W.fnOf "_law_p_points" "_law_p_points" (defArgs s__law_p_points) (defBody s__law_p_points) (defScope s__law_p_points) .none kV36 dc36 pm36 an36 cd36 ct36), sl36⟩) (c36 : PySem.W.codeIn K cd36 "_law_p_points" = true) (k36 : PySem.W.keepIn K (.ref f36) = true)
    (a37 : PySem.W.nsIn K mainGlobals "_law_over_p" = some (some (.ref f37))) (l37 : K.lookup f37 = some ⟨oc37, od37, .func (PySem.W.fnOf "_law_over_p" "_law_over_p" (defArgs s__law_over_p) (defBody s__law_over_p) (defScope s__law_over_p) .none kV37 dc37 pm37 an37 cd37 ct37), sl37⟩) (c37 : PySem.W.codeIn K cd37 "_law_over_p" = true) (k37 : PySem.W.keepIn K (.ref f37) = true)
    (a38 : PySem.W.nsIn K mainGlobals "_law_is_curve" = some (some (.ref f38))) (l38 : K.lookup f38 = some ⟨oc38, od38, .func (PySem.W.fnOf "_law_is_curve" "_law_is_curve" (defArgs s__law_is_curve) (defBody s__law_is_curve) (defScope s__law_is_curve) .none kV38 dc38 pm38 an38 cd38 ct38), sl38⟩) (c38 : PySem.W.codeIn K cd38 "_law_is_curve" = true) (k38 : PySem.W.keepIn K (.ref f38) = true)
    (a39 : PySem.W.nsIn K mainGlobals "_law_many" = some (some (.ref f39))) (l39 : K.lookup f39 = some ⟨oc39, od39, .func (PySem.W.fnOf "_law_many" "_law_many" (defArgs s__law_many) (defBody s__law_many) (defScope s__law_many) .none kV39 dc39 pm39 an39 cd39 ct39), sl39⟩) (c39 : PySem.W.codeIn K cd39 "_law_many" = true) (k39 : PySem.W.keepIn K (.ref f39) = true)
    (a40 : PySem.W.nsIn K mainGlobals "_law_twist" = some (some (.ref f40))) (l40 : K.lookup f40 = some ⟨oc40, od40, .func (PySem.W.fnOf "_law_twist" "_law_twist" (defArgs s__law_twist) (defBody s__law_twist) (defScope s__law_twist) .none kV40 dc40 pm40 an40 cd40 ct40), sl40⟩) (c40 : PySem.W.codeIn K cd40 "_law_twist" = true) (k40 : PySem.W.keepIn K (.ref f40) = true)
    (a41 : PySem.W.nsIn K mainGlobals "_law_bent" = some (some (.ref f41))) (l41 : K.lookup f41 = some ⟨oc41, od41, .func (PySem.W.fnOf "_law_bent" "_law_bent" (defArgs s__law_bent) (defBody s__law_bent) (defScope s__law_bent) .none kV41 dc41 pm41 an41 cd41 ct41), sl41⟩) (c41 : PySem.W.codeIn K cd41 "_law_bent" = true) (k41 : PySem.W.keepIn K (.ref f41) = true)
    (a42 : PySem.W.nsIn K mainGlobals "_law_small_right" = some (some (.ref f42))) (l42 : K.lookup f42 = some ⟨oc42, od42, .func (PySem.W.fnOf "_law_small_right" "_law_small_right" (defArgs s__law_small_right) (defBody s__law_small_right) (defScope s__law_small_right) .none kV42 dc42 pm42 an42 cd42 ct42), sl42⟩) (c42 : PySem.W.codeIn K cd42 "_law_small_right" = true) (k42 : PySem.W.keepIn K (.ref f42) = true)
    (a43 : PySem.W.nsIn K mainGlobals "_law_two_three_right" = some (some (.ref f43))) (l43 : K.lookup f43 = some ⟨oc43, od43, .func (PySem.W.fnOf "_law_two_three_right" "_law_two_three_right" (defArgs s__law_two_three_right) (defBody s__law_two_three_right) (defScope s__law_two_three_right) .none kV43 dc43 pm43 an43 cd43 ct43), sl43⟩) (c43 : PySem.W.codeIn K cd43 "_law_two_three_right" = true) (k43 : PySem.W.keepIn K (.ref f43) = true)
    (a44 : PySem.W.nsIn K mainGlobals "_law_right" = some (some (.ref f44))) (l44 : K.lookup f44 = some ⟨oc44, od44, .func (PySem.W.fnOf "_law_right" "_law_right" (defArgs s__law_right) (defBody s__law_right) (defScope s__law_right) .none kV44 dc44 pm44 an44 cd44 ct44), sl44⟩) (c44 : PySem.W.codeIn K cd44 "_law_right" = true) (k44 : PySem.W.keepIn K (.ref f44) = true)
    (a45 : PySem.W.nsIn K mainGlobals "law" = some (some (.ref f45))) (l45 : K.lookup f45 = some ⟨oc45, od45, .func (PySem.W.fnOf "law" "law" (defArgs s_law) (defBody s_law) (defScope s_law) .none kV45 dc45 pm45 an45 cd45 ct45), sl45⟩) (c45 : PySem.W.codeIn K cd45 "law" = true) (k45 : PySem.W.keepIn K (.ref f45) = true)
    (z_type : PySem.W.nsIn K mainGlobals "type" = some none)
    (z_isinstance : PySem.W.nsIn K mainGlobals "isinstance" = some none)
    (z_int : PySem.W.nsIn K mainGlobals "int" = some none)
    (z_bool : PySem.W.nsIn K mainGlobals "bool" = some none)
    (z_list : PySem.W.nsIn K mainGlobals "list" = some none)
    (z_tuple : PySem.W.nsIn K mainGlobals "tuple" = some none)
    (z_len : PySem.W.nsIn K mainGlobals "len" = some none)
    (z_all : PySem.W.nsIn K mainGlobals "all" = some none)
    (z_reversed : PySem.W.nsIn K mainGlobals "reversed" = some none)
    (z_range : PySem.W.nsIn K mainGlobals "range" = some none)
    (z_sorted : PySem.W.nsIn K mainGlobals "sorted" = some none)
    (z_sum : PySem.W.nsIn K mainGlobals "sum" = some none)
    (z_min : PySem.W.nsIn K mainGlobals "min" = some none)
    (z_repr : PySem.W.nsIn K mainGlobals "repr" = some none)
    : ∃ fd : FuncData, (∀ (s : Shared) (v : Value), BindsTo s fd ⟨[v], []⟩ [("script", v)]) ∧ ∀ base : Heap, K.In base → base.Ns mainGlobals mg → FnG P w K mg base 8 fa fd ["script"] (sp_law K) := by
  have T : Tx K mg := ⟨PySem.W.mg_none_of X G z_type, PySem.W.mg_none_of X G z_isinstance, PySem.W.mg_none_of X G z_int, PySem.W.mg_none_of X G z_bool, PySem.W.mg_none_of X G z_list, PySem.W.mg_none_of X G z_tuple, PySem.W.mg_none_of X G z_len, PySem.W.mg_none_of X G z_all, PySem.W.mg_none_of X G z_reversed, PySem.W.mg_none_of X G z_range, PySem.W.mg_none_of X G z_sorted, PySem.W.mg_none_of X G z_sum, PySem.W.mg_none_of X G z_min, PySem.W.mg_none_of X G z_repr⟩
  have d1 : Df K mg "is_whole" s_is_whole ["value"] := df_mk X G a1 l1 c1 k1 (fun _ _ _ _ _ _ us hl => match us, hl with | [_], _ => rfl)
  have d2 : Df K mg "is_tuple" s_is_tuple ["value", "many"] := df_mk X G a2 l2 c2 k2 (fun _ _ _ _ _ _ us hl => match us, hl with | [_, _], _ => rfl)
  have d4 : Df K mg "five" s_five ["curve"] := df_mk X G a4 l4 c4 k4 (fun _ _ _ _ _ _ us hl => match us, hl with | [_], _ => rfl)
  have d5 : Df K mg "are_whole" s_are_whole ["value", "many"] := df_mk X G a5 l5 c5 k5 (fun _ _ _ _ _ _ us hl => match us, hl with | [_, _], _ => rfl)
  have d6 : Df K mg "numbers_of" s_numbers_of ["curve"] := df_mk X G a6 l6 c6 k6 (fun _ _ _ _ _ _ us hl => match us, hl with | [_], _ => rfl)
  have d11 : Df K mg "symbol" s_symbol ["a", "n"] := df_mk X G a11 l11 c11 k11 (fun _ _ _ _ _ _ us hl => match us, hl with | [_, _], _ => rfl)
  have d12 : Df K mg "least_nonsquare" s_least_nonsquare ["p"] := df_mk X G a12 l12 c12 k12 (fun _ _ _ _ _ _ us hl => match us, hl with | [_], _ => rfl)
  have d14 : Df K mg "value_over" s_value_over ["f", "x", "m"] := df_mk X G a14 l14 c14 k14 (fun _ _ _ _ _ _ us hl => match us, hl with | [_, _, _], _ => rfl)
  have d16 : Df K mg "are_digits" s_are_digits ["p", "value", "many"] := df_mk X G a16 l16 c16 k16 (fun _ _ _ _ _ _ us hl => match us, hl with | [_, _, _], _ => rfl)
  have d17 : Df K mg "is_curve_over" s_is_curve_over ["p", "value"] := df_mk X G a17 l17 c17 k17 (fun _ _ _ _ _ _ us hl => match us, hl with | [_, _], _ => rfl)
  have d18 : Df K mg "curve_modulo" s_curve_modulo ["curve", "p"] := df_mk X G a18 l18 c18 k18 (fun _ _ _ _ _ _ us hl => match us, hl with | [_, _], _ => rfl)
  have d19 : Df K mg "digits_of" s_digits_of ["curve", "p"] := df_mk X G a19 l19 c19 k19 (fun _ _ _ _ _ _ us hl => match us, hl with | [_, _], _ => rfl)
  have d20 : Df K mg "is_point_over" s_is_point_over ["p", "curve", "value"] := df_mk X G a20 l20 c20 k20 (fun _ _ _ _ _ _ us hl => match us, hl with | [_, _, _], _ => rfl)
  have d21 : Df K mg "is_solution" s_is_solution ["p", "curve", "x", "y"] := df_mk X G a21 l21 c21 k21 (fun _ _ _ _ _ _ us hl => match us, hl with | [_, _, _, _], _ => rfl)
  have d22 : Df K mg "root_table" s_root_table ["p"] := df_mk X G a22 l22 c22 k22 (fun _ _ _ _ _ _ us hl => match us, hl with | [_], _ => rfl)
  have d23 : Df K mg "cubic_of" s_cubic_of ["p", "curve"] := df_mk X G a23 l23 c23 k23 (fun _ _ _ _ _ _ us hl => match us, hl with | [_, _], _ => rfl)
  have d24 : Df K mg "points_over" s_points_over ["p", "curve"] := df_mk X G a24 l24 c24 k24 (fun _ _ _ _ _ _ us hl => match us, hl with | [_, _], _ => rfl)
  have d25 : Df K mg "count_over" s_count_over ["p", "curve"] := df_mk X G a25 l25 c25 k25 (fun _ _ _ _ _ _ us hl => match us, hl with | [_, _], _ => rfl)
  have d26 : Df K mg "twist_over" s_twist_over ["p", "curve"] := df_mk X G a26 l26 c26 k26 (fun _ _ _ _ _ _ us hl => match us, hl with | [_, _], _ => rfl)
  have d28 : Df K mg "_law_begun" s__law_begun ["script", "k"] := df_mk X G a28 l28 c28 k28 (fun _ _ _ _ _ _ us hl => match us, hl with | [_, _], _ => rfl)
  have d29 : Df K mg "_law_draw" s__law_draw ["m", "below"] := df_mk X G a29 l29 c29 k29 (fun _ _ _ _ _ _ us hl => match us, hl with | [_, _], _ => rfl)
  have d30 : Df K mg "_law_of" s__law_of ["m", "some"] := df_mk X G a30 l30 c30 k30 (fun _ _ _ _ _ _ us hl => match us, hl with | [_, _], _ => rfl)
  have d31 : Df K mg "_law_between" s__law_between ["m", "size"] := df_mk X G a31 l31 c31 k31 (fun _ _ _ _ _ _ us hl => match us, hl with | [_, _], _ => rfl)
  have d32 : Df K mg "_law_numbers" s__law_numbers ["five_v"] := df_mk X G a32 l32 c32 k32 (fun _ _ _ _ _ _ us hl => match us, hl with | [_], _ => rfl)
  have d36 : Df K mg "_law_p_points" s__law_p_points ["p", "five_v"] := df_mk X G a36 l36 c36 k36 (fun _ _ _ _ _ _ us hl => match us, hl with | [_, _], _ => rfl)
  have d37 : Df K mg "_law_over_p" s__law_over_p ["m", "primes"] := df_mk X G a37 l37 c37 k37 (fun _ _ _ _ _ _ us hl => match us, hl with | [_, _], _ => rfl)
  have d38 : Df K mg "_law_is_curve" s__law_is_curve ["p", "value"] := df_mk X G a38 l38 c38 k38 (fun _ _ _ _ _ _ us hl => match us, hl with | [_, _], _ => rfl)
  have d39 : Df K mg "_law_many" s__law_many ["p", "five_v"] := df_mk X G a39 l39 c39 k39 (fun _ _ _ _ _ _ us hl => match us, hl with | [_, _], _ => rfl)
  have d40 : Df K mg "_law_twist" s__law_twist ["p", "five_v"] := df_mk X G a40 l40 c40 k40 (fun _ _ _ _ _ _ us hl => match us, hl with | [_, _], _ => rfl)
  have d41 : Df K mg "_law_bent" s__law_bent ["m", "p", "five_v"] := df_mk X G a41 l41 c41 k41 (fun _ _ _ _ _ _ us hl => match us, hl with | [_, _, _], _ => rfl)
  have d42 : Df K mg "_law_small_right" s__law_small_right ["m", "p", "five_v"] := df_mk X G a42 l42 c42 k42 (fun _ _ _ _ _ _ us hl => match us, hl with | [_, _, _], _ => rfl)
  have d43 : Df K mg "_law_two_three_right" s__law_two_three_right ["m"] := df_mk X G a43 l43 c43 k43 (fun _ _ _ _ _ _ us hl => match us, hl with | [_], _ => rfl)
  have d44 : Df K mg "_law_right" s__law_right ["m"] := df_mk X G a44 l44 c44 k44 (fun _ _ _ _ _ _ us hl => match us, hl with | [_], _ => rfl)
  refine law_fd X G hfa a45 l45 c45 k45 (fun _ _ _ _ _ _ us hl => match us, hl with | [_], _ => rfl) (fun fd F base => ?_)
  have c_is_whole := k_is_whole (P := P) (w := w) (base := base) T d1 
  have c_is_tuple := k_is_tuple (P := P) (w := w) (base := base) T d2 
  have c_five := k_five (P := P) (w := w) (base := base) T d4 
  have c_symbol := k_symbol (P := P) (w := w) (base := base) T d11 
  have c_value_over := k_value_over (P := P) (w := w) (base := base) T d14 
  have c_is_solution := k_is_solution (P := P) (w := w) (base := base) T d21 
  have c_root_table := k_root_table (P := P) (w := w) (base := base) T d22 
  have c_law_begun := k_law_begun (P := P) (w := w) (base := base) T d28 
  have c_law_draw := k_law_draw (P := P) (w := w) (base := base) T d29 
  have c_law_numbers := k_law_numbers (P := P) (w := w) (base := base) T d32 
  have c_law_p_points := k_law_p_points (P := P) (w := w) (base := base) T d36 
  have c_are_whole := k_are_whole (P := P) (w := w) (base := base) T d5 c_is_tuple c_is_whole
  have c_numbers_of := k_numbers_of (P := P) (w := w) (base := base) T d6 c_five
  have c_least_nonsquare := k_least_nonsquare (P := P) (w := w) (base := base) T d12 c_symbol
  have c_digits_of := k_digits_of (P := P) (w := w) (base := base) T d19 c_five
  have c_law_of := k_law_of (P := P) (w := w) (base := base) T d30 c_law_draw
  have c_law_between := k_law_between (P := P) (w := w) (base := base) T d31 c_law_draw
  have c_law_is_curve := k_law_is_curve (P := P) (w := w) (base := base) T d38 c_law_numbers
  have c_law_many := k_law_many (P := P) (w := w) (base := base) T d39 c_law_numbers
  have c_law_twist := k_law_twist (P := P) (w := w) (base := base) T d40 c_law_numbers
  have c_are_digits := k_are_digits (P := P) (w := w) (base := base) T d16 c_are_whole
  have c_curve_modulo := k_curve_modulo (P := P) (w := w) (base := base) T d18 c_digits_of c_numbers_of
  have c_cubic_of := k_cubic_of (P := P) (w := w) (base := base) T d23 c_numbers_of
  have c_twist_over := k_twist_over (P := P) (w := w) (base := base) T d26 c_least_nonsquare c_numbers_of c_digits_of
  have c_law_over_p := k_law_over_p (P := P) (w := w) (base := base) T d37 c_law_of c_law_draw c_law_numbers
  have c_law_bent := k_law_bent (P := P) (w := w) (base := base) T d41 c_law_of c_law_draw
  have c_is_curve_over := k_is_curve_over (P := P) (w := w) (base := base) T d17 c_are_digits c_numbers_of
  have c_is_point_over := k_is_point_over (P := P) (w := w) (base := base) T d20 c_are_digits c_is_solution
  have c_points_over := k_points_over (P := P) (w := w) (base := base) T d24 c_root_table c_cubic_of c_is_solution c_value_over
  have c_count_over := k_count_over (P := P) (w := w) (base := base) T d25 c_cubic_of c_points_over c_value_over
  have c_law_small_right := k_law_small_right (P := P) (w := w) (base := base) T d42 c_law_p_points c_law_twist c_twist_over c_law_draw c_is_point_over c_points_over c_count_over
  have c_law_two_three_right := k_law_two_three_right (P := P) (w := w) (base := base) T d43 c_law_draw c_is_curve_over c_law_is_curve c_law_small_right
  have c_law_right := k_law_right (P := P) (w := w) (base := base) T d44 c_law_over_p c_law_bent c_law_small_right c_is_curve_over c_law_is_curve c_law_between c_law_numbers c_count_over c_law_many c_curve_modulo
  exact k_law T F c_law_begun c_law_right c_law_two_three_right
end K40
open PySem PySem.W PyProof.Rows
set_option maxRecDepth 100000 in
set_option maxHeartbeats 0 in
theorem PySem.Challenge.cw_pointsum_k40_whole_points_and_counts_holds : PySem.Challenge.rw_pointsum_k40_whole_points_and_counts.Holds := by
  w_on; o_law; k_head; (case hw => w_witness2)
  k_fill
  refine Gd.walk_g (l := PySem.Challenge.rw_pointsum_k40_whole_points_and_counts) (n := 63) (k := 8) (x := "script") (sp := fun K => K40.sp_law K) rfl (by decide) rfl ⟨rfl, by decide, by decide⟩ (fun w h Y => PySem.W.kIn_of Y) ?F (fun K H a ns hl hS => ⟨a, ns, rfl, hS, hl, fun _ => rfl⟩)
  case F =>
    intro w mg fa h KX G hmg
    refine' K40.all_mk KX G hmg ?a1 ?l1 ?c1 ?k1 ?a2 ?l2 ?c2 ?k2 ?a4 ?l4 ?c4 ?k4 ?a5 ?l5 ?c5 ?k5 ?a6 ?l6 ?c6 ?k6 ?a11 ?l11 ?c11 ?k11 ?a12 ?l12 ?c12 ?k12 ?a14 ?l14 ?c14 ?k14 ?a16 ?l16 ?c16 ?k16 ?a17 ?l17 ?c17 ?k17 ?a18 ?l18 ?c18 ?k18 ?a19 ?l19 ?c19 ?k19 ?a20 ?l20 ?c20 ?k20 ?a21 ?l21 ?c21 ?k21 ?a22 ?l22 ?c22 ?k22 ?a23 ?l23 ?c23 ?k23 ?a24 ?l24 ?c24 ?k24 ?a25 ?l25 ?c25 ?k25 ?a26 ?l26 ?c26 ?k26 ?a28 ?l28 ?c28 ?k28 ?a29 ?l29 ?c29 ?k29 ?a30 ?l30 ?c30 ?k30 ?a31 ?l31 ?c31 ?k31 ?a32 ?l32 ?c32 ?k32 ?a36 ?l36 ?c36 ?k36 ?a37 ?l37 ?c37 ?k37 ?a38 ?l38 ?c38 ?k38 ?a39 ?l39 ?c39 ?k39 ?a40 ?l40 ?c40 ?k40 ?a41 ?l41 ?c41 ?k41 ?a42 ?l42 ?c42 ?k42 ?a43 ?l43 ?c43 ?k43 ?a44 ?l44 ?c44 ?k44 ?a45 ?l45 ?c45 ?k45 ?z_type ?z_isinstance ?z_int ?z_bool ?z_list ?z_tuple ?z_len ?z_all ?z_reversed ?z_range ?z_sorted ?z_sum ?z_min ?z_repr
    (case a1 => k_is); (case l1 => k_is); (case c1 => k_is); (case k1 => k_is); (case a2 => k_is); (case l2 => k_is); (case c2 => k_is); (case k2 => k_is)
    (case a4 => k_is); (case l4 => k_is); (case c4 => k_is); (case k4 => k_is); (case a5 => k_is); (case l5 => k_is); (case c5 => k_is); (case k5 => k_is)
    (case a6 => k_is); (case l6 => k_is); (case c6 => k_is); (case k6 => k_is); (case a11 => k_is); (case l11 => k_is); (case c11 => k_is); (case k11 => k_is)
    (case a12 => k_is); (case l12 => k_is); (case c12 => k_is); (case k12 => k_is); (case a14 => k_is); (case l14 => k_is); (case c14 => k_is); (case k14 => k_is)
    (case a16 => k_is); (case l16 => k_is); (case c16 => k_is); (case k16 => k_is); (case a17 => k_is); (case l17 => k_is); (case c17 => k_is); (case k17 => k_is)
    (case a18 => k_is); (case l18 => k_is); (case c18 => k_is); (case k18 => k_is); (case a19 => k_is); (case l19 => k_is); (case c19 => k_is); (case k19 => k_is)
    (case a20 => k_is); (case l20 => k_is); (case c20 => k_is); (case k20 => k_is); (case a21 => k_is); (case l21 => k_is); (case c21 => k_is); (case k21 => k_is)
    (case a22 => k_is); (case l22 => k_is); (case c22 => k_is); (case k22 => k_is); (case a23 => k_is); (case l23 => k_is); (case c23 => k_is); (case k23 => k_is)
    (case a24 => k_is); (case l24 => k_is); (case c24 => k_is); (case k24 => k_is); (case a25 => k_is); (case l25 => k_is); (case c25 => k_is); (case k25 => k_is)
    (case a26 => k_is); (case l26 => k_is); (case c26 => k_is); (case k26 => k_is); (case a28 => k_is); (case l28 => k_is); (case c28 => k_is); (case k28 => k_is)
    (case a29 => k_is); (case l29 => k_is); (case c29 => k_is); (case k29 => k_is); (case a30 => k_is); (case l30 => k_is); (case c30 => k_is); (case k30 => k_is)
    (case a31 => k_is); (case l31 => k_is); (case c31 => k_is); (case k31 => k_is); (case a32 => k_is); (case l32 => k_is); (case c32 => k_is); (case k32 => k_is)
    (case a36 => k_is); (case l36 => k_is); (case c36 => k_is); (case k36 => k_is); (case a37 => k_is); (case l37 => k_is); (case c37 => k_is); (case k37 => k_is)
    (case a38 => k_is); (case l38 => k_is); (case c38 => k_is); (case k38 => k_is); (case a39 => k_is); (case l39 => k_is); (case c39 => k_is); (case k39 => k_is)
    (case a40 => k_is); (case l40 => k_is); (case c40 => k_is); (case k40 => k_is); (case a41 => k_is); (case l41 => k_is); (case c41 => k_is); (case k41 => k_is)
    (case a42 => k_is); (case l42 => k_is); (case c42 => k_is); (case k42 => k_is); (case a43 => k_is); (case l43 => k_is); (case c43 => k_is); (case k43 => k_is)
    (case a44 => k_is); (case l44 => k_is); (case c44 => k_is); (case k44 => k_is); (case a45 => k_is); (case l45 => k_is); (case c45 => k_is); (case k45 => k_is)
    (case z_type => k_is); (case z_isinstance => k_is); (case z_int => k_is); (case z_bool => k_is); (case z_list => k_is); (case z_tuple => k_is); (case z_len => k_is); (case z_all => k_is)
    (case z_reversed => k_is); (case z_range => k_is); (case z_sorted => k_is); (case z_sum => k_is); (case z_min => k_is); (case z_repr => k_is)
