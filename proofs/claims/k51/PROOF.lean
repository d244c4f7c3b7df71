import PyProof.Rows.All
import Wide.All
import OpenK.AllK
import Wide.FinOn
import PyProof.ReprRoads
import HandS.ForMost
import HandS.Wide
import PyProof.StrLawsRepr
import PyProof.ReprLen
import HandS.TupAny
import HandS.Gcd
import HandS.More
import HandS.IsInst
import HandS.Style
import HandS.Defaults
import Flt.RightSqrt
import HandS.Codes
import HandS.SortRule
import HandS.TryOnly
import PySem.Challenge.RW_pointsum_k51_whole_forms_that_fall_apart
set_option Elab.async false
set_option linter.all false
set_option maxRecDepth 100000
/-! Promises that know that no repr is under way around the call; repr of plain data. -/
namespace Gd
open PySem PySem.Spec PyProof.Rows L2
/-- as the layer's FnOk, for calls around which nothing is being shown -/
structure FnG (P : Program) (w : World) (K : PySem.W.Frag) (mg : Str → Option Value) (base : Heap) (k : Nat) (f : Addr) (fd : FuncData) (ps : List Str) (sp : Sp) : Prop where
  many : ∀ vs H Q E, sp vs H Q E → vs.length = ps.length
  goes : ∀ (A : Around) (outer : List Env) (s : Shared) (H : Hp) (args : Args) (us : List Value) (vs : List V) (Q : VK) (E : XK), A.guards = some [] → Room k A → Env0 P w K mg base A outer s H →
    BindsTo s fd args (ps.zip us) → Vals vs us → sp vs H Q E → codeAny (model P w) A (.call (.ref f) args) (CR CX0 outer P w H s Q E) s
section
variable {P : Program} {w : World} {K : PySem.W.Frag} {mg : Str → Option Value} {base : Heap}
theorem FnG.of {k : Nat} {f : Addr} {fd : FuncData} {ps : List Str} {sp : Sp} (F : FnOk P w K mg base CX0 k f fd ps sp) : FnG P w K mg base k f fd ps sp :=
  ⟨F.len, fun A outer s H args us vs Q E _ => F.run A outer s H args us vs Q E⟩
theorem FnG.up {j k : Nat} {f : Addr} {fd : FuncData} {ps : List Str} {sp : Sp} (F : FnG P w K mg base j f fd ps sp) (h : j ≤ k) : FnG P w K mg base k f fd ps sp :=
  ⟨F.many, fun A outer s H args us vs Q E hg hr => F.goes A outer s H args us vs Q E hg (hr.mono h)⟩
/-- a def by its body -/
theorem FnG.by_body {x qual : Str} {st : Stmt} {f : Addr} {fd : FuncData} {N ps : List Str} {k : Nat} {sp : Sp} (F : Fun K x qual st f fd) (S : FnScope N ps (defScope st)) (len : ∀ vs H Q E, sp vs H Q E → vs.length = ps.length)
    (hb : ∀ (cdv : Value) (A : Around) (outer : List Env) (s : Shared) (H : Hp) (vs : List V) (Q : VK) (E : XK), A.guards = some [] → Room k (A.deeper (envOfC qual (defScope st) s.heap.objs.size f cdv)) → sp vs H Q E →
      ∃ t, PSs (cxOf CX0 P w K mg base N qual (defScope st) f cdv A outer s H E).nox (defBody st) t ∧ t { nx := fun _ H' => Q .non H', rt := Q } (start N vs) H) : FnG P w K mg base (k + 1) f fd ps sp := by
  obtain ⟨oc, od, kV, doc, pm, an, cdv, ct, osl, rfl, lk, hcd⟩ := F.ex
  constructor
  · exact len
  · intro A outer s H args us vs Q E hg hr e0 hbi rv hsp
    have hlen := len _ _ _ _ hsp
    have lim : s.heap.NoLimit := e0.mod.nolimit.keeps fun b o e => (e0.bs b o e).1
    have inK : K.In s.heap := e0.mod.kin.keeps fun b o e => (e0.bs b o e).1
    have kinds : ∀ y ∈ ps.zip us, (defScope st).names.lookup y.1 = some .local ∨ ((defScope st).names.lookup y.1 = some .cell ∧ ((cellsFrom (s.heap.objs.size + 1) (defScope st).names []).lookup y.1).isSome = true) := by
      rintro ⟨n, v⟩ hy
      have hp := S.par n (List.of_mem_zip hy).1
      cases hp with
      | inl q => exact Or.inl q
      | inr q => exact Or.inr ⟨q, PySem.W.cellsFrom_some _ _ _ (Or.inl q)⟩
    refine codeAny_call_function hr.depth (inK _ _ lk) rfl S.co S.gen rfl (PySem.W.codeRec_of inK hcd) (hbi _ _ _ _ ?_)
    refine wpAny_newFunctionEnv_cells S.kind kinds fun env he s1 x1 => ?_
    subst he
    refine ⟨lim.keeps x1.toInCall.keep, codeAny_func ?_⟩
    obtain ⟨t, ht, hq⟩ := hb cdv A outer s H vs Q E hg (hr.deeper _) hsp
    have I0 : Inv (cxOf CX0 P w K mg base N qual (defScope st) f cdv A outer s H E) [] (start N vs) H s1 := inv_start S hr.hd e0 hlen rv x1
    refine wpAny_mono (ht.nox.run [] s1 (start N vs) H _ I0 hq) (fun fl s' hs => ?_) fun e s' hs => hs
    match fl, hs with
    | .ret u, ⟨v, σ', H', J, r1, q1⟩ => exact ⟨v, H', J.os, J.bare, J.base, J.hok, r1, q1⟩
    | .next, ⟨σ', H', J, q1⟩ => exact ⟨V.non, H', J.os, J.bare, J.base, J.hok, rfl, q1⟩
    | .brk, ⟨_, _, _, q1⟩ => exact q1.elim
    | .cont, ⟨_, _, _, q1⟩ => exact q1.elim
end
/-- f(e, ..) where every parameter is given -/
def tKal (sp : Sp) (t : TA) : TE := fun σ H Q => t σ H fun vs H1 => sp vs H1 Q E0
/-- a def that may be called by its name -/
structure Kl (P : Program) (w : World) (K : PySem.W.Frag) (mg : Str → Option Value) (base : Heap) (k : Nat) (x : Str) (sp : Sp) : Prop where
  ex : ∃ (f : Addr) (fd : FuncData) (ps : List Str), FnOk P w K mg base CX0 k f fd ps sp ∧ mg x = some (.ref f) ∧ PySem.W.keepIn K (.ref f) = true ∧ Binds K fd ps []
structure Kg (P : Program) (w : World) (K : PySem.W.Frag) (mg : Str → Option Value) (base : Heap) (k : Nat) (x : Str) (sp : Sp) : Prop where
  ex : ∃ (f : Addr) (fd : FuncData) (ps : List Str), FnG P w K mg base k f fd ps sp ∧ mg x = some (.ref f) ∧ PySem.W.keepIn K (.ref f) = true ∧ Binds K fd ps []
section
variable {X : Cx} {j k : Nat} {f : Addr} {fd : FuncData} {ps : List Str} {sp : Sp} {x : Str} {p pos : Pos} {e : Expr} {es : List Expr} {t : TA}
theorem run_g {pins : List (Addr × Obj)} {σ : L2.St} {H : Hp} {s : Shared} {Q : VK} {us : List Value} {vs : List V} (F : FnG X.prog X.w X.K X.mg X.base k f fd ps sp) (hg : X.A.guards = some []) (hr : Room k X.A) (hb : Binds X.K fd ps [])
    (I : Inv X pins σ H s) (r : Vals vs us) (h : sp vs H Q E0) : wpAny (model X.prog X.w) X.A (call (.ref f) us) (EP X pins σ Q) X.xe s := by
  have hl : us.length = ps.length := r.length.symm.trans (F.many _ _ _ _ h)
  have hbb := hb s us I.kIn (by rw [List.append_nil]; exact hl)
  rw [List.append_nil] at hbb
  refine wpAny_call (codeAny_mono (F.goes X.A X.stack s H ⟨us, []⟩ us vs Q E0 hg hr I.env0 hbb r h) fun res s' hq => ?_)
  match res, hq with
  | .ok (.ret u), hq => exact I.after hq
  | .error e, hq => exact (show False from hq).elim
theorem pe_g (c : Kg X.prog X.w X.K X.mg X.base k x sp) (hgd : X.A.guards = some []) (hr : Room j X.A) (hk : k ≤ j) (hg : Gl X x) (ha : PA X (e :: es) t)
    (hdb : (x == ("__debug__" : Str)) = false := by decide) (he : starEach (e :: es) X.env = (false, eval e X.env) :: starEach es X.env := by rfl) (hpl : (backTo pos (starEach es X.env)).any (·.1) = false := by rfl) :
    PE X (.Call (.Name x p) (e :: es) [] pos) (tKal sp t) := by
  obtain ⟨f, fd, ps, F, hm, kp, b⟩ := c.ex
  constructor
  intro pins s σ H Q I h
  refine wpAny_Call_Name_kw (ld_glob I hg hm ?_ hdb)
  refine PySem.W.callWith_K (h₀ := X.base) I.ok.mod.kin kp (thn (ha.run pos pins s σ H _ I h) fun us s1 ⟨vs, H1, I1, r, q⟩ => ⟨I1.kIn, ?_⟩) he hpl
  exact run_g F hgd (hr.mono hk) b I1 r q
theorem pe_k (c : Kl X.prog X.w X.K X.mg X.base k x sp) (hr : Room j X.A) (hk : k ≤ j) (hg : Gl X x) (ha : PA X (e :: es) t)
    (hdb : (x == ("__debug__" : Str)) = false := by decide) (he : starEach (e :: es) X.env = (false, eval e X.env) :: starEach es X.env := by rfl) (hpl : (backTo pos (starEach es X.env)).any (·.1) = false := by rfl) :
    PE X (.Call (.Name x p) (e :: es) [] pos) (tKal sp t) := by
  obtain ⟨f, fd, ps, F, hm, kp, b⟩ := c.ex
  have h := pe_call (sp := sp) (E := E0) (dvs := []) F (hr.mono hk) hg hm kp b .nil pass0 ha hdb he hpl (pos := pos) (p := p)
  constructor
  intro pins s σ H Q I q
  refine h.run pins s σ H Q I ?_
  have e2 : tCall sp [] E0 t = tKal sp t := by
    funext σ H Q
    show t σ H (fun vs H1 => sp (vs ++ []) H1 Q E0) = t σ H (fun vs H1 => sp vs H1 Q E0)
    congr 1
    funext vs H1
    rw [List.append_nil]
  rw [e2]
  exact q
end
/-! ### repr of plain data -/
mutual
/-- at most so many signs -/
def wt : PyData → Nat
  | .none | .bool _ => 5
  | .int _ => 1921
  | .str x => 10 * x.length + 2
  | .list xs | .tuple xs => wtAll xs + 3
  | .dict _ => 0
def wtAll : List PyData → Nat
  | [] => 0
  | x :: xs => wt x + 2 + wtAll xs
end
mutual
/-- data that can be shown: its ints below 1920 bits -/
def okD : PyData → Bool
  | .none | .bool _ => true
  | .int i => decide (i.natAbs.log2 < 1920)
  | .str x => x.cps.toList.all fun c => decide (c < 16 ^ 8)
  | .list xs | .tuple xs => okAll xs
  | .dict _ => false
def okAll : List PyData → Bool
  | [] => true
  | x :: xs => okD x && okAll xs
end
theorem one_br : (("[" : Str)).length = 1 := rfl
theorem one_br2 : (("]" : Str)).length = 1 := rfl
theorem one_pa : (("(" : Str)).length = 1 := rfl
theorem tup_wt (ts : List Str) : (tupleText ts).length ≤ piled ts + 3 := by
  have e3 : (((if ts.length == 1 then ",)" else ")" : String) : Str)).length ≤ 2 := by split <;> decide +kernel
  unfold tupleText
  rw [strLen_append, strLen_append, one_pa]
  cases ts with
  | nil =>
    have : (Str.join ", " []).length = 0 := by decide +kernel
    omega
  | cons x r =>
    have := join_length_add (x :: r) (List.cons_ne_nil _ _)
    omega
theorem sum_piled : ∀ ts : List Str, (ts.map (·.length)).sum + 2 * ts.length = piled ts
  | [] => rfl
  | t :: ts => by
    have ih := sum_piled ts
    rw [piled_cons, ← ih, List.map_cons, List.sum_cons, List.length_cons]
    omega
theorem lst_wt (ts : List Str) : (listText ts).length ≤ piled ts + 3 := by
  have h := textFrom_len_le ts 0 "["
  have h2 := sum_piled ts
  unfold listText
  rw [strLen_append, one_br2]
  rw [one_br] at h
  omega
mutual
theorem shown_wt : ∀ d : PyData, okD d = true → d.shown.length ≤ wt d ∧ d.showable = true ∧ d.hasDict = false
  | .none, _ => by
    refine ⟨?_, rfl, rfl⟩
    show (("None" : Str)).length ≤ 5
    decide +kernel
  | .bool b, _ => by
    refine ⟨?_, rfl, rfl⟩
    cases b <;> (show _ ≤ 5; decide +kernel)
  | .int i, h => by
    have h1 : i.natAbs.log2 < 1920 := of_decide_eq_true (by simpa only [okD] using h)
    refine ⟨?_, by simpa only [PyData.showable] using decide_eq_true h1, rfl⟩
    have e := int_text_length_le (k := 1920) (by decide) h1
    show (Str.ofString (toString i)).length ≤ 1921
    rw [PySem.ofString_length]
    exact e
  | .str x, h => by
    refine ⟨?_, rfl, rfl⟩
    have h1 : ∀ c ∈ x.cps.toList, c < 16 ^ 8 := fun c hc => of_decide_eq_true (List.all_eq_true.mp (by simpa only [okD] using h) c hc)
    exact StrLaws.reprText_len x h1
  | .list xs, h => by
    obtain ⟨h1, h2, h3⟩ := shown_wtAll xs (by simpa only [okD] using h)
    refine ⟨?_, by simpa only [PyData.showable] using h2, by simpa only [PyData.hasDict] using h3⟩
    simp only [PyData.shown, wt]
    exact Nat.le_trans (lst_wt _) (Nat.add_le_add_right h1 3)
  | .tuple xs, h => by
    obtain ⟨h1, h2, h3⟩ := shown_wtAll xs (by simpa only [okD] using h)
    refine ⟨?_, by simpa only [PyData.showable] using h2, by simpa only [PyData.hasDict] using h3⟩
    simp only [PyData.shown, wt]
    exact Nat.le_trans (tup_wt _) (Nat.add_le_add_right h1 3)
  | .dict _, h => by simp only [okD, Bool.false_eq_true] at h
theorem shown_wtAll : ∀ xs : List PyData, okAll xs = true → piled (PyData.shownAll xs) ≤ wtAll xs ∧ PyData.showableAll xs = true ∧ PyData.hasDictAll xs = false
  | [], _ => ⟨Nat.le_refl _, rfl, rfl⟩
  | x :: xs, h => by
    have h0 : (okD x && okAll xs) = true := by simpa only [okAll] using h
    rw [Bool.and_eq_true] at h0
    obtain ⟨a1, a2, a3⟩ := shown_wt x h0.1
    obtain ⟨b1, b2, b3⟩ := shown_wtAll xs h0.2
    refine ⟨?_, by simp only [PyData.showableAll, a2, b2, Bool.and_self], by simp only [PyData.hasDictAll, a3, b3, Bool.or_self]⟩
    simp only [PyData.shownAll, wtAll]
    rw [piled_cons]
    omega
end
/-- the text of data -/
def rRepr (K : PySem.W.Frag) : List V → Hp → VK → Prop := fun xs H Q => ∃ x d, xs = [x] ∧ Dp K H x d ∧ okD d = true ∧ d.depth ≤ 40 ∧ wt d ≤ 1000000 ∧ Q (.str d.shown) H
section
variable {X : Cx}
theorem call_reprD (hg : X.A.guards = some []) (hu : X.A.units + 64 < cLine) : CallR X (.builtin "repr") (rRepr X.K) := by
  intro pins s σ H xs us Q I r h
  obtain ⟨x, d, rfl, hd, h0, h3, hw, q⟩ := h
  obtain ⟨hz, h1, h2⟩ := shown_wt d h0
  have h4 : d.shown.length ≤ sizeLine := Nat.le_trans hz (Nat.le_trans hw (by decide))
  obtain ⟨u, rfl, hx⟩ := vals1 r
  obtain ⟨as, rd⟩ := Dp.reads I d x u hd hx
  cases hd with
  | non =>
    obtain rfl : u = Value.none := hx
    exact PySem.P.repr_of_none ⟨.str _, H, I.tok _, ⟨_, rfl⟩, q⟩
  | bl b =>
    obtain rfl : u = Value.bool b := hx
    exact PySem.P.repr_of_bool ⟨.str _, H, I.tok _, ⟨_, rfl⟩, q⟩
  | int i =>
    obtain ⟨t, rfl⟩ := hx
    exact PySem.P.repr_of_int (of_decide_eq_true h1) ⟨.str _, H, I.tok _, ⟨_, rfl⟩, q⟩
  | str z =>
    obtain ⟨t, rfl⟩ := hx
    exact PySem.P.repr_of_str ⟨.str _, H, I.tok _, ⟨_, rfl⟩, q⟩ h4
  | lst hs ha =>
    obtain rfl : u = Value.ref _ := hx
    refine repr_of_reads' rd h1 (PyData.noDict_hsm h2) hg (by omega) (fun _ _ z => z) (fun h' u tk hk => ?_) h4
    exact ⟨.str _, H, I.kept (t' := tk) hk, ⟨_, rfl⟩, q⟩
  | tup hs ha =>
    obtain rfl : u = Value.ref _ := hx
    refine repr_of_reads' rd h1 (PyData.noDict_hsm h2) hg (by omega) (fun _ _ z => z) (fun h' u tk hk => ?_) h4
    exact ⟨.str _, H, I.kept (t' := tk) hk, ⟨_, rfl⟩, q⟩
end
/-! ### the law's end -/
section
variable {P : Program} {w : World} {K : PySem.W.Frag} {mg mb : Str → Option Value} {k : Nat} {fa a : Addr} {fd : FuncData} {x : Str} {sp : Sp} {s1 : Shared} {vs : List Value} {ns : List Int}
/-- from a heap H in which at most the script is tracked -/
theorem law_from {H : Hp} (KX : K.In s1.heap) (hns : s1.heap.Ns mainGlobals mg) (hb : s1.heap.Ns builtinsNs mb) (hbb : ∀ x : Str, x ≠ "__name__" → mb x = bootBuiltins x) (hlim : s1.heap.NoLimit) (hg : s1.gens = #[])
    (ha : s1.heap.get? a = some { cls := .type "list", data := .seq vs.toArray }) (hr : Room k callerA) (F : ∀ base : Heap, K.In base → base.Ns mainGlobals mg → FnG P w K mg base k fa fd [x] sp)
    (hbind : ∀ (s : Shared) (u : Value), BindsTo s fd ⟨[u], []⟩ [(x, u)]) (hO : Only H) (hok : HOk P w H s1.heap) (hA : ∀ b, H b ≠ none → b = a) (hK : H a ≠ none → K.lookup a = none)
    (hsp : sp [.ref a] H (fun v _ => v = .bl true) fun _ _ _ => False) :
    codeAny (model P w) callerA (.call (.ref fa) ⟨[.ref a], []⟩) (fun r s' => r = .ok (.ret (.bool true)) ∧ OldK s1.heap s'.heap ∧ s'.os = s1.os ∧ AllBare s'.gens) s1 := by
  have untr : ∀ {b : Addr} {o : Obj} {es : Array DictEntry} {ep : Nat}, s1.heap.get? b = some o → o.data = .dict es ep → H b = none := by
    intro b o es ep e d
    cases q : H b with
    | none => rfl
    | some u =>
      obtain rfl : b = a := hA b (by rw [q]; exact Option.some_ne_none u)
      rw [ha] at e
      cases e
      exact absurd (show Data.seq vs.toArray _ = Data.dict es ep from d) (by intro z; cases z)
  have nsH : ∀ {b : Addr} {m : Str → Option Value}, s1.heap.Ns b m → (hidT s1.heap H).Ns b m := by
    rintro b m ⟨o, es, ep, e, d, r⟩
    exact ⟨o, es, ep, hidT_get e (untr e d), d, r⟩
  have inH : K.In (hidT s1.heap H) := by
    intro b o e
    refine hidT_get (KX b o e) ?_
    cases q : H b with
    | none => rfl
    | some u =>
      have hne : H b ≠ none := by rw [q]; exact Option.some_ne_none u
      obtain rfl : b = a := hA b hne
      rw [hK hne] at e
      cases e
  obtain ⟨mc, l1, l2⟩ := hlim
  have md : Mod K mg (hidT s1.heap H) := ⟨inH, nsH hns, ⟨mb, nsH hb, hbb⟩, ⟨mc, nsH l1, l2⟩⟩
  have e0 : Env0 P w K mg (hidT s1.heap H) callerA [] s1 H := by
    refine ⟨rfl, md, fun b o e => of_hidT e, Nat.le_of_eq (hidT_size _ _), trivial, ?_, hok, .of_eq hg⟩
    intro b hb
    cases (show b ∈ ([] : List Addr) from hb)
  have run := (F _ inH (nsH hns)).goes callerA [] s1 H ⟨[.ref a], []⟩ [.ref a] [.ref a] _ _ rfl hr e0 (hbind s1 (.ref a)) (.cons rfl .nil) hsp
  refine codeAny_mono run fun r s' h => ?_
  match r, h with
  | .error e, h => exact (show False from h).elim
  | .ok (.ret u), ⟨v, H', os, bare, un, hok', r', q⟩ =>
    obtain rfl : v = .bl true := q
    obtain rfl : u = Value.bool true := r'
    refine ⟨rfl, OldK.of_keep ?_, os, bare⟩
    intro b o e
    cases q : H b with
    | none => exact un.keep b o e q (fun z => by cases (show b ∈ ([] : List Addr) from z)) (fun z => by cases z)
    | some u =>
      rcases hO b with z | ⟨ob, xs, z⟩
      · rw [q] at z
        cases z
      · have k1 := (hok b _ z).1
        have k2 := (hok' b _ (un.frzs b ob _ z)).1
        rw [e] at k1
        cases k1
        exact k2
theorem law_g (KX : K.In s1.heap) (hns : s1.heap.Ns mainGlobals mg) (hb : s1.heap.Ns builtinsNs mb) (hbb : ∀ x : Str, x ≠ "__name__" → mb x = bootBuiltins x) (hlim : s1.heap.NoLimit) (hg : s1.gens = #[])
    (ha : s1.heap.get? a = some { cls := .type "list", data := .seq vs.toArray }) (hi : IntsAre vs ns) (hl : ns.length ≤ sizeLine) (hr : Room k callerA) (F : ∀ base : Heap, K.In base → base.Ns mainGlobals mg → FnG P w K mg base k fa fd [x] sp)
    (hbind : ∀ (s : Shared) (u : Value), BindsTo s fd ⟨[u], []⟩ [(x, u)]) (hsp : ∀ H : Hp, Only H → SqL K H a (ns.map V.int) → sp [.ref a] H (fun v _ => v = .bl true) fun _ _ _ => False) :
    codeAny (model P w) callerA (.call (.ref fa) ⟨[.ref a], []⟩) (fun r s' => r = .ok (.ret (.bool true)) ∧ OldK s1.heap s'.heap ∧ s'.os = s1.os ∧ AllBare s'.gens) s1 := by
  have rv := vals_ints hi
  have lv := hi.length
  cases hk : K.lookup a with
  | some o =>
    have e := KX a o hk
    rw [ha] at e
    cases e
    refine law_from (H := fun _ => none) KX hns hb hbb hlim hg ha hr F hbind (fun _ => Or.inl rfl) (fun b u z => ?_) (fun b z => absurd rfl z) (fun z => absurd rfl z) (hsp _ (fun _ => Or.inl rfl) (Or.inr ?_))
    · cases (show (none : Option HO) = some u from z)
    · exact ⟨_, vs.toArray, _, hk, rfl, rfl, rfl, by rw [List.size_toArray, lv]; exact hl, by simpa using rv⟩
  | none =>
    let ob : Obj := { cls := .type "list", data := .seq vs.toArray }
    have one : ∀ b, (if b = a then some (HO.frz ob (.lst (ns.map V.int))) else none) ≠ none → b = a := fun b z => by
      by_cases hb : b = a
      · exact hb
      · exact absurd (if_neg hb) z
    have only : Only (fun b => if b = a then some (HO.frz ob (.lst (ns.map V.int))) else none) := fun b => by
      by_cases hb : b = a
      · exact Or.inr ⟨_, _, if_pos hb⟩
      · exact Or.inl (if_neg hb)
    refine law_from (H := fun b => if b = a then some (HO.frz ob (.lst (ns.map V.int))) else none) KX hns hb hbb hlim hg ha hr F hbind only (fun b u z => ?_) one (fun _ => hk) (hsp _ only (Or.inl (Or.inr ⟨ob, if_pos rfl⟩)))
    by_cases hb : b = a
    · obtain rfl := Option.some.inj ((if_pos hb).symm.trans z)
      subst hb
      exact ⟨ha, by rw [List.length_map]; exact hl, vs, _, rv, ha⟩
    · cases (if_neg hb).symm.trans z
end
theorem walk_g {l : PySem.W.OpenLaw} {n k : Nat} {q : Program} {loose : List Str} {XP : (Str → Option Value) → Heap → Prop} {YP : World → Heap → Prop} {d : DefRec} {K : Params → PySem.W.Frag} {sp : PySem.W.Frag → Sp} {x : Str}
    (hn : l.most = some n) (hn2 : n ≤ sizeLine) (hdf : d.params.defaults = []) (hr : Room k callerA) (hY : ∀ (w : World) (h : Heap), YP w h → (K w.params).In h)
    (F : ∀ (w : World) (mg : Str → Option Value) (fa : Addr) (h : Heap), (K w.params).In h → h.Ns mainGlobals mg → mg d.name = some (.ref fa) → ∃ fd : FuncData, (∀ (s : Shared) (u : Value), BindsTo s fd ⟨[u], []⟩ [(x, u)]) ∧
        ∀ base : Heap, (K w.params).In base → base.Ns mainGlobals mg → FnG l.prog w (K w.params) mg base k fa fd [x] (sp (K w.params)))
    (hsp : ∀ (K : PySem.W.Frag) (H : Hp) (a : Addr) (ns : List Int), ns.length ≤ n → SqL K H a (ns.map V.int) → sp K [.ref a] H (fun v _ => v = .bl true) fun _ _ _ => False) :
    PySem.W.WalkO q loose XP YP l.row.toRowW d [] (fun f vs => PySem.call f vs) := by
  refine Att.attach_call hn hdf fun w s0 s1 mg mb fa o pm cd doc a vs ns G Y ho hd hcd hmg hobj hints hlen hg => ?_
  obtain ⟨fd, hb, hF⟩ := F w mg fa _ (hY w _ Y) G.T.g hmg
  exact law_g (hY w _ Y) G.T.g G.T.b G.T.builtins G.T.nolimit hg hobj hints (Nat.le_trans hlen hn2) hr hF hb fun H _ hS => hsp (K w.params) H a ns hlen hS
end Gd
set_option Elab.async false
set_option linter.all false
set_option maxRecDepth 100000
/-! Common words: sizes of ints, heaps that grow, defs of the text by their names. -/
namespace Gd
open PySem PySem.Spec PyProof.Rows L2
/-! ### sizes -/
def B (n : Nat) (x : Int) : Prop := x.natAbs < 2 ^ n
theorem B.up {m n : Nat} {x : Int} (h : B m x) (k : m ≤ n) : B n x := Nat.lt_of_lt_of_le h (Nat.pow_le_pow_right (by decide) k)
theorem B.add {m n : Nat} {x y : Int} (hx : B m x) (hy : B n y) : B (max m n + 1) (x + y) := by
  have h1 : x.natAbs < 2 ^ max m n := hx.up (Nat.le_max_left m n)
  have h2 : y.natAbs < 2 ^ max m n := hy.up (Nat.le_max_right m n)
  unfold B
  rw [Nat.pow_succ]
  omega
theorem B.neg {n : Nat} {x : Int} (hx : B n x) : B n (-x) := by
  unfold B at *
  omega
theorem B.sub {m n : Nat} {x y : Int} (hx : B m x) (hy : B n y) : B (max m n + 1) (x - y) := by
  rw [Int.sub_eq_add_neg]
  exact hx.add hy.neg
theorem B.mul {m n : Nat} {x y : Int} (hx : B m x) (hy : B n y) : B (m + n) (x * y) := wide_lt hx hy
theorem B.pow {m : Nat} {x : Int} (hx : B m x) : ∀ k : Nat, B (m * k + 1) (x ^ k)
  | 0 => by
    rw [Int.pow_zero]
    exact Nat.one_lt_two_pow (by omega)
  | k + 1 => by
    rw [Int.pow_succ]
    exact ((B.pow hx k).mul hx).up (by rw [Nat.mul_succ]; omega)
theorem B.lit {n : Nat} {x : Int} (h : x.natAbs < 2 ^ n) : B n x := h
theorem B.mulW {m n : Nat} {x y : Int} (hx : B m x) (hy : B n y) (h : m + n ≤ 900000) : CMulW x y :=
  wide_mul (hx.up (Nat.le_add_right m 1)) (hy.up (Nat.le_add_right n 1)) (by omega) (by omega) (by omega)
theorem B.mulL {n : Nat} {x y : Int} (hx : B n x) (h : n ≤ 64) : CMul x y := by
  have h1 := hx.up h
  unfold B at h1
  exact Or.inl ⟨by omega, by omega⟩
theorem B.mulR {n : Nat} {x y : Int} (hy : B n y) (h : n ≤ 64) : CMul x y := by
  have h1 := hy.up h
  unfold B at h1
  exact Or.inr ⟨by omega, by omega⟩
theorem B.log {n : Nat} {x : Int} (hx : B n x) (h : n ≤ 1900) : x.natAbs.log2 < 1920 := by
  have h1 : x.natAbs < 2 ^ 1901 := hx.up (by omega)
  exact PySem.Flt.log2_lt_of (by decide) (Nat.lt_of_lt_of_le h1 (Nat.pow_le_pow_right (by decide) (by decide)))
theorem B.between {n : Nat} {x : Int} (m : Int) (h0 : -m ≤ x) (h1 : x ≤ m) (h : m.natAbs < 2 ^ n) : B n x := by
  unfold B
  omega
theorem small {n : Nat} (h : n ≤ 1000) : n ≤ sizeLine := Nat.le_trans h (by decide)
/-! ### heaps -/
theorem Same.new {H : Hp} {p : Addr} {o : HO} (h : H p = none) : Same H (upd H p o) := fun b x e => by
  rw [upd_ne (ne_of_none e h)]
  exact e
theorem Same.put {H H1 : Hp} {p : Addr} {o : HO} (s : Same H H1) (h : H p = none) : Same H (upd H1 p o) := fun b x e => by
  rw [upd_ne (ne_of_none e h)]
  exact s b x e
theorem Same.rd {H H' : Hp} {a : Addr} {u : HO} (e : Same H H') (h : Rd H a u) : Rd H' a u := by
  rcases h with h | ⟨o, h⟩
  · exact Or.inl (e _ _ h)
  · exact Or.inr ⟨o, e _ _ h⟩
theorem Same.tup {K : PySem.W.Frag} {H H' : Hp} {a : Addr} {xs : List V} (e : Same H H') (h : SqT K H a xs) : SqT K H' a xs := by
  rcases h with h | h
  · exact Or.inl (Same.rd e h)
  · exact Or.inr h
theorem tup_of {K : PySem.W.Frag} {H : Hp} {a : Addr} {xs : List V} (h : H a = some (.tup xs)) : SqT K H a xs := Or.inl (Or.inl h)
theorem lst_of {K : PySem.W.Frag} {H : Hp} {a : Addr} {xs : List V} (h : H a = some (.lst xs)) : SqL K H a xs := Or.inl (Or.inl h)
/-- all but what stands at m is as it was -/
def But (m : Addr) (H H' : Hp) : Prop := ∀ b o, H b = some o → b ≠ m → H' b = some o
theorem But.refl (m : Addr) (H : Hp) : But m H H := fun _ _ e _ => e
theorem But.trans {m : Addr} {H H1 H2 : Hp} (a : But m H H1) (b : But m H1 H2) : But m H H2 := fun c o e n => b c o (a c o e n) n
theorem But.of {m : Addr} {H H' : Hp} (a : Same H H') : But m H H' := fun c o e _ => a c o e
theorem But.upd {m : Addr} {H : Hp} {o : HO} : But m H (upd H m o) := fun c x e n => by
  rw [upd_ne n]
  exact e
/-- the same where m was not known -/
theorem But.same {m : Addr} {H H1 H2 : Hp} (s : Same H H1) (b : But m H1 H2) (h : H m = none) : Same H H2 := fun c o e => b c o (s c o e) (ne_of_none e h)
/-- the slots said anew -/
theorem sig {nx : L2.St → Hp → Prop} {σ : L2.St} {H : Hp} (σ' : L2.St) (e : σ = σ') (h : nx σ' H) : nx σ H := e ▸ h
theorem sigN {nx : L2.St → Hp → Prop} {i : Nat} {v : V} {σ : L2.St} {H : Hp} (σ' : L2.St) (e : σ.set i (some v) = σ') (h : nx σ' H) : gName i v σ H nx := by
  subst e
  exact h
/-- a number of the module -/
theorem pe_kon {X : Cx} {x : Str} {pos : Pos} {v : V} (hg : Gl X x) (h : ∃ u, X.mg x = some u ∧ RelV v u) (hd : (x == ("__debug__" : Str)) = false := by decide) : PE X (.Name x pos) (tC v) := by
  obtain ⟨u, hm, r⟩ := h
  exact pe_glob hg hm r hd
/-- int(n) of a number -/
theorem call_intI {X : Cx} : CallR X (.type "int") (fun xs H Q => ∃ i, xs = [.int i] ∧ Q (.int i) H) := fun pins s σ H xs us Q I r h => call_int1 pins s σ H xs us Q I r (Or.inl h)
/-! ### the state of the draws: four entries -/
def mk4 (L s : Int) (c : Addr) (n : Int) : List (Key × V) := [(Sum.inr "left", .int L), (Sum.inr "seed", .int s), (Sum.inr "cells", .ref c), (Sum.inr "spot", .int n)]
theorem kn12 : ¬ (("left" : Str) = "seed") := by decide +kernel
theorem kn13 : ¬ (("left" : Str) = "cells") := by decide +kernel
theorem kn14 : ¬ (("left" : Str) = "spot") := by decide +kernel
theorem kn23 : ¬ (("seed" : Str) = "cells") := by decide +kernel
theorem kn24 : ¬ (("seed" : Str) = "spot") := by decide +kernel
theorem kn34 : ¬ (("cells" : Str) = "spot") := by decide +kernel
theorem kn21 : ¬ (("seed" : Str) = "left") := by decide +kernel
theorem kn31 : ¬ (("cells" : Str) = "left") := by decide +kernel
theorem kn41 : ¬ (("spot" : Str) = "left") := by decide +kernel
theorem kn42 : ¬ (("spot" : Str) = "seed") := by decide +kernel
theorem kn43 : ¬ (("spot" : Str) = "cells") := by decide +kernel
theorem kn32 : ¬ (("cells" : Str) = "seed") := by decide +kernel
section
variable {L s n : Int} {c : Addr}
theorem m4_left : valV (mk4 L s c n) (Sum.inr "left") = some (.int L) := by simp [valV, mk4, List.find?_cons]
theorem m4_seed : valV (mk4 L s c n) (Sum.inr "seed") = some (.int s) := by simp [valV, mk4, List.find?_cons, kn12]
theorem m4_cells : valV (mk4 L s c n) (Sum.inr "cells") = some (.ref c) := by simp [valV, mk4, List.find?_cons, kn13, kn23]
theorem m4_spot : valV (mk4 L s c n) (Sum.inr "spot") = some (.int n) := by simp [valV, mk4, List.find?_cons, kn14, kn24, kn34]
theorem m4_putL (y : Int) : putK (mk4 L s c n) (Sum.inr "left") (.int y) = mk4 y s c n := by simp [putK, mk4, kn21, kn31, kn41]
theorem m4_merge : mergeK [] (mk4 L s c n) = mk4 L s c n := by simp [mergeK, putK, mk4, List.foldl, kn12, kn13, kn14, kn23, kn24, kn34]
theorem m4_putS (y : Int) : putK (mk4 L s c n) (Sum.inr "spot") (.int y) = mk4 L s c y := by simp [putK, mk4, kn14, kn24, kn34]
end
/-- the state stands at m, with at most n draws out of the cells behind it -/
def MAt (H : Hp) (m c : Addr) (n : Nat) : Prop := ∃ (L s : Int) (cs : List Int) (k : Nat), H m = some (.dK (mk4 L s c (k : Int))) ∧ k ≤ n ∧ H c = some (.lst (cs.map V.int)) ∧ 0 < cs.length
theorem MAt.up {H : Hp} {m cl : Addr} {n n' : Nat} (h : MAt H m cl n) (k : n ≤ n') : MAt H m cl n' := by
  obtain ⟨L, s, cs, j, h1, h2, h3, h4⟩ := h
  exact ⟨L, s, cs, j, h1, Nat.le_trans h2 k, h3, h4⟩
theorem MAt.same {H H' : Hp} {m cl : Addr} {n : Nat} (h : MAt H m cl n) (e : Same H H') : MAt H' m cl n := by
  obtain ⟨L, s, cs, j, h1, h2, h3, h4⟩ := h
  exact ⟨L, s, cs, j, e _ _ h1, h2, e _ _ h3, h4⟩
theorem MAt.some {H : Hp} {m cl : Addr} {n : Nat} (h : MAt H m cl n) : ∃ kvs, H m = some (.dK kvs) := by
  obtain ⟨L, s, cs, j, h1, _⟩ := h
  exact ⟨_, h1⟩
theorem MAt.ne {H : Hp} {m cl p : Addr} {n : Nat} (h : MAt H m cl n) (e : H p = none) : m ≠ p ∧ cl ≠ p := by
  obtain ⟨L, s, cs, j, h1, h2, h3, h4⟩ := h
  exact ⟨ne_of_none h1 e, ne_of_none h3 e⟩
theorem MAt.put {H : Hp} {m cl p : Addr} {n : Nat} {o : HO} (h : MAt H m cl n) (e : m ≠ p ∧ cl ≠ p) : MAt (upd H p o) m cl n := by
  obtain ⟨L, s, cs, j, h1, h2, h3, h4⟩ := h
  refine ⟨L, s, cs, j, ?_, h2, ?_, h4⟩
  · rw [upd_ne e.1]
    exact h1
  · rw [upd_ne e.2]
    exact h3
/-- what the draws leave: fresh stays fresh -/
theorem But.free {m p cl : Addr} {H H' : Hp} {n : Nat} (b : But m H H') (h : MAt H' m cl n) (e : H' p = none) : H p = none := by
  obtain ⟨kvs, hm⟩ := h.some
  cases q : H p with
  | none => rfl
  | some o =>
    by_cases hp : p = m
    · subst hp
      rw [hm] at e
      cases e
    · rw [b p o q hp] at e
      cases e
theorem But.tup {m p cl : Addr} {H H' : Hp} {n : Nat} {xs : List V} (b : But m H H') (h : MAt H m cl n) (e : H p = some (.tup xs)) : H' p = some (.tup xs) := by
  obtain ⟨kvs, hm⟩ := h.some
  exact b p _ e (ne_of e hm (by intro z; cases z))
theorem But.lst {m p cl : Addr} {H H' : Hp} {n : Nat} {xs : List V} (b : But m H H') (h : MAt H m cl n) (e : H p = some (.lst xs)) : H' p = some (.lst xs) := by
  obtain ⟨kvs, hm⟩ := h.some
  exact b p _ e (ne_of e hm (by intro z; cases z))
theorem But.seqL {K : PySem.W.Frag} {m p cl : Addr} {H H' : Hp} {n : Nat} {xs : List V} (b : But m H H') (h : MAt H m cl n) (e : SqL K H p xs) : SqL K H' p xs := by
  obtain ⟨kvs, hm⟩ := h.some
  rcases e with (e | ⟨o, e⟩) | e
  · exact Or.inl (Or.inl (b p _ e (ne_of e hm (by intro z; cases z))))
  · exact Or.inl (Or.inr ⟨o, b p _ e (ne_of e hm (by intro z; cases z))⟩)
  · exact Or.inr e
theorem But.seqT {K : PySem.W.Frag} {m p cl : Addr} {H H' : Hp} {n : Nat} {xs : List V} (b : But m H H') (h : MAt H m cl n) (e : SqT K H p xs) : SqT K H' p xs := by
  obtain ⟨kvs, hm⟩ := h.some
  rcases e with (e | ⟨o, e⟩) | e
  · exact Or.inl (Or.inl (b p _ e (ne_of e hm (by intro z; cases z))))
  · exact Or.inl (Or.inr ⟨o, b p _ e (ne_of e hm (by intro z; cases z))⟩)
  · exact Or.inr e
/-! ### tuples -/
theorem catA_any {K : PySem.W.Frag} {H : Hp} {Q : VK} {a b : Addr} {xs ys : List V} (ha : SqT K H a xs) (hb : SqT K H b ys) (hl : xs.length + ys.length ≤ 1000) (k : ∀ p H', Same H H' → SqT K H' p (xs ++ ys) → Q (.ref p) H') : rCatA K (.ref a) (.ref b) H Q := by
  refine ⟨a, b, xs, ys, rfl, rfl, ha, hb, small hl, fun e => ?_, fun _ e => ?_, fun _ _ p hp => k p _ (Same.new hp) (tup_of upd_same)⟩
  · subst e
    exact k b H (Same.refl H) hb
  · subst e
    exact k a H (Same.refl H) (by rw [List.append_nil]; exact ha)
theorem slA_any {K : PySem.W.Frag} {H : Hp} {Q : VK} {a : Addr} {xs : List V} {lo hi : Option Int} (ha : SqT K H a xs) (k : ∀ p H', Same H H' → SqT K H' p (cutV xs lo hi) → Q (.ref p) H') : rSlA K (.ref a) lo hi H Q := by
  refine ⟨a, xs, rfl, ha, fun e => ?_, fun _ p hp => k p _ (Same.new hp) (tup_of upd_same)⟩
  refine k a H (Same.refl H) ?_
  have e2 : cutV xs lo hi = xs := by
    unfold cutV
    rw [e.1, e.2, List.drop_zero, Nat.sub_zero, List.take_length]
  rw [e2]
  exact ha
/-! ### defs by their names -/
structure Df (K : PySem.W.Frag) (mg : Str → Option Value) (x : Str) (st : Stmt) (ps : List Str) : Prop where
  ex : ∃ (f : Addr) (fd : FuncData), Fun K x x st f fd ∧ mg x = some (.ref f) ∧ Binds K fd ps []
section
variable {P : Program} {w : World} {K : PySem.W.Frag} {mg : Str → Option Value} {base : Heap} {x : Str} {st : Stmt} {N ps : List Str} {k : Nat} {sp : Sp}
theorem Kl.by_body (D : Df K mg x st ps) (S : FnScope N ps (defScope st)) (len : ∀ vs H Q E, sp vs H Q E → vs.length = ps.length)
    (hb : ∀ (f : Addr) (cdv : Value) (A : Around) (outer : List Env) (s : Shared) (H : Hp) (vs : List V) (Q : VK) (E : XK), Room k (A.deeper (envOfC x (defScope st) s.heap.objs.size f cdv)) → sp vs H Q E →
      ∃ t, PSs (cxOf CX0 P w K mg base N x (defScope st) f cdv A outer s H E).nox (defBody st) t ∧ t { nx := fun _ H' => Q .non H', rt := Q } (start N vs) H) : Kl P w K mg base (k + 1) x sp := by
  obtain ⟨f, fd, F, hm, b⟩ := D.ex
  exact ⟨f, fd, ps, F.ok S len (hb f), hm, F.kp, b⟩
theorem Kg.by_body (D : Df K mg x st ps) (S : FnScope N ps (defScope st)) (len : ∀ vs H Q E, sp vs H Q E → vs.length = ps.length)
    (hb : ∀ (f : Addr) (cdv : Value) (A : Around) (outer : List Env) (s : Shared) (H : Hp) (vs : List V) (Q : VK) (E : XK), A.guards = some [] → Room k (A.deeper (envOfC x (defScope st) s.heap.objs.size f cdv)) → sp vs H Q E →
      ∃ t, PSs (cxOf CX0 P w K mg base N x (defScope st) f cdv A outer s H E).nox (defBody st) t ∧ t { nx := fun _ H' => Q .non H', rt := Q } (start N vs) H) : Kg P w K mg base (k + 1) x sp := by
  obtain ⟨f, fd, F, hm, b⟩ := D.ex
  exact ⟨f, fd, ps, FnG.by_body F S len (hb f), hm, F.kp, b⟩
theorem df_mk {h : Heap} {f : Addr} {oc : Value} {od an : Option Addr} {osl : Array (Option Value)} {kV doc pm cdv ct : Value} (X : K.In h) (G : h.Ns mainGlobals mg) (a : PySem.W.nsIn K mainGlobals x = some (some (.ref f)))
    (l : K.lookup f = some ⟨oc, od, .func (PySem.W.fnOf x x (defArgs st) (defBody st) (defScope st) .none kV doc pm an cdv ct), osl⟩) (c : PySem.W.codeIn K cdv x = true) (kp : PySem.W.keepIn K (.ref f) = true)
    (hb : ∀ (kV doc pm : Value) (an : Option Addr) (cdv ct : Value) (us : List Value), us.length = ps.length → bindArgs (PySem.W.fnOf x x (defArgs st) (defBody st) (defScope st) .none kV doc pm an cdv ct) ⟨us, []⟩ = pure (ps.zip us)) : Df K mg x st ps :=
  ⟨f, _, fun_mk l c kp, PySem.W.mg_of X G a, (fun_mk l c kp).binds hb⟩
theorem law_fd {h : Heap} {fa f : Addr} {j : Nat} {oc : Value} {od an : Option Addr} {osl : Array (Option Value)} {kV doc pm cdv ct : Value} (X : K.In h) (G : h.Ns mainGlobals mg) (hfa : mg "law" = some (.ref fa)) (a : PySem.W.nsIn K mainGlobals "law" = some (some (.ref f)))
    (l : K.lookup f = some ⟨oc, od, .func (PySem.W.fnOf "law" "law" (defArgs st) (defBody st) (defScope st) .none kV doc pm an cdv ct), osl⟩) (c : PySem.W.codeIn K cdv "law" = true) (kp : PySem.W.keepIn K (.ref f) = true)
    (hb : ∀ (kV doc pm : Value) (an : Option Addr) (cdv ct : Value) (us : List Value), us.length = 1 → bindArgs (PySem.W.fnOf "law" "law" (defArgs st) (defBody st) (defScope st) .none kV doc pm an cdv ct) ⟨us, []⟩ = pure ((["script"] : List Str).zip us))
    (go : ∀ fd, Fun K "law" "law" st fa fd → ∀ base : Heap, FnG P w K mg base j fa fd ["script"] sp) :
    ∃ fd : FuncData, (∀ (s : Shared) (u : Value), BindsTo s fd ⟨[u], []⟩ [("script", u)]) ∧ ∀ base : Heap, K.In base → base.Ns mainGlobals mg → FnG P w K mg base j fa fd ["script"] sp := by
  have e := hfa.symm.trans (PySem.W.mg_of X G a)
  cases e
  exact ⟨_, fun s u => .of_eq (hb kV doc pm an cdv ct [u] rfl), fun base _ _ => go _ (fun_mk l c kp) base⟩
end
end Gd
set_option linter.all false
/-! fractions: plain Lean -/
namespace QM
/-- n / d in lowest terms -/
def sg (n d : Int) : Int := if d < 0 then -((Nat.gcd n.natAbs d.natAbs : Nat) : Int) else ((Nat.gcd n.natAbs d.natAbs : Nat) : Int)
theorem sg_ne {n d : Int} (h : d ≠ 0) : sg n d ≠ 0 := by
  have hp : 0 < Nat.gcd n.natAbs d.natAbs := Nat.gcd_pos_of_pos_right _ (by omega)
  unfold sg
  split <;> omega
theorem fdiv_neg' (a b : Int) : (-a).fdiv (-b) = a.fdiv b := by
  exact Int.neg_fdiv_neg a b
theorem fr_num {n d : Int} (h : d ≠ 0) : n.fdiv (sg n d) = (Rat.divInt n d).num := by
  rw [Rat.num_divInt]
  unfold sg
  have g0 : ((Int.gcd d n : Nat) : Int) = ((Nat.gcd n.natAbs d.natAbs : Nat) : Int) := by rw [Int.gcd_comm]; rfl
  split
  · rename_i e
    rw [Int.sign_eq_neg_one_of_neg e, g0, Int.neg_mul, Int.one_mul]
    have e1 : n.fdiv (-((Nat.gcd n.natAbs d.natAbs : Nat) : Int)) = (-n).fdiv ((Nat.gcd n.natAbs d.natAbs : Nat) : Int) := by
      rw [← fdiv_neg' n, Int.neg_neg]
    rw [e1, Int.fdiv_eq_ediv_of_nonneg _ (by omega)]
  · rename_i e
    rw [Int.sign_eq_one_of_pos (by omega), g0, Int.one_mul, Int.fdiv_eq_ediv_of_nonneg _ (by omega)]
theorem fr_den {n d : Int} (h : d ≠ 0) : d.fdiv (sg n d) = ((Rat.divInt n d).den : Int) := by
  rw [Rat.den_divInt, if_neg h]
  have g0 : Int.gcd d n = Nat.gcd n.natAbs d.natAbs := by rw [Int.gcd_comm]; rfl
  rw [g0]
  unfold sg
  split
  · rename_i e
    have e1 : d.fdiv (-((Nat.gcd n.natAbs d.natAbs : Nat) : Int)) = (-d).fdiv ((Nat.gcd n.natAbs d.natAbs : Nat) : Int) := by
      rw [← fdiv_neg' d, Int.neg_neg]
    rw [e1, Int.fdiv_eq_ediv_of_nonneg _ (by omega), Int.natCast_ediv]
    congr 1
    omega
  · rename_i e
    rw [Int.fdiv_eq_ediv_of_nonneg _ (by omega), Int.natCast_ediv]
    congr 1
    omega
theorem den_ne (a : Rat) : (a.den : Int) ≠ 0 := by
  have := a.den_nz
  omega
theorem denR (a : Rat) : ((a.den : Int) : Rat) ≠ 0 := by
  intro h
  exact den_ne a (by exact_mod_cast h)
theorem as_div (a : Rat) : a = (a.num : Rat) / ((a.den : Int) : Rat) := by
  rw [← Rat.divInt_eq_div, Rat.num_divInt_den]
theorem fr_add (a b : Rat) : Rat.divInt (a.num * b.den + b.num * a.den) (a.den * b.den) = a + b := by
  have ha := denR a
  have hb := denR b
  have ea := as_div a
  have eb := as_div b
  rw [Rat.divInt_eq_div, Rat.intCast_add, Rat.intCast_mul, Rat.intCast_mul, Rat.intCast_mul]
  grind
theorem fr_sub (a b : Rat) : Rat.divInt (a.num * b.den - b.num * a.den) (a.den * b.den) = a - b := by
  have ha := denR a
  have hb := denR b
  have ea := as_div a
  have eb := as_div b
  rw [Rat.divInt_eq_div, Rat.intCast_sub, Rat.intCast_mul, Rat.intCast_mul, Rat.intCast_mul]
  grind
theorem fr_mul (a b : Rat) : Rat.divInt (a.num * b.num) (a.den * b.den) = a * b := by
  have ha := denR a
  have hb := denR b
  have ea := as_div a
  have eb := as_div b
  rw [Rat.divInt_eq_div, Rat.intCast_mul, Rat.intCast_mul]
  grind
theorem num_ne {a : Rat} (h : a ≠ 0) : a.num ≠ 0 := fun e => h (Rat.num_eq_zero.mp e)
theorem fr_div (a b : Rat) (h : b ≠ 0) : Rat.divInt (a.num * b.den) (a.den * b.num) = a / b := by
  have ha := denR a
  have hb := denR b
  have ea := as_div a
  have eb := as_div b
  have hn : (b.num : Rat) ≠ 0 := fun e => num_ne h (by exact_mod_cast e)
  rw [Rat.divInt_eq_div, Rat.intCast_mul, Rat.intCast_mul]
  grind
theorem mul_ne {a b : Int} (h : a ≠ 0) (k : b ≠ 0) : a * b ≠ 0 := Int.mul_ne_zero h k
/-! sizes -/
def RB (n : Nat) (q : Rat) : Prop := q.num.natAbs < 2 ^ n ∧ (q.den : Int).natAbs < 2 ^ n
theorem RB.up {m n : Nat} {q : Rat} (h : RB m q) (k : m ≤ n) : RB n q := ⟨Nat.lt_of_lt_of_le h.1 (Nat.pow_le_pow_right (by decide) k), Nat.lt_of_lt_of_le h.2 (Nat.pow_le_pow_right (by decide) k)⟩
theorem dv_le {x g : Int} (h : g ≠ 0) (d : g ∣ x) : (x.fdiv g).natAbs ≤ x.natAbs := by
  obtain ⟨k, rfl⟩ := d
  rw [Int.mul_fdiv_cancel_left k h, Int.natAbs_mul]
  have h1 : 1 ≤ g.natAbs := by omega
  have h2 : 1 * k.natAbs ≤ g.natAbs * k.natAbs := Nat.mul_le_mul_right _ h1
  omega
theorem sg_dvd (n d : Int) : sg n d ∣ n := by
  have h : ((Nat.gcd n.natAbs d.natAbs : Nat) : Int) ∣ n := Int.ofNat_dvd_left.mpr (Nat.gcd_dvd_left _ _)
  unfold sg
  split
  · exact Int.neg_dvd.mpr h
  · exact h
theorem sg_dvd2 (n d : Int) : sg n d ∣ d := by
  have h : ((Nat.gcd n.natAbs d.natAbs : Nat) : Int) ∣ d := Int.ofNat_dvd_left.mpr (Nat.gcd_dvd_right _ _)
  unfold sg
  split
  · exact Int.neg_dvd.mpr h
  · exact h
theorem RB.of {m : Nat} {n d : Int} (h : d ≠ 0) (hn : n.natAbs < 2 ^ m) (hd : d.natAbs < 2 ^ m) : RB m (Rat.divInt n d) := by
  unfold RB
  rw [← fr_num h, ← fr_den (n := n) h]
  exact ⟨Nat.lt_of_le_of_lt (dv_le (sg_ne h) (sg_dvd n d)) hn, Nat.lt_of_le_of_lt (dv_le (sg_ne h) (sg_dvd2 n d)) hd⟩
theorem pmul {m n a b : Nat} (ha : a < 2 ^ m) (hb : b < 2 ^ n) : a * b < 2 ^ (m + n) := by
  rw [Nat.pow_add]
  rcases Nat.eq_zero_or_pos b with h | h
  · subst h
    rw [Nat.mul_zero]
    exact Nat.mul_pos (Nat.two_pow_pos m) (Nat.two_pow_pos n)
  · exact Nat.mul_lt_mul_of_lt_of_le ha (Nat.le_of_lt hb) (Nat.two_pow_pos n)
theorem RB.add {m n : Nat} {a b : Rat} (ha : RB m a) (hb : RB n b) : RB (m + n + 1) (a + b) := by
  rw [← fr_add]
  have h1 := pmul ha.1 hb.2
  have h2 := pmul ha.2 hb.1
  have h3 := pmul ha.2 hb.2
  refine RB.of (mul_ne (den_ne a) (den_ne b)) ?_ ?_
  · rw [Nat.pow_succ]
    have h4 : (a.num * ↑b.den + b.num * ↑a.den).natAbs ≤ (a.num * ↑b.den).natAbs + (b.num * ↑a.den).natAbs := Int.natAbs_add_le _ _
    rw [Int.natAbs_mul, Int.natAbs_mul, Nat.mul_comm b.num.natAbs] at h4
    omega
  · rw [Nat.pow_succ, Int.natAbs_mul]
    omega
theorem RB.neg {m : Nat} {a : Rat} (ha : RB m a) : RB m (-a) := by
  unfold RB at *
  rw [Rat.neg_num, Rat.neg_den, Int.natAbs_neg]
  exact ha
theorem RB.sub {m n : Nat} {a b : Rat} (ha : RB m a) (hb : RB n b) : RB (m + n + 1) (a - b) := by
  rw [Rat.sub_eq_add_neg]
  exact ha.add hb.neg
theorem RB.mul {m n : Nat} {a b : Rat} (ha : RB m a) (hb : RB n b) : RB (m + n) (a * b) := by
  rw [← fr_mul]
  refine RB.of (mul_ne (den_ne a) (den_ne b)) ?_ ?_
  · rw [Int.natAbs_mul]
    exact pmul ha.1 hb.1
  · rw [Int.natAbs_mul]
    exact pmul ha.2 hb.2
theorem RB.div {m n : Nat} {a b : Rat} (h : b ≠ 0) (ha : RB m a) (hb : RB n b) : RB (m + n) (a / b) := by
  rw [← fr_div a b h]
  refine RB.of (mul_ne (den_ne a) (num_ne h)) ?_ ?_
  · rw [Int.natAbs_mul]
    exact pmul ha.1 hb.2
  · rw [Int.natAbs_mul]
    exact pmul ha.2 hb.1
theorem RB.int {m : Nat} {n : Int} (h : n.natAbs < 2 ^ m) (k : 1 ≤ m) : RB m (n : Rat) := by
  unfold RB
  rw [Rat.num_intCast, Rat.den_intCast]
  exact ⟨h, Nat.lt_of_lt_of_le (by decide : 1 < 2 ^ 1) (Nat.pow_le_pow_right (by decide) k)⟩
theorem RB.pow {m : Nat} {a : Rat} (ha : RB m a) : ∀ k : Nat, RB (m * k + 1) (a ^ k)
  | 0 => by
    rw [Rat.pow_zero]
    exact RB.int (n := 1) (by rw [Nat.mul_zero]; decide) (by omega)
  | k + 1 => by
    rw [Rat.pow_succ]
    exact (RB.mul (RB.pow ha k) ha).up (by rw [Nat.mul_succ]; omega)
/-! powers -/
theorem npow (a : Rat) (k : Nat) : (a ^ k).num = a.num ^ k := Rat.num_pow a k
theorem dpow (a : Rat) (k : Nat) : (a ^ k).den = a.den ^ k := Rat.den_pow a k
theorem le_npow (a : Nat) {k : Nat} (h : 1 ≤ k) : a ≤ a ^ k := by
  rcases Nat.eq_zero_or_pos a with e | e
  · omega
  · calc a = a ^ 1 := (Nat.pow_one a).symm
      _ ≤ a ^ k := Nat.pow_le_pow_right e h
theorem RB.root {m k : Nat} {a : Rat} (h : 1 ≤ k) (ha : RB m (a ^ k)) : RB m a := by
  unfold RB at *
  rw [npow, dpow, Int.natAbs_pow] at ha
  refine ⟨Nat.lt_of_le_of_lt (le_npow _ h) ha.1, ?_⟩
  have e : ((a.den ^ k : Nat) : Int).natAbs = a.den ^ k := Int.natAbs_natCast _
  rw [e] at ha
  rw [Int.natAbs_natCast]
  exact Nat.lt_of_le_of_lt (le_npow _ h) ha.2
theorem num_pos {a : Rat} (h : 0 < a) : 0 < a.num := by
  have h1 : 0 ≤ a.num := Rat.num_nonneg.mpr (Rat.le_of_lt h)
  have h2 : a.num ≠ 0 := num_ne (fun e => by rw [e] at h; exact absurd h (by decide))
  omega
end QM
set_option linter.all false
/-! roots: plain Lean -/
namespace QM
theorem dvd_pow' (a : Nat) {k : Nat} (h : k ≠ 0) : a ∣ a ^ k := by
  obtain ⟨j, rfl⟩ := Nat.exists_eq_succ_of_ne_zero h
  rw [Nat.pow_succ]
  exact Nat.dvd_mul_left a _
theorem ipow_le {a b : Int} (ha : 0 ≤ a) (h : a ≤ b) (k : Nat) : a ^ k ≤ b ^ k := by
  have h1 : a.natAbs ^ k ≤ b.natAbs ^ k := Nat.pow_le_pow_left (by omega) k
  rw [← Int.natAbs_pow, ← Int.natAbs_pow] at h1
  have h2 : 0 ≤ a ^ k := Int.pow_nonneg ha
  have h3 : 0 ≤ b ^ k := Int.pow_nonneg (by omega)
  omega
theorem pow_inj {a b k : Nat} (h : k ≠ 0) (e : a ^ k = b ^ k) : a = b := by
  rcases Nat.lt_trichotomy a b with x | x | x
  · have := Nat.pow_lt_pow_left x h
    omega
  · exact x
  · have := Nat.pow_lt_pow_left x h
    omega
theorem ipow_inj {a b : Int} {k : Nat} (h : k ≠ 0) (ha : 0 ≤ a) (hb : 0 ≤ b) (e : a ^ k = b ^ k) : a = b := by
  have h1 : a.natAbs ^ k = b.natAbs ^ k := by rw [← Int.natAbs_pow, ← Int.natAbs_pow, e]
  have := pow_inj h h1
  omega
theorem qpow_inj {a b : Rat} {k : Nat} (h : k ≠ 0) (ha : 0 < a) (hb : 0 < b) (e : a ^ k = b ^ k) : a = b := by
  have h1 := num_pos ha
  have h2 := num_pos hb
  have e1 : a.num ^ k = b.num ^ k := by rw [← npow, ← npow, e]
  have e2 : a.den ^ k = b.den ^ k := by rw [← dpow, ← dpow, e]
  exact Rat.ext (ipow_inj h (by omega) (by omega) e1) (pow_inj h e2)
/-- the root of a fraction from those of its parts -/
theorem rootQ {k : Nat} (hk : k ≠ 0) {q : Rat} {s t : Int} (hs0 : 0 < s) (ht0 : 0 < t) (hs : s ^ k = q.num) (ht : t ^ k = (q.den : Int)) : ∃ r : Rat, 0 < r ∧ r ^ k = q ∧ r.num = s ∧ (r.den : Int) = t := by
  have e1 : s.natAbs ^ k = q.num.natAbs := by rw [← Int.natAbs_pow, hs]
  have e2 : t.natAbs ^ k = q.den := by
    have h : (t ^ k).natAbs = ((q.den : Int)).natAbs := by rw [ht]
    rw [Int.natAbs_pow, Int.natAbs_natCast] at h
    exact h
  have hc : Nat.Coprime s.natAbs t.natAbs := by
    have c : Nat.Coprime (s.natAbs ^ k) (t.natAbs ^ k) := by
      rw [e1, e2]
      exact q.reduced
    have d1 : s.natAbs ∣ s.natAbs ^ k := dvd_pow' _ hk
    have d2 : t.natAbs ∣ t.natAbs ^ k := dvd_pow' _ hk
    exact Nat.Coprime.coprime_dvd_left d1 (Nat.Coprime.coprime_dvd_right d2 c)
  have hz : t.natAbs ≠ 0 := by omega
  refine ⟨⟨s, t.natAbs, hz, hc⟩, ?_, ?_, rfl, by show ((t.natAbs : Nat) : Int) = t; omega⟩
  · have h1 : (0 : Rat) ≤ ⟨s, t.natAbs, hz, hc⟩ := Rat.num_nonneg.mp (by show 0 ≤ s; omega)
    have h2 : (⟨s, t.natAbs, hz, hc⟩ : Rat) ≠ 0 := fun e => by
      have h3 : s = 0 := congrArg Rat.num e
      omega
    exact Rat.lt_of_le_of_ne h1 (fun e => h2 e.symm)
  · refine Rat.ext ?_ ?_
    · rw [npow]
      exact hs
    · rw [dpow]
      exact e2
/-- Newton's step -/
theorem mono {r s : Int} (hr : 0 ≤ r) (hs : 0 ≤ s) (k : Nat) : r * s ^ k + s * r ^ k ≤ r * r ^ k + s * s ^ k := by
  have key : 0 ≤ (r ^ k - s ^ k) * (r - s) := by
    rcases Int.le_total r s with h | h
    · have h1 : r ^ k ≤ s ^ k := ipow_le hr h k
      have := Int.mul_nonneg (show 0 ≤ s ^ k - r ^ k by omega) (show 0 ≤ s - r by omega)
      grind
    · have h1 : s ^ k ≤ r ^ k := ipow_le hs h k
      exact Int.mul_nonneg (by omega) (by omega)
  grind
theorem amgm {r s : Int} (hr : 0 ≤ r) (hs : 0 ≤ s) : ∀ k : Nat, ((k : Int) + 1) * s * r ^ k ≤ (k : Int) * (r * r ^ k) + s * s ^ k
  | 0 => by simp
  | k + 1 => by
    have h1 := amgm hr hs k
    have h2 := mono hr hs (k + 1)
    have h3 := Int.mul_le_mul_of_nonneg_left h1 hr
    rw [Int.pow_succ, Int.pow_succ] at *
    push_cast
    grind
theorem newton_ge {n r s : Int} {k : Nat} (hr : 1 ≤ r) (hs : 0 ≤ s) (h : s ^ (k + 1) ≤ n) : s ≤ ((k : Int) * r + n.fdiv (r ^ k)).fdiv ((k : Int) + 1) := by
  have hp : 0 < r ^ k := Int.pow_pos (by omega)
  have h1 := amgm (show 0 ≤ r by omega) hs k
  rw [Int.pow_succ] at h
  rw [Int.fdiv_eq_ediv_of_nonneg _ (Int.le_of_lt hp), Int.fdiv_eq_ediv_of_nonneg _ (by omega)]
  rw [Int.le_ediv_iff_mul_le (by omega)]
  have h2 : ((k : Int) + 1) * s - k * r ≤ n / r ^ k := by
    rw [Int.le_ediv_iff_mul_le hp]
    grind
  grind
theorem newton_le {n r : Int} {k : Nat} (hr : 1 ≤ r) (h : r ≤ ((k : Int) * r + n.fdiv (r ^ k)).fdiv ((k : Int) + 1)) : r ^ (k + 1) ≤ n := by
  have hp : 0 < r ^ k := Int.pow_pos (by omega)
  rw [Int.fdiv_eq_ediv_of_nonneg _ (Int.le_of_lt hp), Int.fdiv_eq_ediv_of_nonneg _ (by omega)] at h
  rw [Int.le_ediv_iff_mul_le (by omega)] at h
  have h2 : r ≤ n / r ^ k := by grind
  rw [Int.le_ediv_iff_mul_le hp] at h2
  rw [Int.pow_succ]
  grind
theorem start_ge {n s : Int} {k b : Nat} (hs : 0 ≤ s) (hb : n.natAbs < 2 ^ b) (hk : 0 < k) (h : s ^ k ≤ n) : s ≤ 1 * 2 ^ (b / k + 1) := by
  rw [Int.one_mul]
  rcases Int.le_total s (2 ^ (b / k + 1)) with z | z
  · exact z
  · exfalso
    have h1 : ((2 : Int) ^ (b / k + 1)) ^ k ≤ s ^ k := ipow_le (Int.le_of_lt (Int.pow_pos (by decide))) z k
    rw [← Int.pow_mul] at h1
    have h2 : b ≤ (b / k + 1) * k := by
      have := Nat.lt_div_mul_add (a := b) hk
      rw [Nat.add_mul, Nat.one_mul]
      omega
    have h3 : (2 : Nat) ^ b ≤ 2 ^ ((b / k + 1) * k) := Nat.pow_le_pow_right (by decide) h2
    have h4 : ((2 ^ b : Nat) : Int) ≤ ((2 ^ ((b / k + 1) * k) : Nat) : Int) := Int.ofNat_le.mpr h3
    rw [Int.natCast_pow, Int.natCast_pow] at h4
    have h5 : ((n.natAbs : Nat) : Int) < ((2 ^ b : Nat) : Int) := Int.ofNat_lt.mpr hb
    rw [Int.natCast_pow] at h5
    have e2 : ((2 : Nat) : Int) = 2 := rfl
    rw [e2] at h4 h5
    omega
theorem small_root {n s : Int} {k : Nat} (hs : 0 ≤ s) (hk : 1 ≤ k) (h : s ^ k ≤ n) : s ≤ n := by
  have h1 := le_npow s.natAbs hk
  have h2 : (s ^ k).natAbs = s.natAbs ^ k := Int.natAbs_pow s k
  have h3 : 0 ≤ s ^ k := Int.pow_nonneg hs
  omega
theorem pow01 {n : Int} (h0 : 0 ≤ n) (h2 : n < 2) {k : Nat} (hk : 1 ≤ k) : n ^ k ≤ n := by
  obtain ⟨j, rfl⟩ : ∃ j, k = j + 1 := ⟨k - 1, by omega⟩
  have e : n = 0 ∨ n = 1 := by omega
  rcases e with rfl | rfl
  · rw [Int.pow_succ, Int.mul_zero]
    exact Int.le_refl _
  · rw [Int.one_pow]
    exact Int.le_refl _
/-- the scale between two pairs -/
def U (c4 c6 e4 e6 : Int) (u : Rat) : Prop := 0 < u ∧ u ^ 4 * (e4 : Rat) = (c4 : Rat) ∧ u ^ 6 * (e6 : Rat) = (c6 : Rat)
theorem cz {a : Int} : (a : Rat) = 0 ↔ a = 0 := by
  constructor
  · intro h
    exact_mod_cast h
  · rintro rfl
    rfl
theorem pp {u : Rat} (h : 0 < u) (k : Nat) : u ^ k ≠ 0 := fun e => by
  have h1 := Rat.pow_pos (n := k) h
  rw [e] at h1
  exact absurd h1 (by decide)
theorem U.z4 {c4 c6 e4 e6 : Int} {u : Rat} (h : U c4 c6 e4 e6 u) : c4 = 0 ↔ e4 = 0 := by
  obtain ⟨h0, h1, h2⟩ := h
  have := pp h0 4
  rw [← cz, ← cz (a := e4), ← h1]
  grind
theorem U.z6 {c4 c6 e4 e6 : Int} {u : Rat} (h : U c4 c6 e4 e6 u) : c6 = 0 ↔ e6 = 0 := by
  obtain ⟨h0, h1, h2⟩ := h
  have := pp h0 6
  rw [← cz, ← cz (a := e6), ← h2]
  grind
theorem U.uniq {c4 c6 e4 e6 : Int} {u v : Rat} (z : e4 ≠ 0 ∨ e6 ≠ 0) (h : U c4 c6 e4 e6 u) (k : U c4 c6 e4 e6 v) : u = v := by
  obtain ⟨h0, h1, h2⟩ := h
  obtain ⟨k0, k1, k2⟩ := k
  rcases z with z | z
  · have z' : (e4 : Rat) ≠ 0 := fun e => z (cz.mp e)
    exact qpow_inj (k := 4) (by decide) h0 k0 (by grind)
  · have z' : (e6 : Rat) ≠ 0 := fun e => z (cz.mp e)
    exact qpow_inj (k := 6) (by decide) h0 k0 (by grind)
theorem U.p4 {c4 c6 e4 e6 : Int} {u : Rat} (z : e4 ≠ 0) (h : U c4 c6 e4 e6 u) : u ^ 4 = Rat.divInt c4 e4 := by
  obtain ⟨h0, h1, h2⟩ := h
  have z' : (e4 : Rat) ≠ 0 := fun e => z (cz.mp e)
  rw [Rat.divInt_eq_div]
  grind
theorem U.p6 {c4 c6 e4 e6 : Int} {u : Rat} (z : e6 ≠ 0) (h : U c4 c6 e4 e6 u) : u ^ 6 = Rat.divInt c6 e6 := by
  obtain ⟨h0, h1, h2⟩ := h
  have z' : (e6 : Rat) ≠ 0 := fun e => z (cz.mp e)
  rw [Rat.divInt_eq_div]
  grind
theorem U.p2 {c4 c6 e4 e6 : Int} {u : Rat} (z4 : c4 ≠ 0) (z6 : e6 ≠ 0) (h : U c4 c6 e4 e6 u) : u ^ 2 = Rat.divInt (c6 * e4) (e6 * c4) := by
  obtain ⟨h0, h1, h2⟩ := h
  have z6' : (e6 : Rat) ≠ 0 := fun e => z6 (cz.mp e)
  have z4' : (c4 : Rat) ≠ 0 := fun e => z4 (cz.mp e)
  have := pp h0 4
  rw [Rat.divInt_eq_div, Rat.intCast_mul, Rat.intCast_mul]
  have e : (c6 : Rat) * e4 = u ^ 2 * (e6 * c4) := by
    rw [← h1, ← h2]
    grind
  grind
theorem U.of4 {c4 e4 : Int} {u : Rat} (z : e4 ≠ 0) (h0 : 0 < u) (h : u ^ 4 = Rat.divInt c4 e4) : U c4 0 e4 0 u := by
  have z' : (e4 : Rat) ≠ 0 := fun e => z (cz.mp e)
  rw [Rat.divInt_eq_div] at h
  refine ⟨h0, by grind, by grind⟩
theorem U.of6 {c6 e6 : Int} {u : Rat} (z : e6 ≠ 0) (h0 : 0 < u) (h : u ^ 6 = Rat.divInt c6 e6) : U 0 c6 0 e6 u := by
  have z' : (e6 : Rat) ≠ 0 := fun e => z (cz.mp e)
  rw [Rat.divInt_eq_div] at h
  refine ⟨h0, by grind, by grind⟩
theorem U.of2 {c4 c6 e4 e6 : Int} {u : Rat} (z4 : c4 ≠ 0) (y4 : e4 ≠ 0) (z6 : e6 ≠ 0) (h0 : 0 < u) (h : u ^ 2 = Rat.divInt (c6 * e4) (e6 * c4)) : U c4 c6 e4 e6 u ↔ (u.num * u.num) * (u.num * u.num) * e4 = (u.den * u.den) * (u.den * u.den) * c4 := by
  have z6' : (e6 : Rat) ≠ 0 := fun e => z6 (cz.mp e)
  have z4' : (c4 : Rat) ≠ 0 := fun e => z4 (cz.mp e)
  have y4' : (e4 : Rat) ≠ 0 := fun e => y4 (cz.mp e)
  have hd := denR u
  have hu := as_div u
  rw [Rat.divInt_eq_div, Rat.intCast_mul, Rat.intCast_mul] at h
  have k : u ^ 4 * (e4 : Rat) = c4 ↔ (u.num * u.num) * (u.num * u.num) * e4 = ((u.den : Int) * u.den) * (u.den * u.den) * c4 := by
    rw [← Rat.intCast_inj]
    simp only [Rat.intCast_mul]
    constructor
    · intro e
      grind
    · intro e
      grind
  constructor
  · rintro ⟨_, h1, _⟩
    exact k.mp h1
  · intro e
    have h1 := k.mpr e
    refine ⟨h0, h1, ?_⟩
    have h3 : u ^ 6 = u ^ 4 * u ^ 2 := by grind
    have h5 : (e6 : Rat) * c4 ≠ 0 := fun e => by
      rcases Rat.mul_eq_zero.mp e with e | e
      · exact z6' e
      · exact z4' e
    have h6 : u ^ 2 * ((e6 : Rat) * c4) = c6 * e4 := by
      rw [h]
      grind
    have h7 : u ^ 6 * e6 * c4 = c6 * c4 := by
      rw [h3]
      have : u ^ 4 * u ^ 2 * e6 * c4 = u ^ 4 * (u ^ 2 * (e6 * c4)) := by grind
      rw [this, h6, ← h1]
      grind
    grind
theorem div_ne {n d : Int} (h : n ≠ 0) (k : d ≠ 0) : Rat.divInt n d ≠ 0 := fun e => by
  have hn : (n : Rat) ≠ 0 := fun e => h (cz.mp e)
  have hd : (d : Rat) ≠ 0 := fun e => k (cz.mp e)
  rw [Rat.divInt_eq_div] at e
  grind
theorem qpos {u : Rat} (h : 0 < u) (k : Nat) : 0 < u ^ k := Rat.pow_pos h
theorem U.pos6 {c4 c6 e4 e6 : Int} {u : Rat} (z : e6 ≠ 0) (h : U c4 c6 e4 e6 u) : 0 < (Rat.divInt c6 e6).num := by
  rw [← U.p6 z h]
  exact num_pos (qpos h.1 6)
theorem U.pos4 {c4 c6 e4 e6 : Int} {u : Rat} (z : e4 ≠ 0) (h : U c4 c6 e4 e6 u) : 0 < c4 * e4 := by
  have h1 : 0 < (Rat.divInt c4 e4).num := by
    rw [← U.p4 z h]
    exact num_pos (qpos h.1 4)
  rw [Rat.num_divInt] at h1
  have h2 : 0 < e4.sign * c4 := by
    have hg : (0 : Int) < ((Int.gcd e4 c4 : Nat) : Int) := by
      have := Int.gcd_pos_of_ne_zero_left c4 z
      omega
    have h3 := (Int.le_ediv_iff_mul_le (a := 1) (b := e4.sign * c4) hg).mp (by omega)
    omega
  rcases Int.lt_trichotomy e4 0 with y | y | y
  · rw [Int.sign_eq_neg_one_of_neg y] at h2
    exact Int.mul_pos_of_neg_of_neg (by omega) y
  · exact absurd y z
  · rw [Int.sign_eq_one_of_pos y] at h2
    exact Int.mul_pos (by omega) y
theorem U.sq4 {c4 c6 e4 e6 : Int} {u r : Rat} (z : e4 ≠ 0) (h : U c4 c6 e4 e6 u) (r0 : 0 < r) (re : r ^ 2 = Rat.divInt c4 e4) : u ^ 2 = r := by
  refine qpow_inj (k := 2) (by decide) (qpos h.1 2) r0 ?_
  rw [re, ← U.p4 z h]
  grind
theorem U.sq4' {c4 c6 e4 e6 : Int} {u : Rat} (z : e4 ≠ 0) (h : U c4 c6 e4 e6 u) : (u ^ 2) ^ 2 = Rat.divInt c4 e4 := by
  rw [← U.p4 z h]
  grind
theorem U.cb6 {c4 c6 e4 e6 : Int} {u r : Rat} (z : e6 ≠ 0) (h : U c4 c6 e4 e6 u) (r0 : 0 < r) (re : r ^ 3 = Rat.divInt c6 e6) : u ^ 2 = r := by
  refine qpow_inj (k := 3) (by decide) (qpos h.1 2) r0 ?_
  rw [re, ← U.p6 z h]
  grind
theorem U.cb6' {c4 c6 e4 e6 : Int} {u : Rat} (z : e6 ≠ 0) (h : U c4 c6 e4 e6 u) : (u ^ 2) ^ 3 = Rat.divInt c6 e6 := by
  rw [← U.p6 z h]
  grind
theorem U.iff {c4 c6 e4 e6 : Int} {u : Rat} (h : 0 < u) : U c4 c6 e4 e6 u ↔ (e6 : Rat) * u ^ 6 = (c6 : Rat) ∧ (e4 : Rat) * u ^ 4 = (c4 : Rat) := by
  unfold U
  constructor
  · rintro ⟨_, h1, h2⟩
    exact ⟨by grind, by grind⟩
  · rintro ⟨h1, h2⟩
    exact ⟨h, by grind, by grind⟩
end QM
set_option Elab.async false
set_option linter.all false
set_option maxRecDepth 100000
namespace L2
open PySem PySem.Spec PyProof.Rows
section
variable {X : Cx}
def rIsqrt : List V → Hp → VK → Prop := fun vs H Q => ∃ a : Int, vs = [.int a] ∧ 0 ≤ a ∧ a.natAbs < 2 ^ 4000 ∧ Q (.int ((Float64.isqrt a.toNat : Nat) : Int)) H
theorem isq_int1 {i : Int} {us : List Value} (r : Vals [V.int i] us) : ∃ t, us = [Value.int i t] := by
  obtain ⟨t, u, h⟩ := Vals.int2 (i := i) (j := i) (us := us ++ us) (by
    cases r with
    | cons a b => cases b; exact .cons a (.cons a .nil))
  match us, h with
  | [_], h => exact ⟨t, by simp at h; rw [h.1]⟩
  | [], h => simp at h
  | _ :: _ :: _, h => simp at h
theorem cr_isqrt : CallR X (.builtin "math.isqrt") rIsqrt := by
  intro pins s σ H vs us Q I r h
  obtain ⟨a, rfl, h0, h1, q⟩ := h
  obtain ⟨t, rfl⟩ := isq_int1 r
  have hl : a.toNat.log2 ≤ 3999 := PySem.W.mg_log (k := 3999) (by rw [show a.toNat = a.natAbs by omega]; exact h1)
  exact call_function_meets PySem.W.MGF.kind_isqrt PySem.W.MGF.plain_isqrt PySem.W.MGF.entry_isqrt (PySem.W.MGF.args_isqrt _) (PySem.W.mg_run_isqrt a t (by omega) (by omega) (by omega)).meets ⟨.int _, H, I.tok _, ⟨_, rfl⟩, q⟩
end
end L2
namespace QM
/-- the whole root of a number -/
theorem isqrt_is {n : Int} (h : 0 ≤ n) : ((PySem.Float64.isqrt n.toNat : Nat) : Int) * ((PySem.Float64.isqrt n.toNat : Nat) : Int) ≤ n ∧ ∀ s : Int, 0 ≤ s → s * s ≤ n → s ≤ ((PySem.Float64.isqrt n.toNat : Nat) : Int) := by
  obtain ⟨a, b⟩ := PySem.Float64.isqrt_spec n.toNat
  generalize PySem.Float64.isqrt n.toNat = q at a b
  have e : ((n.toNat : Nat) : Int) = n := Int.toNat_of_nonneg h
  have a' : (q : Int) * q ≤ n := by rw [← e]; exact_mod_cast a
  have b' : n < ((q : Int) + 1) * (q + 1) := by rw [← e]; exact_mod_cast b
  refine ⟨a', fun s hs h1 => ?_⟩
  rcases (show (q : Int) < s ∨ s ≤ q by omega) with z | z
  · exfalso
    have := Int.mul_le_mul (show (q : Int) + 1 ≤ s by omega) (show (q : Int) + 1 ≤ s by omega) (by omega) hs
    omega
  · exact z
end QM
/-! Sums of two cubes, products of three lines: plain mathematics. -/
set_option linter.all false
namespace K51M
/-- in the order of pairs -/
def Lt (p q : Int × Int) : Prop := p.1 < q.1 ∨ (p.1 = q.1 ∧ p.2 < q.2)
theorem Lt.trans {p q r : Int × Int} (h : Lt p q) (k : Lt q r) : Lt p r := by
  unfold Lt at *
  omega
theorem Lt.irr {p : Int × Int} (h : Lt p p) : False := by
  unfold Lt at h
  omega
/-- strictly ascending lists with the same members are one -/
theorem uniq : ∀ {l m : List (Int × Int)}, l.Pairwise Lt → m.Pairwise Lt → (∀ p, p ∈ l ↔ p ∈ m) → l = m
  | [], [], _, _, _ => rfl
  | [], y :: m, _, _, h => absurd ((h y).mpr List.mem_cons_self) (by simp)
  | x :: l, [], _, _, h => absurd ((h x).mp List.mem_cons_self) (by simp)
  | x :: l, y :: m, hl, hm, h => by
    obtain ⟨hx, hl2⟩ := List.pairwise_cons.mp hl
    obtain ⟨hy, hm2⟩ := List.pairwise_cons.mp hm
    have e : x = y := by
      rcases List.mem_cons.mp ((h x).mp List.mem_cons_self) with e | q
      · exact e
      · rcases List.mem_cons.mp ((h y).mpr List.mem_cons_self) with e | q2
        · exact e.symm
        · exact (Lt.irr ((hx _ q2).trans (hy _ q))).elim
    subst e
    have key : l = m := uniq hl2 hm2 fun p => ⟨fun hp => ?_, fun hp => ?_⟩
    · rw [key]
    · rcases List.mem_cons.mp ((h p).mp (List.mem_cons_of_mem _ hp)) with e | q
      · exact (Lt.irr (e ▸ hx _ hp : Lt x x)).elim
      · exact q
    · rcases List.mem_cons.mp ((h p).mpr (List.mem_cons_of_mem _ hp)) with e | q
      · exact (Lt.irr (e ▸ hy _ hp : Lt x x)).elim
      · exact q
/-- ascending, no one twice: strictly ascending -/
theorem strict {l : List (Int × Int)} (h : l.Pairwise fun p q => ¬ Lt q p) (n : l.Nodup) : l.Pairwise Lt := by
  refine List.Pairwise.imp₂ (S := fun p q => p ≠ q) (fun a b => ?_) h n
  rintro h1 h2
  rcases a with ⟨a1, a2⟩
  rcases b with ⟨b1, b2⟩
  have h2 : ¬ (a1 = b1 ∧ a2 = b2) := fun z => h2 (by rw [z.1, z.2])
  unfold Lt at *
  simp only at *
  omega
/-! ### cubes -/
theorem cube_mono {a b : Int} (h : a ^ 3 = b ^ 3) : a = b := by
  have e : (a - b) * (a * a + a * b + b * b) = 0 := by
    have : (a - b) * (a * a + a * b + b * b) = a ^ 3 - b ^ 3 := by grind
    rw [this, h]
    omega
  rcases Int.mul_eq_zero.mp e with z | z
  · omega
  · have h4 : (2 * a + b) * (2 * a + b) + 3 * (b * b) = 0 := by
      have : (2 * a + b) * (2 * a + b) + 3 * (b * b) = 4 * (a * a + a * b + b * b) := by grind
      rw [this, z]
      rfl
    have p1 : 0 ≤ (2 * a + b) * (2 * a + b) := by
      rcases Int.le_total 0 (2 * a + b) with q | q
      · exact Int.mul_nonneg q q
      · exact Int.mul_nonneg_of_nonpos_of_nonpos q q
    have p2 : 0 ≤ b * b := by
      rcases Int.le_total 0 b with q | q
      · exact Int.mul_nonneg q q
      · exact Int.mul_nonneg_of_nonpos_of_nonpos q q
    have hb : b * b = 0 := by omega
    have ha : (2 * a + b) * (2 * a + b) = 0 := by omega
    rcases Int.mul_eq_zero.mp hb with b0 | b0 <;> rcases Int.mul_eq_zero.mp ha with a0 | a0 <;> omega
theorem sq_nn (a : Int) : 0 ≤ a * a := by
  rcases Int.le_total 0 a with q | q
  · exact Int.mul_nonneg q q
  · exact Int.mul_nonneg_of_nonpos_of_nonpos q q
theorem ab_le {a b : Int} (h : a * a ≤ b * b) (hb : 0 ≤ b) : -b ≤ a ∧ a ≤ b := by
  constructor
  · refine Int.not_lt.mp fun z => ?_
    have : b * b < a * a := by
      have h1 : b * b ≤ b * (-a - 1) := Int.mul_le_mul_of_nonneg_left (by omega) hb
      have h2 : b * (-a - 1) ≤ (-a) * (-a - 1) := Int.mul_le_mul_of_nonneg_right (by omega) (by omega)
      have h3 : (-a) * (-a - 1) = a * a + a := by grind
      omega
    omega
  · refine Int.not_lt.mp fun z => ?_
    have : b * b < a * a := by
      have h1 : b * b ≤ b * (a - 1) := Int.mul_le_mul_of_nonneg_left (by omega) hb
      have h2 : b * (a - 1) ≤ a * (a - 1) := Int.mul_le_mul_of_nonneg_right (by omega) (by omega)
      have h3 : a * (a - 1) = a * a - a := by grind
      omega
    omega
def Sol (n : Int) (p : Int × Int) : Prop := p.1 ^ 3 + p.2 ^ 3 = n
theorem sol_fac {n x y : Int} (h : x ^ 3 + y ^ 3 = n) : (x + y) * (x * x - x * y + y * y) = n := by
  rw [← h]
  grind
/-- where solutions lie -/
theorem sol_bound {n x y : Int} (h : x ^ 3 + y ^ 3 = n) (hn : n ≠ 0) : x * x ≤ 4 * n.natAbs ∧ (x + y) * (x + y) * ((x + y).natAbs : Int) ≤ 4 * n.natAbs ∧ (x + y) ∣ n ∧ x + y ≠ 0 ∧ (0 < n ↔ 0 < x + y) := by
  have f := sol_fac h
  have k0 : x * x ≤ 4 * (x * x - x * y + y * y) := by
    have e : 4 * (x * x - x * y + y * y) = x * x + (2 * x - y) * (2 * x - y) + (y * y + y * y + y * y - x * x) := by grind
    have e2 : 4 * (x * x - x * y + y * y) = 3 * (x * x) + (x - 2 * y) * (x - 2 * y) := by grind
    have := sq_nn (x - 2 * y)
    have := sq_nn x
    omega
  have k1 : (x + y) * (x + y) ≤ 4 * (x * x - x * y + y * y) := by
    have e2 : 4 * (x * x - x * y + y * y) = (x + y) * (x + y) + 3 * ((x - y) * (x - y)) := by grind
    have := sq_nn (x - y)
    omega
  have hs : x + y ≠ 0 := fun z => hn (by rw [← f, z, Int.zero_mul])
  have hq0 : x * x - x * y + y * y ≠ 0 := fun z => hn (by rw [← f, z, Int.mul_zero])
  have hq : 0 < x * x - x * y + y * y := by
    have := sq_nn x
    omega
  generalize x * x - x * y + y * y = q at *
  have na : n.natAbs = (x + y).natAbs * q.natAbs := by rw [← f, Int.natAbs_mul]
  have hqn : (q.natAbs : Int) = q := by omega
  have s1 : (1 : Int) ≤ ((x + y).natAbs : Int) := by omega
  have ni : (n.natAbs : Int) = ((x + y).natAbs : Int) * q := by rw [na, Int.natCast_mul, hqn]
  have q1 : q ≤ (n.natAbs : Int) := by
    rw [ni]
    have := Int.mul_le_mul_of_nonneg_right s1 (show (0 : Int) ≤ q by omega)
    omega
  refine ⟨by omega, ?_, ⟨q, f.symm⟩, hs, ?_⟩
  · rw [ni]
    have := Int.mul_le_mul_of_nonneg_right k1 (show (0 : Int) ≤ ((x + y).natAbs : Int) by omega)
    have e : 4 * q * ((x + y).natAbs : Int) = 4 * (((x + y).natAbs : Int) * q) := by ac_rfl
    omega
  · constructor
    · intro h0
      refine Int.not_le.mp fun z => ?_
      have := Int.mul_nonneg (show 0 ≤ -(x + y) by omega) (show 0 ≤ q by omega)
      rw [Int.neg_mul, f] at this
      omega
    · intro h0
      have := Int.mul_pos h0 hq
      omega
/-- the two ways to a solution with the sum s -/
theorem sol_iff {n s : Int} (hs : s ≠ 0) (hd : s ∣ n) (x y : Int) : (x ^ 3 + y ^ 3 = n ∧ x + y = s) ↔ (x + y = s ∧ 3 * (x * y) = s * s - n / s) := by
  obtain ⟨q, rfl⟩ := hd
  have e : s * q / s = q := Int.mul_ediv_cancel_left _ hs
  rw [e]
  constructor
  · rintro ⟨h, rfl⟩
    refine ⟨rfl, ?_⟩
    have f := sol_fac h
    have := Int.eq_of_mul_eq_mul_left hs f
    rw [← this]
    grind
  · rintro ⟨rfl, h⟩
    refine ⟨?_, rfl⟩
    have : q = (x + y) * (x + y) - 3 * (x * y) := by omega
    rw [this]
    grind
/-! ### one sum -/
/-- just the solutions with the sum s -/
structure Cs (n s : Int) (e : List (Int × Int)) : Prop where
  mem : ∀ x y : Int, (x, y) ∈ e ↔ (x ^ 3 + y ^ 3 = n ∧ x + y = s)
  nodup : e.Nodup
  len : e.length ≤ 2
theorem Cs.none {n s : Int} (h : ∀ x y : Int, x ^ 3 + y ^ 3 = n → x + y = s → False) : Cs n s [] :=
  ⟨fun x y => ⟨fun z => (by cases z), fun z => (h x y z.1 z.2).elim⟩, List.nodup_nil, by decide⟩
theorem cs_dvd {n s : Int} (h : ¬ s ∣ n) : Cs n s [] := Cs.none fun x y e1 e2 => h (e2 ▸ ⟨_, (sol_fac e1).symm⟩)
theorem cs_three {n s : Int} (hs : s ≠ 0) (hd : s ∣ n) (h : ¬ (s * s - n / s) % 3 = 0) : Cs n s [] := Cs.none fun x y e1 e2 => by
  have := ((sol_iff hs hd x y).mp ⟨e1, e2⟩).2
  omega
theorem cs_sq {n s p : Int} (hs : s ≠ 0) (hd : s ∣ n) (hp : 3 * p = s * s - n / s) (h : ¬ ∃ r : Int, r * r = s * s - 4 * p) : Cs n s [] := Cs.none fun x y e1 e2 => by
  have h2 := ((sol_iff hs hd x y).mp ⟨e1, e2⟩).2
  have : x * y = p := by omega
  exact h ⟨x - y, by rw [← this, ← e2]; grind⟩
theorem sq_eq {a b : Int} (h : a * a = b * b) (hb : 0 ≤ b) : a = b ∨ a = -b := by
  have e : (a - b) * (a + b) = 0 := by
    have : (a - b) * (a + b) = a * a - b * b := by grind
    omega
  rcases Int.mul_eq_zero.mp e with z | z
  · exact Or.inl (by omega)
  · exact Or.inr (by omega)
theorem cs_odd {n s p r : Int} (hs : s ≠ 0) (hd : s ∣ n) (hp : 3 * p = s * s - n / s) (hr : r * r = s * s - 4 * p) (h0 : 0 ≤ r) (h : ¬ (s - r) % 2 = 0) : Cs n s [] := Cs.none fun x y e1 e2 => by
  have h2 := ((sol_iff hs hd x y).mp ⟨e1, e2⟩).2
  have h3 : x * y = p := by omega
  have h4 : (x - y) * (x - y) = r * r := by
    rw [hr, ← h3, ← e2]
    grind
  rcases sq_eq h4 h0 with z | z <;> omega
theorem cs_yes {n s p r : Int} (hs : s ≠ 0) (hd : s ∣ n) (hp : 3 * p = s * s - n / s) (hr : r * r = s * s - 4 * p) (h0 : 0 ≤ r) (h : (s - r) % 2 = 0) :
    ∀ x y : Int, (x ^ 3 + y ^ 3 = n ∧ x + y = s) ↔ ((x = (s - r) / 2 ∧ y = s - (s - r) / 2) ∨ (y = (s - r) / 2 ∧ x = s - (s - r) / 2)) := by
  intro x y
  rw [sol_iff hs hd x y]
  obtain ⟨q, hq⟩ : ∃ q, (s - r) / 2 = q := ⟨_, rfl⟩
  rw [hq]
  have e : s - r = 2 * q := by omega
  constructor
  · rintro ⟨h1, h2⟩
    have h3 : x * y = p := by omega
    have h4 : (x - y) * (x - y) = r * r := by
      rw [hr, ← h3, ← h1]
      grind
    rcases sq_eq h4 h0 with z | z
    · right
      omega
    · left
      omega
  · intro z
    have k : q * (s - q) = p := by
      have : r = s - 2 * q := by omega
      rw [this] at hr
      have : (s - 2 * q) * (s - 2 * q) = s * s - 4 * (q * (s - q)) := by grind
      omega
    rcases z with ⟨rfl, rfl⟩ | ⟨rfl, rfl⟩
    · refine ⟨by omega, ?_⟩
      rw [k, hp]
    · refine ⟨by omega, ?_⟩
      rw [Int.mul_comm (s - y) y, k, hp]
theorem cs_two {n s p r : Int} (hs : s ≠ 0) (hd : s ∣ n) (hp : 3 * p = s * s - n / s) (hr : r * r = s * s - 4 * p) (h0 : 0 ≤ r) (h : (s - r) % 2 = 0) (hx : ¬ (s - r) / 2 = s - (s - r) / 2) :
    Cs n s [((s - r) / 2, s - (s - r) / 2), (s - (s - r) / 2, (s - r) / 2)] := by
  refine ⟨fun x y => ?_, ?_, by show 2 ≤ 2; decide⟩
  · rw [cs_yes hs hd hp hr h0 h x y, List.mem_cons, List.mem_singleton, Prod.mk.injEq, Prod.mk.injEq]
    constructor
    · rintro (⟨a, b⟩ | ⟨a, b⟩)
      · exact Or.inl ⟨a, b⟩
      · exact Or.inr ⟨b, a⟩
    · rintro (⟨a, b⟩ | ⟨a, b⟩)
      · exact Or.inl ⟨a, b⟩
      · exact Or.inr ⟨b, a⟩
  · refine List.nodup_cons.mpr ⟨fun z => ?_, List.nodup_cons.mpr ⟨fun z => (by cases z), List.nodup_nil⟩⟩
    rw [List.mem_singleton, Prod.mk.injEq] at z
    exact hx z.1
theorem cs_one {n s p r : Int} (hs : s ≠ 0) (hd : s ∣ n) (hp : 3 * p = s * s - n / s) (hr : r * r = s * s - 4 * p) (h0 : 0 ≤ r) (h : (s - r) % 2 = 0) (hx : (s - r) / 2 = s - (s - r) / 2) :
    Cs n s [((s - r) / 2, (s - r) / 2)] := by
  refine ⟨fun x y => ?_, List.nodup_cons.mpr ⟨fun z => (by cases z), List.nodup_nil⟩, by show 1 ≤ 2; decide⟩
  rw [cs_yes hs hd hp hr h0 h x y, List.mem_singleton, Prod.mk.injEq]
  omega
/-! ### all sums up to k -/
def sgn1 (n : Int) : Int := if 0 < n then 1 else -1
structure Pr (n : Int) (k : Nat) (f : List (Int × Int)) : Prop where
  mem : ∀ x y : Int, (x, y) ∈ f ↔ (x ^ 3 + y ^ 3 = n ∧ (x + y).natAbs ≤ k)
  nodup : f.Nodup
  len : f.length ≤ 2 * k
theorem Pr.zero {n : Int} (hn : n ≠ 0) : Pr n 0 [] := by
  refine ⟨fun x y => ⟨fun z => (by cases z), fun z => ?_⟩, List.nodup_nil, by decide⟩
  have := (sol_bound z.1 hn).2.2.2.1
  omega
theorem Pr.step {n : Int} {k : Nat} {f e : List (Int × Int)} (hn : n ≠ 0) (h : Pr n k f) (c : Cs n (sgn1 n * ((k : Int) + 1)) e) : Pr n (k + 1) (f ++ e) := by
  refine ⟨fun x y => ?_, ?_, ?_⟩
  · rw [List.mem_append, h.mem, c.mem]
    constructor
    · rintro (⟨a, b⟩ | ⟨a, b⟩)
      · exact ⟨a, by omega⟩
      · refine ⟨a, ?_⟩
        rw [b]
        unfold sgn1
        split <;> omega
    · rintro ⟨a, b⟩
      by_cases q : (x + y).natAbs ≤ k
      · exact Or.inl ⟨a, q⟩
      · refine Or.inr ⟨a, ?_⟩
        have h5 := (sol_bound a hn).2.2.2.2
        unfold sgn1
        split <;> omega
  · refine List.nodup_append.mpr ⟨h.nodup, c.nodup, ?_⟩
    rintro ⟨x, y⟩ h1 b h2 rfl
    have a1 := ((h.mem x y).mp h1).2
    have a2 := ((c.mem x y).mp h2).2
    rw [a2] at a1
    unfold sgn1 at a1
    split at a1 <;> omega
  · rw [List.length_append]
    have := h.len
    have := c.len
    omega
theorem pow_le3 {a b : Int} (h : 0 ≤ a) (k : a ≤ b) : a ^ 3 ≤ b ^ 3 := by
  have e : b ^ 3 - a ^ 3 = (b - a) * (a * a + a * b + b * b) := by grind
  have h1 := Int.mul_nonneg h h
  have h2 := Int.mul_nonneg h (show 0 ≤ b by omega)
  have h3 := Int.mul_nonneg (show 0 ≤ b by omega) (show 0 ≤ b by omega)
  have := Int.mul_nonneg (show 0 ≤ b - a by omega) (show 0 ≤ a * a + a * b + b * b by omega)
  omega
theorem Pr.full {n : Int} {k : Nat} {f : List (Int × Int)} (hn : n ≠ 0) (h : Pr n k f) (hk : 4 * (n.natAbs : Int) < ((k : Int) + 1) ^ 3) : ∀ x y : Int, (x, y) ∈ f ↔ x ^ 3 + y ^ 3 = n := by
  intro x y
  rw [h.mem]
  constructor
  · exact fun z => z.1
  · intro z
    refine ⟨z, ?_⟩
    have b := (sol_bound z hn).2.1
    have e : (x + y) * (x + y) * ((x + y).natAbs : Int) = ((x + y).natAbs : Int) ^ 3 := by
      generalize x + y = s
      have : s * s = (s.natAbs : Int) * (s.natAbs : Int) := by
        rw [← Int.natAbs_mul_self' s]
      rw [this]
      grind
    rw [e] at b
    refine Nat.not_lt.mp fun w => ?_
    have := pow_le3 (a := (k : Int) + 1) (b := ((x + y).natAbs : Int)) (by omega) (by omega)
    omega
/-! ### products of lines -/
def Li (p q r n x y : Int) : Prop := (x - p * y) * (x - q * y) * (x - r * y) = n
theorem li_dvd {p q r n x y : Int} (h : Li p q r n x y) : (x - p * y) ∣ n ∧ (x - q * y) ∣ n := by
  unfold Li at h
  exact ⟨⟨(x - q * y) * (x - r * y), by rw [← h, Int.mul_assoc]⟩, ⟨(x - p * y) * (x - r * y), by rw [← h]; ac_rfl⟩⟩
theorem dvd_le {a n : Int} (h : a ∣ n) (hn : n ≠ 0) : a.natAbs ≤ n.natAbs ∧ a ≠ 0 :=
  ⟨Nat.le_of_dvd (by omega) (Int.natAbs_dvd_natAbs.mpr h), fun z => hn (Int.zero_dvd.mp (z ▸ h))⟩
theorem li_bound {p q r n x y : Int} (h : Li p q r n x y) (hn : n ≠ 0) (hpq : p ≠ q) : (x - p * y).natAbs ≤ n.natAbs ∧ (x - q * y).natAbs ≤ n.natAbs ∧ y.natAbs ≤ 2 * n.natAbs := by
  obtain ⟨a, b⟩ := li_dvd h
  have a1 := (dvd_le a hn).1
  have b1 := (dvd_le b hn).1
  refine ⟨a1, b1, ?_⟩
  have e : (q - p) * y = (x - p * y) - (x - q * y) := by grind
  have h1 : ((q - p) * y).natAbs ≤ 2 * n.natAbs := by
    rw [e]
    omega
  rw [Int.natAbs_mul] at h1
  have h2 : 1 * y.natAbs ≤ (q - p).natAbs * y.natAbs := Nat.mul_le_mul_right _ (by omega)
  omega
/-- the divisors, as the program finds them -/
def dvs (n : Int) : Nat → List Int
  | 0 => []
  | k + 1 => dvs n k ++ (if n % ((k : Int) + 1) = 0 then (if ((k : Int) + 1) * ((k : Int) + 1) = n then [(k : Int) + 1, -((k : Int) + 1)] else [(k : Int) + 1, -((k : Int) + 1), n.fdiv ((k : Int) + 1), (-n).fdiv ((k : Int) + 1)]) else [])
theorem dvs_len (n : Int) : ∀ k, (dvs n k).length ≤ 4 * k
  | 0 => Nat.le_refl _
  | k + 1 => by
    have := dvs_len n k
    unfold dvs
    rw [List.length_append]
    split
    · split <;> (simp only [List.length_cons, List.length_nil]; omega)
    · simp only [List.length_nil]
      omega
def dvOk (n r : Nat) : Bool := decide ((dvs n r).Nodup) && decide ((dvs n r).length ≤ 24) && (List.range 121).all fun i => decide ((((i : Int) - 60 ∈ dvs n r) ↔ ((i : Int) - 60) ∣ (n : Int)))
theorem dv_tab : ∀ n, n < 61 → n ≠ 0 → ∀ r, r < 8 → r * r ≤ n → n < (r + 1) * (r + 1) → dvOk n r = true := by decide +kernel
theorem dv_is {n r : Nat} (h0 : n ≠ 0) (h : n ≤ 60) (h1 : r * r ≤ n) (h2 : n < (r + 1) * (r + 1)) : (dvs n r).Nodup ∧ (dvs n r).length ≤ 24 ∧ ∀ d : Int, d ∈ dvs n r ↔ d ∣ (n : Int) := by
  have hr : r < 8 := Nat.not_le.mp fun z => by
    have := Nat.mul_le_mul z z
    omega
  have t := dv_tab n (by omega) h0 r hr h1 h2
  unfold dvOk at t
  rw [Bool.and_eq_true, Bool.and_eq_true, decide_eq_true_iff, decide_eq_true_iff, List.all_eq_true] at t
  refine ⟨t.1.1, t.1.2, fun d => ?_⟩
  by_cases hd : d.natAbs ≤ 60
  · have := of_decide_eq_true (t.2 (d + 60).toNat (List.mem_range.mpr (by omega)))
    rw [show (((d + 60).toNat : Nat) : Int) - 60 = d by omega] at this
    exact this
  · constructor
    · intro hm
      exfalso
      have key : ∀ n, n < 61 → n ≠ 0 → ∀ r, r < 8 → ∀ d ∈ dvs (n : Nat) r, d.natAbs ≤ 60 := by decide +kernel
      exact hd (key n (by omega) h0 r hr d hm)
    · intro hm
      have := (dvd_le hm (by omega)).1
      omega
section
variable {p q r n : Int} {D : List Int}
/-- what has been found at the pair (i, j) of divisors -/
structure Pq (p q r n : Int) (D : List Int) (i j : Nat) (f : List (Int × Int)) : Prop where
  mem : ∀ x y : Int, (x, y) ∈ f ↔ (Li p q r n x y ∧ ((x - p * y) ∈ D.take i ∨ (D[i]? = some (x - p * y) ∧ (x - q * y) ∈ D.take j)))
  nodup : f.Nodup
  len : f.length ≤ i * 24 + j
theorem Pq.zero : Pq p q r n D 0 0 [] := ⟨fun x y => ⟨fun z => (by cases z), fun z => (by simp at z)⟩, List.nodup_nil, by decide⟩
theorem take_mem {A : Type} {D : List A} {i : Nat} {u : A} (h : D[i]? = some u) (x : A) : x ∈ D.take (i + 1) ↔ x ∈ D.take i ∨ x = u := by
  rw [List.take_succ, h, List.mem_append]
  simp
theorem Pq.skip {i j : Nat} {f : List (Int × Int)} {u v : Int} (h : Pq p q r n D i j f) (hu : D[i]? = some u) (hv : D[j]? = some v) (no : ∀ x y, Li p q r n x y → x - p * y = u → x - q * y = v → False) : Pq p q r n D i (j + 1) f := by
  refine ⟨fun x y => ?_, h.nodup, by have := h.len; omega⟩
  rw [h.mem, take_mem hv, hu]
  constructor
  · rintro ⟨a, b | ⟨b, c⟩⟩
    · exact ⟨a, Or.inl b⟩
    · exact ⟨a, Or.inr ⟨b, Or.inl c⟩⟩
  · rintro ⟨a, b | ⟨b, c | c⟩⟩
    · exact ⟨a, Or.inl b⟩
    · exact ⟨a, Or.inr ⟨b, c⟩⟩
    · exact (no x y a (Option.some.inj b).symm c).elim
theorem nodup_take {i : Nat} {u : Int} (hd : D.Nodup) (h : D[i]? = some u) : u ∉ D.take i := by
  intro hm
  obtain ⟨k, hk⟩ := List.mem_iff_getElem?.mp hm
  have hk2 : k < i := by
    have := (List.getElem?_eq_some_iff.mp hk).1
    rw [List.length_take] at this
    omega
  rw [List.getElem?_take_of_lt hk2] at hk
  have e := hk.trans h.symm
  have h0 : k < D.length := (List.getElem?_eq_some_iff.mp hk).1
  have := (List.getElem?_inj h0 hd).mp e
  omega
theorem Pq.add {i j : Nat} {f : List (Int × Int)} {u v x y : Int} (h : Pq p q r n D i j f) (hd : D.Nodup) (hpq : p ≠ q) (hu : D[i]? = some u) (hv : D[j]? = some v) (hs : Li p q r n x y) (ex : x - p * y = u) (ey : x - q * y = v) : Pq p q r n D i (j + 1) (f ++ [(x, y)]) := by
  have one : ∀ x' y', x' - p * y' = u → x' - q * y' = v → x' = x ∧ y' = y := by
    intro x' y' e1 e2
    have e : (q - p) * (y' - y) = 0 := by
      have : (q - p) * (y' - y) = ((x' - p * y') - (x' - q * y')) - ((x - p * y) - (x - q * y)) := by grind
      rw [this, e1, e2, ex, ey]
      omega
    have ey2 : y' = y := by
      rcases Int.mul_eq_zero.mp e with z | z <;> omega
    subst ey2
    exact ⟨by omega, rfl⟩
  refine ⟨fun x' y' => ?_, ?_, ?_⟩
  · rw [List.mem_append, h.mem, take_mem hv, hu, List.mem_singleton, Prod.mk.injEq]
    constructor
    · rintro (⟨a, b | ⟨b, c⟩⟩ | ⟨rfl, rfl⟩)
      · exact ⟨a, Or.inl b⟩
      · exact ⟨a, Or.inr ⟨b, Or.inl c⟩⟩
      · exact ⟨hs, Or.inr ⟨by rw [ex], Or.inr ey⟩⟩
    · rintro ⟨a, b | ⟨b, c | c⟩⟩
      · exact Or.inl ⟨a, Or.inl b⟩
      · exact Or.inl ⟨a, Or.inr ⟨b, c⟩⟩
      · exact Or.inr (one x' y' (Option.some.inj b).symm c)
  · refine List.nodup_append.mpr ⟨h.nodup, List.nodup_cons.mpr ⟨fun z => (by cases z), List.nodup_nil⟩, ?_⟩
    rintro ⟨a1, a2⟩ ha b hb rfl
    rw [List.mem_singleton, Prod.mk.injEq] at hb
    obtain ⟨rfl, rfl⟩ := hb
    obtain ⟨-, z | ⟨-, z⟩⟩ := (h.mem a1 a2).mp ha
    · rw [ex] at z
      exact nodup_take hd hu z
    · rw [ey] at z
      exact nodup_take hd hv z
  · rw [List.length_append]
    have := h.len
    simp only [List.length_cons, List.length_nil]
    omega
theorem Pq.next {i : Nat} {f : List (Int × Int)} {u : Int} (h : Pq p q r n D i D.length f) (hu : D[i]? = some u) (hl : D.length ≤ 24) (hD : ∀ d : Int, d ∣ n → d ∈ D) : Pq p q r n D (i + 1) 0 f := by
  refine ⟨fun x y => ?_, h.nodup, by have := h.len; omega⟩
  rw [h.mem, take_mem hu, hu, List.take_length, List.take_zero]
  constructor
  · rintro ⟨a, b | ⟨b, c⟩⟩
    · exact ⟨a, Or.inl (Or.inl b)⟩
    · exact ⟨a, Or.inl (Or.inr (Option.some.inj b).symm)⟩
  · rintro ⟨a, (b | b) | ⟨-, c⟩⟩
    · exact ⟨a, Or.inl b⟩
    · exact ⟨a, Or.inr ⟨by rw [b], hD _ (li_dvd a).2⟩⟩
    · cases c
theorem Pq.full {f : List (Int × Int)} (h : Pq p q r n D D.length 0 f) (hD : ∀ d : Int, d ∣ n → d ∈ D) : ∀ x y : Int, (x, y) ∈ f ↔ Li p q r n x y := by
  intro x y
  rw [h.mem, List.take_length]
  exact ⟨fun z => z.1, fun z => ⟨z, Or.inl (hD _ (li_dvd z).1)⟩⟩
/-- what the law has found when it stands at (Y, X) -/
structure Lw (p q r n Y X : Int) (f : List (Int × Int)) : Prop where
  mem : ∀ x y : Int, (x, y) ∈ f ↔ (Li p q r n x y ∧ (y < Y ∨ (y = Y ∧ x < X)))
  nodup : f.Nodup
theorem Lw.start (hn : n ≠ 0) (hpq : p ≠ q) : Lw p q r n (-2 * (n.natAbs : Int)) (max (p * (-2 * (n.natAbs : Int))) (q * (-2 * (n.natAbs : Int))) - n.natAbs) [] := by
  refine ⟨fun x y => ⟨fun z => (by cases z), fun z => ?_⟩, List.nodup_nil⟩
  obtain ⟨a, b | ⟨rfl, b⟩⟩ := z
  · have := (li_bound a hn hpq).2.2
    omega
  · have := li_bound a hn hpq
    omega
theorem Lw.skip {Y X : Int} {f : List (Int × Int)} (h : Lw p q r n Y X f) (no : ¬ Li p q r n X Y) : Lw p q r n Y (X + 1) f := by
  refine ⟨fun x y => ?_, h.nodup⟩
  rw [h.mem]
  constructor
  · rintro ⟨a, b | b⟩
    · exact ⟨a, Or.inl b⟩
    · exact ⟨a, Or.inr (by omega)⟩
  · rintro ⟨a, b | ⟨rfl, b⟩⟩
    · exact ⟨a, Or.inl b⟩
    · rcases (show x < X ∨ x = X by omega) with z | rfl
      · exact ⟨a, Or.inr ⟨rfl, z⟩⟩
      · exact (no a).elim
theorem Lw.add {Y X : Int} {f : List (Int × Int)} (h : Lw p q r n Y X f) (hs : Li p q r n X Y) : Lw p q r n Y (X + 1) (f ++ [(X, Y)]) := by
  refine ⟨fun x y => ?_, ?_⟩
  · rw [List.mem_append, h.mem, List.mem_singleton, Prod.mk.injEq]
    constructor
    · rintro (⟨a, b | b⟩ | ⟨rfl, rfl⟩)
      · exact ⟨a, Or.inl b⟩
      · exact ⟨a, Or.inr (by omega)⟩
      · exact ⟨hs, Or.inr ⟨rfl, by omega⟩⟩
    · rintro ⟨a, b | ⟨rfl, b⟩⟩
      · exact Or.inl ⟨a, Or.inl b⟩
      · rcases (show x < X ∨ x = X by omega) with z | rfl
        · exact Or.inl ⟨a, Or.inr ⟨rfl, z⟩⟩
        · exact Or.inr ⟨rfl, rfl⟩
  · refine List.nodup_append.mpr ⟨h.nodup, List.nodup_cons.mpr ⟨fun z => (by cases z), List.nodup_nil⟩, ?_⟩
    rintro ⟨a1, a2⟩ ha b hb rfl
    rw [List.mem_singleton, Prod.mk.injEq] at hb
    obtain ⟨rfl, rfl⟩ := hb
    have := ((h.mem _ _).mp ha).2
    omega
theorem Lw.next {Y X : Int} {f : List (Int × Int)} (h : Lw p q r n Y X f) (hn : n ≠ 0) (hpq : p ≠ q) (hX : min (p * Y) (q * Y) + n.natAbs + 1 ≤ X) : Lw p q r n (Y + 1) (max (p * (Y + 1)) (q * (Y + 1)) - n.natAbs) f := by
  refine ⟨fun x y => ?_, h.nodup⟩
  rw [h.mem]
  constructor
  · rintro ⟨a, b | b⟩
    · exact ⟨a, Or.inl (by omega)⟩
    · exact ⟨a, Or.inl (by omega)⟩
  · rintro ⟨a, b | ⟨rfl, b⟩⟩
    · rcases (show y < Y ∨ y = Y by omega) with z | rfl
      · exact ⟨a, Or.inl z⟩
      · have := li_bound a hn hpq
        exact ⟨a, Or.inr ⟨rfl, by omega⟩⟩
    · have := li_bound a hn hpq
      exfalso
      generalize p * (Y + 1) = s at *
      generalize q * (Y + 1) = t at *
      omega
theorem Lw.full {X : Int} {f : List (Int × Int)} (h : Lw p q r n (2 * (n.natAbs : Int) + 1) X f) (hn : n ≠ 0) (hpq : p ≠ q) : ∀ x y : Int, (x, y) ∈ f ↔ Li p q r n x y := by
  intro x y
  rw [h.mem]
  refine ⟨fun z => z.1, fun z => ⟨z, Or.inl ?_⟩⟩
  have := (li_bound z hn hpq).2.2
  omega
end
/-! ### the law's cubes -/
structure Lc (n X : Int) (f : List (Int × Int)) : Prop where
  mem : ∀ x y : Int, (x, y) ∈ f ↔ (x ^ 3 + y ^ 3 = n ∧ x < X)
  ord : f.Pairwise Lt
theorem Lc.start {n M : Int} (hn : n ≠ 0) (h0 : 0 ≤ M) (hM : 4 * (n.natAbs : Int) < M * M) : Lc n (-M) [] := by
  refine ⟨fun x y => ⟨fun z => (by cases z), fun z => ?_⟩, List.Pairwise.nil⟩
  have h1 := (sol_bound z.1 hn).1
  have h2 := (ab_le (show x * x ≤ M * M by omega) h0).1
  omega
theorem Lc.skip {n X : Int} {f : List (Int × Int)} (h : Lc n X f) (no : ∀ y : Int, y ^ 3 ≠ n - X ^ 3) : Lc n (X + 1) f := by
  refine ⟨fun x y => ?_, h.ord⟩
  rw [h.mem]
  refine ⟨fun z => ⟨z.1, by omega⟩, fun z => ⟨z.1, ?_⟩⟩
  rcases (show x < X ∨ x = X by omega) with w | rfl
  · exact w
  · exact (no y (by have := z.1; omega)).elim
theorem Lc.add {n X Y : Int} {f : List (Int × Int)} (h : Lc n X f) (hy : Y ^ 3 = n - X ^ 3) : Lc n (X + 1) (f ++ [(X, Y)]) := by
  refine ⟨fun x y => ?_, ?_⟩
  · rw [List.mem_append, h.mem, List.mem_singleton, Prod.mk.injEq]
    constructor
    · rintro (⟨a, b⟩ | ⟨rfl, rfl⟩)
      · exact ⟨a, by omega⟩
      · exact ⟨by omega, by omega⟩
    · rintro ⟨a, b⟩
      rcases (show x < X ∨ x = X by omega) with w | rfl
      · exact Or.inl ⟨a, w⟩
      · exact Or.inr ⟨rfl, cube_mono (by omega)⟩
  · refine List.pairwise_append.mpr ⟨h.ord, List.pairwise_singleton _ _, ?_⟩
    rintro ⟨a1, a2⟩ ha b hb
    rw [List.mem_singleton] at hb
    subst hb
    exact Or.inl ((h.mem _ _).mp ha).2
theorem Lc.full {n X M : Int} {f : List (Int × Int)} (h : Lc n X f) (hn : n ≠ 0) (h0 : 0 ≤ M) (hM : 4 * (n.natAbs : Int) < M * M) (hX : M < X) : ∀ x y : Int, (x, y) ∈ f ↔ x ^ 3 + y ^ 3 = n := by
  intro x y
  rw [h.mem]
  refine ⟨fun z => z.1, fun z => ⟨z, ?_⟩⟩
  have h1 := (sol_bound z hn).1
  have h2 := (ab_le (show x * x ≤ M * M by omega) h0).2
  omega
/-! ### 1729 -/
def taxi : List (Int × Int) := [(1, 12), (9, 10), (10, 9), (12, 1)]
def taxiOk (x y : Int) : Bool := !decide (x ^ 3 + y ^ 3 = 1729) || taxi.any fun p => decide (x = p.1) && decide (y = p.2)
theorem taxi_key : ∀ i : Nat, i < 169 → ∀ k : Nat, k < 20 → taxiOk ((i : Int) - 84) ((k : Int) - ((i : Int) - 84)) = true := by decide +kernel
theorem taxi_ord : taxi.Pairwise Lt := by
  unfold taxi Lt
  simp
theorem taxi_mem : ∀ x y : Int, (x, y) ∈ taxi ↔ x ^ 3 + y ^ 3 = 1729 := by
  intro x y
  constructor
  · intro h
    simp only [taxi, List.mem_cons, List.not_mem_nil, or_false, Prod.mk.injEq] at h
    rcases h with ⟨rfl, rfl⟩ | ⟨rfl, rfl⟩ | ⟨rfl, rfl⟩ | ⟨rfl, rfl⟩ <;> decide
  · intro h
    obtain ⟨h1, h2, -, -, h5⟩ := sol_bound h (by decide)
    have hs : 0 < x + y := h5.mp (by decide)
    have hx := ab_le (show x * x ≤ 84 * 84 by
      have : ((1729 : Int).natAbs : Int) = 1729 := by decide
      omega) (by decide)
    have hk : x + y < 20 := Int.not_le.mp fun z => by
      have e : (x + y) * (x + y) * ((x + y).natAbs : Int) = (x + y) ^ 3 := by
        rw [show ((x + y).natAbs : Int) = x + y by omega]
        grind
      rw [e] at h2
      have := pow_le3 (a := 20) (b := x + y) (by decide) z
      have e2 : (20 : Int) ^ 3 = 8000 := by decide
      have : ((1729 : Int).natAbs : Int) = 1729 := by decide
      omega
    have := taxi_key (x + 84).toNat (by omega) (x + y).toNat (by omega)
    rw [show (((x + 84).toNat : Nat) : Int) - 84 = x by omega, show (((x + y).toNat : Nat) : Int) - x = y by omega] at this
    rw [taxiOk, Bool.or_eq_true, Bool.not_eq_true', decide_eq_false_iff_not, List.any_eq_true] at this
    rcases this with z | ⟨⟨a, b⟩, hm, z⟩
    · exact (z h).elim
    · rw [Bool.and_eq_true, decide_eq_true_iff, decide_eq_true_iff] at z
      rw [z.1, z.2]
      exact hm
end K51M
set_option Elab.async false
set_option linter.all false
set_option maxRecDepth 100000
set_option maxHeartbeats 4000000
namespace K51
open PySem PySem.Spec PyProof.Rows L2 Gd QM K51M
def topS (i : Nat) : Stmt := PySem.Challenge.pw_pointsum_k51_whole_forms_that_fall_apart.main.body.getD i (.Pass ⟨0, 0, 0, 0⟩)
/-- what the walk asks of the module's names -/
structure Tx (K : PySem.W.Frag) (mg : Str → Option Value) : Prop where
  isqrt : mg "isqrt" = some (.builtin "math.isqrt")
  int : mg "int" = none
  len : mg "len" = none
  tuple : mg "tuple" = none
  abs : mg "abs" = none
  range : mg "range" = none
  sorted : mg "sorted" = none
  min : mg "min" = none
  max : mg "max" = none
  repr : mg "repr" = none
theorem iteN {c A B : Prop} [Decidable c] (h : ¬ c) (b : B) : if c then A else B := by
  rw [if_neg h]
  exact b
theorem iteY {c A B : Prop} [Decidable c] (h : c) (b : A) : if c then A else B := by
  rw [if_pos h]
  exact b
local macro_rules | `(tactic| walk_at "bd") => `(tactic| (repeat (first | assumption | apply B.add | apply B.sub | apply B.mul | apply B.neg | exact B.lit (n := 8) (by decide))))
local macro_rules | `(tactic| walk_at "bu") => `(tactic| (apply B.up; walk_at "bd"; decide))
local macro_rules | `(tactic| walk_at "bnd") => `(tactic| (apply B.mulW; walk_at "bd"; decide))
/-! ### pairs in the heap -/
/-- the tuples at ts hold the pairs ps -/
inductive PA (H : Hp) : List V → List (Int × Int) → Prop
  | nil : PA H [] []
  | cons {t : Addr} {x y : Int} {ts ps} (h : H t = some (.tup [.int x, .int y])) (r : PA H ts ps) : PA H (.ref t :: ts) ((x, y) :: ps)
theorem PA.same {H H' : Hp} (s : Same H H') : ∀ {ts ps}, PA H ts ps → PA H' ts ps
  | _, _, .nil => .nil
  | _, _, .cons h r => .cons (s _ _ h) (r.same s)
/-- a list is written anew -/
theorem PA.put {H : Hp} {D : Addr} {o : HO} {us : List V} (hD : H D = some (.lst us)) : ∀ {ts ps}, PA H ts ps → PA (upd H D o) ts ps
  | _, _, .nil => .nil
  | _, _, .cons h r => .cons (by rw [upd_ne (ne_of h hD (by intro z; cases z))]; exact h) (r.put hD)
theorem PA.app {H : Hp} : ∀ {ts ps us qs}, PA H ts ps → PA H us qs → PA H (ts ++ us) (ps ++ qs)
  | _, _, _, _, .nil, k => k
  | _, _, _, _, .cons h r, k => .cons h (r.app k)
theorem PA.len {H : Hp} : ∀ {ts ps}, PA H ts ps → ts.length = ps.length
  | _, _, .nil => rfl
  | _, _, .cons h r => congrArg (· + 1) r.len
theorem PA.but {H H' : Hp} {D : Addr} {us : List V} (hD : H D = some (.lst us)) (s : But D H H') : ∀ {ts ps}, PA H ts ps → PA H' ts ps
  | _, _, .nil => .nil
  | _, _, .cons h r => .cons (s _ _ h (ne_of h hD (by intro z; cases z))) (r.but hD s)
/-- the pair of a value -/
noncomputable def key (H : Hp) (x : V) : Int × Int :=
  match x with
  | .ref t => match H t with
    | some (.tup [.int a, .int b]) => (a, b)
    | _ => (0, 0)
  | _ => (0, 0)
theorem PA.key {H : Hp} : ∀ {ts ps}, PA H ts ps → ps = ts.map (key H)
  | _, _, .nil => rfl
  | _, _, .cons h r => by
    rw [List.map_cons, ← r.key]
    congr 1
    show _ = K51.key H (.ref _)
    unfold K51.key
    simp only [h]
theorem PA.all {H : Hp} : ∀ {ts ps}, PA H ts ps → ∀ x ∈ ts, ∃ t, x = V.ref t ∧ H t = some (.tup [.int (K51.key H x).1, .int (K51.key H x).2])
  | _, _, .nil, x, hx => by cases hx
  | _, _, .cons (t := t) h r, x, hx => by
    rcases List.mem_cons.mp hx with rfl | hx
    · refine ⟨t, rfl, ?_⟩
      unfold K51.key
      simp only [h]
    · exact r.all x hx
theorem PA.of {H : Hp} : ∀ {ts : List V}, (∀ x ∈ ts, ∃ t, x = V.ref t ∧ H t = some (.tup [.int (K51.key H x).1, .int (K51.key H x).2])) → PA H ts (ts.map (K51.key H))
  | [], _ => .nil
  | x :: ts, h => by
    obtain ⟨t, rfl, e⟩ := h x List.mem_cons_self
    exact .cons e (PA.of fun y hy => h y (List.mem_cons_of_mem _ hy))
/-- sorted: the same pairs, strictly ascending -/
theorem PA.sorted {H : Hp} {ts ys : List V} {ps : List (Int × Int)} (h : PA H ts ps) (hn : ps.Nodup) (h1 : SrtO.Srtd (ltP (K51.key H)) ys) (h2 : SrtO.Stb (ltP (K51.key H)) ys ts) :
    ∃ qs, PA H ys qs ∧ qs.Pairwise Lt ∧ qs.length = ps.length ∧ ∀ p, p ∈ qs ↔ p ∈ ps := by
  have pm : (ys.map (K51.key H)).Perm ps := by
    rw [h.key]
    exact h2.perm.map _
  refine ⟨ys.map (K51.key H), PA.of fun x hx => h.all x (h2.perm.mem_iff.mp hx), ?_, pm.length_eq, fun p => pm.mem_iff⟩
  refine strict ?_ (pm.nodup_iff.mpr hn)
  rw [List.pairwise_map]
  refine List.Pairwise.imp (fun {a b} z => ?_) h1
  intro q
  have q2 : SrtO.lexB (K51.key H b) (K51.key H a) = true := SrtO.lexB_iff.mpr q
  have z2 : SrtO.lexB (K51.key H b) (K51.key H a) = false := z
  rw [q2] at z2
  cases z2
/-! ### pairs as data -/
def dps (ps : List (Int × Int)) : List PyData := ps.map fun p => .tuple [.int p.1, .int p.2]
theorem PA.dp {K : PySem.W.Frag} {H : Hp} : ∀ {ts ps}, PA H ts ps → DpAll K H ts (dps ps)
  | _, _, .nil => .nil
  | _, _, .cons h r => .cons (.tup (tup_of h) (.cons (.int _) (.cons (.int _) .nil))) r.dp
theorem dps_ok {ps : List (Int × Int)} (h : ∀ p ∈ ps, B 100 p.1 ∧ B 100 p.2) : okAll (dps ps) = true := by
  induction ps with
  | nil => rfl
  | cons p ps ih =>
    have h1 := h p List.mem_cons_self
    have := ih fun q hq => h q (List.mem_cons_of_mem _ hq)
    show okAll (.tuple [.int p.1, .int p.2] :: dps ps) = true
    simp [okAll, okD, this, h1.1.log (by decide), h1.2.log (by decide)]
theorem dps_depth (ps : List (Int × Int)) : PyData.depthAll (dps ps) ≤ 2 := by
  induction ps with
  | nil => exact Nat.zero_le _
  | cons p ps ih =>
    show PyData.depthAll (.tuple [.int p.1, .int p.2] :: dps ps) ≤ 2
    simp only [PyData.depthAll, PyData.depth]
    omega
theorem dps_wt (ps : List (Int × Int)) : wtAll (dps ps) = 3851 * ps.length := by
  induction ps with
  | nil => rfl
  | cons p ps ih =>
    show wtAll (.tuple [.int p.1, .int p.2] :: dps ps) = _
    simp only [wtAll, wt, ih, List.length_cons]
    omega
/-! ### repr of greater data -/
def rRepr2 (K : PySem.W.Frag) : List V → Hp → VK → Prop := fun xs H Q => ∃ x d, xs = [x] ∧ Dp K H x d ∧ okD d = true ∧ d.depth ≤ 40 ∧ wt d ≤ 16000000 ∧ Q (.str d.shown) H
section
variable {X : Cx}
theorem call_reprD2 (hg : X.A.guards = some []) (hu : X.A.units + 64 < cLine) : CallR X (.builtin "repr") (rRepr2 X.K) := by
  intro pins s σ H xs us Q I r h
  obtain ⟨x, d, rfl, hd, h0, h3, hw, q⟩ := h
  obtain ⟨hz, h1, h2⟩ := shown_wt d h0
  have h4 : d.shown.length ≤ sizeLine := Nat.le_trans hz (Nat.le_trans hw (by decide))
  obtain ⟨u, rfl, hx⟩ := vals1 r
  obtain ⟨as, rd⟩ := Dp.reads I d x u hd hx
  cases hd with
  | non =>
    obtain rfl : u = Value.none := hx
    exact PySem.P.repr_of_none ⟨.str _, H, I.tok _, ⟨_, rfl⟩, q⟩
  | bl b =>
    obtain rfl : u = Value.bool b := hx
    exact PySem.P.repr_of_bool ⟨.str _, H, I.tok _, ⟨_, rfl⟩, q⟩
  | int i =>
    obtain ⟨t, rfl⟩ := hx
    exact PySem.P.repr_of_int (of_decide_eq_true h1) ⟨.str _, H, I.tok _, ⟨_, rfl⟩, q⟩
  | str z =>
    obtain ⟨t, rfl⟩ := hx
    exact PySem.P.repr_of_str ⟨.str _, H, I.tok _, ⟨_, rfl⟩, q⟩ h4
  | lst hs ha =>
    obtain rfl : u = Value.ref _ := hx
    refine repr_of_reads' rd h1 (PyData.noDict_hsm h2) hg (by omega) (fun _ _ z => z) (fun h' u tk hk => ?_) h4
    exact ⟨.str _, H, I.kept (t' := tk) hk, ⟨_, rfl⟩, q⟩
  | tup hs ha =>
    obtain rfl : u = Value.ref _ := hx
    refine repr_of_reads' rd h1 (PyData.noDict_hsm h2) hg (by omega) (fun _ _ z => z) (fun h' u tk hk => ?_) h4
    exact ⟨.str _, H, I.kept (t' := tk) hk, ⟨_, rfl⟩, q⟩
end
section
variable {P : Program} {w : World} {K : PySem.W.Frag} {mg : Str → Option Value} {base : Heap}
/-! ### root, is_square -/
def sp_root (K : PySem.W.Frag) : Sp := fun vs H Q _ => ∃ n : Int, vs = [.int n] ∧ 0 ≤ n ∧ B 200 n ∧ ∀ r : Int, 0 ≤ r → r * r ≤ n → (∀ s : Int, 0 ≤ s → s * s ≤ n → s ≤ r) → Q (.int r) H
theorem b4000 {n : Int} (h : B 200 n) : n.natAbs < 2 ^ 4000 := Nat.lt_of_lt_of_le h (Nat.pow_le_pow_right (by decide) (by decide))
abbrev s_root : Stmt := topS 2
theorem sc_root : FnScope ["n"] ["n"] (defScope s_root) := ⟨rfl, rfl, rfl, by decide +kernel, rfl, by decide +kernel, by decide +kernel⟩
theorem k_root (T : Tx K mg) (D : Df K mg "root" s_root ["n"])  : Kl P w K mg base 1 "root" (sp_root K) := by
  have nd := sc_root.nd
  refine Kl.by_body D sc_root (fun vs H Q E h => ?_) (fun f cdv A outer s H vs Q E hr h => ?_)
  · obtain ⟨_, rfl, _⟩ := h
    rfl
  · obtain ⟨n, rfl, h0, hB, q⟩ := h
    have hu1 := hu_of hr
    refine ⟨_, (pss_one (ps_ret (pe_callBfun cr_isqrt (by rfl) T.isqrt (pa_cons (pv 0) pa_nil)))), ?_⟩
    obtain ⟨z1, z2⟩ := isqrt_is h0
    exact ⟨_, rfl, n, rfl, h0, b4000 hB, q _ (by omega) z1 z2⟩
theorem abs_nat (n : Int) : (if n < 0 then -n else n) = (n.natAbs : Int) := by
  split <;> omega
theorem root_B {r n : Int} (h0 : 0 ≤ r) (hn : B 200 n) (h : r * r ≤ n) : B 200 r := by
  unfold B at *
  rcases (show r < 1 ∨ 1 ≤ r by omega) with e | e
  · omega
  · have := Int.mul_le_mul_of_nonneg_right e h0
    omega
def sp_is_square (K : PySem.W.Frag) : Sp := fun vs H Q _ => ∃ n : Int, vs = [.int n] ∧ B 200 n ∧ ∀ b : Bool, (b = true ↔ ∃ r : Int, r * r = n) → Q (.bl b) H
abbrev s_is_square : Stmt := topS 3
theorem sc_is_square : FnScope ["n", "r"] ["n"] (defScope s_is_square) := ⟨rfl, rfl, rfl, by decide +kernel, rfl, by decide +kernel, by decide +kernel⟩
theorem k_is_square (T : Tx K mg) (D : Df K mg "is_square" s_is_square ["n"])  : Kl P w K mg base 1 "is_square" (sp_is_square K) := by
  have nd := sc_is_square.nd
  refine Kl.by_body D sc_is_square (fun vs H Q E h => ?_) (fun f cdv A outer s H vs Q E hr h => ?_)
  · obtain ⟨_, rfl, _⟩ := h
    rfl
  · obtain ⟨n, rfl, hB, q⟩ := h
    have hu1 := hu_of hr
    refine ⟨_, (pss_cons (ps_if (pt_cmpR op_lt (pv 0) pe_int (nomark _)) (pss_one (ps_ret pe_bl)) pss_nil)
      (pss_cons (ps_set (i := 1) nd rfl (by first | exact Or.inl rfl | exact Or.inr rfl) (pe_callBfun cr_isqrt (by rfl) T.isqrt (pa_cons (pv 0) pa_nil)))
      (pss_one (ps_ret (pe_cmpR op_eq (pe_op op_mulW (pv 1) (pv 1)) (pv 0) (nomark _)))))), ?_⟩
    refine ⟨_, rfl, _, _, rfl, rfl, _, rfl, ?_⟩
    by_cases hn : n < 0
    · refine iteY (decide_eq_true hn) ?_
      refine q false ⟨fun z => (by cases z), ?_⟩
      rintro ⟨r, hr⟩
      have := sq_nn r
      omega
    refine iteN (by simpa using hn) ?_
    have h0 : 0 ≤ n := by omega
    obtain ⟨z1, z2⟩ := isqrt_is h0
    refine ⟨_, rfl, n, rfl, h0, b4000 hB, ?_⟩
    obtain ⟨y, hy⟩ : ∃ y : Nat, PySem.Float64.isqrt n.toNat = y := ⟨_, rfl⟩
    rw [hy] at z1 z2 ⊢
    have yB : B 200 (y : Int) := root_B (by omega) hB z1
    refine ⟨_, rfl, _, rfl, _, _, rfl, rfl, yB.mulW yB (by decide), _, rfl, rfl, ?_⟩
    rw [dec_int]
    refine q _ ⟨fun z => ⟨y, beq_iff_eq.mp z⟩, ?_⟩
    rintro ⟨r, hr⟩
    refine beq_iff_eq.mpr ?_
    have h1 : (r.natAbs : Int) * r.natAbs = n := by rw [Int.natAbs_mul_self' r]; exact hr
    have h2 := z2 r.natAbs (by omega) (by omega)
    have h3 := Int.mul_le_mul h2 h2 (by omega) (by omega)
    omega
/-! ### cube_sums -/
/-- at t stands a tuple of all solutions, ascending -/
def sp_cube_sums (K : PySem.W.Frag) : Sp := fun vs H Q _ => ∃ n : Int, vs = [.int n] ∧ n ≠ 0 ∧ n.natAbs ≤ 10000 ∧ ∀ H' t ts ps, Same H H' → H' t = some (.tup ts) → PA H' ts ps → ps.Pairwise Lt → (∀ x y : Int, (x, y) ∈ ps ↔ x ^ 3 + y ^ 3 = n) → ps.length ≤ 100 → Q (.ref t) H'
abbrev s_cube_sums : Stmt := topS 5
theorem sc_cube_sums : FnScope ["n", "sign", "found", "s", "product", "square", "x"] ["n"] (defScope s_cube_sums) := ⟨rfl, rfl, rfl, by decide +kernel, rfl, by decide +kernel, by decide +kernel⟩
theorem k_cube_sums (T : Tx K mg) (D : Df K mg "cube_sums" s_cube_sums ["n"]) (c_is_square : Kl P w K mg base 1 "is_square" (sp_is_square K)) (c_root : Kl P w K mg base 1 "root" (sp_root K)) : Kl P w K mg base 2 "cube_sums" (sp_cube_sums K) := by
  have nd := sc_cube_sums.nd
  refine Kl.by_body D sc_cube_sums (fun vs H Q E h => ?_) (fun f cdv A outer s H vs Q E hr h => ?_)
  · obtain ⟨_, rfl, _⟩ := h
    rfl
  · obtain ⟨n, rfl, hn, hN, q⟩ := h
    have hu1 := hu_of hr
    refine ⟨_, (C8.pss_cut (ps_set (i := 1) nd rfl (by first | exact Or.inl rfl | exact Or.inr rfl) (pe_ifExp (pt_cmpR op_gt (pv 0) pe_int (nomark _)) pe_int (pe_un un_neg pe_int)))
      (pss_cons (ps_set (i := 2) nd rfl (by first | exact Or.inl rfl | exact Or.inr rfl) (pe_lst pa_nil))
      (pss_cons (ps_set (i := 3) nd rfl (by first | exact Or.inl rfl | exact Or.inr rfl) (pv 1))
      (pss_cons (ps_while PassesOwn.never (pt_cmpR op_le (pe_callB call_abs (by rfl) T.abs (by decide +kernel) (pa_cons (pe_op op_mulW (pe_op op_mulW (pv 3) (pv 3)) (pv 3)) pa_nil)) (pe_op op_mul pe_int (pe_callB call_abs (by rfl) T.abs (by decide +kernel) (pa_cons (pv 0) pa_nil))) (nomark _)) (C8.pss_cut (ps_if (PW.pt (pw_and (pt_cmpR op_eq (pe_op op_modN (pv 0) (pv 3)) pe_int (nomark _)) (pw_and1 (pt_cmpR op_eq (pe_op op_mod (pe_op op_sub (pe_op op_mulW (pv 3) (pv 3)) (pe_op op_fdivN (pv 0) (pv 3))) pe_int) pe_int (nomark _))))) (pss_cons (ps_set (i := 4) nd rfl (by first | exact Or.inl rfl | exact Or.inr rfl) (pe_op op_fdiv (pe_op op_sub (pe_op op_mulW (pv 3) (pv 3)) (pe_op op_fdivN (pv 0) (pv 3))) pe_int))
      (pss_cons (ps_set (i := 5) nd rfl (by first | exact Or.inl rfl | exact Or.inr rfl) (pe_op op_sub (pe_op op_mulW (pv 3) (pv 3)) (pe_op op_mul pe_int (pv 4))))
      (pss_one (ps_if (PW.pt (pw_and (pt_val (pe_k c_is_square  hr (by decide) (by rfl) (pa_cons (pv 5) pa_nil))) (pw_and1 (pt_cmpR op_eq (pe_op op_mod (pe_op op_sub (pv 3) (pe_k c_root  hr (by decide) (by rfl) (pa_cons (pv 5) pa_nil))) pe_int) pe_int (nomark _))))) (pss_cons (ps_set (i := 6) nd rfl (by first | exact Or.inl rfl | exact Or.inr rfl) (pe_op op_fdiv (pe_op op_sub (pv 3) (pe_k c_root  hr (by decide) (by rfl) (pa_cons (pv 5) pa_nil))) pe_int))
      (pss_one (ps_expr (pe_bm PySem.F.plainAttrs_list PySem.F.slot_list_extend PySem.F.type_list_extend mt_extend (pv 2) (pa_cons (pe_ifExp (pt_cmpR op_ne (pv 6) (pe_op op_sub (pv 3) (pv 6)) (nomark _)) (pe_lst (pa_cons (pe_tup (pa_cons (pv 6) (pa_cons (pe_op op_sub (pv 3) (pv 6)) pa_nil))) (pa_cons (pe_tup (pa_cons (pe_op op_sub (pv 3) (pv 6)) (pa_cons (pv 6) pa_nil))) pa_nil))) (pe_lst (pa_cons (pe_tup (pa_cons (pv 6) (pa_cons (pv 6) pa_nil))) pa_nil))) pa_nil))))) pss_nil)))) pss_nil)
      (pss_one (ps_aug (i := 3) nd rfl (by first | exact Or.inl rfl | exact Or.inr rfl) (pv 1) ip_add))))
      (pss_one (ps_ret (pe_callTy call_tuple_of (by rfl) T.tuple (by decide +kernel) (pa_cons (pe_callB (cr_sortedPO) (by rfl) T.sorted (by decide +kernel) (pa_cons (pv 2) pa_nil)) pa_nil)))))))), ?_⟩
    have hsg : sgn1 n = 1 ∨ sgn1 n = -1 := by
      unfold sgn1
      split
      · exact Or.inl rfl
      · exact Or.inr rfl
    have nB : B 14 n := by
      unfold B
      omega
    refine ⟨fun σ H' => H' = H ∧ σ = [some (.int n), some (.int (sgn1 n)), none, none, none, none, none], ?_, ?_⟩
    · refine ⟨_, rfl, _, _, rfl, rfl, _, rfl, ite2 (fun e => ?_) (fun e => ?_)⟩
      · have : sgn1 n = 1 := if_pos (of_decide_eq_true e)
        rw [this]
        exact ⟨rfl, rfl⟩
      · have : sgn1 n = -1 := if_neg (fun z => e (decide_eq_true z))
        rw [this]
        exact ⟨_, rfl, rfl, rfl⟩
    rintro σ H' ⟨rfl, rfl⟩
    refine ⟨(by show 0 ≤ sizeLine; decide), fun D nD => ?_⟩
    have s1 := Same.new (H := H') (p := D) (o := .lst []) nD
    have g1 : upd H' D (.lst []) D = some (.lst []) := upd_same
    generalize upd H' D (.lst []) = H1 at s1 g1 ⊢
    refine ⟨_, rfl, ?_⟩
    first | refine sigN [some (.int (n)), some (.int (sgn1 n)), some (.ref D), some (.int (sgn1 n)), none, none, none] (by rfl) ?_ | refine sig [some (.int (n)), some (.int (sgn1 n)), some (.ref D), some (.int (sgn1 n)), none, none, none] (by rfl) ?_
    refine while_by (fun σ H2 => ∃ (k : Nat) (ts : List V) (ps : List (Int × Int)) (v1 v2 v3 : Option V), σ = [some (.int n), some (.int (sgn1 n)), some (.ref D), some (.int (sgn1 n * ((k : Int) + 1))), v1, v2, v3] ∧ But D H1 H2 ∧ H2 D = some (.lst ts) ∧ PA H2 ts ps ∧ Pr n k ps ∧ k ≤ 40)
      (fun σ _ => match σ with | [_, _, _, some (.int s), _, _, _] => 100 - s.natAbs | _ => 0) ⟨0, [], [], none, none, none, by rw [Int.natCast_zero, Int.zero_add, Int.mul_one], But.refl _ _, g1, .nil, Pr.zero hn, by decide⟩ ?_ ?_
    · rintro σ H2 ⟨k, ts, ps, v1, v2, v3, rfl, b2, g2, pa, pr, k40⟩
      obtain ⟨s, hs⟩ : ∃ s, sgn1 n * ((k : Int) + 1) = s := ⟨_, rfl⟩
      rw [hs]
      have sB : B 7 s := by
        rw [← hs]
        unfold B
        rcases hsg with e | e <;> rw [e] <;> omega
      have sabs : s.natAbs = k + 1 := by
        rw [← hs]
        rcases hsg with e | e <;> rw [e] <;> omega
      have s0 : s ≠ 0 := by omega
      refine ⟨_, rfl, _, rfl, _, _, rfl, rfl, sB.mulW sB (by decide), _, rfl, _, _, rfl, rfl, (sB.mul sB).mulW sB (by decide), _, rfl, ?_⟩
      rw [abs_nat]
      refine ⟨_, rfl, _, rfl, _, _, rfl, rfl, (Or.inl ⟨by decide, by decide⟩), _, _, rfl, rfl, _, rfl, ?_⟩
      rw [abs_nat]
      have e3 : (((s * s * s).natAbs : Nat) : Int) = ((k : Int) + 1) ^ 3 := by
        rw [Int.natAbs_mul, Int.natAbs_mul, sabs]
        push_cast
        grind
      by_cases hle : ((k : Int) + 1) ^ 3 ≤ 4 * (n.natAbs : Int)
      · refine iteY (decide_eq_true (by rw [e3]; exact hle)) ?_
        have k34 : k < 34 := by
          refine Nat.not_le.mp fun z => ?_
          have := pow_le3 (a := 35) (b := (k : Int) + 1) (by decide) (by omega)
          have e : (35 : Int) ^ 3 = 42875 := by decide
          omega
        refine ⟨fun σ' H' => ∃ (ts : List V) (ps : List (Int × Int)) (v1 v2 v3 : Option V), σ' = [some (.int n), some (.int (sgn1 n)), some (.ref D), some (.int s), v1, v2, v3] ∧ But D H1 H' ∧ H' D = some (.lst ts) ∧ PA H' ts ps ∧ Pr n (k + 1) ps, ?_, ?_⟩
        · have fin0 : ∀ w1 w2 w3 : Option V, Cs n s [] → ∃ (ts : List V) (ps : List (Int × Int)) (v1 v2 v3 : Option V), [some (V.int n), some (.int (sgn1 n)), some (.ref D), some (.int s), w1, w2, w3] = [some (V.int n), some (.int (sgn1 n)), some (.ref D), some (.int s), v1, v2, v3] ∧ But D H1 H2 ∧ H2 D = some (.lst ts) ∧ PA H2 ts ps ∧ Pr n (k + 1) ps := by
            intro w1 w2 w3 c
            have := pr.step hn (by rw [hs]; exact c)
            rw [List.append_nil] at this
            exact ⟨ts, ps, w1, w2, w3, rfl, b2, g2, pa, this⟩
          refine ⟨_, rfl, _, rfl, _, _, rfl, rfl, s0, rfl, _, rfl, ?_⟩
          rw [dec_int]
          by_cases hd : s ∣ n
          · refine iteY (beq_iff_eq.mpr (Int.fmod_eq_zero_of_dvd hd)) ?_
            have ed : n.fdiv s = n / s := Int.fdiv_eq_ediv_of_dvd hd
            refine ⟨_, rfl, _, rfl, _, _, rfl, rfl, sB.mulW sB (by decide), _, rfl, _, rfl, _, _, rfl, rfl, ⟨s0, by omega⟩, _, _, rfl, rfl, _, _, rfl, rfl, (by show (0 : Int) < 3; decide), rfl, _, rfl, ?_⟩
            rw [dec_int, ed]
            by_cases h3 : (s * s - n / s) % 3 = 0
            · refine iteY (beq_iff_eq.mpr h3) ?_
              refine ⟨_, rfl, _, rfl, _, _, rfl, rfl, sB.mulW sB (by decide), _, rfl, _, rfl, _, _, rfl, rfl, ⟨s0, by omega⟩, _, _, rfl, rfl, _, _, rfl, rfl, ⟨by decide, by decide⟩, ?_⟩
              rw [ed]
              obtain ⟨p, hp⟩ : ∃ p, (s * s - n / s) / 3 = p := ⟨_, rfl⟩
              first | refine sigN [some (.int (n)), some (.int (sgn1 n)), some (.ref D), some (.int (s)), some (.int ((s * s - n / s) / 3)), v2, v3] (by rfl) ?_ | refine sig [some (.int (n)), some (.int (sgn1 n)), some (.ref D), some (.int (s)), some (.int ((s * s - n / s) / 3)), v2, v3] (by rfl) ?_
              rw [hp]
              have hp3 : 3 * p = s * s - n / s := by omega
              have ssB : B 14 (s * s) := sB.mul sB
              have qn : (n / s).natAbs ≤ n.natAbs := by
                have e := congrArg Int.natAbs (Int.mul_ediv_cancel' hd)
                rw [Int.natAbs_mul, sabs] at e
                have := Nat.mul_le_mul_right (n / s).natAbs (show 1 ≤ k + 1 by omega)
                omega
              refine ⟨_, rfl, _, rfl, _, _, rfl, rfl, sB.mulW sB (by decide), _, rfl, _, _, rfl, rfl, (Or.inl ⟨by decide, by decide⟩), _, _, rfl, rfl, ?_⟩
              first | refine sigN [some (.int (n)), some (.int (sgn1 n)), some (.ref D), some (.int (s)), some (.int (p)), some (.int (s * s - 4 * p)), v3] (by rfl) ?_ | refine sig [some (.int (n)), some (.int (sgn1 n)), some (.ref D), some (.int (s)), some (.int (p)), some (.int (s * s - 4 * p)), v3] (by rfl) ?_
              have qqB : B 200 (s * s - 4 * p) := by
                unfold B at *
                omega
              refine ⟨_, rfl, _, rfl, qqB, fun b hb => ⟨b, rfl, ?_⟩⟩
              by_cases hq : ∃ r : Int, r * r = s * s - 4 * p
              · refine iteY (hb.mpr hq) ?_
                have q0 : 0 ≤ s * s - 4 * p := by
                  obtain ⟨r, hr'⟩ := hq
                  rw [← hr']
                  exact sq_nn r
                refine ⟨_, rfl, _, rfl, _, rfl, q0, qqB, fun r r0 r1 r2 => ?_⟩
                have er : r * r = s * s - 4 * p := by
                  obtain ⟨y, hy⟩ := hq
                  have h1 : (y.natAbs : Int) * y.natAbs = s * s - 4 * p := by rw [Int.natAbs_mul_self' y]; exact hy
                  have h2 := r2 y.natAbs (by omega) (by omega)
                  have h3 := Int.mul_le_mul h2 h2 (by omega) (by omega)
                  omega
                refine ⟨_, _, rfl, rfl, _, _, rfl, rfl, (by show (0 : Int) < 2; decide), rfl, _, rfl, ?_⟩
                rw [dec_int]
                by_cases h2 : (s - r) % 2 = 0
                · refine iteY (beq_iff_eq.mpr h2) ?_
                  refine ⟨_, rfl, _, rfl, _, rfl, q0, qqB, fun r' r0' r1' r2' => ?_⟩
                  have err : r' = r := by
                    have a1 := r2 r' r0' r1'
                    have a2 := r2' r r0 r1
                    omega
                  subst err
                  refine ⟨_, _, rfl, rfl, _, _, rfl, rfl, ⟨by decide, by decide⟩, ?_⟩
                  first | refine sigN [some (.int (n)), some (.int (sgn1 n)), some (.ref D), some (.int (s)), some (.int (p)), some (.int (s * s - 4 * p)), some (.int ((s - r') / 2))] (by rfl) ?_ | refine sig [some (.int (n)), some (.int (sgn1 n)), some (.ref D), some (.int (s)), some (.int (p)), some (.int (s * s - 4 * p)), some (.int ((s - r') / 2))] (by rfl) ?_
                  have hlen : ts.length ≤ 80 := by
                    rw [pa.len]
                    have := pr.len
                    omega
                  by_cases hx : (s - r') / 2 = s - (s - r') / 2
                  · have c := cs_one s0 hd hp3 er r0 h2 hx
                    obtain ⟨x, hx2⟩ : ∃ x, (s - r') / 2 = x := ⟨_, rfl⟩
                    rw [hx2] at c hx ⊢
                    have prS := pr.step hn (by rw [hs]; exact c)
                    refine ⟨_, rfl, .inl ⟨rfl, _, lst_of g2⟩, ?_⟩
                    refine ⟨_, rfl, _, rfl, _, rfl, _, _, rfl, rfl, rfl, _, rfl, iteN (by simpa using hx) ?_⟩
                    refine ⟨_, rfl, _, rfl, (by show 2 ≤ sizeLine; decide), fun t1 n1 => ?_⟩
                    have s3 := Same.new (H := H2) (p := t1) (o := .tup [.int x, .int x]) n1
                    have gt1 : upd H2 t1 (.tup [.int x, .int x]) t1 = some (.tup [.int x, .int x]) := upd_same
                    generalize upd H2 t1 (.tup [.int x, .int x]) = H3 at s3 gt1 ⊢
                    refine ⟨(by show 1 ≤ sizeLine; decide), fun l nl => ?_⟩
                    have s4 := Same.new (H := H3) (p := l) (o := .lst [.ref t1]) nl
                    have gl : upd H3 l (.lst [.ref t1]) l = some (.lst [.ref t1]) := upd_same
                    generalize upd H3 l (.lst [.ref t1]) = H4 at s4 gl ⊢
                    have g4 := (s3.trans s4) _ _ g2
                    refine ⟨D, l, ts, _, rfl, rfl, g4, gl, small (by show ts.length + 1 ≤ 1000; omega), ?_⟩
                    exact ⟨_, _, _, _, _, rfl, b2.trans ((But.of (s3.trans s4)).trans But.upd), upd_same, PA.put g4 ((pa.same (s3.trans s4)).app (.cons (s4 _ _ gt1) .nil)), prS⟩
                  · have c := cs_two s0 hd hp3 er r0 h2 hx
                    obtain ⟨x, hx2⟩ : ∃ x, (s - r') / 2 = x := ⟨_, rfl⟩
                    rw [hx2] at c hx ⊢
                    have prS := pr.step hn (by rw [hs]; exact c)
                    refine ⟨_, rfl, .inl ⟨rfl, _, lst_of g2⟩, ?_⟩
                    refine ⟨_, rfl, _, rfl, _, rfl, _, _, rfl, rfl, rfl, _, rfl, iteY (by simpa using hx) ?_⟩
                    refine ⟨_, rfl, _, rfl, _, rfl, _, _, rfl, rfl, (by show 2 ≤ sizeLine; decide), fun t1 n1 => ?_⟩
                    have s3 := Same.new (H := H2) (p := t1) (o := .tup [.int x, .int (s - x)]) n1
                    have gt1 : upd H2 t1 (.tup [.int x, .int (s - x)]) t1 = some (.tup [.int x, .int (s - x)]) := upd_same
                    generalize upd H2 t1 (.tup [.int x, .int (s - x)]) = H3 at s3 gt1 ⊢
                    refine ⟨_, rfl, _, rfl, _, _, rfl, rfl, _, rfl, (by show 2 ≤ sizeLine; decide), fun t2 n2 => ?_⟩
                    have s3b := Same.new (H := H3) (p := t2) (o := .tup [.int (s - x), .int x]) n2
                    have gt2 : upd H3 t2 (.tup [.int (s - x), .int x]) t2 = some (.tup [.int (s - x), .int x]) := upd_same
                    generalize upd H3 t2 (.tup [.int (s - x), .int x]) = H3b at s3b gt2 ⊢
                    refine ⟨(by show 2 ≤ sizeLine; decide), fun l nl => ?_⟩
                    have s4 := Same.new (H := H3b) (p := l) (o := .lst [.ref t1, .ref t2]) nl
                    have gl : upd H3b l (.lst [.ref t1, .ref t2]) l = some (.lst [.ref t1, .ref t2]) := upd_same
                    generalize upd H3b l (.lst [.ref t1, .ref t2]) = H4 at s4 gl ⊢
                    have sA := s3.trans (s3b.trans s4)
                    have g4 := sA _ _ g2
                    refine ⟨D, l, ts, _, rfl, rfl, g4, gl, small (by show ts.length + 2 ≤ 1000; omega), ?_⟩
                    exact ⟨_, _, _, _, _, rfl, b2.trans ((But.of sA).trans But.upd), upd_same, PA.put g4 ((pa.same sA).app (.cons ((s3b.trans s4) _ _ gt1) (.cons (s4 _ _ gt2) .nil))), prS⟩
                · refine iteN (by simpa using h2) ?_
                  exact fin0 _ _ _ (cs_odd s0 hd hp3 er r0 h2)
              · refine iteN (fun z => hq (hb.mp z)) ?_
                exact fin0 _ _ _ (cs_sq s0 hd hp3 hq)
            · refine iteN (by simpa using h3) ?_
              exact fin0 _ _ _ (cs_three s0 hd h3)
          · refine iteN (fun z => hd (Int.dvd_of_fmod_eq_zero (beq_iff_eq.mp z))) ?_
            exact fin0 _ _ _ (cs_dvd hd)
        · rintro σ H3 ⟨ts3, ps3, w1, w2, w3, rfl, b3, g3, pa3, pr3⟩
          refine ⟨_, rfl, _, rfl, _, _, rfl, rfl, ?_⟩
          have es : s + sgn1 n = sgn1 n * (((k + 1 : Nat) : Int) + 1) := by
            rw [← hs]
            push_cast
            grind
          refine ⟨⟨k + 1, ts3, ps3, w1, w2, w3, ?_, b3, g3, pa3, pr3, by omega⟩, ?_⟩
          · show [some (V.int n), some (.int (sgn1 n)), some (.ref D), some (.int (s + sgn1 n)), w1, w2, w3] = _
            rw [es]
          · show 100 - (s + sgn1 n).natAbs < 100 - s.natAbs
            rw [es, ← hs]
            rcases hsg with e | e <;> rw [e] <;> omega
      · refine iteN (by rw [e3]; simpa using hle) ?_
        have full := pr.full hn (by omega)
        refine ⟨_, rfl, D, ts, key H2, rfl, lst_of g2, pa.all, fun ys p h1 h2 np => ⟨p, ys, rfl, .inl ⟨lst_of upd_same, fun l nl => ?_⟩⟩⟩
        obtain ⟨qs, hq, ho, hl, hm⟩ := pa.sorted pr.nodup h1 h2
        have s4 : Same H2 (upd (upd H2 p (.lst ys)) l (.tup ys)) := (Same.new np).trans (Same.new nl)
        refine q _ l ys qs (But.same s1 (b2.trans (But.of s4)) nD) upd_same (hq.same s4) ho (fun x y => (hm _).trans (full x y)) ?_
        have := pr.len
        omega
    · rintro σ H2 Q1 Q2 i ⟨v1, h1, v2, h2, x1, y1, a1, a2, a3, v3, h3, x2, y2, b1, b2, b3, j, c1, v4, h4, j2, c2, x3, y3, d1, d2, d3, x4, y4, f1, f2, u, f3, z⟩
      exact ⟨v1, h1, v2, h2, x1, y1, a1, a2, a3, v3, h3, x2, y2, b1, b2, b3, j, c1, v4, h4, j2, c2, x3, y3, d1, d2, d3, x4, y4, f1, f2, u, f3, i _ _ z⟩
end
end K51
set_option Elab.async false
set_option linter.all false
set_option maxRecDepth 100000
set_option maxHeartbeats 4000000
namespace K51
open PySem PySem.Spec PyProof.Rows L2 Gd QM
section
variable {P : Program} {w : World} {K : PySem.W.Frag} {mg : Str → Option Value} {base : Heap}
/-! ### one draw -/
def sp_law_draw (K : PySem.W.Frag) : Sp := fun vs H Q _ => ∃ (m cl : Addr) (b : Int) (n : Nat), vs = [.ref m, .int b] ∧ 0 < b ∧ b < 1073741824 ∧ n ≤ 1000000 ∧ MAt H m cl n ∧ ∀ H' r, But m H H' → MAt H' m cl (n + 1) → 0 ≤ r → r < b → Q (.int r) H'
abbrev s__law_draw : Stmt := topS 10
theorem sc__law_draw : FnScope ["m", "below", "found", "spot", "cells", "extra", "cell", "blend"] ["m", "below"] (defScope s__law_draw) := ⟨rfl, rfl, rfl, by decide +kernel, rfl, by decide +kernel, by decide +kernel⟩
theorem k_law_draw (T : Tx K mg) (D : Df K mg "_law_draw" s__law_draw ["m", "below"])  : Kl P w K mg base 1 "_law_draw" (sp_law_draw K) := by
  have nd := sc__law_draw.nd
  refine Kl.by_body D sc__law_draw (fun vs H Q E h => ?_) (fun f cdv A outer s H vs Q E hr h => ?_)
  · obtain ⟨_, _, _, _, rfl, _⟩ := h
    rfl
  · obtain ⟨m, c, b, n, rfl, hb0, hb1, hn, ⟨L, s0, cs, k, hm, hk, hc, hl⟩, q⟩ := h
    have hu1 := hu_of hr
    refine ⟨_, (pss_cons (ps_if (pt_cmpR op_gt (pe_dget hu1 (pv 0) pe_str (fun _ _ => rfl)) pe_int (nomark _)) (pss_cons (ps_set (i := 2) nd rfl (by first | exact Or.inl rfl | exact Or.inr rfl) (pe_op op_mod (pe_callTy call_intI (by rfl) T.int (by decide +kernel) (pa_cons (pe_dget hu1 (pv 0) pe_str (fun _ _ => rfl)) pa_nil)) (pv 1)))
      (pss_cons (ps_dput hu1 (pv 0) pe_str (pe_op op_fdivN (pe_dget hu1 (pv 0) pe_str (fun _ _ => rfl)) (pv 1)) rfl)
      (pss_one (ps_ret (pv 2))))) pss_nil)
      (pss_cons (ps_set (i := 3) nd rfl (by first | exact Or.inl rfl | exact Or.inr rfl) (pe_dget hu1 (pv 0) pe_str (fun _ _ => rfl)))
      (pss_cons (ps_dput hu1 (pv 0) pe_str (pe_op op_add (pv 3) pe_int) rfl)
      (pss_cons (ps_par (i := 4) (j := 5) (by rfl) nd rfl rfl (by decide) rfl rfl (pa_cons (pe_dget hu1 (pv 0) pe_str (fun _ _ => rfl)) (pa_cons (pe_op op_add (pe_dget hu1 (pv 0) pe_str (fun _ _ => rfl)) (pe_op op_mulW (pe_op op_mul pe_int (pv 3)) (pv 3))) pa_nil)) (by rfl))
      (pss_cons (ps_set (i := 6) nd rfl (by first | exact Or.inl rfl | exact Or.inr rfl) (pe_ix ix_list (pv 4) (pe_op op_mod (pe_callTy call_intI (by rfl) T.int (by decide +kernel) (pa_cons (pv 3) pa_nil)) (pe_callB call_len_seq (by rfl) T.len (by decide +kernel) (pa_cons (pv 4) pa_nil))) (fun _ _ => rfl)))
      (pss_cons (ps_set (i := 7) nd rfl (by first | exact Or.inl rfl | exact Or.inr rfl) (pe_op op_mod (pe_callTy call_intI (by rfl) T.int (by decide +kernel) (pa_cons (pe_op op_add (pe_op op_mul (pv 6) (pe_op op_add (pe_op op_mul pe_int (pv 3)) pe_int)) (pv 5)) pa_nil)) pe_int))
      (pss_cons (ps_set (i := 7) nd rfl (by first | exact Or.inl rfl | exact Or.inr rfl) (pe_op op_mod (pe_callTy call_intI (by rfl) T.int (by decide +kernel) (pa_cons (pe_op op_add (pe_op op_add (pe_op op_mul (pv 7) (pv 7)) (pe_op op_mul pe_int (pv 3))) (pe_dget hu1 (pv 0) pe_str (fun _ _ => rfl))) pa_nil)) pe_int))
      (pss_one (ps_ret (pe_op op_mod (pe_op op_fdiv (pe_op op_mod (pe_callTy call_intI (by rfl) T.int (by decide +kernel) (pa_cons (pe_op op_add (pe_op op_mul (pv 7) pe_int) (pv 3)) pa_nil)) pe_int) pe_int) (pv 1))))))))))), ?_⟩
    have gL : DGet H m (.str "left") (some (.int L)) := m4_left (L := L) ▸ DGet.k (k := Sum.inr "left") hm
    have ncm : c ≠ m := ne_of hc hm (by intro z; cases z)
    refine ⟨_, rfl, m, _, rfl, gL, _, _, rfl, rfl, _, rfl, ite2 (fun e => ?_) (fun e => ?_)⟩
    · refine ⟨_, rfl, m, _, rfl, gL, _, rfl, _, rfl, _, _, rfl, rfl, hb0, ?_⟩
      refine ⟨_, rfl, m, _, rfl, gL, _, rfl, _, _, rfl, rfl, ⟨by omega, by omega⟩, _, rfl, m, _, rfl, DPut.k (k := Sum.inr "left") hm (small1000 (by show 4 ≤ 1000; decide)), ?_⟩
      rw [m4_putL]
      refine ⟨_, rfl, ?_⟩
      refine q _ _ But.upd ⟨_, s0, cs, k, upd_same, by omega, ?_, hl⟩ (Int.emod_nonneg _ (by omega)) (Int.emod_lt_of_pos _ hb0)
      rw [upd_ne ncm]
      exact hc
    · have gS : DGet H m (.str "spot") (some (.int k)) := m4_spot (n := k) ▸ DGet.k (k := Sum.inr "spot") hm
      refine ⟨_, rfl, m, _, rfl, gS, ?_⟩
      refine ⟨_, rfl, _, _, rfl, rfl, _, rfl, m, _, rfl, DPut.k (k := Sum.inr "spot") hm (small1000 (by show 4 ≤ 1000; decide)), ?_⟩
      rw [m4_putS]
      have hm2 : (upd H m (HO.dK (mk4 L s0 c (k + 1)))) m = some (.dK (mk4 L s0 c (k + 1))) := upd_same
      have hc2 : (upd H m (HO.dK (mk4 L s0 c (k + 1)))) c = some (.lst (cs.map V.int)) := by
        rw [upd_ne ncm]
        exact hc
      have bt : But m H (upd H m (HO.dK (mk4 L s0 c (k + 1)))) := But.upd
      generalize upd H m (HO.dK (mk4 L s0 c (k + 1))) = H2 at hm2 hc2 bt ⊢
      have gC : DGet H2 m (.str "cells") (some (.ref c)) := m4_cells (c := c) ▸ DGet.k (k := Sum.inr "cells") hm2
      have gE : DGet H2 m (.str "seed") (some (.int s0)) := m4_seed (s := s0) ▸ DGet.k (k := Sum.inr "seed") hm2
      have bk : B 20 (k : Int) := by
        unfold B
        omega
      refine ⟨_, rfl, m, _, rfl, gC, _, rfl, m, _, rfl, gE, _, rfl, _, _, rfl, rfl, (Or.inl ⟨by decide, by decide⟩), _, rfl, _, _, rfl, rfl, ((B.lit (n := 20) (by decide)).mul bk).mulW bk (by decide), _, _, rfl, rfl, _, _, rfl, ?_⟩
      have hlz : (0 : Int) < ((cs.map V.int).length : Int) := by
        rw [List.length_map]
        omega
      have hix : ∃ z : Int, atI (cs.map V.int) ((k : Int) % ((cs.map V.int).length : Int)) = some (.int z) := by
        rw [List.length_map]
        have h1 : k % cs.length < cs.length := Nat.mod_lt _ hl
        refine ⟨cs[k % cs.length], ?_⟩
        rw [← Int.natCast_emod]
        refine atI_nat ?_
        rw [List.getElem?_map, List.getElem?_eq_getElem h1]
        rfl
      obtain ⟨z, hz⟩ := hix
      refine ⟨_, rfl, _, rfl, _, rfl, _, rfl, c, _, rfl, .inl (.inl (.inl hc2)), _, _, rfl, rfl, hlz, c, _, _, _, rfl, rfl, .inl (.inl hc2), hz, ?_⟩
      have bk2 : B 30 (2 * (k : Int) + 3) := by
        unfold B
        omega
      refine ⟨_, rfl, _, rfl, _, _, rfl, rfl, (Or.inl ⟨by decide, by decide⟩), _, _, rfl, rfl, _, _, rfl, rfl, bk2.mulR (by decide), _, rfl, _, _, rfl, rfl, _, rfl, _, _, rfl, rfl, (by show (0 : Int) < 2147483647; decide), ?_⟩
      have be : ∀ y : Int, B 32 (y % 2147483647) := fun y => by
        have h1 := Int.emod_nonneg y (show (2147483647 : Int) ≠ 0 by decide)
        have h2 := Int.emod_lt_of_pos y (show (0 : Int) < 2147483647 by decide)
        unfold B
        omega
      refine ⟨_, rfl, _, rfl, _, _, rfl, rfl, (be _).mulR (by decide), _, rfl, _, _, rfl, rfl, (Or.inl ⟨by decide, by decide⟩), _, _, rfl, rfl, _, rfl, m, _, rfl, gE, _, _, rfl, rfl, _, rfl, _, _, rfl, rfl, (by show (0 : Int) < 2147483629; decide), ?_⟩
      refine ⟨_, rfl, _, _, rfl, rfl, (Or.inr ⟨by decide, by decide⟩), _, rfl, _, _, rfl, rfl, _, rfl, _, _, rfl, rfl, (by show (0 : Int) < 2147483647; decide), _, _, rfl, rfl, ⟨by decide, by decide⟩, _, rfl, _, _, rfl, rfl, hb0, ?_⟩
      exact q _ _ bt ⟨L, s0, cs, k + 1, hm2, by omega, hc2, hl⟩ (Int.emod_nonneg _ (by omega)) (Int.emod_lt_of_pos _ hb0)
/-! ### one of some -/
def sp_law_of (K : PySem.W.Frag) : Sp := fun vs H Q _ => ∃ (m cl a : Addr) (xs : List V) (n : Nat), vs = [.ref m, .ref a] ∧ SqL K H a xs ∧ 0 < xs.length ∧ xs.length ≤ 1000 ∧ n ≤ 1000000 ∧ MAt H m cl n ∧ ∀ H' x, But m H H' → MAt H' m cl (n + 1) → x ∈ xs → Q x H'
abbrev s__law_of : Stmt := topS 11
theorem sc__law_of : FnScope ["m", "some"] ["m", "some"] (defScope s__law_of) := ⟨rfl, rfl, rfl, by decide +kernel, rfl, by decide +kernel, by decide +kernel⟩
theorem k_law_of (T : Tx K mg) (D : Df K mg "_law_of" s__law_of ["m", "some"]) (c_law_draw : Kl P w K mg base 1 "_law_draw" (sp_law_draw K)) : Kl P w K mg base 2 "_law_of" (sp_law_of K) := by
  have nd := sc__law_of.nd
  refine Kl.by_body D sc__law_of (fun vs H Q E h => ?_) (fun f cdv A outer s H vs Q E hr h => ?_)
  · obtain ⟨_, _, _, _, _, rfl, _⟩ := h
    rfl
  · obtain ⟨m, cl, a, xs, n, rfl, hx, h0, h1, hn, hM, q⟩ := h
    have hu1 := hu_of hr
    refine ⟨_, (pss_one (ps_ret (pe_ix ix_list (pv 1) (pe_k c_law_draw  hr (by decide) (by rfl) (pa_cons (pv 0) (pa_cons (pe_callB call_len_seq (by rfl) T.len (by decide +kernel) (pa_cons (pv 1) pa_nil)) pa_nil))) (fun _ _ => rfl)))), ?_⟩
    refine ⟨.ref a, rfl, _, rfl, .ref a, rfl, a, xs, rfl, .inl hx, m, cl, _, n, rfl, by omega, by omega, hn, hM, fun H1 r b1 m1 r0 r1 => ?_⟩
    have hr1 : r.toNat < xs.length := by omega
    refine ⟨a, xs, r, xs[r.toNat], rfl, rfl, b1.seqL hM hx, ?_, q _ _ b1 m1 (List.getElem_mem hr1)⟩
    have key : atI xs ((r.toNat : Nat) : Int) = some xs[r.toNat] := atI_nat (List.getElem?_eq_getElem hr1)
    rw [show ((r.toNat : Nat) : Int) = r by omega] at key
    exact key
/-! ### between -/
def sp_law_between (K : PySem.W.Frag) : Sp := fun vs H Q _ => ∃ (m cl : Addr) (z : Int) (n : Nat), vs = [.ref m, .int z] ∧ 0 ≤ z ∧ z ≤ 100000 ∧ n ≤ 1000000 ∧ MAt H m cl n ∧ ∀ H' r, But m H H' → MAt H' m cl (n + 1) → -z ≤ r → r ≤ z → Q (.int r) H'
abbrev s__law_between : Stmt := topS 12
theorem sc__law_between : FnScope ["m", "size"] ["m", "size"] (defScope s__law_between) := ⟨rfl, rfl, rfl, by decide +kernel, rfl, by decide +kernel, by decide +kernel⟩
theorem k_law_between (T : Tx K mg) (D : Df K mg "_law_between" s__law_between ["m", "size"]) (c_law_draw : Kl P w K mg base 1 "_law_draw" (sp_law_draw K)) : Kl P w K mg base 2 "_law_between" (sp_law_between K) := by
  have nd := sc__law_between.nd
  refine Kl.by_body D sc__law_between (fun vs H Q E h => ?_) (fun f cdv A outer s H vs Q E hr h => ?_)
  · obtain ⟨_, _, _, _, rfl, _⟩ := h
    rfl
  · obtain ⟨m, cl, z, n, rfl, h0, h1, hn, hM, q⟩ := h
    have hu1 := hu_of hr
    refine ⟨_, (pss_one (ps_ret (pe_op op_sub (pe_k c_law_draw  hr (by decide) (by rfl) (pa_cons (pv 0) (pa_cons (pe_op op_add (pe_op op_mul pe_int (pv 1)) pe_int) pa_nil))) (pv 1)))), ?_⟩
    refine ⟨_, rfl, _, rfl, _, _, rfl, rfl, (Or.inl ⟨by decide, by decide⟩), _, _, rfl, rfl, m, cl, _, n, rfl, by omega, by omega, hn, hM, fun H1 r b1 m1 r0 r1 => ?_⟩
    refine ⟨_, rfl, _, _, rfl, rfl, ?_⟩
    exact q _ _ b1 m1 (by omega) (by omega)
/-! ### the state of a turn -/
def sp_law_begun (K : PySem.W.Frag) : Sp := fun vs H Q _ => ∃ (a : Addr) (k : Int) (ns : List Int), vs = [.ref a, .int k] ∧ SqL K H a (ns.map V.int) ∧ ns.length ≤ 63 ∧ 0 ≤ k ∧ k ≤ 100 ∧ ∀ H' m cl, Same H H' → H m = none → H cl = none → MAt H' m cl 0 → Q (.ref m) H'
theorem cut_int {ns : List Int} (lo hi : Option Int) : ∃ ms : List Int, cutV (ns.map V.int) lo hi = ms.map V.int ∧ ms.length ≤ ns.length := by
  unfold cutV
  refine ⟨(ns.drop (HT.sIx (ns.map V.int).length 0 lo)).take (HT.sIx (ns.map V.int).length (ns.map V.int).length hi - HT.sIx (ns.map V.int).length 0 lo), ?_, ?_⟩
  · rw [List.map_take, List.map_drop]
  · rw [List.length_take, List.length_drop]
    omega
abbrev s__law_begun : Stmt := topS 9
theorem sc__law_begun : FnScope ["script", "k", "cells", "great", "cell", "begun", "left"] ["script", "k"] (defScope s__law_begun) := ⟨rfl, rfl, rfl, by decide +kernel, rfl, by decide +kernel, by decide +kernel⟩
theorem k_law_begun (T : Tx K mg) (D : Df K mg "_law_begun" s__law_begun ["script", "k"])  : Kl P w K mg base 1 "_law_begun" (sp_law_begun K) := by
  have nd := sc__law_begun.nd
  refine Kl.by_body D sc__law_begun (fun vs H Q E h => ?_) (fun f cdv A outer s H vs Q E hr h => ?_)
  · obtain ⟨_, _, _, rfl, _⟩ := h
    rfl
  · obtain ⟨a, k, ns, rfl, hx, hl, hk0, hk1, q⟩ := h
    have hu1 := hu_of hr
    refine ⟨_, (pss_cons (ps_set (i := 2) nd rfl (by first | exact Or.inl rfl | exact Or.inr rfl) (pe_op op_cat (pe_slice sl_list (pv 0) (po_some (pv 1)) po_none) (pe_slice sl_list (pv 0) po_none (po_some (pv 1)))))
      (pss_cons (ps_setLc (i := 3) (own := [("cell", 4)]) (g := gName 4) rfl nd rfl rfl (sw_true rfl rfl rfl (by decide +kernel)) (pi_list (pv 0)) (blkOk_by (N := ["script", "k", "cells", "great", "cell", "begun", "left"]) (sc := defScope s__law_begun) (by decide +kernel)) (fun _ _ _ _ _ => (pg_name (i := 4) nd rfl (by first | exact Or.inl rfl | exact Or.inr rfl))) (fun _ _ _ _ _ => (pts_one (pt_cmpR op_ge (pv 4) (pe_op op_pow pe_int pe_int) (nomark _)))) (fun _ _ _ _ _ => (pv 4)))
      (pss_cons (ps_set (i := 5) nd rfl (by first | exact Or.inl rfl | exact Or.inr rfl) (pe_op op_add pe_int (pe_op op_mul pe_int (pv 1))))
      (pss_cons (ps_for PassesOwn.never rfl (pi_list (pv 2)) (pg_name (i := 4) nd rfl (by first | exact Or.inl rfl | exact Or.inr rfl)) (pss_one (ps_set (i := 5) nd rfl (by first | exact Or.inl rfl | exact Or.inr rfl) (pe_op op_mod (pe_callTy call_intI (by rfl) T.int (by decide +kernel) (pa_cons (pe_op op_add (pe_op op_mul (pv 5) pe_int) (pv 4)) pa_nil)) pe_int))))
      (pss_cons (ps_set (i := 6) nd rfl (by first | exact Or.inl rfl | exact Or.inr rfl) (pe_ifExp (pt_cmpR op_lt (pv 1) (pe_callB call_len_seq (by rfl) T.len (by decide +kernel) (pa_cons (pv 3) pa_nil)) (nomark _)) (pe_ix ix_list (pv 3) (pv 1) (fun _ _ => rfl)) pe_int))
      (pss_one (ps_ret (pe_disp (pps_cons pe_str (pv 6) (pps_cons pe_str (pv 5) (pps_cons pe_str (pe_op op_cat (pv 2) (pe_lst (pa_cons (pe_op op_add (pe_op op_mul pe_int (pv 1)) pe_int) pa_nil))) (pps_cons pe_str pe_int pps_nil)))) (by rfl) (by rfl) (fun z => by cases z) (by decide))))))))), ?_⟩
    obtain ⟨m1, e1, l1⟩ := cut_int (ns := ns) (some k) none
    obtain ⟨m2, e2, l2⟩ := cut_int (ns := ns) none (some k)
    refine ⟨.ref a, rfl, _, rfl, k, rfl, a, _, rfl, hx, fun p1 n1 => ?_⟩
    rw [e1]
    have s1 : Same H (upd H p1 (.lst (m1.map V.int))) := Same.new n1
    have g1 : (upd H p1 (.lst (m1.map V.int))) p1 = some (.lst (m1.map V.int)) := upd_same
    generalize upd H p1 (.lst (m1.map V.int)) = H1 at s1 g1 ⊢
    refine ⟨.ref a, rfl, _, rfl, k, rfl, a, _, rfl, s1.seq hx, fun p2 n2 => ?_⟩
    rw [e2]
    have s2 : Same H1 (upd H1 p2 (.lst (m2.map V.int))) := Same.new n2
    have g2 : (upd H1 p2 (.lst (m2.map V.int))) p2 = some (.lst (m2.map V.int)) := upd_same
    generalize upd H1 p2 (.lst (m2.map V.int)) = H2 at s2 g2 ⊢
    refine ⟨p1, p2, _, _, rfl, rfl, s2 _ _ g1, g2, ?_, fun p3 n3 => ?_⟩
    · rw [List.length_map, List.length_map]
      exact small (by omega)
    rw [← List.map_append]
    have s3 : Same H2 (upd H2 p3 (.lst ((m1 ++ m2).map V.int))) := Same.new n3
    have g3 : (upd H2 p3 (.lst ((m1 ++ m2).map V.int))) p3 = some (.lst ((m1 ++ m2).map V.int)) := upd_same
    have hl3 : (m1 ++ m2).length ≤ 126 := by
      rw [List.length_append]
      omega
    generalize m1 ++ m2 = cs at s3 g3 hl3 ⊢
    generalize upd H2 p3 (.lst (cs.map V.int)) = H3 at s3 g3 ⊢
    have sA : Same H H3 := (s1.trans s2).trans s3
    clear s1 s2 s3 g1 g2
    first | refine sigN [some (.ref a), some (.int (k)), some (V.ref p3), none, none, none, none] (by rfl) ?_ | refine sig [some (.ref a), some (.int (k)), some (V.ref p3), none, none, none, none] (by rfl) ?_
    refine ⟨.ref a, rfl, a, rfl, ⟨_, sA.seq hx⟩, fun D hD => ?_⟩
    refine lc_list (K := K) (a := a) (xs := ns.map V.int) (fun i H4 => Same H3 H4 ∧ ∃ gs : List Int, H4 D = some (.lst (gs.map V.int)) ∧ gs.length ≤ i) ⟨Same.new hD, [], upd_same, Nat.le_refl _⟩ (fun i H4 _ z => (sA.trans z.1).seq hx) (fun i x H4 hi z => ?_) (fun H4 z => ?_)
    · obtain ⟨s4, gs, g4, l4⟩ := z
      obtain ⟨y, rfl⟩ : ∃ y : Int, x = .int y := by
        rw [List.getElem?_map] at hi
        cases e : ns[i]? with
        | none =>
          rw [e] at hi
          cases hi
        | some y =>
          rw [e] at hi
          exact ⟨y, (Option.some.inj hi).symm⟩
      have hi2 : i < ns.length := by
        have h1 := (List.getElem?_eq_some_iff.mp hi).1
        rw [List.length_map] at h1
        exact h1
      refine ⟨rfl, _, rfl, _, _, rfl, rfl, ⟨by decide, by decide, by decide⟩, _, _, rfl, rfl, _, rfl, ite2 (fun _ => ?_) (fun _ => ?_)⟩
      · refine ⟨_, rfl, _, g4, ?_, Same.put s4 hD, gs ++ [y], ?_, ?_⟩
        · rw [List.length_map]
          exact small1000 (by omega)
        · rw [upd_same, List.map_append]
          rfl
        · rw [List.length_append]
          exact Nat.add_le_add_right l4 1
      · exact ⟨s4, gs, g4, Nat.le_succ_of_le l4⟩
    · obtain ⟨s4, gs, g4, l4⟩ := z
      have sB : Same H H4 := sA.trans s4
      have g3' := s4 _ _ g3
      refine ⟨_, rfl, _, _, rfl, rfl, (Or.inl ⟨by decide, by decide⟩), _, _, rfl, rfl, ?_⟩
      first | refine sigN [some (.ref a), some (.int (k)), some (V.ref p3), some (V.ref D), none, some (.int (61 + 9 * k)), none] (by rfl) ?_ | refine sig [some (.ref a), some (.int (k)), some (V.ref p3), some (V.ref D), none, some (.int (61 + 9 * k)), none] (by rfl) ?_
      refine ⟨_, rfl, p3, rfl, ⟨_, .inl (.inl g3')⟩, for_list (K := K) (a := p3) (xs := cs.map V.int) (fun i σ H5 => H5 = H4 ∧ ∃ (y : Int) (v : Option V), σ = [some (.ref a), some (.int k), some (.ref p3), some (.ref D), v, some (.int y), none]) ⟨rfl, _, none, rfl⟩ (fun i σ H5 _ z => by rw [z.1]; exact .inl (.inl g3')) ?_ ?_⟩
      · rintro i x σ H5 hi ⟨rfl, y, v, rfl⟩
        obtain ⟨t, rfl⟩ : ∃ t : Int, x = .int t := by
          rw [List.getElem?_map] at hi
          cases e : cs[i]? with
          | none =>
            rw [e] at hi
            cases hi
          | some t =>
            rw [e] at hi
            exact ⟨t, (Option.some.inj hi).symm⟩
        refine ⟨_, rfl, _, _, rfl, rfl, (Or.inr ⟨by decide, by decide⟩), _, rfl, _, _, rfl, rfl, _, rfl, _, _, rfl, rfl, (by show (0 : Int) < 2147483647; decide), ?_⟩
        exact ⟨rfl, _, _, rfl⟩
      · rintro σ H5 ⟨rfl, y, v, rfl⟩
        refine ⟨_, rfl, _, rfl, D, _, rfl, .inl (.inl (.inl g4)), _, _, rfl, rfl, _, rfl, ite2 (fun e => ?A) (fun e => ?B)⟩
        case' A =>
          have e' : k < ((gs.map V.int).length : Int) := of_decide_eq_true e
          rw [List.length_map] at e'
          have hk2 : k.toNat < gs.length := by omega
          have hz : atI (gs.map V.int) k = some (.int gs[k.toNat]) := by
            have key : atI (gs.map V.int) ((k.toNat : Nat) : Int) = some (.int gs[k.toNat]) := atI_nat (by
              rw [List.getElem?_map, List.getElem?_eq_getElem hk2]
              rfl)
            rw [show ((k.toNat : Nat) : Int) = k by omega] at key
            exact key
          refine ⟨_, rfl, _, rfl, D, _, _, _, rfl, rfl, .inl (.inl g4), hz, ?_⟩
        all_goals
          intro m nm
          have h3m : p3 ≠ m := ne_of_none g3' nm
          refine ⟨_, rfl, _, rfl, _, rfl, _, rfl, _, _, rfl, rfl, (Or.inl ⟨by decide, by decide⟩), _, _, rfl, rfl, (by show 1 ≤ sizeLine; decide), fun l nl => ?_⟩
          have nml : m ≠ l := ne_of_none upd_same nl
          have nl0 : H5 l = none := Same.free (Same.new nm) nl
          refine ⟨p3, l, cs.map V.int, [V.int (47 * k + 19)], rfl, rfl, ?_, upd_same, ?_, fun u nu => ?_⟩
          · rw [upd_ne (ne_of_none g3' nl0), upd_ne h3m]
            exact g3'
          · rw [List.length_map]
            exact small (by show cs.length + 1 ≤ 1000; omega)
          have nmu : m ≠ u := ne_of_none (by rw [upd_ne nml]; exact upd_same) nu
          have nu0 : H5 u = none := Same.free (Same.put (Same.new nm) nl0) nu
          refine ⟨?_, mk4 _ y u 0, rfl, (by show 4 ≤ 15; decide), ?_⟩
          · rw [upd_ne nmu, upd_ne nml]
            exact upd_same
          rw [m4_merge]
          have hm0 : H m = none := Same.free sB nm
          have hl0 : H l = none := Same.free sB nl0
          have hu0 : H u = none := Same.free sB nu0
          refine q _ m u (Same.put (Same.put (Same.put (Same.put sB hm0) hl0) hu0) hm0) hm0 hu0 ⟨_, y, cs ++ [47 * k + 19], 0, upd_same, Nat.le_refl _, ?_, ?_⟩
          · rw [upd_ne (fun z => nmu z.symm), upd_same, List.map_append]
            rfl
          · rw [List.length_append]
            exact Nat.lt_of_lt_of_le (by decide : 0 < 1) (Nat.le_add_left _ _)
end
end K51
set_option Elab.async false
set_option linter.all false
set_option maxRecDepth 100000
set_option maxHeartbeats 4000000
namespace K51
open PySem PySem.Spec PyProof.Rows L2 Gd QM K51M
section
variable {P : Program} {w : World} {K : PySem.W.Frag} {mg : Str → Option Value} {base : Heap}
/-! ### the law's cube roots -/
theorem cub_le {a n : Int} (h0 : 0 ≤ a) (h : a ^ 3 ≤ n) : a ≤ n := by
  rcases (show a < 1 ∨ 1 ≤ a by omega) with e | e
  · have : a = 0 := by omega
    subst this
    exact h
  · have h1 := Int.mul_le_mul_of_nonneg_right e h0
    have h2 := Int.mul_le_mul_of_nonneg_right e (Int.mul_nonneg h0 h0)
    have e3 : a ^ 3 = a * (a * a) := by grind
    omega
theorem neg_cube (r : Int) : (-r) ^ 3 = -(r ^ 3) := by grind
def sp_law_third_root (K : PySem.W.Frag) : Sp := fun vs H Q _ => ∃ n : Int, vs = [.int n] ∧ n.natAbs < 2 ^ 40 ∧ (∀ H' r, Same H H' → r ^ 3 = n → Q (.int r) H') ∧ (∀ H', Same H H' → (∀ r : Int, r ^ 3 ≠ n) → Q .non H')
abbrev s__law_third_root : Stmt := topS 13
theorem sc__law_third_root : FnScope ["n", "low", "high", "middle"] ["n"] (defScope s__law_third_root) := ⟨rfl, rfl, rfl, by decide +kernel, rfl, by decide +kernel, by decide +kernel⟩
theorem k_law_third_root (T : Tx K mg) (D : Df K mg "_law_third_root" s__law_third_root ["n"])  : Kl P w K mg base 1 "_law_third_root" (sp_law_third_root K) := by
  have nd := sc__law_third_root.nd
  refine Kl.by_body D sc__law_third_root (fun vs H Q E h => ?_) (fun f cdv A outer s H vs Q E hr h => ?_)
  · obtain ⟨_, rfl, _⟩ := h
    rfl
  · obtain ⟨n, rfl, hn, q1, q2⟩ := h
    have hu1 := hu_of hr
    refine ⟨_, (pss_cons (ps_asg (pe_tup (pa_cons pe_int (pa_cons pe_int pa_nil))) (pg_tup rfl (pgs_cons (pg_name (i := 1) nd rfl (by first | exact Or.inl rfl | exact Or.inr rfl)) (pgs_cons (pg_name (i := 2) nd rfl (by first | exact Or.inl rfl | exact Or.inr rfl)) pgs_nil))))
      (pss_cons (ps_while PassesOwn.never (pt_cmpR op_le (pe_op op_pow (pv 2) pe_int) (pe_callB call_abs (by rfl) T.abs (by decide +kernel) (pa_cons (pv 0) pa_nil)) (nomark _)) (pss_one (ps_set (i := 2) nd rfl (by first | exact Or.inl rfl | exact Or.inr rfl) (pe_op op_mul pe_int (pv 2)))))
      (pss_cons (ps_while PassesOwn.never (pt_cmpR op_gt (pe_op op_sub (pv 2) (pv 1)) pe_int (nomark _)) (pss_cons (ps_set (i := 3) nd rfl (by first | exact Or.inl rfl | exact Or.inr rfl) (pe_op op_fdiv (pe_op op_add (pv 1) (pv 2)) pe_int))
      (pss_one (ps_asg (pe_ifExp (pt_cmpR op_le (pe_op op_pow (pv 3) pe_int) (pe_callB call_abs (by rfl) T.abs (by decide +kernel) (pa_cons (pv 0) pa_nil)) (nomark _)) (pe_tup (pa_cons (pv 3) (pa_cons (pv 2) pa_nil))) (pe_tup (pa_cons (pv 1) (pa_cons (pv 3) pa_nil)))) (pg_tup rfl (pgs_cons (pg_name (i := 1) nd rfl (by first | exact Or.inl rfl | exact Or.inr rfl)) (pgs_cons (pg_name (i := 2) nd rfl (by first | exact Or.inl rfl | exact Or.inr rfl)) pgs_nil)))))))
      (pss_cons (ps_if (pt_cmpR op_ne (pe_op op_pow (pv 1) pe_int) (pe_callB call_abs (by rfl) T.abs (by decide +kernel) (pa_cons (pv 0) pa_nil)) (nomark _)) (pss_one (ps_ret pe_non)) pss_nil)
      (pss_one (ps_ret (pe_ifExp (pt_cmpR op_ge (pv 0) pe_int (nomark _)) (pv 1) (pe_un un_neg (pv 1))))))))), ?_⟩
    obtain ⟨a, ha⟩ : ∃ a : Int, (n.natAbs : Int) = a := ⟨_, rfl⟩
    have a0 : 0 ≤ a := by omega
    have a40 : a < 2 ^ 40 := by omega
    refine ⟨(by show 2 ≤ sizeLine; decide), fun t0 nt0 => ?_⟩
    have s1 := Same.new (H := H) (p := t0) (o := .tup [.int 0, .int 1]) nt0
    have g1 : upd H t0 (.tup [.int 0, .int 1]) t0 = some (.tup [.int 0, .int 1]) := upd_same
    generalize upd H t0 (.tup [.int 0, .int 1]) = H1 at s1 g1 ⊢
    refine ⟨t0, _, rfl, tup_of g1, rfl, _, _, rfl, _, _, rfl, rfl, ?_⟩
    first | refine sigN [some (.int (n)), some (.int (0)), some (.int (1)), none] (by rfl) ?_ | refine sig [some (.int (n)), some (.int (0)), some (.int (1)), none] (by rfl) ?_
    refine while_by (fun σ H2 => ∃ hi : Int, σ = [some (.int n), some (.int 0), some (.int hi), none] ∧ Same H H2 ∧ 1 ≤ hi ∧ hi ≤ 2 * a + 1)
      (fun σ _ => match σ with | [_, _, some (.int hi), _] => (a + 1 - hi).toNat | _ => 0) ⟨1, rfl, s1, by decide, by omega⟩ ?_ ?_
    · rintro σ H2 ⟨hi, rfl, s2, lh, hb⟩
      refine ⟨_, rfl, _, _, rfl, rfl, ⟨by decide, by decide, by omega⟩, _, rfl, _, rfl, _, _, rfl, rfl, _, rfl, ?_⟩
      rw [abs_nat, ha]
      by_cases hh : hi ^ 3 ≤ a
      · refine iteY (decide_eq_true hh) ?_
        have h1 := cub_le (by omega) hh
        refine ⟨_, rfl, _, _, rfl, rfl, (Or.inl ⟨by decide, by decide⟩), ?_⟩
        refine ⟨⟨2 * hi, rfl, s2, by omega, by omega⟩, ?_⟩
        show (a + 1 - 2 * hi).toNat < (a + 1 - hi).toNat
        omega
      · refine iteN (by simpa using hh) ?_
        have hg : a < hi ^ 3 := by omega
        refine while_by (fun σ H3 => Same H2 H3 ∧ ∃ (lo hi : Int) (v : Option V), σ = [some (.int n), some (.int lo), some (.int hi), v] ∧ 0 ≤ lo ∧ lo < hi ∧ lo ^ 3 ≤ a ∧ a < hi ^ 3 ∧ hi ≤ 2 * a + 1)
          (fun σ _ => match σ with | [_, some (.int lo), some (.int hi), _] => (hi - lo).toNat | _ => 0) ⟨Same.refl _, 0, hi, none, rfl, by decide, by omega, a0, hg, hb⟩ ?_ ?_
        · rintro σ H3 ⟨s3, lo, hi, v, rfl, l0, lh, ll, hg, hb⟩
          refine ⟨_, rfl, _, rfl, _, _, rfl, rfl, _, _, rfl, rfl, _, rfl, ?_⟩
          by_cases hh : 1 < hi - lo
          · refine iteY (decide_eq_true hh) ?_
            refine ⟨_, rfl, _, rfl, _, _, rfl, rfl, _, _, rfl, rfl, ⟨by decide, by decide⟩, ?_⟩
            first | refine sigN [some (.int (n)), some (.int (lo)), some (.int (hi)), some (.int ((lo + hi) / 2))] (by rfl) ?_ | refine sig [some (.int (n)), some (.int (lo)), some (.int (hi)), some (.int ((lo + hi) / 2))] (by rfl) ?_
            have m1 : lo < (lo + hi) / 2 := by omega
            have m2 : (lo + hi) / 2 < hi := by omega
            generalize (lo + hi) / 2 = mid at m1 m2 ⊢
            refine ⟨_, rfl, _, _, rfl, rfl, ⟨by decide, by decide, by omega⟩, _, rfl, _, rfl, _, _, rfl, rfl, _, rfl, ?_⟩
            rw [abs_nat, ha]
            refine ite2 (fun e => ?_) (fun e => ?_)
            · have e' : mid ^ 3 ≤ a := of_decide_eq_true e
              refine ⟨_, rfl, _, rfl, (by show 2 ≤ sizeLine; decide), fun t nt => ?_⟩
              refine ⟨t, _, rfl, tup_of upd_same, rfl, _, _, rfl, _, _, rfl, rfl, ?_⟩
              refine ⟨⟨Same.put s3 (s3.free nt), mid, hi, _, rfl, by omega, m2, e', hg, hb⟩, ?_⟩
              show (hi - mid).toNat < (hi - lo).toNat
              omega
            · have e' : ¬ mid ^ 3 ≤ a := fun z => e (decide_eq_true z)
              refine ⟨_, rfl, _, rfl, (by show 2 ≤ sizeLine; decide), fun t nt => ?_⟩
              refine ⟨t, _, rfl, tup_of upd_same, rfl, _, _, rfl, _, _, rfl, rfl, ?_⟩
              refine ⟨⟨Same.put s3 (s3.free nt), lo, mid, _, rfl, l0, m1, ll, by omega, by omega⟩, ?_⟩
              show (mid - lo).toNat < (hi - lo).toNat
              omega
          · refine iteN (by simpa using hh) ?_
            have e : hi = lo + 1 := by omega
            subst e
            have bl := cub_le l0 ll
            have sol : ∀ r : Int, r ^ 3 = n → lo ^ 3 = a := by
              intro r hr'
              obtain ⟨y, hy, y0⟩ : ∃ y : Int, y ^ 3 = a ∧ 0 ≤ y := by
                rcases Int.le_total 0 r with z | z
                · refine ⟨r, ?_, z⟩
                  have := pow_le3 (a := 0) (b := r) (by decide) z
                  have e0 : (0 : Int) ^ 3 = 0 := by decide
                  omega
                · refine ⟨-r, ?_, by omega⟩
                  have := pow_le3 (a := 0) (b := -r) (by decide) (by omega)
                  have e0 : (0 : Int) ^ 3 = 0 := by decide
                  rw [neg_cube] at this ⊢
                  omega
              have h1 : y ≤ lo := by
                by_cases z : lo < y
                · have := pow_le3 (a := lo + 1) (b := y) (by omega) (by omega)
                  omega
                · omega
              have := pow_le3 y0 h1
              omega
            refine ⟨_, rfl, _, _, rfl, rfl, ⟨by decide, by decide, by omega⟩, _, rfl, _, rfl, rfl, _, rfl, ?_⟩
            rw [abs_nat, ha, dec_int]
            by_cases hz : lo ^ 3 = a
            · refine iteN (by simpa using hz) ?_
              refine ⟨_, rfl, _, _, rfl, rfl, _, rfl, ite2 (fun e => ?_) (fun e => ?_)⟩
              · have e' : 0 ≤ n := of_decide_eq_true e
                exact ⟨_, rfl, q1 _ lo (s2.trans s3) (by omega)⟩
              · have e' : ¬ 0 ≤ n := fun z => e (decide_eq_true z)
                refine ⟨_, rfl, _, rfl, q1 _ (-lo) (s2.trans s3) ?_⟩
                rw [neg_cube]
                omega
            · refine iteY (by simpa using hz) ?_
              exact q2 _ (s2.trans s3) (fun r e => hz (sol r e))
        · rintro σ H3 Q1 Q2 i ⟨v, hv, v2, hv2, x, y, e1, e2, x2, y2, e3, e4, k, e, z⟩
          exact ⟨v, hv, v2, hv2, x, y, e1, e2, x2, y2, e3, e4, k, e, i _ _ z⟩
    · rintro σ H2 Q1 Q2 i ⟨v, hv, x, y, e1, e2, hc, v3, hv3, j, e0, x2, y2, e3, e4, k, e, z⟩
      exact ⟨v, hv, x, y, e1, e2, hc, v3, hv3, j, e0, x2, y2, e3, e4, k, e, i _ _ z⟩
/-! ### the law's cubes -/
def sp_law_cubes (K : PySem.W.Frag) : Sp := fun vs H Q _ => ∃ n : Int, vs = [.int n] ∧ n ≠ 0 ∧ n.natAbs ≤ 10000 ∧ ∀ H' t ts ps, Same H H' → H' t = some (.tup ts) → PA H' ts ps → ps.Pairwise Lt → (∀ x y : Int, (x, y) ∈ ps ↔ x ^ 3 + y ^ 3 = n) → Q (.ref t) H'
abbrev s__law_cubes : Stmt := topS 14
theorem sc__law_cubes : FnScope ["n", "most", "found", "x", "y"] ["n"] (defScope s__law_cubes) := ⟨rfl, rfl, rfl, by decide +kernel, rfl, by decide +kernel, by decide +kernel⟩
theorem k_law_cubes (T : Tx K mg) (D : Df K mg "_law_cubes" s__law_cubes ["n"]) (c_law_third_root : Kl P w K mg base 1 "_law_third_root" (sp_law_third_root K)) : Kl P w K mg base 2 "_law_cubes" (sp_law_cubes K) := by
  have nd := sc__law_cubes.nd
  refine Kl.by_body D sc__law_cubes (fun vs H Q E h => ?_) (fun f cdv A outer s H vs Q E hr h => ?_)
  · obtain ⟨_, rfl, _⟩ := h
    rfl
  · obtain ⟨n, rfl, hn, hN, q⟩ := h
    have hu1 := hu_of hr
    refine ⟨_, (pss_cons (ps_par (i := 1) (j := 2) (by rfl) nd rfl rfl (by decide) rfl rfl (pa_cons pe_int (pa_cons (pe_lst pa_nil) pa_nil)) (by rfl))
      (pss_cons (ps_while PassesOwn.never (pt_cmpR op_le (pe_op op_mulW (pv 1) (pv 1)) (pe_op op_mul pe_int (pe_callB call_abs (by rfl) T.abs (by decide +kernel) (pa_cons (pv 0) pa_nil))) (nomark _)) (pss_one (ps_set (i := 1) nd rfl (by first | exact Or.inl rfl | exact Or.inr rfl) (pe_op op_add (pv 1) pe_int))))
      (pss_cons (ps_for PassesOwn.never rfl (pi_range2 (by rfl) T.range (pa_cons (pe_un un_neg (pv 1)) (pa_cons (pe_op op_add (pv 1) pe_int) pa_nil))) (pg_name (i := 3) nd rfl (by first | exact Or.inl rfl | exact Or.inr rfl)) (pss_cons (ps_set (i := 4) nd rfl (by first | exact Or.inl rfl | exact Or.inr rfl) (pe_k c_law_third_root  hr (by decide) (by rfl) (pa_cons (pe_op op_sub (pv 0) (pe_op op_pow (pv 3) pe_int)) pa_nil)))
      (pss_one (ps_if (pt_cmpR op_notN (pv 4) pe_non (nomark _)) (pss_one (ps_expr (pe_bm PySem.F.plainAttrs_list PySem.F.slot_list_append PySem.F.type_list_append mt_append (pv 2) (pa_cons (pe_tup (pa_cons (pv 3) (pa_cons (pv 4) pa_nil))) pa_nil)))) pss_nil))))
      (pss_one (ps_ret (pe_callTy call_tuple_of (by rfl) T.tuple (by decide +kernel) (pa_cons (pv 2) pa_nil))))))), ?_⟩
    refine ⟨(by show 0 ≤ sizeLine; decide), fun D nD => ?_⟩
    have s1 := Same.new (H := H) (p := D) (o := .lst []) nD
    have g1 : upd H D (.lst []) D = some (.lst []) := upd_same
    generalize upd H D (.lst []) = H1 at s1 g1 ⊢
    refine ⟨_, _, rfl, ?_⟩
    first | refine sigN [some (.int (n)), some (.int (1)), some (.ref D), none, none] (by rfl) ?_ | refine sig [some (.int (n)), some (.int (1)), some (.ref D), none, none] (by rfl) ?_
    refine while_by (fun σ H2 => ∃ M : Nat, σ = [some (.int n), some (.int (M : Int)), some (.ref D), none, none] ∧ H2 = H1 ∧ 1 ≤ M ∧ M ≤ 202)
      (fun σ _ => match σ with | [_, some (.int m), _, _, _] => 300 - m.toNat | _ => 0) ⟨1, rfl, rfl, by decide, by decide⟩ ?_ ?_
    · rintro σ H2 ⟨M, rfl, rfl, M1, M2⟩
      have mB : B 10 (M : Int) := by
        unfold B
        omega
      refine ⟨_, rfl, _, rfl, _, _, rfl, rfl, mB.mulW mB (by decide), _, rfl, _, rfl, _, _, rfl, rfl, (Or.inl ⟨by decide, by decide⟩), _, _, rfl, rfl, _, rfl, ?_⟩
      rw [abs_nat]
      by_cases hM : (M : Int) * M ≤ 4 * (n.natAbs : Int)
      · refine iteY (decide_eq_true hM) ?_
        have h201 : M ≤ 200 := by
          refine Nat.not_lt.mp fun z => ?_
          have := Nat.mul_le_mul (show 201 ≤ M from z) (show 201 ≤ M from z)
          have e : ((M * M : Nat) : Int) = (M : Int) * M := Int.natCast_mul M M
          omega
        refine ⟨_, rfl, _, _, rfl, rfl, ?_⟩
        refine ⟨⟨M + 1, rfl, rfl, by omega, by omega⟩, ?_⟩
        show 300 - ((M : Int) + 1).toNat < 300 - (M : Int).toNat
        omega
      · refine iteN (by simpa using hM) ?_
        have hM' : 4 * (n.natAbs : Int) < (M : Int) * M := by omega
        refine ⟨_, rfl, _, rfl, _, rfl, _, _, rfl, rfl, _, _, rfl, ⟨by omega, by omega, by omega, by omega⟩, for_range (lo := -(M : Int)) (n := ((M : Int) + 1 - -(M : Int)).toNat) (fun i σ H3 => ∃ (ts : List V) (ps : List (Int × Int)) (v1 v2 : Option V), σ = [some (.int n), some (.int (M : Int)), some (.ref D), v1, v2] ∧ But D H2 H3 ∧ H3 D = some (.lst ts) ∧ PA H3 ts ps ∧ Lc n (-(M : Int) + i) ps ∧ ps.length ≤ i) ⟨[], [], none, none, rfl, But.refl _ _, g1, .nil, by
            have := Lc.start hn (show (0 : Int) ≤ M by omega) hM'
            rw [Int.natCast_zero, Int.add_zero]
            exact this, by decide⟩ ?_ ?_⟩
        · rintro i σ H3 hi ⟨ts, ps, v1, v2, rfl, b3, g3, pa, lc, len⟩
          obtain ⟨x, hx⟩ : ∃ x, -(M : Int) + (i : Int) = x := ⟨_, rfl⟩
          rw [hx] at lc
          have xb : x.natAbs ≤ 202 := by omega
          have xB : B 8 x := by
            unfold B
            omega
          have x3 := xB.pow 3
          first | refine sigN [some (.int (n)), some (.int ((M : Int))), some (.ref D), some (.int (-(M : Int) + (i : Int))), v2] (by rfl) ?_ | refine sig [some (.int (n)), some (.int ((M : Int))), some (.ref D), some (.int (-(M : Int) + (i : Int))), v2] (by rfl) ?_
          rw [hx]
          refine ⟨_, rfl, _, rfl, _, _, rfl, rfl, ⟨by decide, by decide, by omega⟩, _, _, rfl, rfl, ?_⟩
          refine ⟨_, rfl, ?_, fun H4 y s4 hy => ?_, fun H4 s4 no => ?_⟩
          · show (n - x ^ 3).natAbs < 2 ^ 40
            have : (x ^ 3).natAbs < 2 ^ 25 := x3
            omega
          · skip
            first | refine sigN [some (.int (n)), some (.int ((M : Int))), some (.ref D), some (.int (x)), some (.int (y))] (by rfl) ?_ | refine sig [some (.int (n)), some (.int ((M : Int))), some (.ref D), some (.int (x)), some (.int (y))] (by rfl) ?_
            refine ⟨_, rfl, rfl, _, rfl, iteY rfl ?_⟩
            refine ⟨_, rfl, .inl ⟨rfl, _, lst_of (s4 _ _ g3)⟩, _, rfl, _, rfl, (by show 2 ≤ sizeLine; decide), fun t nt => ?_⟩
            have s5 := Same.new (H := H4) (p := t) (o := .tup [.int x, .int y]) nt
            have gt : upd H4 t (.tup [.int x, .int y]) t = some (.tup [.int x, .int y]) := upd_same
            generalize upd H4 t (.tup [.int x, .int y]) = H5 at s5 gt ⊢
            have g5 := (s4.trans s5) _ _ g3
            refine ⟨D, _, _, rfl, rfl, g5, small1000 (by rw [pa.len]; omega), ?_⟩
            refine ⟨_, _, _, _, rfl, b3.trans ((But.of (s4.trans s5)).trans But.upd), upd_same, PA.put g5 ((pa.same (s4.trans s5)).app (.cons gt .nil)), ?_, by rw [List.length_append]; exact Nat.add_le_add_right len 1⟩
            have := lc.add hy
            rw [show -(M : Int) + ((i + 1 : Nat) : Int) = x + 1 by omega]
            exact this
          · skip
            first | refine sigN [some (.int (n)), some (.int ((M : Int))), some (.ref D), some (.int (x)), some (V.non)] (by rfl) ?_ | refine sig [some (.int (n)), some (.int ((M : Int))), some (.ref D), some (.int (x)), some (V.non)] (by rfl) ?_
            refine ⟨_, rfl, rfl, _, rfl, iteN (by decide) ?_⟩
            refine ⟨ts, ps, _, _, rfl, b3.trans (But.of s4), s4 _ _ g3, pa.same s4, ?_, by omega⟩
            have := lc.skip no
            rw [show -(M : Int) + ((i + 1 : Nat) : Int) = x + 1 by omega]
            exact this
        · rintro σ H3 ⟨ts, ps, v1, v2, rfl, b3, g3, pa, lc, len⟩
          refine ⟨_, rfl, D, ts, rfl, .inl ⟨lst_of g3, fun l nl => ?_⟩⟩
          have s4 := Same.new (o := .tup ts) nl
          refine q _ l ts ps (But.same s1 (b3.trans (But.of s4)) nD) upd_same (pa.same s4) lc.ord ?_
          exact lc.full hn (show (0 : Int) ≤ M by omega) hM' (by omega)
    · rintro σ H2 Q1 Q2 i ⟨v1, h1, v2, h2, x1, y1, a1, a2, a3, v3, h3, j, c1, x3, y3, d1, d2, d3, x4, y4, f1, f2, u, f3, z⟩
      exact ⟨v1, h1, v2, h2, x1, y1, a1, a2, a3, v3, h3, j, c1, x3, y3, d1, d2, d3, x4, y4, f1, f2, u, f3, i _ _ z⟩
end
end K51
set_option Elab.async false
set_option linter.all false
set_option maxRecDepth 100000
set_option maxHeartbeats 4000000
namespace K51
open PySem PySem.Spec PyProof.Rows L2 Gd QM K51M
section
variable {P : Program} {w : World} {K : PySem.W.Frag} {mg : Str → Option Value} {base : Heap}
/-! ### divisors -/
def sp_divisors_of (K : PySem.W.Frag) : Sp := fun vs H Q _ => ∃ n : Int, vs = [.int n] ∧ n ≠ 0 ∧ n.natAbs ≤ 60 ∧ ∀ H' l (ds : List Int), Same H H' → H' l = some (.lst (ds.map V.int)) → ds.Nodup → ds.length ≤ 24 → (∀ d : Int, d ∈ ds ↔ d ∣ n) → Q (.ref l) H'
abbrev s_divisors_of : Stmt := topS 6
theorem sc_divisors_of : FnScope ["n", "found", "k"] ["n"] (defScope s_divisors_of) := ⟨rfl, rfl, rfl, by decide +kernel, rfl, by decide +kernel, by decide +kernel⟩
theorem k_divisors_of (T : Tx K mg) (D : Df K mg "divisors_of" s_divisors_of ["n"]) (c_root : Kl P w K mg base 1 "root" (sp_root K)) : Kl P w K mg base 2 "divisors_of" (sp_divisors_of K) := by
  have nd := sc_divisors_of.nd
  refine Kl.by_body D sc_divisors_of (fun vs H Q E h => ?_) (fun f cdv A outer s H vs Q E hr h => ?_)
  · obtain ⟨_, rfl, _⟩ := h
    rfl
  · obtain ⟨n, rfl, hn, hN, q⟩ := h
    have hu1 := hu_of hr
    refine ⟨_, (pss_cons (ps_set (i := 0) nd rfl (by first | exact Or.inl rfl | exact Or.inr rfl) (pe_callB call_abs (by rfl) T.abs (by decide +kernel) (pa_cons (pv 0) pa_nil)))
      (pss_cons (ps_set (i := 1) nd rfl (by first | exact Or.inl rfl | exact Or.inr rfl) (pe_lst pa_nil))
      (pss_cons (ps_for PassesOwn.never rfl (pi_range2 (by rfl) T.range (pa_cons pe_int (pa_cons (pe_op op_add (pe_k c_root  hr (by decide) (by rfl) (pa_cons (pv 0) pa_nil)) pe_int) pa_nil))) (pg_name (i := 2) nd rfl (by first | exact Or.inl rfl | exact Or.inr rfl)) (pss_one (ps_if (pt_cmpR op_eq (pe_op op_mod (pv 0) (pv 2)) pe_int (nomark _)) (pss_one (ps_expr (pe_bm PySem.F.plainAttrs_list PySem.F.slot_list_extend PySem.F.type_list_extend mt_extend (pv 1) (pa_cons (pe_ifExp (pt_cmpR op_eq (pe_op op_mulW (pv 2) (pv 2)) (pv 0) (nomark _)) (pe_lst (pa_cons (pv 2) (pa_cons (pe_un un_neg (pv 2)) pa_nil))) (pe_lst (pa_cons (pv 2) (pa_cons (pe_un un_neg (pv 2)) (pa_cons (pe_op op_fdivN (pv 0) (pv 2)) (pa_cons (pe_op op_fdivN (pe_un un_neg (pv 0)) (pv 2)) pa_nil)))))) pa_nil)))) pss_nil)))
      (pss_one (ps_ret (pv 1)))))), ?_⟩
    refine ⟨_, rfl, _, rfl, ?_⟩
    rw [abs_nat]
    obtain ⟨m, hm⟩ : ∃ m : Nat, n.natAbs = m := ⟨_, rfl⟩
    rw [hm]
    have m0 : m ≠ 0 := by omega
    have m60 : m ≤ 60 := by omega
    have mB : B 200 (m : Int) := (show B 6 (m : Int) by unfold B; omega).up (by decide)
    refine ⟨(by show 0 ≤ sizeLine; decide), fun D nD => ?_⟩
    have s1 := Same.new (H := H) (p := D) (o := .lst []) nD
    have g1 : upd H D (.lst []) D = some (.lst []) := upd_same
    generalize upd H D (.lst []) = H1 at s1 g1 ⊢
    first | refine sigN [some (.int ((m : Int))), some (.ref D), none] (by rfl) ?_ | refine sig [some (.int ((m : Int))), some (.ref D), none] (by rfl) ?_
    refine ⟨_, rfl, _, rfl, by omega, mB, fun r r0 r1 r2 => ?_⟩
    obtain ⟨k, rfl⟩ : ∃ k : Nat, r = (k : Int) := ⟨r.toNat, by omega⟩
    have hk1 : k * k ≤ m := by exact_mod_cast r1
    have hk2 : m < (k + 1) * (k + 1) := by
      refine Nat.not_le.mp fun z => ?_
      have := r2 ((k + 1 : Nat) : Int) (by omega) (by exact_mod_cast z)
      omega
    have k8 : k < 8 := Nat.not_le.mp fun z => by
      have := Nat.mul_le_mul z z
      omega
    obtain ⟨t1, t2, t3⟩ := dv_is m0 m60 hk1 hk2
    refine ⟨_, _, rfl, rfl, _, _, rfl, ⟨by omega, by omega, by omega, by omega⟩, for_range (lo := 1) (n := ((k : Int) + 1 - 1).toNat) (fun i σ H3 => ∃ (v1 : Option V), σ = [some (.int (m : Int)), some (.ref D), v1] ∧ But D H1 H3 ∧ H3 D = some (.lst ((dvs (m : Int) i).map V.int))) ⟨none, rfl, But.refl _ _, g1⟩ ?_ ?_⟩
    · rintro i σ H3 hi ⟨v1, rfl, s3, g3⟩
      obtain ⟨x, hx⟩ : ∃ x : Int, (i : Int) + 1 = x := ⟨_, rfl⟩
      have xp : 0 < x := by omega
      have xB : B 6 x := by
        unfold B
        omega
      have hlen : (dvs (m : Int) i).length ≤ 40 := by
        have := dvs_len (m : Int) i
        omega
      first | refine sigN [some (.int ((m : Int))), some (.ref D), some (.int ((1 : Int) + (i : Int)))] (by rfl) ?_ | refine sig [some (.int ((m : Int))), some (.ref D), some (.int ((1 : Int) + (i : Int)))] (by rfl) ?_
      rw [Int.add_comm 1 (i : Int), hx]
      have step : dvs (m : Int) (i + 1) = dvs (m : Int) i ++ (if (m : Int) % x = 0 then (if x * x = (m : Int) then [x, -x] else [x, -x, (m : Int).fdiv x, (-(m : Int)).fdiv x]) else []) := by
        rw [← hx]
        rfl
      refine ⟨_, rfl, _, rfl, _, _, rfl, rfl, xp, rfl, _, rfl, ?_⟩
      rw [dec_int]
      by_cases hd : (m : Int) % x = 0
      · refine iteY (beq_iff_eq.mpr hd) ?_
        rw [if_pos hd] at step
        refine ⟨_, rfl, .inl ⟨rfl, _, lst_of g3⟩, ?_⟩
        refine ⟨_, rfl, _, rfl, _, _, rfl, rfl, xB.mulW xB (by decide), _, rfl, rfl, _, rfl, ?_⟩
        rw [dec_int]
        by_cases hq : x * x = (m : Int)
        · refine iteY (beq_iff_eq.mpr hq) ?_
          rw [if_pos hq] at step
          refine ⟨_, rfl, _, rfl, _, rfl, (by show 2 ≤ sizeLine; decide), fun l nl => ?_⟩
          have s4 := Same.new (H := H3) (p := l) (o := .lst [.int x, .int (-x)]) nl
          have gl : upd H3 l (.lst [.int x, .int (-x)]) l = some (.lst [.int x, .int (-x)]) := upd_same
          generalize upd H3 l (.lst [.int x, .int (-x)]) = H4 at s4 gl ⊢
          have g4 := s4 _ _ g3
          refine ⟨D, l, _, _, rfl, rfl, g4, gl, small (by rw [List.length_map]; show _ + 2 ≤ 1000; omega), ?_⟩
          refine ⟨_, rfl, ?_, ?_⟩
          · exact s3.trans ((But.of s4).trans But.upd)
          · rw [upd_same, step, List.map_append]
            rfl
        · refine iteN (by simpa using hq) ?_
          rw [if_neg hq] at step
          refine ⟨_, rfl, _, rfl, _, rfl, _, rfl, _, rfl, _, _, rfl, rfl, ⟨by omega, by omega⟩, _, rfl, _, rfl, _, rfl, _, _, rfl, rfl, ⟨by omega, by omega⟩, (by show 4 ≤ sizeLine; decide), fun l nl => ?_⟩
          have s4 := Same.new (H := H3) (p := l) (o := .lst [.int x, .int (-x), .int ((m : Int).fdiv x), .int ((-(m : Int)).fdiv x)]) nl
          have gl : upd H3 l (.lst [.int x, .int (-x), .int ((m : Int).fdiv x), .int ((-(m : Int)).fdiv x)]) l = some (.lst [.int x, .int (-x), .int ((m : Int).fdiv x), .int ((-(m : Int)).fdiv x)]) := upd_same
          generalize upd H3 l (.lst [.int x, .int (-x), .int ((m : Int).fdiv x), .int ((-(m : Int)).fdiv x)]) = H4 at s4 gl ⊢
          have g4 := s4 _ _ g3
          refine ⟨D, l, _, _, rfl, rfl, g4, gl, small (by rw [List.length_map]; show _ + 4 ≤ 1000; omega), ?_⟩
          refine ⟨_, rfl, s3.trans ((But.of s4).trans But.upd), ?_⟩
          rw [upd_same, step, List.map_append]
          rfl
      · refine iteN (by simpa using hd) ?_
        rw [if_neg hd, List.append_nil] at step
        exact ⟨_, rfl, s3, by rw [step]; exact g3⟩
    · rintro σ H3 ⟨v1, rfl, s3, g3⟩
      rw [show ((k : Int) + 1 - 1).toNat = k by omega] at g3
      refine ⟨_, rfl, q _ D _ (But.same s1 s3 nD) g3 t1 t2 fun d => ?_⟩
      rw [t3 d, ← hm]
      exact Int.dvd_natAbs
end
end K51
set_option Elab.async false
set_option linter.all false
set_option maxRecDepth 100000
set_option maxHeartbeats 4000000
namespace K51
open PySem PySem.Spec PyProof.Rows L2 Gd QM K51M
local macro_rules | `(tactic| walk_at "bd") => `(tactic| (repeat (first | assumption | apply B.add | apply B.sub | apply B.mul | apply B.neg | exact B.lit (n := 8) (by decide))))
local macro_rules | `(tactic| walk_at "bu") => `(tactic| (apply B.up; walk_at "bd"; decide))
local macro_rules | `(tactic| walk_at "bnd") => `(tactic| (apply B.mulW; walk_at "bd"; decide))
theorem map_int {ns : List Int} {i : Nat} {x : V} (h : (ns.map V.int)[i]? = some x) : ∃ y : Int, ns[i]? = some y ∧ x = .int y := by
  rw [List.getElem?_map] at h
  cases e : ns[i]? with
  | none =>
    rw [e] at h
    cases h
  | some y =>
    rw [e] at h
    exact ⟨y, rfl, (Option.some.inj h).symm⟩
theorem li_uv {p q u v x y : Int} (hy : (q - p) * y = u - v) (hx : x = u + p * y) : x - p * y = u ∧ x - q * y = v := by
  have : (q - p) * y = q * y - p * y := by grind
  omega
theorem uv_li {p q u v x y : Int} (h1 : x - p * y = u) (h2 : x - q * y = v) : (q - p) * y = u - v := by
  have : (q - p) * y = q * y - p * y := by grind
  omega
section
variable {P : Program} {w : World} {K : PySem.W.Frag} {mg : Str → Option Value} {base : Heap}
/-! ### products of lines -/
def sp_line_products (K : PySem.W.Frag) : Sp := fun vs H Q _ => ∃ p q r n : Int, vs = [.int p, .int q, .int r, .int n] ∧ p ≠ q ∧ p.natAbs ≤ 20 ∧ q.natAbs ≤ 20 ∧ r.natAbs ≤ 20 ∧ n ≠ 0 ∧ n.natAbs ≤ 60 ∧
  ∀ H' t ts ps, Same H H' → H' t = some (.tup ts) → PA H' ts ps → ps.Pairwise Lt → (∀ x y : Int, (x, y) ∈ ps ↔ Li p q r n x y) → ps.length ≤ 576 → Q (.ref t) H'
abbrev s_line_products : Stmt := topS 7
theorem sc_line_products : FnScope ["p", "q", "r", "n", "found", "divisors", "u", "v", "y", "x"] ["p", "q", "r", "n"] (defScope s_line_products) := ⟨rfl, rfl, rfl, by decide +kernel, rfl, by decide +kernel, by decide +kernel⟩
theorem k_line_products (T : Tx K mg) (D : Df K mg "line_products" s_line_products ["p", "q", "r", "n"]) (c_divisors_of : Kl P w K mg base 2 "divisors_of" (sp_divisors_of K)) : Kl P w K mg base 3 "line_products" (sp_line_products K) := by
  have nd := sc_line_products.nd
  refine Kl.by_body D sc_line_products (fun vs H Q E h => ?_) (fun f cdv A outer s H vs Q E hr h => ?_)
  · obtain ⟨_, _, _, _, rfl, _⟩ := h
    rfl
  · obtain ⟨p, q', r, n, rfl, hpq, hp, hq, hr0, hn, hN, q⟩ := h
    have hu1 := hu_of hr
    refine ⟨_, (pss_cons (ps_set (i := 4) nd rfl (by first | exact Or.inl rfl | exact Or.inr rfl) (pe_lst pa_nil))
      (pss_cons (ps_set (i := 5) nd rfl (by first | exact Or.inl rfl | exact Or.inr rfl) (pe_k c_divisors_of  hr (by decide) (by rfl) (pa_cons (pv 3) pa_nil)))
      (pss_cons (ps_for PassesOwn.never rfl (pi_list (pv 5)) (pg_name (i := 6) nd rfl (by first | exact Or.inl rfl | exact Or.inr rfl)) (pss_one (ps_for PassesOwn.never rfl (pi_list (pv 5)) (pg_name (i := 7) nd rfl (by first | exact Or.inl rfl | exact Or.inr rfl)) (pss_one (ps_if (pt_cmpR op_eq (pe_op op_modN (pe_op op_sub (pv 6) (pv 7)) (pe_op op_sub (pv 1) (pv 0))) pe_int (nomark _)) (pss_cons (ps_set (i := 8) nd rfl (by first | exact Or.inl rfl | exact Or.inr rfl) (pe_op op_fdivN (pe_op op_sub (pv 6) (pv 7)) (pe_op op_sub (pv 1) (pv 0))))
      (pss_cons (ps_set (i := 9) nd rfl (by first | exact Or.inl rfl | exact Or.inr rfl) (pe_op op_add (pv 6) (pe_op op_mulW (pv 0) (pv 8))))
      (pss_one (ps_if (pt_cmpR op_eq (pe_op op_mulW (pe_op op_mulW (pv 6) (pv 7)) (pe_op op_sub (pv 9) (pe_op op_mulW (pv 2) (pv 8)))) (pv 3) (nomark _)) (pss_one (ps_expr (pe_bm PySem.F.plainAttrs_list PySem.F.slot_list_append PySem.F.type_list_append mt_append (pv 4) (pa_cons (pe_tup (pa_cons (pv 9) (pa_cons (pv 8) pa_nil))) pa_nil)))) pss_nil)))) pss_nil)))))
      (pss_one (ps_ret (pe_callTy call_tuple_of (by rfl) T.tuple (by decide +kernel) (pa_cons (pe_callB (cr_sortedPO) (by rfl) T.sorted (by decide +kernel) (pa_cons (pv 4) pa_nil)) pa_nil))))))), ?_⟩
    refine ⟨(by show 0 ≤ sizeLine; decide), fun D nD => ?_⟩
    have s1 := Same.new (H := H) (p := D) (o := .lst []) nD
    have g1 : upd H D (.lst []) D = some (.lst []) := upd_same
    generalize upd H D (.lst []) = H1 at s1 g1 ⊢
    refine ⟨_, rfl, n, rfl, hn, hN, fun H2 l ds s2 gl hnd hlen hds => ?_⟩
    first | refine sigN [some (.int (p)), some (.int (q')), some (.int (r)), some (.int (n)), some (.ref D), some (.ref l), none, none, none, none] (by rfl) ?_ | refine sig [some (.int (p)), some (.int (q')), some (.int (r)), some (.int (n)), some (.ref D), some (.ref l), none, none, none, none] (by rfl) ?_
    have g2 := s2 _ _ g1
    have nl : l ≠ D := by
      rintro rfl
      rw [g2] at gl
      have e := HO.lst.inj (Option.some.inj gl)
      have h1 := (hds 1).mpr (Int.one_dvd n)
      cases ds with
      | nil => cases h1
      | cons _ _ => cases e
    have hall : ∀ d ∈ ds, d.natAbs ≤ 60 := fun d hd => by
      have := (dvd_le ((hds d).mp hd) hn).1
      omega
    have qp : q' - p ≠ 0 := by omega
    refine ⟨_, rfl, l, rfl, ⟨_, lst_of gl⟩, for_list (K := K) (a := l) (xs := ds.map V.int) (fun i σ H3 => ∃ (ts : List V) (ps : List (Int × Int)) (v1 v2 v3 v4 : Option V), σ = [some (.int p), some (.int q'), some (.int r), some (.int n), some (.ref D), some (.ref l), v1, v2, v3, v4] ∧ But D H2 H3 ∧ H3 D = some (.lst ts) ∧ PA H3 ts ps ∧ Pq p q' r n ds i 0 ps)
      ⟨[], [], none, none, none, none, rfl, But.refl _ _, g2, .nil, Pq.zero⟩ (fun i σ H3 _ z => ?_) ?_ ?_⟩
    · obtain ⟨ts, ps, v1, v2, v3, v4, rfl, b3, g3, pa, pq⟩ := z
      exact lst_of (b3 _ _ gl nl)
    · rintro i x σ H3 hi ⟨ts, ps, v1, v2, v3, v4, rfl, b3, g3, pa, pq⟩
      obtain ⟨u, hu, rfl⟩ := map_int hi
      have hi24 : i < ds.length := (List.getElem?_eq_some_iff.mp hu).1
      have u60 := hall u (List.mem_of_getElem? hu)
      first | refine sigN [some (.int (p)), some (.int (q')), some (.int (r)), some (.int (n)), some (.ref D), some (.ref l), some (.int (u)), v2, v3, v4] (by rfl) ?_ | refine sig [some (.int (p)), some (.int (q')), some (.int (r)), some (.int (n)), some (.ref D), some (.ref l), some (.int (u)), v2, v3, v4] (by rfl) ?_
      refine ⟨_, rfl, l, rfl, ⟨_, lst_of (b3 _ _ gl nl)⟩, for_list (K := K) (a := l) (xs := ds.map V.int) (fun j σ H4 => ∃ (ts : List V) (ps : List (Int × Int)) (v2 v3 v4 : Option V), σ = [some (.int p), some (.int q'), some (.int r), some (.int n), some (.ref D), some (.ref l), some (.int u), v2, v3, v4] ∧ But D H2 H4 ∧ H4 D = some (.lst ts) ∧ PA H4 ts ps ∧ Pq p q' r n ds i j ps)
        ⟨ts, ps, v2, v3, v4, rfl, b3, g3, pa, pq⟩ (fun j σ H4 _ z => ?_) ?_ ?_⟩
      · obtain ⟨ts, ps, v2, v3, v4, rfl, b4, g4, pa, pq⟩ := z
        exact lst_of (b4 _ _ gl nl)
      · rintro j x σ H4 hj ⟨ts, ps, v2, v3, v4, rfl, b4, g4, pa, pq⟩
        obtain ⟨v, hv, rfl⟩ := map_int hj
        have hj24 : j < ds.length := (List.getElem?_eq_some_iff.mp hv).1
        have v60 := hall v (List.mem_of_getElem? hv)
        first | refine sigN [some (.int (p)), some (.int (q')), some (.int (r)), some (.int (n)), some (.ref D), some (.ref l), some (.int (u)), some (.int (v)), v3, v4] (by rfl) ?_ | refine sig [some (.int (p)), some (.int (q')), some (.int (r)), some (.int (n)), some (.ref D), some (.ref l), some (.int (u)), some (.int (v)), v3, v4] (by rfl) ?_
        refine ⟨_, rfl, _, rfl, _, _, rfl, rfl, _, rfl, _, rfl, _, _, rfl, rfl, _, _, rfl, rfl, qp, rfl, _, rfl, ?_⟩
        rw [dec_int]
        by_cases hd : (q' - p) ∣ (u - v)
        · refine iteY (beq_iff_eq.mpr (Int.fmod_eq_zero_of_dvd hd)) ?_
          have hqpN : (q' - p).natAbs < 1073741824 := by omega
          refine ⟨_, rfl, _, rfl, _, _, rfl, rfl, _, rfl, _, rfl, _, _, rfl, rfl, _, _, rfl, rfl, ⟨qp, hqpN⟩, ?_⟩
          have hy : (q' - p) * (u - v).fdiv (q' - p) = u - v := by
            rw [Int.fdiv_eq_ediv_of_dvd hd]
            exact Int.mul_ediv_cancel' hd
          first | refine sigN [some (.int (p)), some (.int (q')), some (.int (r)), some (.int (n)), some (.ref D), some (.ref l), some (.int (u)), some (.int (v)), some (.int ((u - v).fdiv (q' - p))), v4] (by rfl) ?_ | refine sig [some (.int (p)), some (.int (q')), some (.int (r)), some (.int (n)), some (.ref D), some (.ref l), some (.int (u)), some (.int (v)), some (.int ((u - v).fdiv (q' - p))), v4] (by rfl) ?_
          generalize (u - v).fdiv (q' - p) = y at hy ⊢
          have yN : y.natAbs ≤ 120 := by
            have e := congrArg Int.natAbs hy
            rw [Int.natAbs_mul] at e
            have := Nat.mul_le_mul_right y.natAbs (show 1 ≤ (q' - p).natAbs by omega)
            omega
          have uB : B 6 u := by
            unfold B
            omega
          have vB : B 6 v := by
            unfold B
            omega
          have pB : B 5 p := by
            unfold B
            omega
          have rB : B 5 r := by
            unfold B
            omega
          have yB : B 7 y := by
            unfold B
            omega
          refine ⟨_, rfl, _, rfl, _, rfl, _, _, rfl, rfl, pB.mulW yB (by decide), _, _, rfl, rfl, ?_⟩
          first | refine sigN [some (.int (p)), some (.int (q')), some (.int (r)), some (.int (n)), some (.ref D), some (.ref l), some (.int (u)), some (.int (v)), some (.int (y)), some (.int (u + p * y))] (by rfl) ?_ | refine sig [some (.int (p)), some (.int (q')), some (.int (r)), some (.int (n)), some (.ref D), some (.ref l), some (.int (u)), some (.int (v)), some (.int (y)), some (.int (u + p * y))] (by rfl) ?_
          have xB := uB.add (pB.mul yB)
          obtain ⟨x, hx⟩ : ∃ x, u + p * y = x := ⟨_, rfl⟩
          rw [hx] at xB ⊢
          obtain ⟨ex, ey⟩ := li_uv hy hx.symm
          refine ⟨_, rfl, _, rfl, _, _, rfl, rfl, uB.mulW vB (by decide), _, rfl, _, rfl, _, rfl, _, _, rfl, rfl, rB.mulW yB (by decide), _, _, rfl, rfl, _, _, rfl, rfl, (uB.mul vB).mulW (xB.sub (rB.mul yB)) (by decide), _, rfl, rfl, _, rfl, ?_⟩
          rw [dec_int]
          by_cases hl : u * v * (x - r * y) = n
          · refine iteY (beq_iff_eq.mpr hl) ?_
            have hL : Li p q' r n x y := by
              unfold Li
              rw [ex, ey]
              exact hl
            refine ⟨_, rfl, .inl ⟨rfl, _, lst_of g4⟩, _, rfl, _, rfl, (by show 2 ≤ sizeLine; decide), fun t nt => ?_⟩
            have s5 := Same.new (H := H4) (p := t) (o := .tup [.int x, .int y]) nt
            have gt : upd H4 t (.tup [.int x, .int y]) t = some (.tup [.int x, .int y]) := upd_same
            generalize upd H4 t (.tup [.int x, .int y]) = H5 at s5 gt ⊢
            have g5 := s5 _ _ g4
            refine ⟨D, _, _, rfl, rfl, g5, small1000 (by rw [pa.len]; have := pq.len; omega), ?_⟩
            exact ⟨_, _, _, _, _, rfl, b4.trans ((But.of s5).trans But.upd), upd_same, PA.put g5 ((pa.same s5).app (.cons gt .nil)), pq.add hnd hpq hu hv hL ex ey⟩
          · refine iteN (by simpa using hl) ?_
            refine ⟨ts, ps, _, _, _, rfl, b4, g4, pa, pq.skip hu hv fun x' y' hL e1 e2 => hl ?_⟩
            have e := uv_li e1 e2
            have ey' : y' = y := Int.eq_of_mul_eq_mul_left qp (e.trans hy.symm)
            subst ey'
            have ex' : x' = x := by omega
            subst ex'
            unfold Li at hL
            rw [e1, e2] at hL
            exact hL
        · refine iteN (fun z => hd (Int.dvd_of_fmod_eq_zero (beq_iff_eq.mp z))) ?_
          exact ⟨ts, ps, _, _, _, rfl, b4, g4, pa, pq.skip hu hv fun x' y' hL e1 e2 => hd ⟨y', (uv_li e1 e2).symm⟩⟩
      · rintro σ H4 ⟨ts, ps, v2, v3, v4, rfl, b4, g4, pa, pq⟩
        rw [List.length_map] at pq
        exact ⟨ts, ps, _, _, _, _, rfl, b4, g4, pa, pq.next hu hlen fun d hd => (hds d).mpr hd⟩
    · rintro σ H3 ⟨ts, ps, v1, v2, v3, v4, rfl, b3, g3, pa, pq⟩
      rw [List.length_map] at pq
      have full := pq.full fun d hd => (hds d).mpr hd
      refine ⟨_, rfl, D, ts, key H3, rfl, lst_of g3, pa.all, fun ys a h1 h2 np => ⟨a, ys, rfl, .inl ⟨lst_of upd_same, fun m nm => ?_⟩⟩⟩
      obtain ⟨qs, hq, ho, hl, hm⟩ := pa.sorted pq.nodup h1 h2
      have s4 : Same H3 (upd (upd H3 a (.lst ys)) m (.tup ys)) := (Same.new np).trans (Same.new nm)
      refine q _ m ys qs (But.same s1 ((But.of s2).trans (b3.trans (But.of s4))) nD) upd_same (hq.same s4) ho (fun x y => (hm _).trans (full x y)) ?_
      have := pq.len
      omega
def sp_law_products (K : PySem.W.Frag) : Sp := fun vs H Q _ => ∃ p q r n : Int, vs = [.int p, .int q, .int r, .int n] ∧ p ≠ q ∧ p.natAbs ≤ 20 ∧ q.natAbs ≤ 20 ∧ r.natAbs ≤ 20 ∧ n ≠ 0 ∧ n.natAbs ≤ 60 ∧
  ∀ H' t ts ps, Same H H' → H' t = some (.tup ts) → PA H' ts ps → ps.Pairwise Lt → (∀ x y : Int, (x, y) ∈ ps ↔ Li p q r n x y) → Q (.ref t) H'
theorem mx_eq (i j : Int) : (if i < j then j else i) = max i j := by
  split <;> omega
theorem mn_eq (i j : Int) : (if j < i then j else i) = min i j := by
  split <;> omega
abbrev s__law_products : Stmt := topS 15
theorem sc__law_products : FnScope ["p", "q", "r", "n", "found", "most", "y", "x"] ["p", "q", "r", "n"] (defScope s__law_products) := ⟨rfl, rfl, rfl, by decide +kernel, rfl, by decide +kernel, by decide +kernel⟩
theorem k_law_products (T : Tx K mg) (D : Df K mg "_law_products" s__law_products ["p", "q", "r", "n"])  : Kl P w K mg base 1 "_law_products" (sp_law_products K) := by
  have nd := sc__law_products.nd
  refine Kl.by_body D sc__law_products (fun vs H Q E h => ?_) (fun f cdv A outer s H vs Q E hr h => ?_)
  · obtain ⟨_, _, _, _, rfl, _⟩ := h
    rfl
  · obtain ⟨p, q', r, n, rfl, hpq, hp, hq, hr0, hn, hN, q⟩ := h
    have hu1 := hu_of hr
    refine ⟨_, (pss_cons (ps_par (i := 4) (j := 5) (by rfl) nd rfl rfl (by decide) rfl rfl (pa_cons (pe_lst pa_nil) (pa_cons (pe_callB call_abs (by rfl) T.abs (by decide +kernel) (pa_cons (pv 3) pa_nil)) pa_nil)) (by rfl))
      (pss_cons (ps_for PassesOwn.never rfl (pi_range2 (by rfl) T.range (pa_cons (pe_op op_mul (pe_un un_neg pe_int) (pv 5)) (pa_cons (pe_op op_add (pe_op op_mul pe_int (pv 5)) pe_int) pa_nil))) (pg_name (i := 6) nd rfl (by first | exact Or.inl rfl | exact Or.inr rfl)) (pss_one (ps_for PassesOwn.never rfl (pi_range2 (by rfl) T.range (pa_cons (pe_op op_sub (pe_callB (call_max2 rfl) (by rfl) T.max (by decide +kernel) (pa_cons (pe_op op_mulW (pv 0) (pv 6)) (pa_cons (pe_op op_mulW (pv 1) (pv 6)) pa_nil))) (pv 5)) (pa_cons (pe_op op_add (pe_op op_add (pe_callB (call_min2 rfl) (by rfl) T.min (by decide +kernel) (pa_cons (pe_op op_mulW (pv 0) (pv 6)) (pa_cons (pe_op op_mulW (pv 1) (pv 6)) pa_nil))) (pv 5)) pe_int) pa_nil))) (pg_name (i := 7) nd rfl (by first | exact Or.inl rfl | exact Or.inr rfl)) (pss_one (ps_if (pt_cmpR op_eq (pe_op op_mulW (pe_op op_mulW (pe_op op_sub (pv 7) (pe_op op_mulW (pv 0) (pv 6))) (pe_op op_sub (pv 7) (pe_op op_mulW (pv 1) (pv 6)))) (pe_op op_sub (pv 7) (pe_op op_mulW (pv 2) (pv 6)))) (pv 3) (nomark _)) (pss_one (ps_expr (pe_bm PySem.F.plainAttrs_list PySem.F.slot_list_append PySem.F.type_list_append mt_append (pv 4) (pa_cons (pe_tup (pa_cons (pv 7) (pa_cons (pv 6) pa_nil))) pa_nil)))) pss_nil)))))
      (pss_one (ps_ret (pe_callTy call_tuple_of (by rfl) T.tuple (by decide +kernel) (pa_cons (pe_callB (cr_sortedPO) (by rfl) T.sorted (by decide +kernel) (pa_cons (pv 4) pa_nil)) pa_nil)))))), ?_⟩
    refine ⟨(by show 0 ≤ sizeLine; decide), fun D nD => ?_⟩
    have s1 := Same.new (H := H) (p := D) (o := .lst []) nD
    have g1 : upd H D (.lst []) D = some (.lst []) := upd_same
    generalize upd H D (.lst []) = H1 at s1 g1 ⊢
    refine ⟨_, rfl, _, rfl, ?_⟩
    rw [abs_nat]
    obtain ⟨m, hm⟩ : ∃ m : Nat, n.natAbs = m := ⟨_, rfl⟩
    rw [hm]
    have m0 : 1 ≤ m := by omega
    have m60 : m ≤ 60 := by omega
    refine ⟨_, _, rfl, ?_⟩
    first | refine sigN [some (.int (p)), some (.int (q')), some (.int (r)), some (.int (n)), some (.ref D), some (.int ((m : Int))), none, none] (by rfl) ?_ | refine sig [some (.int (p)), some (.int (q')), some (.int (r)), some (.int (n)), some (.ref D), some (.int ((m : Int))), none, none] (by rfl) ?_
    refine ⟨_, rfl, _, rfl, _, _, rfl, rfl, (Or.inl ⟨by decide, by decide⟩), _, rfl, _, _, rfl, rfl, (Or.inl ⟨by decide, by decide⟩), _, _, rfl, rfl, _, _, rfl, ⟨by omega, by omega, by omega, by omega⟩, for_range (lo := -2 * (m : Int)) (n := (2 * (m : Int) + 1 - -2 * (m : Int)).toNat) (fun i σ H3 => ∃ (ts : List V) (ps : List (Int × Int)) (v1 v2 : Option V), σ = [some (.int p), some (.int q'), some (.int r), some (.int n), some (.ref D), some (.int (m : Int)), v1, v2] ∧ But D H1 H3 ∧ H3 D = some (.lst ts) ∧ PA H3 ts ps ∧ Lw p q' r n (-2 * (m : Int) + i) (max (p * (-2 * (m : Int) + i)) (q' * (-2 * (m : Int) + i)) - n.natAbs) ps ∧ ps.length ≤ 200 * i) ⟨[], [], none, none, rfl, But.refl _ _, g1, .nil, by
        have := Lw.start (r := r) hn hpq
        rw [hm] at this
        rw [Int.natCast_zero, Int.add_zero, hm]
        exact this, by decide⟩ ?_ ?_⟩
    · rintro i σ H3 hi ⟨ts, ps, v1, v2, rfl, b3, g3, pa, lw, len⟩
      first | refine sigN [some (.int (p)), some (.int (q')), some (.int (r)), some (.int (n)), some (.ref D), some (.int ((m : Int))), some (.int (-2 * (m : Int) + (i : Int))), v2] (by rfl) ?_ | refine sig [some (.int (p)), some (.int (q')), some (.int (r)), some (.int (n)), some (.ref D), some (.int ((m : Int))), some (.int (-2 * (m : Int) + (i : Int))), v2] (by rfl) ?_
      obtain ⟨y, hy⟩ : ∃ y : Int, -2 * (m : Int) + (i : Int) = y := ⟨_, rfl⟩
      have hy1 : -2 * (m : Int) + ((i + 1 : Nat) : Int) = y + 1 := by omega
      rw [hy] at lw ⊢
      have yN : y.natAbs ≤ 120 := by omega
      have yB : B 7 y := by
        unfold B
        omega
      have pB : B 5 p := by
        unfold B
        omega
      have qB : B 5 q' := by
        unfold B
        omega
      have rB : B 5 r := by
        unfold B
        omega
      have pyB := pB.mul yB
      have qyB := qB.mul yB
      have ryB := rB.mul yB
      refine ⟨_, rfl, _, rfl, _, _, rfl, rfl, pB.mulW yB (by decide), _, rfl, _, rfl, _, _, rfl, rfl, qB.mulW yB (by decide), _, _, rfl, ?_⟩
      rw [mx_eq]
      refine ⟨_, rfl, _, _, rfl, rfl, _, rfl, _, rfl, _, _, rfl, rfl, pB.mulW yB (by decide), _, rfl, _, rfl, _, _, rfl, rfl, qB.mulW yB (by decide), _, _, rfl, ?_⟩
      rw [mn_eq]
      refine ⟨_, rfl, _, _, rfl, rfl, _, _, rfl, rfl, ?_⟩
      obtain ⟨a, ha⟩ : ∃ a, max (p * y) (q' * y) - (m : Int) = a := ⟨_, rfl⟩
      obtain ⟨b, hb⟩ : ∃ b, min (p * y) (q' * y) + (m : Int) + 1 = b := ⟨_, rfl⟩
      have aN : -5000 ≤ a ∧ a ≤ 5000 := by
        unfold B at pyB qyB
        omega
      have bN : -5000 ≤ b ∧ b ≤ 5000 ∧ b ≤ a + 125 := by
        unfold B at pyB qyB
        omega
      rw [hm, ha] at lw
      refine ⟨max (p * y) (q' * y) - (m : Int), min (p * y) (q' * y) + (m : Int) + 1, rfl, ?_⟩
      rw [ha, hb]
      refine ⟨⟨by omega, by omega, by omega, by omega⟩, for_range (lo := a) (n := (b - a).toNat) (fun j σ H4 => ∃ (ts : List V) (ps : List (Int × Int)) (v2 : Option V), σ = [some (.int p), some (.int q'), some (.int r), some (.int n), some (.ref D), some (.int (m : Int)), some (.int y), v2] ∧ But D H1 H4 ∧ H4 D = some (.lst ts) ∧ PA H4 ts ps ∧ Lw p q' r n y (a + j) ps ∧ ps.length ≤ 200 * i + j) ⟨ts, ps, v2, rfl, b3, g3, pa, by rw [Int.natCast_zero, Int.add_zero]; exact lw, by omega⟩ ?_ ?_⟩
      · rintro j σ H4 hj ⟨ts, ps, v2, rfl, b4, g4, pa, lw, len⟩
        first | refine sigN [some (.int (p)), some (.int (q')), some (.int (r)), some (.int (n)), some (.ref D), some (.int ((m : Int))), some (.int (y)), some (.int (a + (j : Int)))] (by rfl) ?_ | refine sig [some (.int (p)), some (.int (q')), some (.int (r)), some (.int (n)), some (.ref D), some (.int ((m : Int))), some (.int (y)), some (.int (a + (j : Int)))] (by rfl) ?_
        obtain ⟨x, hx⟩ : ∃ x : Int, a + (j : Int) = x := ⟨_, rfl⟩
        have hx1 : a + ((j + 1 : Nat) : Int) = x + 1 := by omega
        rw [hx] at lw ⊢
        have xB : B 14 x := by
          unfold B
          omega
        refine ⟨_, rfl, _, rfl, _, rfl, _, _, rfl, rfl, pB.mulW yB (by decide), _, _, rfl, rfl, _, rfl, _, rfl, _, rfl, _, _, rfl, rfl, qB.mulW yB (by decide), _, _, rfl, rfl, _, _, rfl, rfl, (xB.sub pyB).mulW (xB.sub qyB) (by decide), _, rfl, _, rfl, _, rfl, _, _, rfl, rfl, rB.mulW yB (by decide), _, _, rfl, rfl, _, _, rfl, rfl, ((xB.sub pyB).mul (xB.sub qyB)).mulW (xB.sub ryB) (by decide), _, rfl, rfl, _, rfl, ?_⟩
        rw [dec_int]
        by_cases hL : Li p q' r n x y
        · refine iteY (beq_iff_eq.mpr hL) ?_
          refine ⟨_, rfl, .inl ⟨rfl, _, lst_of g4⟩, _, rfl, _, rfl, (by show 2 ≤ sizeLine; decide), fun t nt => ?_⟩
          have s5 := Same.new (H := H4) (p := t) (o := .tup [.int x, .int y]) nt
          have gt : upd H4 t (.tup [.int x, .int y]) t = some (.tup [.int x, .int y]) := upd_same
          generalize upd H4 t (.tup [.int x, .int y]) = H5 at s5 gt ⊢
          have g5 := s5 _ _ g4
          refine ⟨D, _, _, rfl, rfl, g5, Nat.lt_of_lt_of_le (show ts.length < 200000 by rw [pa.len]; omega) (by decide), ?_⟩
          exact ⟨_, _, _, rfl, b4.trans ((But.of s5).trans But.upd), upd_same, PA.put g5 ((pa.same s5).app (.cons gt .nil)), by rw [hx1]; exact lw.add hL, by rw [List.length_append]; exact Nat.add_le_add_right len 1⟩
        · refine iteN (fun z => hL (beq_iff_eq.mp z)) ?_
          exact ⟨ts, ps, _, rfl, b4, g4, pa, by rw [hx1]; exact lw.skip hL, by omega⟩
      · rintro σ H4 ⟨ts, ps, v2, rfl, b4, g4, pa, lw, len⟩
        refine ⟨ts, ps, _, _, rfl, b4, g4, pa, ?_, by omega⟩
        rw [hy1]
        exact lw.next hn hpq (by rw [hm, hb]; omega)
    · rintro σ H3 ⟨ts, ps, v1, v2, rfl, b3, g3, pa, lw, len⟩
      rw [show -2 * (m : Int) + (((2 * (m : Int) + 1 - -2 * (m : Int)).toNat : Nat) : Int) = 2 * (n.natAbs : Int) + 1 by omega] at lw
      have full := lw.full hn hpq
      refine ⟨_, rfl, D, ts, key H3, rfl, lst_of g3, pa.all, fun ys a h1 h2 np => ⟨a, ys, rfl, .inl ⟨lst_of upd_same, fun m nm => ?_⟩⟩⟩
      obtain ⟨qs, hq, ho, hl, hm⟩ := pa.sorted lw.nodup h1 h2
      have s4 : Same H3 (upd (upd H3 a (.lst ys)) m (.tup ys)) := (Same.new np).trans (Same.new nm)
      exact q _ m ys qs (But.same s1 (b3.trans (But.of s4)) nD) upd_same (hq.same s4) ho (fun x y => (hm _).trans (full x y))
end
end K51
set_option Elab.async false
set_option linter.all false
set_option maxRecDepth 100000
set_option maxHeartbeats 4000000
namespace K51
open PySem PySem.Spec PyProof.Rows L2 Gd QM K51M
theorem rd_ok {ps : List (Int × Int)} (h : ∀ p ∈ ps, B 100 p.1 ∧ B 100 p.2) (hl : ps.length ≤ 600) : okD (.tuple (dps ps)) = true ∧ (PyData.tuple (dps ps)).depth ≤ 40 ∧ wt (.tuple (dps ps)) ≤ 16000000 := by
  refine ⟨?_, ?_, ?_⟩
  · simp [okD, dps_ok h]
  · have := dps_depth ps
    simp only [PyData.depth]
    omega
  · simp only [wt]
    rw [dps_wt]
    omega
theorem sq_le_abs (x : Int) : (x.natAbs : Int) ≤ x * x := by
  have h : (x.natAbs : Int) * x.natAbs = x * x := Int.natAbs_mul_self' x
  rcases (show x.natAbs = 0 ∨ 1 ≤ x.natAbs by omega) with e | e
  · rw [e] at h ⊢
    have := sq_nn x
    omega
  · have := Int.mul_le_mul_of_nonneg_right (show (1 : Int) ≤ (x.natAbs : Int) by omega) (show (0 : Int) ≤ (x.natAbs : Int) by omega)
    omega
theorem cub_small {n x y : Int} (h : x ^ 3 + y ^ 3 = n) (hn : n ≠ 0) (hN : n.natAbs ≤ 10000) : B 100 x ∧ B 100 y := by
  have a := (sol_bound h hn).1
  have b := (sol_bound (x := y) (y := x) (by omega) hn).1
  have := sq_le_abs x
  have := sq_le_abs y
  unfold B
  omega
theorem li_small {p q r n x y : Int} (h : Li p q r n x y) (hn : n ≠ 0) (hN : n.natAbs ≤ 60) (hpq : p ≠ q) (hp : p.natAbs ≤ 20) : B 100 x ∧ B 100 y := by
  obtain ⟨a, b, c⟩ := li_bound h hn hpq
  have e : (p * y).natAbs ≤ 20 * 120 := by
    rw [Int.natAbs_mul]
    exact Nat.mul_le_mul hp (by omega)
  unfold B
  omega
theorem cube_12 {x : Int} (h : x.natAbs ≤ 12) : (x ^ 3).natAbs ≤ 1728 := by
  rw [Int.natAbs_pow]
  exact Nat.pow_le_pow_left h 3
section
variable {P : Program} {w : World} {K : PySem.W.Frag} {mg : Str → Option Value} {base : Heap}
/-! ### the law -/
def sp_law (K : PySem.W.Frag) : Sp := fun vs H Q _ => ∃ (a : Addr) (ns : List Int), vs = [.ref a] ∧ SqL K H a (ns.map V.int) ∧ ns.length ≤ 63 ∧ ∀ H', Q (.bl true) H'
abbrev s_law : Stmt := topS 16
theorem sc_law : FnScope ["script", "k", "m", "size", "x", "y", "n", "p", "q", "r"] ["script"] (defScope s_law) := ⟨rfl, rfl, rfl, by decide +kernel, rfl, by decide +kernel, by decide +kernel⟩
theorem k_law {fl : Addr} {fdl : FuncData} (T : Tx K mg) (Fl : Fun K "law" "law" s_law fl fdl) (c_law_begun : Kl P w K mg base 1 "_law_begun" (sp_law_begun K)) (c_law_of : Kl P w K mg base 2 "_law_of" (sp_law_of K)) (c_law_between : Kl P w K mg base 2 "_law_between" (sp_law_between K)) (c_cube_sums : Kl P w K mg base 2 "cube_sums" (sp_cube_sums K)) (c_law_cubes : Kl P w K mg base 2 "_law_cubes" (sp_law_cubes K)) (c_law_draw : Kl P w K mg base 1 "_law_draw" (sp_law_draw K)) (c_line_products : Kl P w K mg base 3 "line_products" (sp_line_products K)) (c_law_products : Kl P w K mg base 1 "_law_products" (sp_law_products K)) : FnG P w K mg base 4 fl fdl ["script"] (sp_law K) := by
  have nd := sc_law.nd
  refine FnG.by_body Fl sc_law (fun vs H Q E h => ?_) (fun cdv A outer s H vs Q E hgd hr h => ?_)
  · obtain ⟨_, _, rfl, _⟩ := h
    rfl
  · obtain ⟨a, ns, rfl, hx, hl, q⟩ := h
    have hu1 := hu_of hr
    refine ⟨_, (pss_cons (ps_for PassesOwn.never rfl (pi_range1 (by rfl) T.range (pa_cons (pe_op op_add pe_int (pe_callB (call_min2 rfl) (by rfl) T.min (by decide +kernel) (pa_cons (pe_callB call_len_seq (by rfl) T.len (by decide +kernel) (pa_cons (pv 0) pa_nil)) (pa_cons pe_int pa_nil)))) pa_nil)) (pg_name (i := 1) nd rfl (by first | exact Or.inl rfl | exact Or.inr rfl)) (pss_cons (ps_set (i := 2) nd rfl (by first | exact Or.inl rfl | exact Or.inr rfl) (pe_k c_law_begun  hr (by decide) (by rfl) (pa_cons (pv 0) (pa_cons (pv 1) pa_nil))))
      (pss_cons (ps_set (i := 3) nd rfl (by first | exact Or.inl rfl | exact Or.inr rfl) (pe_k c_law_of  hr (by decide) (by rfl) (pa_cons (pv 2) (pa_cons (pe_lst (pa_cons pe_int (pa_cons pe_int (pa_cons pe_int pa_nil)))) pa_nil))))
      (pss_cons (ps_par (i := 4) (j := 5) (by rfl) nd rfl rfl (by decide) rfl rfl (pa_cons (pe_k c_law_between  hr (by decide) (by rfl) (pa_cons (pv 2) (pa_cons (pv 3) pa_nil))) (pa_cons (pe_k c_law_between  hr (by decide) (by rfl) (pa_cons (pv 2) (pa_cons (pv 3) pa_nil))) pa_nil)) (by rfl))
      (pss_cons (ps_set (i := 6) nd rfl (by first | exact Or.inl rfl | exact Or.inr rfl) (pe_k c_law_of  hr (by decide) (by rfl) (pa_cons (pv 2) (pa_cons (pe_lst (pa_cons (pe_op op_add (pe_op op_pow (pv 4) pe_int) (pe_op op_pow (pv 5) pe_int)) (pa_cons (pe_op op_add (pe_op op_pow (pv 4) pe_int) (pe_op op_pow (pv 5) pe_int)) (pa_cons (pe_op op_add pe_int (pe_k c_law_draw  hr (by decide) (by rfl) (pa_cons (pv 2) (pa_cons pe_int pa_nil)))) (pa_cons (pe_op op_sub (pe_un un_neg pe_int) (pe_k c_law_draw  hr (by decide) (by rfl) (pa_cons (pv 2) (pa_cons pe_int pa_nil)))) pa_nil))))) pa_nil))))
      (C8.pss_cut (ps_set (i := 6) nd rfl (by first | exact Or.inl rfl | exact Or.inr rfl) (pe_ifExp (pt_cmpR op_eq (pv 6) pe_int (nomark _)) pe_int (pv 6)))
      (pss_cons (ps_if (pt_cmpR op_ne (pe_callB (call_reprD2 hgd hr.units) (by rfl) T.repr (by decide +kernel) (pa_cons (pe_k c_cube_sums  hr (by decide) (by rfl) (pa_cons (pv 6) pa_nil)) pa_nil)) (pe_callB (call_reprD2 hgd hr.units) (by rfl) T.repr (by decide +kernel) (pa_cons (pe_k c_law_cubes  hr (by decide) (by rfl) (pa_cons (pv 6) pa_nil)) pa_nil)) (nomark _)) (pss_one (ps_ret pe_bl)) pss_nil)
      (pss_cons (ps_par3 (i := 7) (j := 8) (l := 9) (by rfl) nd rfl rfl rfl (by decide) (by decide) (by decide) rfl rfl rfl (pa_cons (pe_k c_law_between  hr (by decide) (by rfl) (pa_cons (pv 2) (pa_cons pe_int pa_nil))) (pa_cons (pe_op op_add pe_int (pe_k c_law_draw  hr (by decide) (by rfl) (pa_cons (pv 2) (pa_cons pe_int pa_nil)))) (pa_cons (pe_op op_sub (pe_un un_neg pe_int) (pe_k c_law_draw  hr (by decide) (by rfl) (pa_cons (pv 2) (pa_cons pe_int pa_nil)))) pa_nil))) (by rfl))
      (C8.pss_cut (ps_asg (pe_k c_law_of  hr (by decide) (by rfl) (pa_cons (pv 2) (pa_cons (pe_lst (pa_cons (pe_tup (pa_cons (pv 7) (pa_cons (pv 8) (pa_cons (pv 9) pa_nil)))) (pa_cons (pe_tup (pa_cons (pv 8) (pa_cons (pv 7) (pa_cons (pv 9) pa_nil)))) (pa_cons (pe_tup (pa_cons (pv 9) (pa_cons (pv 8) (pa_cons (pv 7) pa_nil)))) (pa_cons (pe_tup (pa_cons (pv 7) (pa_cons (pe_op op_add (pv 7) pe_int) (pa_cons (pe_op op_add (pv 7) pe_int) pa_nil)))) (pa_cons (pe_tup (pa_cons (pv 7) (pa_cons (pe_op op_add (pv 7) pe_int) (pa_cons (pv 9) pa_nil)))) pa_nil)))))) pa_nil))) (pg_tup rfl (pgs_cons (pg_name (i := 7) nd rfl (by first | exact Or.inl rfl | exact Or.inr rfl)) (pgs_cons (pg_name (i := 8) nd rfl (by first | exact Or.inl rfl | exact Or.inr rfl)) (pgs_cons (pg_name (i := 9) nd rfl (by first | exact Or.inl rfl | exact Or.inr rfl)) pgs_nil)))))
      (pss_cons (ps_par (i := 4) (j := 5) (by rfl) nd rfl rfl (by decide) rfl rfl (pa_cons (pe_k c_law_between  hr (by decide) (by rfl) (pa_cons (pv 2) (pa_cons pe_int pa_nil))) (pa_cons (pe_k c_law_between  hr (by decide) (by rfl) (pa_cons (pv 2) (pa_cons pe_int pa_nil))) pa_nil)) (by rfl))
      (pss_cons (ps_set (i := 6) nd rfl (by first | exact Or.inl rfl | exact Or.inr rfl) (pe_op op_mulW (pe_op op_mulW (pe_op op_sub (pv 4) (pe_op op_mulW (pv 7) (pv 5))) (pe_op op_sub (pv 4) (pe_op op_mulW (pv 8) (pv 5)))) (pe_op op_sub (pv 4) (pe_op op_mulW (pv 9) (pv 5)))))
      (C8.pss_cut (ps_set (i := 6) nd rfl (by first | exact Or.inl rfl | exact Or.inr rfl) (pe_ifExp (pt_chain op_lt op_le pe_int (pe_callB call_abs (by rfl) T.abs (by decide +kernel) (pa_cons (pv 6) pa_nil)) pe_int) (pv 6) (pe_k c_law_of  hr (by decide) (by rfl) (pa_cons (pv 2) (pa_cons (pe_lst (pa_cons pe_int (pa_cons (pe_un un_neg pe_int) (pa_cons pe_int (pa_cons pe_int (pa_cons (pe_un un_neg pe_int) (pa_cons pe_int (pa_cons pe_int (pa_cons pe_int pa_nil))))))))) pa_nil)))))
      (pss_one (ps_if (pt_cmpR op_ne (pe_callB (call_reprD2 hgd hr.units) (by rfl) T.repr (by decide +kernel) (pa_cons (pe_k c_line_products  hr (by decide) (by rfl) (pa_cons (pv 7) (pa_cons (pv 8) (pa_cons (pv 9) (pa_cons (pv 6) pa_nil))))) pa_nil)) (pe_callB (call_reprD2 hgd hr.units) (by rfl) T.repr (by decide +kernel) (pa_cons (pe_k c_law_products  hr (by decide) (by rfl) (pa_cons (pv 7) (pa_cons (pv 8) (pa_cons (pv 9) (pa_cons (pv 6) pa_nil))))) pa_nil)) (nomark _)) (pss_one (ps_ret pe_bl)) pss_nil))))))))))))))
      (pss_one (ps_ret (pe_cmpR op_eq (pe_callB (call_reprD2 hgd hr.units) (by rfl) T.repr (by decide +kernel) (pa_cons (pe_k c_cube_sums  hr (by decide) (by rfl) (pa_cons pe_int pa_nil)) pa_nil)) (pe_callB (call_reprD2 hgd hr.units) (by rfl) T.repr (by decide +kernel) (pa_cons (pe_tup (pa_cons (pe_tup (pa_cons pe_int (pa_cons pe_int pa_nil))) (pa_cons (pe_tup (pa_cons pe_int (pa_cons pe_int pa_nil))) (pa_cons (pe_tup (pa_cons pe_int (pa_cons pe_int pa_nil))) (pa_cons (pe_tup (pa_cons pe_int (pa_cons pe_int pa_nil))) pa_nil))))) pa_nil)) (nomark _))))), ?_⟩
    obtain ⟨j, hj, j0, j1⟩ : ∃ j : Int, (3 : Int) + (if (2 : Int) < ((ns.map V.int).length : Int) then 2 else ((ns.map V.int).length : Int)) = j ∧ 0 ≤ j ∧ j ≤ 5 := ⟨_, rfl, by split <;> omega, by split <;> omega⟩
    refine ⟨.ref a, rfl, a, _, rfl, .inl hx, _, _, rfl, _, _, rfl, rfl, j, ?_, by omega, by omega, ?_⟩
    · rw [← hj]
    refine for_range (lo := 0) (n := j.toNat) (fun i σ H2 => Same H H2 ∧ ∃ v1 v2 v3 v4 v5 v6 v7 v8 v9 : Option V, σ = [some (.ref a), v1, v2, v3, v4, v5, v6, v7, v8, v9]) ⟨Same.refl _, none, none, none, none, none, none, none, none, none, rfl⟩ ?_ ?_
    · rintro i σ H2 hi ⟨s2, v1, v2, v3, v4, v5, v6, v7, v8, v9, rfl⟩
      refine ⟨.ref a, rfl, _, rfl, a, _, ns, rfl, s2.seq hx, hl, by omega, by omega, fun H3 m cl s3 nm ncl hM => ?_⟩
      first | refine sigN [some (.ref a), some (.int (0 + (i : Int))), some (.ref m), v3, v4, v5, v6, v7, v8, v9] (by rfl) ?_ | refine sig [some (.ref a), some (.int (0 + (i : Int))), some (.ref m), v3, v4, v5, v6, v7, v8, v9] (by rfl) ?_
      refine ⟨.ref m, rfl, (by show 3 ≤ sizeLine; decide), fun l1 n1 => ?_⟩
      have s4 := Same.new (H := H3) (p := l1) (o := .lst [.int 3, .int 9, .int 12]) n1
      have g4 : upd H3 l1 (.lst [.int 3, .int 9, .int 12]) l1 = some (.lst [.int 3, .int 9, .int 12]) := upd_same
      generalize upd H3 l1 (.lst [.int 3, .int 9, .int 12]) = H4 at s4 g4 ⊢
      refine ⟨m, cl, l1, _, 0, rfl, lst_of g4, by decide, by decide, by decide, hM.same s4, fun H5 z b5 m5 hz => ?_⟩
      obtain ⟨z, rfl, z0, z1⟩ : ∃ y : Int, z = .int y ∧ 0 ≤ y ∧ y ≤ 12 := by
        simp only [List.mem_cons, List.not_mem_nil, or_false] at hz
        rcases hz with rfl | rfl | rfl <;> exact ⟨_, rfl, by decide, by decide⟩
      first | refine sigN [some (.ref a), some (.int (0 + (i : Int))), some (.ref m), some (.int (z)), v4, v5, v6, v7, v8, v9] (by rfl) ?_ | refine sig [some (.ref a), some (.int (0 + (i : Int))), some (.ref m), some (.int (z)), v4, v5, v6, v7, v8, v9] (by rfl) ?_
      refine ⟨.ref m, rfl, _, rfl, m, cl, z, _, rfl, z0, by omega, by decide, m5, fun H6 x b6 m6 x0 x1 => ?_⟩
      refine ⟨.ref m, rfl, _, rfl, m, cl, z, _, rfl, z0, by omega, by decide, m6, fun H7 y b7 m7 y0 y1 => ⟨_, _, rfl, ?_⟩⟩
      first | refine sigN [some (.ref a), some (.int (0 + (i : Int))), some (.ref m), some (.int (z)), some (.int (x)), some (.int (y)), v6, v7, v8, v9] (by rfl) ?_ | refine sig [some (.ref a), some (.int (0 + (i : Int))), some (.ref m), some (.int (z)), some (.int (x)), some (.int (y)), v6, v7, v8, v9] (by rfl) ?_
      have pw : ∀ u : Int, u.natAbs ≤ 12 → u.natAbs < 2 ^ 64 := fun u h => by omega
      have pl : (0 : Int) ≤ 3 ∧ (3 : Int) ≤ 1000000 := ⟨by decide, by decide⟩
      refine ⟨.ref m, rfl, _, rfl, _, _, rfl, rfl, ⟨by decide, by decide, by omega⟩, _, rfl, _, _, rfl, rfl, ⟨by decide, by decide, by omega⟩, _, _, rfl, rfl, _, rfl, _, _, rfl, rfl, ⟨by decide, by decide, by omega⟩, _, rfl, _, _, rfl, rfl, ⟨by decide, by decide, by omega⟩, _, _, rfl, rfl, ?_⟩
      refine ⟨.ref m, rfl, m, cl, 2000, _, rfl, by decide, by decide, by decide, m7, fun H8 r1 b8 m8 r10 r11 => ⟨_, _, rfl, rfl, _, rfl, .ref m, rfl, m, cl, 500, _, rfl, by decide, by decide, by decide, m8, fun H9 r2 b9 m9 r20 r21 => ⟨_, _, rfl, rfl, (by show 4 ≤ sizeLine; decide), fun l2 n2 => ?_⟩⟩⟩
      have s10 := Same.new (H := H9) (p := l2) (o := .lst [.int (x ^ (3 : Int).toNat + y ^ (3 : Int).toNat), .int (x ^ (3 : Int).toNat + y ^ (3 : Int).toNat), .int (1 + r1), .int (-1 - r2)]) n2
      have g10 : upd H9 l2 (.lst [.int (x ^ (3 : Int).toNat + y ^ (3 : Int).toNat), .int (x ^ (3 : Int).toNat + y ^ (3 : Int).toNat), .int (1 + r1), .int (-1 - r2)]) l2 = some (.lst [.int (x ^ (3 : Int).toNat + y ^ (3 : Int).toNat), .int (x ^ (3 : Int).toNat + y ^ (3 : Int).toNat), .int (1 + r1), .int (-1 - r2)]) := upd_same
      generalize upd H9 l2 (.lst [.int (x ^ (3 : Int).toNat + y ^ (3 : Int).toNat), .int (x ^ (3 : Int).toNat + y ^ (3 : Int).toNat), .int (1 + r1), .int (-1 - r2)]) = H10 at s10 g10 ⊢
      refine ⟨m, cl, l2, _, _, rfl, lst_of g10, by show 0 < 4; decide, by show 4 ≤ 1000; decide, by decide, m9.same s10, fun H11 n b11 m11 hn => ?_⟩
      obtain ⟨n, rfl, hnN⟩ : ∃ n' : Int, n = .int n' ∧ n'.natAbs ≤ 10000 := by
        have e1 := cube_12 (x := x) (by omega)
        have e2 := cube_12 (x := y) (by omega)
        have e3 : (x ^ (3 : Int).toNat + y ^ (3 : Int).toNat).natAbs ≤ 10000 := by
          show (x ^ 3 + y ^ 3).natAbs ≤ 10000
          omega
        simp only [List.mem_cons, List.not_mem_nil, or_false] at hn
        rcases hn with rfl | rfl | rfl | rfl
        · exact ⟨_, rfl, e3⟩
        · exact ⟨_, rfl, e3⟩
        · exact ⟨_, rfl, by omega⟩
        · exact ⟨_, rfl, by omega⟩
      have bA : But m H3 H11 := (But.of s4).trans (b5.trans (b6.trans (b7.trans (b8.trans (b9.trans ((But.of s10).trans b11))))))
      clear s4 b5 b6 b7 b8 b9 s10 b11 g4 g10 hn hz m5 m6 m7 m8 m9 hM
      first | refine sigN [some (.ref a), some (.int (0 + (i : Int))), some (.ref m), some (.int (z)), some (.int (x)), some (.int (y)), some (.int (n)), v7, v8, v9] (by rfl) ?_ | refine sig [some (.ref a), some (.int (0 + (i : Int))), some (.ref m), some (.int (z)), some (.int (x)), some (.int (y)), some (.int (n)), v7, v8, v9] (by rfl) ?_
      refine ⟨fun σ' H' => H' = H11 ∧ ∃ n' : Int, σ' = [some (.ref a), some (.int (0 + (i : Int))), some (.ref m), some (.int z), some (.int x), some (.int y), some (.int n'), v7, v8, v9] ∧ n' ≠ 0 ∧ n'.natAbs ≤ 10000, ?_, ?_⟩
      · refine ⟨_, rfl, rfl, _, rfl, ?_⟩
        rw [dec_int]
        by_cases hz : n = 0
        · refine iteY (beq_iff_eq.mpr hz) ?_
          exact ⟨rfl, 1729, rfl, by decide, by decide⟩
        · refine iteN (fun e => hz (beq_iff_eq.mp e)) ?_
          exact ⟨_, rfl, rfl, n, rfl, hz, hnN⟩
      rintro σ' H' ⟨rfl, n, rfl, hn0, hnN⟩
      refine ⟨_, rfl, n, rfl, hn0, hnN, fun H12 t ts ps s12 gt pa ho hm hlen => ?_⟩
      obtain ⟨k1, k2, k3⟩ := rd_ok (ps := ps) (fun p hp => cub_small ((hm p.1 p.2).mp hp) hn0 hnN) (by omega)
      refine ⟨.ref t, .tuple (dps ps), rfl, .tup (tup_of gt) pa.dp, k1, k2, k3, ?_⟩
      refine ⟨_, rfl, n, rfl, hn0, hnN, fun H13 t' ts' ps' s13 gt' pa' ho' hm' => ?_⟩
      obtain rfl : ps' = ps := uniq ho' ho fun p => (hm' p.1 p.2).trans (hm p.1 p.2).symm
      refine ⟨.ref t', .tuple (dps ps'), rfl, .tup (tup_of gt') pa'.dp, k1, k2, k3, rfl, _, rfl, ?_⟩
      refine iteN (by simp) ?_
      have bB : But m H3 H13 := bA.trans (But.of (s12.trans s13))
      replace m11 := m11.same (s12.trans s13)
      clear bA s12 s13 gt gt' pa pa' ho ho' hm hm' hlen k1 k2 k3
      refine ⟨.ref m, rfl, m, cl, 3, _, rfl, by decide, by decide, by decide, m11, fun H14 p b14 m14 p0 p1 => ?_⟩
      refine ⟨.ref m, rfl, m, cl, 4, _, rfl, by decide, by decide, by decide, m14, fun H15 q0 b15 m15 q00 q01 => ⟨_, _, rfl, rfl, ?_⟩⟩
      refine ⟨_, rfl, .ref m, rfl, m, cl, 4, _, rfl, by decide, by decide, by decide, m15, fun H16 r0 b16 m16 r00 r01 => ⟨_, _, rfl, rfl, ?_⟩⟩
      refine ⟨_, _, _, rfl, ?_⟩
      obtain ⟨q', hq'⟩ : ∃ q', 4 + q0 = q' := ⟨_, rfl⟩
      obtain ⟨r, hr'⟩ : ∃ r, -4 - r0 = r := ⟨_, rfl⟩
      have hqb : 4 ≤ q' ∧ q' ≤ 7 := by omega
      have hrb : -7 ≤ r ∧ r ≤ -4 := by omega
      first | refine sigN [some (.ref a), some (.int (0 + (i : Int))), some (.ref m), some (.int (z)), some (.int (x)), some (.int (y)), some (.int (n)), some (.int (p)), some (.int (4 + q0)), some (.int (-4 - r0))] (by rfl) ?_ | refine sig [some (.ref a), some (.int (0 + (i : Int))), some (.ref m), some (.int (z)), some (.int (x)), some (.int (y)), some (.int (n)), some (.int (p)), some (.int (4 + q0)), some (.int (-4 - r0))] (by rfl) ?_
      rw [hq', hr']
      have bC : But m H3 H16 := bB.trans (b14.trans (b15.trans b16))
      clear bB b14 b15 b16 m11 m14 m15 hq' hr' q00 q01 r00 r01
      refine ⟨fun σ' H' => But m H3 H' ∧ (∃ k, k ≤ 1000 ∧ MAt H' m cl k) ∧ ∃ p q r : Int, σ' = [some (.ref a), some (.int (0 + (i : Int))), some (.ref m), some (.int z), some (.int x), some (.int y), some (.int n), some (.int p), some (.int q), some (.int r)] ∧ p ≠ q ∧ p.natAbs ≤ 20 ∧ q.natAbs ≤ 20 ∧ r.natAbs ≤ 20, ?_, ?_⟩
      · refine ⟨.ref m, rfl, _, rfl, _, rfl, _, rfl, (by show 3 ≤ sizeLine; decide), fun t1 nt1 => ?_⟩
        have s17 := Same.new (H := H16) (p := t1) (o := .tup [.int p, .int q', .int r]) nt1
        have gt1 : upd H16 t1 (.tup [.int p, .int q', .int r]) t1 = some (.tup [.int p, .int q', .int r]) := upd_same
        generalize upd H16 t1 (.tup [.int p, .int q', .int r]) = H17 at s17 gt1 ⊢
        refine ⟨_, rfl, _, rfl, _, rfl, (by show 3 ≤ sizeLine; decide), fun t2 nt2 => ?_⟩
        have s18 := Same.new (H := H17) (p := t2) (o := .tup [.int q', .int p, .int r]) nt2
        have gt2 : upd H17 t2 (.tup [.int q', .int p, .int r]) t2 = some (.tup [.int q', .int p, .int r]) := upd_same
        generalize upd H17 t2 (.tup [.int q', .int p, .int r]) = H18 at s18 gt2 ⊢
        refine ⟨_, rfl, _, rfl, _, rfl, (by show 3 ≤ sizeLine; decide), fun t3 nt3 => ?_⟩
        have s19 := Same.new (H := H18) (p := t3) (o := .tup [.int r, .int q', .int p]) nt3
        have gt3 : upd H18 t3 (.tup [.int r, .int q', .int p]) t3 = some (.tup [.int r, .int q', .int p]) := upd_same
        generalize upd H18 t3 (.tup [.int r, .int q', .int p]) = H19 at s19 gt3 ⊢
        refine ⟨_, rfl, _, rfl, _, _, rfl, rfl, _, rfl, _, _, rfl, rfl, (by show 3 ≤ sizeLine; decide), fun t4 nt4 => ?_⟩
        have s20 := Same.new (H := H19) (p := t4) (o := .tup [.int p, .int (p + 1), .int (p + 2)]) nt4
        have gt4 : upd H19 t4 (.tup [.int p, .int (p + 1), .int (p + 2)]) t4 = some (.tup [.int p, .int (p + 1), .int (p + 2)]) := upd_same
        generalize upd H19 t4 (.tup [.int p, .int (p + 1), .int (p + 2)]) = H20 at s20 gt4 ⊢
        refine ⟨_, rfl, _, rfl, _, _, rfl, rfl, _, rfl, (by show 3 ≤ sizeLine; decide), fun t5 nt5 => ?_⟩
        have s21 := Same.new (H := H20) (p := t5) (o := .tup [.int p, .int (p + 1), .int r]) nt5
        have gt5 : upd H20 t5 (.tup [.int p, .int (p + 1), .int r]) t5 = some (.tup [.int p, .int (p + 1), .int r]) := upd_same
        generalize upd H20 t5 (.tup [.int p, .int (p + 1), .int r]) = H21 at s21 gt5 ⊢
        refine ⟨(by show 5 ≤ sizeLine; decide), fun l3 n3 => ?_⟩
        have s22 := Same.new (H := H21) (p := l3) (o := .lst [.ref t1, .ref t2, .ref t3, .ref t4, .ref t5]) n3
        have g22 : upd H21 l3 (.lst [.ref t1, .ref t2, .ref t3, .ref t4, .ref t5]) l3 = some (.lst [.ref t1, .ref t2, .ref t3, .ref t4, .ref t5]) := upd_same
        generalize upd H21 l3 (.lst [.ref t1, .ref t2, .ref t3, .ref t4, .ref t5]) = H22 at s22 g22 ⊢
        have sA : Same H16 H22 := s17.trans (s18.trans (s19.trans (s20.trans (s21.trans s22))))
        refine ⟨m, cl, l3, _, _, rfl, lst_of g22, by show 0 < 5; decide, by show 5 ≤ 1000; decide, by omega, m16.same sA, fun H23 v b23 m23 hv => ?_⟩
        have e1 := b23.tup (m16.same sA) ((s18.trans (s19.trans (s20.trans (s21.trans s22)))) _ _ gt1)
        have e2 := b23.tup (m16.same sA) ((s19.trans (s20.trans (s21.trans s22))) _ _ gt2)
        have e3 := b23.tup (m16.same sA) ((s20.trans (s21.trans s22)) _ _ gt3)
        have e4 := b23.tup (m16.same sA) ((s21.trans s22) _ _ gt4)
        have e5 := b23.tup (m16.same sA) (s22 _ _ gt5)
        have bD : But m H3 H23 := bC.trans ((But.of sA).trans b23)
        have mD : ∃ k, k ≤ 1000 ∧ MAt H23 m cl k := ⟨_, by decide, m23⟩
        simp only [List.mem_cons, List.not_mem_nil, or_false] at hv
        rcases hv with rfl | rfl | rfl | rfl | rfl
        · exact ⟨_, _, rfl, tup_of e1, rfl, _, _, rfl, _, _, rfl, _, _, rfl, rfl, bD, mD, _, _, _, rfl, by omega, by omega, by omega, by omega⟩
        · exact ⟨_, _, rfl, tup_of e2, rfl, _, _, rfl, _, _, rfl, _, _, rfl, rfl, bD, mD, _, _, _, rfl, by omega, by omega, by omega, by omega⟩
        · exact ⟨_, _, rfl, tup_of e3, rfl, _, _, rfl, _, _, rfl, _, _, rfl, rfl, bD, mD, _, _, _, rfl, by omega, by omega, by omega, by omega⟩
        · exact ⟨_, _, rfl, tup_of e4, rfl, _, _, rfl, _, _, rfl, _, _, rfl, rfl, bD, mD, _, _, _, rfl, by omega, by omega, by omega, by omega⟩
        · exact ⟨_, _, rfl, tup_of e5, rfl, _, _, rfl, _, _, rfl, _, _, rfl, rfl, bD, mD, _, _, _, rfl, by omega, by omega, by omega, by omega⟩
      rintro σ' H17 ⟨bD, ⟨k, hk, mD⟩, p, q', r, rfl, hpq, hp, hq, hr0⟩
      clear bC m16 hqb hrb p0 p1
      refine ⟨.ref m, rfl, m, cl, 3, _, rfl, by decide, by decide, by omega, mD, fun H18 x b18 m18 x0 x1 => ?_⟩
      refine ⟨.ref m, rfl, m, cl, 1, _, rfl, by decide, by decide, by omega, m18, fun H19 y b19 m19 y0 y1 => ⟨_, _, rfl, ?_⟩⟩
      first | refine sigN [some (.ref a), some (.int (0 + (i : Int))), some (.ref m), some (.int (z)), some (.int (x)), some (.int (y)), some (.int (n)), some (.int (p)), some (.int (q')), some (.int (r))] (by rfl) ?_ | refine sig [some (.ref a), some (.int (0 + (i : Int))), some (.ref m), some (.int (z)), some (.int (x)), some (.int (y)), some (.int (n)), some (.int (p)), some (.int (q')), some (.int (r))] (by rfl) ?_
      have bE : But m H3 H19 := bD.trans (b18.trans b19)
      clear bD b18 b19 mD m18
      have xB : B 2 x := by
        unfold B
        omega
      have yB : B 1 y := by
        unfold B
        omega
      have pB : B 5 p := by
        unfold B
        omega
      have qB : B 5 q' := by
        unfold B
        omega
      have rB : B 5 r := by
        unfold B
        omega
      have pyB := pB.mul yB
      have qyB := qB.mul yB
      have ryB := rB.mul yB
      refine ⟨_, rfl, _, rfl, _, rfl, _, _, rfl, rfl, pB.mulW yB (by decide), _, _, rfl, rfl, _, rfl, _, rfl, _, rfl, _, _, rfl, rfl, qB.mulW yB (by decide), _, _, rfl, rfl, _, _, rfl, rfl, (xB.sub pyB).mulW (xB.sub qyB) (by decide), _, rfl, _, rfl, _, rfl, _, _, rfl, rfl, rB.mulW yB (by decide), _, _, rfl, rfl, _, _, rfl, rfl, ((xB.sub pyB).mul (xB.sub qyB)).mulW (xB.sub ryB) (by decide), ?_⟩
      first | refine sigN [some (.ref a), some (.int (0 + (i : Int))), some (.ref m), some (.int (z)), some (.int (x)), some (.int (y)), some (.int ((x - p * y) * (x - q' * y) * (x - r * y))), some (.int (p)), some (.int (q')), some (.int (r))] (by rfl) ?_ | refine sig [some (.ref a), some (.int (0 + (i : Int))), some (.ref m), some (.int (z)), some (.int (x)), some (.int (y)), some (.int ((x - p * y) * (x - q' * y) * (x - r * y))), some (.int (p)), some (.int (q')), some (.int (r))] (by rfl) ?_
      generalize (x - p * y) * (x - q' * y) * (x - r * y) = n1
      refine ⟨fun σ' H' => But m H3 H' ∧ ∃ n : Int, σ' = [some (.ref a), some (.int (0 + (i : Int))), some (.ref m), some (.int z), some (.int x), some (.int y), some (.int n), some (.int p), some (.int q'), some (.int r)] ∧ n ≠ 0 ∧ n.natAbs ≤ 60, ?_, ?_⟩
      · refine ⟨_, rfl, _, rfl, _, _, rfl, rfl, _, rfl, ?_⟩
        rw [abs_nat]
        by_cases h1 : 0 < (n1.natAbs : Int)
        · refine iteY (decide_eq_true h1) ⟨_, _, rfl, rfl, _, rfl, ?_⟩
          by_cases h2 : (n1.natAbs : Int) ≤ 60
          · refine iteY (decide_eq_true h2) ?_
            exact ⟨_, rfl, bE, n1, rfl, by omega, by omega⟩
          refine iteN (by simpa using h2) ?_
          refine ⟨.ref m, rfl, _, rfl, _, rfl, (by show 8 ≤ sizeLine; decide), fun l4 n4 => ?_⟩
          have s19 := Same.new (H := H19) (p := l4) (o := .lst [.int 1, .int (-1), .int 6, .int 8, .int (-12), .int 24, .int 30, .int 36]) n4
          have g19 : upd H19 l4 (.lst [.int 1, .int (-1), .int 6, .int 8, .int (-12), .int 24, .int 30, .int 36]) l4 = some (.lst [.int 1, .int (-1), .int 6, .int 8, .int (-12), .int 24, .int 30, .int 36]) := upd_same
          generalize upd H19 l4 (.lst [.int 1, .int (-1), .int 6, .int 8, .int (-12), .int 24, .int 30, .int 36]) = H19b at s19 g19 ⊢
          refine ⟨m, cl, l4, _, _, rfl, lst_of g19, by show 0 < 8; decide, by show 8 ≤ 1000; decide, by omega, m19.same s19, fun H20 v b20 m20 hv => ?_⟩
          simp only [List.mem_cons, List.not_mem_nil, or_false] at hv
          rcases hv with rfl | rfl | rfl | rfl | rfl | rfl | rfl | rfl <;> exact ⟨bE.trans ((But.of s19).trans b20), _, rfl, by decide, by decide⟩
        · refine iteN (by simpa using h1) ⟨_, rfl, iteF ?_⟩
          refine ⟨.ref m, rfl, _, rfl, _, rfl, (by show 8 ≤ sizeLine; decide), fun l4 n4 => ?_⟩
          have s19 := Same.new (H := H19) (p := l4) (o := .lst [.int 1, .int (-1), .int 6, .int 8, .int (-12), .int 24, .int 30, .int 36]) n4
          have g19 : upd H19 l4 (.lst [.int 1, .int (-1), .int 6, .int 8, .int (-12), .int 24, .int 30, .int 36]) l4 = some (.lst [.int 1, .int (-1), .int 6, .int 8, .int (-12), .int 24, .int 30, .int 36]) := upd_same
          generalize upd H19 l4 (.lst [.int 1, .int (-1), .int 6, .int 8, .int (-12), .int 24, .int 30, .int 36]) = H19b at s19 g19 ⊢
          refine ⟨m, cl, l4, _, _, rfl, lst_of g19, by show 0 < 8; decide, by show 8 ≤ 1000; decide, by omega, m19.same s19, fun H20 v b20 m20 hv => ?_⟩
          simp only [List.mem_cons, List.not_mem_nil, or_false] at hv
          rcases hv with rfl | rfl | rfl | rfl | rfl | rfl | rfl | rfl <;> exact ⟨bE.trans ((But.of s19).trans b20), _, rfl, by decide, by decide⟩
      rintro σ' H20 ⟨bF, n, rfl, hn0, hnN⟩
      refine ⟨_, rfl, _, rfl, _, rfl, _, rfl, p, q', r, n, rfl, hpq, hp, hq, hr0, hn0, hnN, fun H21 t ts ps s21 gt pa ho hm hlen => ?_⟩
      obtain ⟨k1, k2, k3⟩ := rd_ok (ps := ps) (fun u hu => li_small ((hm u.1 u.2).mp hu) hn0 hnN hpq hp) (by omega)
      refine ⟨.ref t, .tuple (dps ps), rfl, .tup (tup_of gt) pa.dp, k1, k2, k3, ?_⟩
      refine ⟨_, rfl, _, rfl, _, rfl, _, rfl, p, q', r, n, rfl, hpq, hp, hq, hr0, hn0, hnN, fun H22 t' ts' ps' s22 gt' pa' ho' hm' => ?_⟩
      obtain rfl : ps' = ps := uniq ho' ho fun p => (hm' p.1 p.2).trans (hm p.1 p.2).symm
      refine ⟨.ref t', .tuple (dps ps'), rfl, .tup (tup_of gt') pa'.dp, k1, k2, k3, rfl, _, rfl, ?_⟩
      refine iteN (by simp) ?_
      exact ⟨s2.trans (But.same s3 (bF.trans (But.of (s21.trans s22))) nm), _, _, _, _, _, _, _, _, _, rfl⟩
    · rintro σ H2 ⟨s2, v1, v2, v3, v4, v5, v6, v7, v8, v9, rfl⟩
      refine ⟨1729, rfl, by decide, by decide, fun H3 t ts ps s3 gt pa ho hm hlen => ?_⟩
      obtain rfl : ps = taxi := uniq ho taxi_ord fun p => (hm p.1 p.2).trans (taxi_mem p.1 p.2).symm
      obtain ⟨k1, k2, k3⟩ : okD (.tuple (dps taxi)) = true ∧ (PyData.tuple (dps taxi)).depth ≤ 40 ∧ wt (.tuple (dps taxi)) ≤ 16000000 := by decide +kernel
      refine ⟨.ref t, .tuple (dps taxi), rfl, .tup (tup_of gt) pa.dp, k1, k2, k3, ?_⟩
      refine ⟨(by show 2 ≤ sizeLine; decide), fun t1 n1 => ?_⟩
      have s4 := Same.new (H := H3) (p := t1) (o := .tup [.int 1, .int 12]) n1
      have g1 : upd H3 t1 (.tup [.int 1, .int 12]) t1 = some (.tup [.int 1, .int 12]) := upd_same
      generalize upd H3 t1 (.tup [.int 1, .int 12]) = H4 at s4 g1 ⊢
      refine ⟨(by show 2 ≤ sizeLine; decide), fun t2 n2 => ?_⟩
      have s5 := Same.new (H := H4) (p := t2) (o := .tup [.int 9, .int 10]) n2
      have g2 : upd H4 t2 (.tup [.int 9, .int 10]) t2 = some (.tup [.int 9, .int 10]) := upd_same
      generalize upd H4 t2 (.tup [.int 9, .int 10]) = H5 at s5 g2 ⊢
      refine ⟨(by show 2 ≤ sizeLine; decide), fun t3 n3 => ?_⟩
      have s6 := Same.new (H := H5) (p := t3) (o := .tup [.int 10, .int 9]) n3
      have g3 : upd H5 t3 (.tup [.int 10, .int 9]) t3 = some (.tup [.int 10, .int 9]) := upd_same
      generalize upd H5 t3 (.tup [.int 10, .int 9]) = H6 at s6 g3 ⊢
      refine ⟨(by show 2 ≤ sizeLine; decide), fun t4 n4 => ?_⟩
      have s7 := Same.new (H := H6) (p := t4) (o := .tup [.int 12, .int 1]) n4
      have g4 : upd H6 t4 (.tup [.int 12, .int 1]) t4 = some (.tup [.int 12, .int 1]) := upd_same
      generalize upd H6 t4 (.tup [.int 12, .int 1]) = H7 at s7 g4 ⊢
      refine ⟨(by show 4 ≤ sizeLine; decide), fun t5 n5 => ?_⟩
      have s8 := Same.new (H := H7) (p := t5) (o := .tup [.ref t1, .ref t2, .ref t3, .ref t4]) n5
      have g5 : upd H7 t5 (.tup [.ref t1, .ref t2, .ref t3, .ref t4]) t5 = some (.tup [.ref t1, .ref t2, .ref t3, .ref t4]) := upd_same
      generalize upd H7 t5 (.tup [.ref t1, .ref t2, .ref t3, .ref t4]) = H8 at s8 g5 ⊢
      have pa2 : PA H8 [.ref t1, .ref t2, .ref t3, .ref t4] taxi := .cons ((s5.trans (s6.trans (s7.trans s8))) _ _ g1) (.cons ((s6.trans (s7.trans s8)) _ _ g2) (.cons ((s7.trans s8) _ _ g3) (.cons (s8 _ _ g4) .nil)))
      refine ⟨.ref t5, .tuple (dps taxi), rfl, .tup (tup_of g5) pa2.dp, k1, k2, k3, rfl, ?_⟩
      generalize (PyData.tuple (dps taxi)).shown = zz
      rw [decide_eq_true (rfl : V.str zz = V.str zz)]
      exact q _
end
end K51
set_option Elab.async false
set_option linter.all false
set_option maxRecDepth 100000
set_option maxHeartbeats 4000000
namespace K51
open PySem PySem.Spec PyProof.Rows L2 Gd
theorem all_mk {P : Program} {w : World} {K : PySem.W.Frag} {h : Heap} {mg : Str → Option Value} {fa : Addr} (X : K.In h) (G : h.Ns mainGlobals mg) (hfa : mg "law" = some (.ref fa))
    {f2 : Addr} {od2 an2 : Option Addr} {sl2 : Array (Option Value)} {oc2 kV2 dc2 pm2 cd2 ct2 : Value}
    {f3 : Addr} {od3 an3 : Option Addr} {sl3 : Array (Option Value)} {oc3 kV3 dc3 pm3 cd3 ct3 : Value}
    {f5 : Addr} {od5 an5 : Option Addr} {sl5 : Array (Option Value)} {oc5 kV5 dc5 pm5 cd5 ct5 : Value}
    {f6 : Addr} {od6 an6 : Option Addr} {sl6 : Array (Option Value)} {oc6 kV6 dc6 pm6 cd6 ct6 : Value}
    {f7 : Addr} {od7 an7 : Option Addr} {sl7 : Array (Option Value)} {oc7 kV7 dc7 pm7 cd7 ct7 : Value}
    {f9 : Addr} {od9 an9 : Option Addr} {sl9 : Array (Option Value)} {oc9 kV9 dc9 pm9 cd9 ct9 : Value}
    {f10 : Addr} {od10 an10 : Option Addr} {sl10 : Array (Option Value)} {oc10 kV10 dc10 pm10 cd10 ct10 : Value}
    {f11 : Addr} {od11 an11 : Option Addr} {sl11 : Array (Option Value)} {oc11 kV11 dc11 pm11 cd11 ct11 : Value}
    {f12 : Addr} {od12 an12 : Option Addr} {sl12 : Array (Option Value)} {oc12 kV12 dc12 pm12 cd12 ct12 : Value}
    {f13 : Addr} {od13 an13 : Option Addr} {sl13 : Array (Option Value)} {oc13 kV13 dc13 pm13 cd13 ct13 : Value}
    {f14 : Addr} {od14 an14 : Option Addr} {sl14 : Array (Option Value)} {oc14 kV14 dc14 pm14 cd14 ct14 : Value}
    {f15 : Addr} {od15 an15 : Option Addr} {sl15 : Array (Option Value)} {oc15 kV15 dc15 pm15 cd15 ct15 : Value}
    {f16 : Addr} {od16 an16 : Option Addr} {sl16 : Array (Option Value)} {oc16 kV16 dc16 pm16 cd16 ct16 : Value}
    (a2 : PySem.W.nsIn K mainGlobals "root" = some (some (.ref f2))) (l2 : K.lookup f2 = some ⟨oc2, od2, .func (PySem.W.fnOf "root" "root" (defArgs s_root) (defBody s_root) (defScope s_root) .none kV2 dc2 pm2 an2 cd2 ct2), sl2⟩) (c2 : PySem.W.codeIn K cd2 "root" = true) (k2 : PySem.W.keepIn K (.ref f2) = true)
    (a3 : PySem.W.nsIn K mainGlobals "is_square" = some (some (.ref f3))) (l3 : K.lookup f3 = some ⟨oc3, od3, .func (PySem.W.fnOf "is_square" "is_square" (defArgs s_is_square) (defBody s_is_square) (defScope s_is_square) .none kV3 dc3 pm3 an3 cd3 ct3), sl3⟩) (c3 : PySem.W.codeIn K cd3 "is_square" = true) (k3 : PySem.W.keepIn K (.ref f3) = true)
    (a5 : PySem.W.nsIn K mainGlobals "cube_sums" = some (some (.ref f5))) (l5 : K.lookup f5 = some ⟨oc5, od5, .func (PySem.W.fnOf "cube_sums" "cube_sums" (defArgs s_cube_sums) (defBody s_cube_sums) (defScope s_cube_sums) .none kV5 dc5 pm5 an5 cd5 ct5), sl5⟩) (c5 : PySem.W.codeIn K cd5 "cube_sums" = true) (k5 : PySem.W.keepIn K (.ref f5) = true)
    (a6 : PySem.W.nsIn K mainGlobals "divisors_of" = some (some (.ref f6))) (l6 : K.lookup f6 = some ⟨oc6, od6, .func (PySem.W.fnOf "divisors_of" "divisors_of" (defArgs s_divisors_of) (defBody s_divisors_of) (defScope s_divisors_of) .none kV6 dc6 pm6 an6 cd6 ct6), sl6⟩) (c6 : PySem.W.codeIn K cd6 "divisors_of" = true) (k6 : PySem.W.keepIn K (.ref f6) = true)
    (a7 : PySem.W.nsIn K mainGlobals "line_products" = some (some (.ref f7))) (l7 : K.lookup f7 = some ⟨oc7, od7, .func (PySem.W.fnOf "line_products" "line_products" (defArgs s_line_products) (defBody s_line_products) (defScope s_line_products) .none kV7 dc7 pm7 an7 cd7 ct7), sl7⟩) (c7 : PySem.W.codeIn K cd7 "line_products" = true) (k7 : PySem.W.keepIn K (.ref f7) = true)
    (a9 : PySem.W.nsIn K mainGlobals "_law_begun" = some (some (.ref f9))) (l9 : K.lookup f9 = some ⟨oc9, od9, .func (PySem.W.fnOf "_law_begun" "_law_begun" (defArgs s__law_begun) (defBody s__law_begun) (defScope s__law_begun) .none kV9 dc9 pm9 an9 cd9 ct9), sl9⟩) (c9 : PySem.W.codeIn K cd9 "_law_begun" = true) (k9 : PySem.W.keepIn K (.ref f9) = true)
    (a10 : PySem.W.nsIn K mainGlobals "_law_draw" = some (some (.ref f10))) (l10 : K.lookup f10 = some ⟨oc10, od10, .func (PySem.W.fnOf "_law_draw" "_law_draw" (defArgs s__law_draw) (defBody s__law_draw) (defScope s__law_draw) .none kV10 dc10 pm10 an10 cd10 ct10), sl10⟩) (c10 : PySem.W.codeIn K cd10 "_law_draw" = true) (k10 : PySem.W.keepIn K (.ref f10) = true)
    (a11 : PySem.W.nsIn K mainGlobals "_law_of" = some (some (.ref f11))) (l11 : K.lookup f11 = some ⟨oc11, od11, .func (PySem.W.fnOf "_law_of" "_law_of" (defArgs s__law_of) (defBody s__law_of) (defScope s__law_of) .none kV11 dc11 pm11 an11 cd11 ct11), sl11⟩) (c11 : PySem.W.codeIn K cd11 "_law_of" = true) (k11 : PySem.W.keepIn K (.ref f11) = true)
    (a12 : PySem.W.nsIn K mainGlobals "_law_between" = some (some (.ref f12))) (l12 : K.lookup f12 = some ⟨oc12, od12, .func (PySem.W.fnOf "_law_between" "_law_between" (defArgs s__law_between) (defBody s__law_between) (defScope s__law_between) .none kV12 dc12 pm12 an12 cd12 ct12), sl12⟩) (c12 : PySem.W.codeIn K cd12 "_law_between" = true) (k12 : PySem.W.keepIn K (.ref f12) = true)
    (a13 : PySem.W.nsIn K mainGlobals "_law_third_root" = some (some (.ref f13))) (l13 : K.lookup f13 = some ⟨oc13, od13, .func (PySem.W.fnOf "_law_third_root" "_law_third_root" (defArgs s__law_third_root) (defBody s__law_third_root) (defScope s__law_third_root) .none kV13 dc13 pm13 an13 cd13 ct13), sl13⟩) (c13 : PySem.W.codeIn K cd13 "_law_third_root" = true) (k13 : PySem.W.keepIn K (.ref f13) = true)
    (a14 : PySem.W.nsIn K mainGlobals "_law_cubes" = some (some (.ref f14))) (l14 : K.lookup f14 = some ⟨oc14, od14, .func (PySem.W.fnOf "_law_cubes" "_law_cubes" (defArgs s__law_cubes) (defBody s__law_cubes) (defScope s__law_cubes) .none kV14 dc14 pm14 an14 cd14 ct14), sl14⟩) (c14 : PySem.W.codeIn K cd14 "_law_cubes" = true) (k14 : PySem.W.keepIn K (.ref f14) = true)
    (a15 : PySem.W.nsIn K mainGlobals "_law_products" = some (some (.ref f15))) (l15 : K.lookup f15 = some ⟨oc15, od15, .func (PySem.W.fnOf "_law_products" "_law_products" (defArgs s__law_products) (defBody s__law_products) (defScope s__law_products) .none kV15 dc15 pm15 an15 cd15 ct15), sl15⟩) (c15 : PySem.W.codeIn K cd15 "_law_products" = true) (k15 : PySem.W.keepIn K (.ref f15) = true)
    (a16 : PySem.W.nsIn K mainGlobals "law" = some (some (.ref f16))) (l16 : K.lookup f16 = some ⟨oc16, od16, .func (PySem.W.fnOf "law" "law" (defArgs s_law) (defBody s_law) (defScope s_law) .none kV16 dc16 pm16 an16 cd16 ct16), sl16⟩) (c16 : PySem.W.codeIn K cd16 "law" = true) (k16 : PySem.W.keepIn K (.ref f16) = true)
    (z_isqrt : PySem.W.nsIn K mainGlobals "isqrt" = some (some (.builtin "math.isqrt")))
    (z_int : PySem.W.nsIn K mainGlobals "int" = some none)
    (z_len : PySem.W.nsIn K mainGlobals "len" = some none)
    (z_tuple : PySem.W.nsIn K mainGlobals "tuple" = some none)
    (z_abs : PySem.W.nsIn K mainGlobals "abs" = some none)
    (z_range : PySem.W.nsIn K mainGlobals "range" = some none)
    (z_sorted : PySem.W.nsIn K mainGlobals "sorted" = some none)
    (z_min : PySem.W.nsIn K mainGlobals "min" = some none)
    (z_max : PySem.W.nsIn K mainGlobals "max" = some none)
    (z_repr : PySem.W.nsIn K mainGlobals "repr" = some none)
    : ∃ fd : FuncData, (∀ (s : Shared) (v : Value), BindsTo s fd ⟨[v], []⟩ [("script", v)]) ∧ ∀ base : Heap, K.In base → base.Ns mainGlobals mg → FnG P w K mg base 4 fa fd ["script"] (sp_law K) := by
  have T : Tx K mg := ⟨PySem.W.mg_of X G z_isqrt, PySem.W.mg_none_of X G z_int, PySem.W.mg_none_of X G z_len, PySem.W.mg_none_of X G z_tuple, PySem.W.mg_none_of X G z_abs, PySem.W.mg_none_of X G z_range, PySem.W.mg_none_of X G z_sorted, PySem.W.mg_none_of X G z_min, PySem.W.mg_none_of X G z_max, PySem.W.mg_none_of X G z_repr⟩
  have d2 : Df K mg "root" s_root ["n"] := df_mk X G a2 l2 c2 k2 (fun _ _ _ _ _ _ us hl => match us, hl with | [_], _ => rfl)
  have d3 : Df K mg "is_square" s_is_square ["n"] := df_mk X G a3 l3 c3 k3 (fun _ _ _ _ _ _ us hl => match us, hl with | [_], _ => rfl)
  have d5 : Df K mg "cube_sums" s_cube_sums ["n"] := df_mk X G a5 l5 c5 k5 (fun _ _ _ _ _ _ us hl => match us, hl with | [_], _ => rfl)
  have d6 : Df K mg "divisors_of" s_divisors_of ["n"] := df_mk X G a6 l6 c6 k6 (fun _ _ _ _ _ _ us hl => match us, hl with | [_], _ => rfl)
  have d7 : Df K mg "line_products" s_line_products ["p", "q", "r", "n"] := df_mk X G a7 l7 c7 k7 (fun _ _ _ _ _ _ us hl => match us, hl with | [_, _, _, _], _ => rfl)
  have d9 : Df K mg "_law_begun" s__law_begun ["script", "k"] := df_mk X G a9 l9 c9 k9 (fun _ _ _ _ _ _ us hl => match us, hl with | [_, _], _ => rfl)
  have d10 : Df K mg "_law_draw" s__law_draw ["m", "below"] := df_mk X G a10 l10 c10 k10 (fun _ _ _ _ _ _ us hl => match us, hl with | [_, _], _ => rfl)
  have d11 : Df K mg "_law_of" s__law_of ["m", "some"] := df_mk X G a11 l11 c11 k11 (fun _ _ _ _ _ _ us hl => match us, hl with | [_, _], _ => rfl)
  have d12 : Df K mg "_law_between" s__law_between ["m", "size"] := df_mk X G a12 l12 c12 k12 (fun _ _ _ _ _ _ us hl => match us, hl with | [_, _], _ => rfl)
  have d13 : Df K mg "_law_third_root" s__law_third_root ["n"] := df_mk X G a13 l13 c13 k13 (fun _ _ _ _ _ _ us hl => match us, hl with | [_], _ => rfl)
  have d14 : Df K mg "_law_cubes" s__law_cubes ["n"] := df_mk X G a14 l14 c14 k14 (fun _ _ _ _ _ _ us hl => match us, hl with | [_], _ => rfl)
  have d15 : Df K mg "_law_products" s__law_products ["p", "q", "r", "n"] := df_mk X G a15 l15 c15 k15 (fun _ _ _ _ _ _ us hl => match us, hl with | [_, _, _, _], _ => rfl)
  refine law_fd X G hfa a16 l16 c16 k16 (fun _ _ _ _ _ _ us hl => match us, hl with | [_], _ => rfl) (fun fd F base => ?_)
  have c_root := k_root (P := P) (w := w) (base := base) T d2 
  have c_is_square := k_is_square (P := P) (w := w) (base := base) T d3 
  have c_law_begun := k_law_begun (P := P) (w := w) (base := base) T d9 
  have c_law_draw := k_law_draw (P := P) (w := w) (base := base) T d10 
  have c_law_third_root := k_law_third_root (P := P) (w := w) (base := base) T d13 
  have c_law_products := k_law_products (P := P) (w := w) (base := base) T d15 
  have c_cube_sums := k_cube_sums (P := P) (w := w) (base := base) T d5 c_is_square c_root
  have c_divisors_of := k_divisors_of (P := P) (w := w) (base := base) T d6 c_root
  have c_law_of := k_law_of (P := P) (w := w) (base := base) T d11 c_law_draw
  have c_law_between := k_law_between (P := P) (w := w) (base := base) T d12 c_law_draw
  have c_law_cubes := k_law_cubes (P := P) (w := w) (base := base) T d14 c_law_third_root
  have c_line_products := k_line_products (P := P) (w := w) (base := base) T d7 c_divisors_of
  exact k_law T F c_law_begun c_law_of c_law_between c_cube_sums c_law_cubes c_law_draw c_line_products c_law_products
end K51
open PySem PySem.W PyProof.Rows
set_option maxRecDepth 100000 in
set_option maxHeartbeats 0 in
theorem PySem.Challenge.cw_pointsum_k51_whole_forms_that_fall_apart_holds : PySem.Challenge.rw_pointsum_k51_whole_forms_that_fall_apart.Holds := by
  w_on; o_law; k_head; (case hw => w_witness2)
  k_fill
  refine Gd.walk_g (l := PySem.Challenge.rw_pointsum_k51_whole_forms_that_fall_apart) (n := 63) (k := 4) (x := "script") (sp := fun K => K51.sp_law K) rfl (by decide) rfl ⟨rfl, by decide, by decide⟩ (fun w h Y => PySem.W.kIn_of Y) ?F (fun K H a ns hl hS => ⟨a, ns, rfl, hS, hl, fun _ => rfl⟩)
  case F =>
    intro w mg fa h KX G hmg
    refine' K51.all_mk KX G hmg ?a2 ?l2 ?c2 ?k2 ?a3 ?l3 ?c3 ?k3 ?a5 ?l5 ?c5 ?k5 ?a6 ?l6 ?c6 ?k6 ?a7 ?l7 ?c7 ?k7 ?a9 ?l9 ?c9 ?k9 ?a10 ?l10 ?c10 ?k10 ?a11 ?l11 ?c11 ?k11 ?a12 ?l12 ?c12 ?k12 ?a13 ?l13 ?c13 ?k13 ?a14 ?l14 ?c14 ?k14 ?a15 ?l15 ?c15 ?k15 ?a16 ?l16 ?c16 ?k16 ?z_isqrt ?z_int ?z_len ?z_tuple ?z_abs ?z_range ?z_sorted ?z_min ?z_max ?z_repr
    (case a2 => k_is); (case l2 => k_is); (case c2 => k_is); (case k2 => k_is); (case a3 => k_is); (case l3 => k_is); (case c3 => k_is); (case k3 => k_is)
    (case a5 => k_is); (case l5 => k_is); (case c5 => k_is); (case k5 => k_is); (case a6 => k_is); (case l6 => k_is); (case c6 => k_is); (case k6 => k_is)
    (case a7 => k_is); (case l7 => k_is); (case c7 => k_is); (case k7 => k_is); (case a9 => k_is); (case l9 => k_is); (case c9 => k_is); (case k9 => k_is)
    (case a10 => k_is); (case l10 => k_is); (case c10 => k_is); (case k10 => k_is); (case a11 => k_is); (case l11 => k_is); (case c11 => k_is); (case k11 => k_is)
    (case a12 => k_is); (case l12 => k_is); (case c12 => k_is); (case k12 => k_is); (case a13 => k_is); (case l13 => k_is); (case c13 => k_is); (case k13 => k_is)
    (case a14 => k_is); (case l14 => k_is); (case c14 => k_is); (case k14 => k_is); (case a15 => k_is); (case l15 => k_is); (case c15 => k_is); (case k15 => k_is)
    (case a16 => k_is); (case l16 => k_is); (case c16 => k_is); (case k16 => k_is); (case z_isqrt => k_is); (case z_int => k_is); (case z_len => k_is); (case z_tuple => k_is)
    (case z_abs => k_is); (case z_range => k_is); (case z_sorted => k_is); (case z_min => k_is); (case z_max => k_is); (case z_repr => k_is)
