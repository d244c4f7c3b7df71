import PyProof.Rows.All
import Wide.All
import OpenK.AllK
import Wide.FinOn
import PyProof.ReprRoads
import HandS.ForMost
import HandS.Wide
import PyProof.StrLawsRepr
import PyProof.ReprLen
import HandS.TupAny
import HandS.Gcd
import HandS.More
import HandS.IsInst
import HandS.Style
import HandS.Defaults
import Flt.RightSqrt
import HandS.Codes
import HandS.TryOnly
import HandS.WideBits
import KE.BitLaws
import HandS.ExcOwn
import HandS.WordsExc
import HandS.ExcInit
import KE.KSuper
import KE.KExcSuper
import HandS.ClsMeth
import PySem.Challenge.RW_pointsum_k08_whole_short_plain_twists
set_option Elab.async false
set_option linter.all false
set_option maxRecDepth 100000
/-! Promises that know that no repr is under way around the call; repr of plain data. -/
namespace Gd
open PySem PySem.Spec PyProof.Rows L2
/-- as the layer's FnOk, for calls around which nothing is being shown -/
structure FnG (P : Program) (w : World) (K : PySem.W.Frag) (mg : Str → Option Value) (base : Heap) (k : Nat) (f : Addr) (fd : FuncData) (ps : List Str) (sp : Sp) : Prop where
  many : ∀ vs H Q E, sp vs H Q E → vs.length = ps.length
  goes : ∀ (A : Around) (outer : List Env) (s : Shared) (H : Hp) (args : Args) (us : List Value) (vs : List V) (Q : VK) (E : XK), A.guards = some [] → Room k A → Env0 P w K mg base A outer s H →
    BindsTo s fd args (ps.zip us) → Vals vs us → sp vs H Q E → codeAny (model P w) A (.call (.ref f) args) (CR CX0 outer P w H s Q E) s
section
variable {P : Program} {w : World} {K : PySem.W.Frag} {mg : Str → Option Value} {base : Heap}
theorem FnG.of {k : Nat} {f : Addr} {fd : FuncData} {ps : List Str} {sp : Sp} (F : FnOk P w K mg base CX0 k f fd ps sp) : FnG P w K mg base k f fd ps sp :=
  ⟨F.len, fun A outer s H args us vs Q E _ => F.run A outer s H args us vs Q E⟩
theorem FnG.up {j k : Nat} {f : Addr} {fd : FuncData} {ps : List Str} {sp : Sp} (F : FnG P w K mg base j f fd ps sp) (h : j ≤ k) : FnG P w K mg base k f fd ps sp :=
  ⟨F.many, fun A outer s H args us vs Q E hg hr => F.goes A outer s H args us vs Q E hg (hr.mono h)⟩
/-- a def by its body -/
theorem FnG.by_body {x qual : Str} {st : Stmt} {f : Addr} {fd : FuncData} {N ps : List Str} {k : Nat} {sp : Sp} (F : Fun K x qual st f fd) (S : FnScope N ps (defScope st)) (len : ∀ vs H Q E, sp vs H Q E → vs.length = ps.length)
    (hb : ∀ (cdv : Value) (A : Around) (outer : List Env) (s : Shared) (H : Hp) (vs : List V) (Q : VK) (E : XK), A.guards = some [] → Room k (A.deeper (envOfC qual (defScope st) s.heap.objs.size f cdv)) → sp vs H Q E →
      ∃ t, PSs (cxOf CX0 P w K mg base N qual (defScope st) f cdv A outer s H E).nox (defBody st) t ∧ t { nx := fun _ H' => Q .non H', rt := Q } (start N vs) H) : FnG P w K mg base (k + 1) f fd ps sp := by
  obtain ⟨oc, od, kV, doc, pm, an, cdv, ct, osl, rfl, lk, hcd⟩ := F.ex
  constructor
  · exact len
  · intro A outer s H args us vs Q E hg hr e0 hbi rv hsp
    have hlen := len _ _ _ _ hsp
    have lim : s.heap.NoLimit := e0.mod.nolimit.keeps fun b o e => (e0.bs b o e).1
    have inK : K.In s.heap := e0.mod.kin.keeps fun b o e => (e0.bs b o e).1
    have kinds : ∀ y ∈ ps.zip us, (defScope st).names.lookup y.1 = some .local ∨ ((defScope st).names.lookup y.1 = some .cell ∧ ((cellsFrom (s.heap.objs.size + 1) (defScope st).names []).lookup y.1).isSome = true) := by
      rintro ⟨n, v⟩ hy
      have hp := S.par n (List.of_mem_zip hy).1
      cases hp with
      | inl q => exact Or.inl q
      | inr q => exact Or.inr ⟨q, PySem.W.cellsFrom_some _ _ _ (Or.inl q)⟩
    refine codeAny_call_function hr.depth (inK _ _ lk) rfl S.co S.gen rfl (PySem.W.codeRec_of inK hcd) (hbi _ _ _ _ ?_)
    refine wpAny_newFunctionEnv_cells S.kind kinds fun env he s1 x1 => ?_
    subst he
    refine ⟨lim.keeps x1.toInCall.keep, codeAny_func ?_⟩
    obtain ⟨t, ht, hq⟩ := hb cdv A outer s H vs Q E hg (hr.deeper _) hsp
    have I0 : Inv (cxOf CX0 P w K mg base N qual (defScope st) f cdv A outer s H E) [] (start N vs) H s1 := inv_start S hr.hd e0 hlen rv x1
    refine wpAny_mono (ht.nox.run [] s1 (start N vs) H _ I0 hq) (fun fl s' hs => ?_) fun e s' hs => hs
    match fl, hs with
    | .ret u, ⟨v, σ', H', J, r1, q1⟩ => exact ⟨v, H', J.os, J.bare, J.base, J.hok, r1, q1⟩
    | .next, ⟨σ', H', J, q1⟩ => exact ⟨V.non, H', J.os, J.bare, J.base, J.hok, rfl, q1⟩
    | .brk, ⟨_, _, _, q1⟩ => exact q1.elim
    | .cont, ⟨_, _, _, q1⟩ => exact q1.elim
end
/-- f(e, ..) where every parameter is given -/
def tKal (sp : Sp) (t : TA) : TE := fun σ H Q => t σ H fun vs H1 => sp vs H1 Q E0
/-- a def that may be called by its name -/
structure Kl (P : Program) (w : World) (K : PySem.W.Frag) (mg : Str → Option Value) (base : Heap) (k : Nat) (x : Str) (sp : Sp) : Prop where
  ex : ∃ (f : Addr) (fd : FuncData) (ps : List Str), FnOk P w K mg base CX0 k f fd ps sp ∧ mg x = some (.ref f) ∧ PySem.W.keepIn K (.ref f) = true ∧ Binds K fd ps []
structure Kg (P : Program) (w : World) (K : PySem.W.Frag) (mg : Str → Option Value) (base : Heap) (k : Nat) (x : Str) (sp : Sp) : Prop where
  ex : ∃ (f : Addr) (fd : FuncData) (ps : List Str), FnG P w K mg base k f fd ps sp ∧ mg x = some (.ref f) ∧ PySem.W.keepIn K (.ref f) = true ∧ Binds K fd ps []
section
variable {X : Cx} {j k : Nat} {f : Addr} {fd : FuncData} {ps : List Str} {sp : Sp} {x : Str} {p pos : Pos} {e : Expr} {es : List Expr} {t : TA}
theorem run_g {pins : List (Addr × Obj)} {σ : L2.St} {H : Hp} {s : Shared} {Q : VK} {us : List Value} {vs : List V} (F : FnG X.prog X.w X.K X.mg X.base k f fd ps sp) (hg : X.A.guards = some []) (hr : Room k X.A) (hb : Binds X.K fd ps [])
    (I : Inv X pins σ H s) (r : Vals vs us) (h : sp vs H Q E0) : wpAny (model X.prog X.w) X.A (call (.ref f) us) (EP X pins σ Q) X.xe s := by
  have hl : us.length = ps.length := r.length.symm.trans (F.many _ _ _ _ h)
  have hbb := hb s us I.kIn (by rw [List.append_nil]; exact hl)
  rw [List.append_nil] at hbb
  refine wpAny_call (codeAny_mono (F.goes X.A X.stack s H ⟨us, []⟩ us vs Q E0 hg hr I.env0 hbb r h) fun res s' hq => ?_)
  match res, hq with
  | .ok (.ret u), hq => exact I.after hq
  | .error e, hq => exact (show False from hq).elim
theorem pe_g (c : Kg X.prog X.w X.K X.mg X.base k x sp) (hgd : X.A.guards = some []) (hr : Room j X.A) (hk : k ≤ j) (hg : Gl X x) (ha : PA X (e :: es) t)
    (hdb : (x == ("__debug__" : Str)) = false := by decide) (he : starEach (e :: es) X.env = (false, eval e X.env) :: starEach es X.env := by rfl) (hpl : (backTo pos (starEach es X.env)).any (·.1) = false := by rfl) :
    PE X (.Call (.Name x p) (e :: es) [] pos) (tKal sp t) := by
  obtain ⟨f, fd, ps, F, hm, kp, b⟩ := c.ex
  constructor
  intro pins s σ H Q I h
  refine wpAny_Call_Name_kw (ld_glob I hg hm ?_ hdb)
  refine PySem.W.callWith_K (h₀ := X.base) I.ok.mod.kin kp (thn (ha.run pos pins s σ H _ I h) fun us s1 ⟨vs, H1, I1, r, q⟩ => ⟨I1.kIn, ?_⟩) he hpl
  exact run_g F hgd (hr.mono hk) b I1 r q
theorem pe_k (c : Kl X.prog X.w X.K X.mg X.base k x sp) (hr : Room j X.A) (hk : k ≤ j) (hg : Gl X x) (ha : PA X (e :: es) t)
    (hdb : (x == ("__debug__" : Str)) = false := by decide) (he : starEach (e :: es) X.env = (false, eval e X.env) :: starEach es X.env := by rfl) (hpl : (backTo pos (starEach es X.env)).any (·.1) = false := by rfl) :
    PE X (.Call (.Name x p) (e :: es) [] pos) (tKal sp t) := by
  obtain ⟨f, fd, ps, F, hm, kp, b⟩ := c.ex
  have h := pe_call (sp := sp) (E := E0) (dvs := []) F (hr.mono hk) hg hm kp b .nil pass0 ha hdb he hpl (pos := pos) (p := p)
  constructor
  intro pins s σ H Q I q
  refine h.run pins s σ H Q I ?_
  have e2 : tCall sp [] E0 t = tKal sp t := by
    funext σ H Q
    show t σ H (fun vs H1 => sp (vs ++ []) H1 Q E0) = t σ H (fun vs H1 => sp vs H1 Q E0)
    congr 1
    funext vs H1
    rw [List.append_nil]
  rw [e2]
  exact q
end
/-! ### repr of plain data -/
mutual
/-- at most so many signs -/
def wt : PyData → Nat
  | .none | .bool _ => 5
  | .int _ => 1921
  | .str x => 10 * x.length + 2
  | .list xs | .tuple xs => wtAll xs + 3
  | .dict _ => 0
def wtAll : List PyData → Nat
  | [] => 0
  | x :: xs => wt x + 2 + wtAll xs
end
mutual
/-- data that can be shown: its ints below 1920 bits -/
def okD : PyData → Bool
  | .none | .bool _ => true
  | .int i => decide (i.natAbs.log2 < 1920)
  | .str x => x.cps.toList.all fun c => decide (c < 16 ^ 8)
  | .list xs | .tuple xs => okAll xs
  | .dict _ => false
def okAll : List PyData → Bool
  | [] => true
  | x :: xs => okD x && okAll xs
end
theorem one_br : (("[" : Str)).length = 1 := rfl
theorem one_br2 : (("]" : Str)).length = 1 := rfl
theorem one_pa : (("(" : Str)).length = 1 := rfl
theorem tup_wt (ts : List Str) : (tupleText ts).length ≤ piled ts + 3 := by
  have e3 : (((if ts.length == 1 then ",)" else ")" : String) : Str)).length ≤ 2 := by split <;> decide +kernel
  unfold tupleText
  rw [strLen_append, strLen_append, one_pa]
  cases ts with
  | nil =>
    have : (Str.join ", " []).length = 0 := by decide +kernel
    omega
  | cons x r =>
    have := join_length_add (x :: r) (List.cons_ne_nil _ _)
    omega
theorem sum_piled : ∀ ts : List Str, (ts.map (·.length)).sum + 2 * ts.length = piled ts
  | [] => rfl
  | t :: ts => by
    have ih := sum_piled ts
    rw [piled_cons, ← ih, List.map_cons, List.sum_cons, List.length_cons]
    omega
theorem lst_wt (ts : List Str) : (listText ts).length ≤ piled ts + 3 := by
  have h := textFrom_len_le ts 0 "["
  have h2 := sum_piled ts
  unfold listText
  rw [strLen_append, one_br2]
  rw [one_br] at h
  omega
mutual
theorem shown_wt : ∀ d : PyData, okD d = true → d.shown.length ≤ wt d ∧ d.showable = true ∧ d.hasDict = false
  | .none, _ => by
    refine ⟨?_, rfl, rfl⟩
    show (("None" : Str)).length ≤ 5
    decide +kernel
  | .bool b, _ => by
    refine ⟨?_, rfl, rfl⟩
    cases b <;> (show _ ≤ 5; decide +kernel)
  | .int i, h => by
    have h1 : i.natAbs.log2 < 1920 := of_decide_eq_true (by simpa only [okD] using h)
    refine ⟨?_, by simpa only [PyData.showable] using decide_eq_true h1, rfl⟩
    have e := int_text_length_le (k := 1920) (by decide) h1
    show (Str.ofString (toString i)).length ≤ 1921
    rw [PySem.ofString_length]
    exact e
  | .str x, h => by
    refine ⟨?_, rfl, rfl⟩
    have h1 : ∀ c ∈ x.cps.toList, c < 16 ^ 8 := fun c hc => of_decide_eq_true (List.all_eq_true.mp (by simpa only [okD] using h) c hc)
    exact StrLaws.reprText_len x h1
  | .list xs, h => by
    obtain ⟨h1, h2, h3⟩ := shown_wtAll xs (by simpa only [okD] using h)
    refine ⟨?_, by simpa only [PyData.showable] using h2, by simpa only [PyData.hasDict] using h3⟩
    simp only [PyData.shown, wt]
    exact Nat.le_trans (lst_wt _) (Nat.add_le_add_right h1 3)
  | .tuple xs, h => by
    obtain ⟨h1, h2, h3⟩ := shown_wtAll xs (by simpa only [okD] using h)
    refine ⟨?_, by simpa only [PyData.showable] using h2, by simpa only [PyData.hasDict] using h3⟩
    simp only [PyData.shown, wt]
    exact Nat.le_trans (tup_wt _) (Nat.add_le_add_right h1 3)
  | .dict _, h => by simp only [okD, Bool.false_eq_true] at h
theorem shown_wtAll : ∀ xs : List PyData, okAll xs = true → piled (PyData.shownAll xs) ≤ wtAll xs ∧ PyData.showableAll xs = true ∧ PyData.hasDictAll xs = false
  | [], _ => ⟨Nat.le_refl _, rfl, rfl⟩
  | x :: xs, h => by
    have h0 : (okD x && okAll xs) = true := by simpa only [okAll] using h
    rw [Bool.and_eq_true] at h0
    obtain ⟨a1, a2, a3⟩ := shown_wt x h0.1
    obtain ⟨b1, b2, b3⟩ := shown_wtAll xs h0.2
    refine ⟨?_, by simp only [PyData.showableAll, a2, b2, Bool.and_self], by simp only [PyData.hasDictAll, a3, b3, Bool.or_self]⟩
    simp only [PyData.shownAll, wtAll]
    rw [piled_cons]
    omega
end
/-- the text of data -/
def rRepr (K : PySem.W.Frag) : List V → Hp → VK → Prop := fun xs H Q => ∃ x d, xs = [x] ∧ Dp K H x d ∧ okD d = true ∧ d.depth ≤ 40 ∧ wt d ≤ 1000000 ∧ Q (.str d.shown) H
section
variable {X : Cx}
theorem call_reprD (hg : X.A.guards = some []) (hu : X.A.units + 64 < cLine) : CallR X (.builtin "repr") (rRepr X.K) := by
  intro pins s σ H xs us Q I r h
  obtain ⟨x, d, rfl, hd, h0, h3, hw, q⟩ := h
  obtain ⟨hz, h1, h2⟩ := shown_wt d h0
  have h4 : d.shown.length ≤ sizeLine := Nat.le_trans hz (Nat.le_trans hw (by decide))
  obtain ⟨u, rfl, hx⟩ := vals1 r
  obtain ⟨as, rd⟩ := Dp.reads I d x u hd hx
  cases hd with
  | non =>
    obtain rfl : u = Value.none := hx
    exact PySem.P.repr_of_none ⟨.str _, H, I.tok _, ⟨_, rfl⟩, q⟩
  | bl b =>
    obtain rfl : u = Value.bool b := hx
    exact PySem.P.repr_of_bool ⟨.str _, H, I.tok _, ⟨_, rfl⟩, q⟩
  | int i =>
    obtain ⟨t, rfl⟩ := hx
    exact PySem.P.repr_of_int (of_decide_eq_true h1) ⟨.str _, H, I.tok _, ⟨_, rfl⟩, q⟩
  | str z =>
    obtain ⟨t, rfl⟩ := hx
    exact PySem.P.repr_of_str ⟨.str _, H, I.tok _, ⟨_, rfl⟩, q⟩ h4
  | lst hs ha =>
    obtain rfl : u = Value.ref _ := hx
    refine repr_of_reads' rd h1 (PyData.noDict_hsm h2) hg (by omega) (fun _ _ z => z) (fun h' u tk hk => ?_) h4
    exact ⟨.str _, H, I.kept (t' := tk) hk, ⟨_, rfl⟩, q⟩
  | tup hs ha =>
    obtain rfl : u = Value.ref _ := hx
    refine repr_of_reads' rd h1 (PyData.noDict_hsm h2) hg (by omega) (fun _ _ z => z) (fun h' u tk hk => ?_) h4
    exact ⟨.str _, H, I.kept (t' := tk) hk, ⟨_, rfl⟩, q⟩
end
/-! ### the law's end -/
section
variable {P : Program} {w : World} {K : PySem.W.Frag} {mg mb : Str → Option Value} {k : Nat} {fa a : Addr} {fd : FuncData} {x : Str} {sp : Sp} {s1 : Shared} {vs : List Value} {ns : List Int}
/-- from a heap H in which at most the script is tracked -/
theorem law_from {H : Hp} (KX : K.In s1.heap) (hns : s1.heap.Ns mainGlobals mg) (hb : s1.heap.Ns builtinsNs mb) (hbb : ∀ x : Str, x ≠ "__name__" → mb x = bootBuiltins x) (hlim : s1.heap.NoLimit) (hg : s1.gens = #[])
    (ha : s1.heap.get? a = some { cls := .type "list", data := .seq vs.toArray }) (hr : Room k callerA) (F : ∀ base : Heap, K.In base → base.Ns mainGlobals mg → FnG P w K mg base k fa fd [x] sp)
    (hbind : ∀ (s : Shared) (u : Value), BindsTo s fd ⟨[u], []⟩ [(x, u)]) (hO : Only H) (hok : HOk P w H s1.heap) (hA : ∀ b, H b ≠ none → b = a) (hK : H a ≠ none → K.lookup a = none)
    (hsp : sp [.ref a] H (fun v _ => v = .bl true) fun _ _ _ => False) :
    codeAny (model P w) callerA (.call (.ref fa) ⟨[.ref a], []⟩) (fun r s' => r = .ok (.ret (.bool true)) ∧ OldK s1.heap s'.heap ∧ s'.os = s1.os ∧ AllBare s'.gens) s1 := by
  have untr : ∀ {b : Addr} {o : Obj} {es : Array DictEntry} {ep : Nat}, s1.heap.get? b = some o → o.data = .dict es ep → H b = none := by
    intro b o es ep e d
    cases q : H b with
    | none => rfl
    | some u =>
      obtain rfl : b = a := hA b (by rw [q]; exact Option.some_ne_none u)
      rw [ha] at e
      cases e
      exact absurd (show Data.seq vs.toArray _ = Data.dict es ep from d) (by intro z; cases z)
  have nsH : ∀ {b : Addr} {m : Str → Option Value}, s1.heap.Ns b m → (hidT s1.heap H).Ns b m := by
    rintro b m ⟨o, es, ep, e, d, r⟩
    exact ⟨o, es, ep, hidT_get e (untr e d), d, r⟩
  have inH : K.In (hidT s1.heap H) := by
    intro b o e
    refine hidT_get (KX b o e) ?_
    cases q : H b with
    | none => rfl
    | some u =>
      have hne : H b ≠ none := by rw [q]; exact Option.some_ne_none u
      obtain rfl : b = a := hA b hne
      rw [hK hne] at e
      cases e
  obtain ⟨mc, l1, l2⟩ := hlim
  have md : Mod K mg (hidT s1.heap H) := ⟨inH, nsH hns, ⟨mb, nsH hb, hbb⟩, ⟨mc, nsH l1, l2⟩⟩
  have e0 : Env0 P w K mg (hidT s1.heap H) callerA [] s1 H := by
    refine ⟨rfl, md, fun b o e => of_hidT e, Nat.le_of_eq (hidT_size _ _), trivial, ?_, hok, .of_eq hg⟩
    intro b hb
    cases (show b ∈ ([] : List Addr) from hb)
  have run := (F _ inH (nsH hns)).goes callerA [] s1 H ⟨[.ref a], []⟩ [.ref a] [.ref a] _ _ rfl hr e0 (hbind s1 (.ref a)) (.cons rfl .nil) hsp
  refine codeAny_mono run fun r s' h => ?_
  match r, h with
  | .error e, h => exact (show False from h).elim
  | .ok (.ret u), ⟨v, H', os, bare, un, hok', r', q⟩ =>
    obtain rfl : v = .bl true := q
    obtain rfl : u = Value.bool true := r'
    refine ⟨rfl, OldK.of_keep ?_, os, bare⟩
    intro b o e
    cases q : H b with
    | none => exact un.keep b o e q (fun z => by cases (show b ∈ ([] : List Addr) from z)) (fun z => by cases z)
    | some u =>
      rcases hO b with z | ⟨ob, xs, z⟩
      · rw [q] at z
        cases z
      · have k1 := (hok b _ z).1
        have k2 := (hok' b _ (un.frzs b ob _ z)).1
        rw [e] at k1
        cases k1
        exact k2
theorem law_g (KX : K.In s1.heap) (hns : s1.heap.Ns mainGlobals mg) (hb : s1.heap.Ns builtinsNs mb) (hbb : ∀ x : Str, x ≠ "__name__" → mb x = bootBuiltins x) (hlim : s1.heap.NoLimit) (hg : s1.gens = #[])
    (ha : s1.heap.get? a = some { cls := .type "list", data := .seq vs.toArray }) (hi : IntsAre vs ns) (hl : ns.length ≤ sizeLine) (hr : Room k callerA) (F : ∀ base : Heap, K.In base → base.Ns mainGlobals mg → FnG P w K mg base k fa fd [x] sp)
    (hbind : ∀ (s : Shared) (u : Value), BindsTo s fd ⟨[u], []⟩ [(x, u)]) (hsp : ∀ H : Hp, Only H → SqL K H a (ns.map V.int) → sp [.ref a] H (fun v _ => v = .bl true) fun _ _ _ => False) :
    codeAny (model P w) callerA (.call (.ref fa) ⟨[.ref a], []⟩) (fun r s' => r = .ok (.ret (.bool true)) ∧ OldK s1.heap s'.heap ∧ s'.os = s1.os ∧ AllBare s'.gens) s1 := by
  have rv := vals_ints hi
  have lv := hi.length
  cases hk : K.lookup a with
  | some o =>
    have e := KX a o hk
    rw [ha] at e
    cases e
    refine law_from (H := fun _ => none) KX hns hb hbb hlim hg ha hr F hbind (fun _ => Or.inl rfl) (fun b u z => ?_) (fun b z => absurd rfl z) (fun z => absurd rfl z) (hsp _ (fun _ => Or.inl rfl) (Or.inr ?_))
    · cases (show (none : Option HO) = some u from z)
    · exact ⟨_, vs.toArray, _, hk, rfl, rfl, rfl, by rw [List.size_toArray, lv]; exact hl, by simpa using rv⟩
  | none =>
    let ob : Obj := { cls := .type "list", data := .seq vs.toArray }
    have one : ∀ b, (if b = a then some (HO.frz ob (.lst (ns.map V.int))) else none) ≠ none → b = a := fun b z => by
      by_cases hb : b = a
      · exact hb
      · exact absurd (if_neg hb) z
    have only : Only (fun b => if b = a then some (HO.frz ob (.lst (ns.map V.int))) else none) := fun b => by
      by_cases hb : b = a
      · exact Or.inr ⟨_, _, if_pos hb⟩
      · exact Or.inl (if_neg hb)
    refine law_from (H := fun b => if b = a then some (HO.frz ob (.lst (ns.map V.int))) else none) KX hns hb hbb hlim hg ha hr F hbind only (fun b u z => ?_) one (fun _ => hk) (hsp _ only (Or.inl (Or.inr ⟨ob, if_pos rfl⟩)))
    by_cases hb : b = a
    · obtain rfl := Option.some.inj ((if_pos hb).symm.trans z)
      subst hb
      exact ⟨ha, by rw [List.length_map]; exact hl, vs, _, rv, ha⟩
    · cases (if_neg hb).symm.trans z
end
theorem walk_g {l : PySem.W.OpenLaw} {n k : Nat} {q : Program} {loose : List Str} {XP : (Str → Option Value) → Heap → Prop} {YP : World → Heap → Prop} {d : DefRec} {K : Params → PySem.W.Frag} {sp : PySem.W.Frag → Sp} {x : Str}
    (hn : l.most = some n) (hn2 : n ≤ sizeLine) (hdf : d.params.defaults = []) (hr : Room k callerA) (hY : ∀ (w : World) (h : Heap), YP w h → (K w.params).In h)
    (F : ∀ (w : World) (mg : Str → Option Value) (fa : Addr) (h : Heap), (K w.params).In h → h.Ns mainGlobals mg → mg d.name = some (.ref fa) → ∃ fd : FuncData, (∀ (s : Shared) (u : Value), BindsTo s fd ⟨[u], []⟩ [(x, u)]) ∧
        ∀ base : Heap, (K w.params).In base → base.Ns mainGlobals mg → FnG l.prog w (K w.params) mg base k fa fd [x] (sp (K w.params)))
    (hsp : ∀ (K : PySem.W.Frag) (H : Hp) (a : Addr) (ns : List Int), ns.length ≤ n → SqL K H a (ns.map V.int) → sp K [.ref a] H (fun v _ => v = .bl true) fun _ _ _ => False) :
    PySem.W.WalkO q loose XP YP l.row.toRowW d [] (fun f vs => PySem.call f vs) := by
  refine Att.attach_call hn hdf fun w s0 s1 mg mb fa o pm cd doc a vs ns G Y ho hd hcd hmg hobj hints hlen hg => ?_
  obtain ⟨fd, hb, hF⟩ := F w mg fa _ (hY w _ Y) G.T.g hmg
  exact law_g (hY w _ Y) G.T.g G.T.b G.T.builtins G.T.nolimit hg hobj hints (Nat.le_trans hlen hn2) hr hF hb fun H _ hS => hsp (K w.params) H a ns hlen hS
end Gd
set_option Elab.async false
set_option linter.all false
set_option maxRecDepth 100000
/-! Common words: sizes of ints, heaps that grow, defs of the text by their names. -/
namespace Gd
open PySem PySem.Spec PyProof.Rows L2
/-! ### sizes -/
def B (n : Nat) (x : Int) : Prop := x.natAbs < 2 ^ n
theorem B.up {m n : Nat} {x : Int} (h : B m x) (k : m ≤ n) : B n x := Nat.lt_of_lt_of_le h (Nat.pow_le_pow_right (by decide) k)
theorem B.add {m n : Nat} {x y : Int} (hx : B m x) (hy : B n y) : B (max m n + 1) (x + y) := by
  have h1 : x.natAbs < 2 ^ max m n := hx.up (Nat.le_max_left m n)
  have h2 : y.natAbs < 2 ^ max m n := hy.up (Nat.le_max_right m n)
  unfold B
  rw [Nat.pow_succ]
  omega
theorem B.neg {n : Nat} {x : Int} (hx : B n x) : B n (-x) := by
  unfold B at *
  omega
theorem B.sub {m n : Nat} {x y : Int} (hx : B m x) (hy : B n y) : B (max m n + 1) (x - y) := by
  rw [Int.sub_eq_add_neg]
  exact hx.add hy.neg
theorem B.mul {m n : Nat} {x y : Int} (hx : B m x) (hy : B n y) : B (m + n) (x * y) := wide_lt hx hy
theorem B.pow {m : Nat} {x : Int} (hx : B m x) : ∀ k : Nat, B (m * k + 1) (x ^ k)
  | 0 => by
    rw [Int.pow_zero]
    exact Nat.one_lt_two_pow (by omega)
  | k + 1 => by
    rw [Int.pow_succ]
    exact ((B.pow hx k).mul hx).up (by rw [Nat.mul_succ]; omega)
theorem B.lit {n : Nat} {x : Int} (h : x.natAbs < 2 ^ n) : B n x := h
theorem B.mulW {m n : Nat} {x y : Int} (hx : B m x) (hy : B n y) (h : m + n ≤ 900000) : CMulW x y :=
  wide_mul (hx.up (Nat.le_add_right m 1)) (hy.up (Nat.le_add_right n 1)) (by omega) (by omega) (by omega)
theorem B.mulL {n : Nat} {x y : Int} (hx : B n x) (h : n ≤ 64) : CMul x y := by
  have h1 := hx.up h
  unfold B at h1
  exact Or.inl ⟨by omega, by omega⟩
theorem B.mulR {n : Nat} {x y : Int} (hy : B n y) (h : n ≤ 64) : CMul x y := by
  have h1 := hy.up h
  unfold B at h1
  exact Or.inr ⟨by omega, by omega⟩
theorem B.log {n : Nat} {x : Int} (hx : B n x) (h : n ≤ 1900) : x.natAbs.log2 < 1920 := by
  have h1 : x.natAbs < 2 ^ 1901 := hx.up (by omega)
  exact PySem.Flt.log2_lt_of (by decide) (Nat.lt_of_lt_of_le h1 (Nat.pow_le_pow_right (by decide) (by decide)))
theorem B.between {n : Nat} {x : Int} (m : Int) (h0 : -m ≤ x) (h1 : x ≤ m) (h : m.natAbs < 2 ^ n) : B n x := by
  unfold B
  omega
theorem small {n : Nat} (h : n ≤ 1000) : n ≤ sizeLine := Nat.le_trans h (by decide)
/-! ### heaps -/
theorem Same.new {H : Hp} {p : Addr} {o : HO} (h : H p = none) : Same H (upd H p o) := fun b x e => by
  rw [upd_ne (ne_of_none e h)]
  exact e
theorem Same.put {H H1 : Hp} {p : Addr} {o : HO} (s : Same H H1) (h : H p = none) : Same H (upd H1 p o) := fun b x e => by
  rw [upd_ne (ne_of_none e h)]
  exact s b x e
theorem Same.rd {H H' : Hp} {a : Addr} {u : HO} (e : Same H H') (h : Rd H a u) : Rd H' a u := by
  rcases h with h | ⟨o, h⟩
  · exact Or.inl (e _ _ h)
  · exact Or.inr ⟨o, e _ _ h⟩
theorem Same.tup {K : PySem.W.Frag} {H H' : Hp} {a : Addr} {xs : List V} (e : Same H H') (h : SqT K H a xs) : SqT K H' a xs := by
  rcases h with h | h
  · exact Or.inl (Same.rd e h)
  · exact Or.inr h
theorem tup_of {K : PySem.W.Frag} {H : Hp} {a : Addr} {xs : List V} (h : H a = some (.tup xs)) : SqT K H a xs := Or.inl (Or.inl h)
theorem lst_of {K : PySem.W.Frag} {H : Hp} {a : Addr} {xs : List V} (h : H a = some (.lst xs)) : SqL K H a xs := Or.inl (Or.inl h)
/-- all but what stands at m is as it was -/
def But (m : Addr) (H H' : Hp) : Prop := ∀ b o, H b = some o → b ≠ m → H' b = some o
theorem But.refl (m : Addr) (H : Hp) : But m H H := fun _ _ e _ => e
theorem But.trans {m : Addr} {H H1 H2 : Hp} (a : But m H H1) (b : But m H1 H2) : But m H H2 := fun c o e n => b c o (a c o e n) n
theorem But.of {m : Addr} {H H' : Hp} (a : Same H H') : But m H H' := fun c o e _ => a c o e
theorem But.upd {m : Addr} {H : Hp} {o : HO} : But m H (upd H m o) := fun c x e n => by
  rw [upd_ne n]
  exact e
/-- the same where m was not known -/
theorem But.same {m : Addr} {H H1 H2 : Hp} (s : Same H H1) (b : But m H1 H2) (h : H m = none) : Same H H2 := fun c o e => b c o (s c o e) (ne_of_none e h)
/-- the slots said anew -/
theorem sig {nx : L2.St → Hp → Prop} {σ : L2.St} {H : Hp} (σ' : L2.St) (e : σ = σ') (h : nx σ' H) : nx σ H := e ▸ h
theorem sigN {nx : L2.St → Hp → Prop} {i : Nat} {v : V} {σ : L2.St} {H : Hp} (σ' : L2.St) (e : σ.set i (some v) = σ') (h : nx σ' H) : gName i v σ H nx := by
  subst e
  exact h
/-- a number of the module -/
theorem pe_kon {X : Cx} {x : Str} {pos : Pos} {v : V} (hg : Gl X x) (h : ∃ u, X.mg x = some u ∧ RelV v u) (hd : (x == ("__debug__" : Str)) = false := by decide) : PE X (.Name x pos) (tC v) := by
  obtain ⟨u, hm, r⟩ := h
  exact pe_glob hg hm r hd
/-- int(n) of a number -/
theorem call_intI {X : Cx} : CallR X (.type "int") (fun xs H Q => ∃ i, xs = [.int i] ∧ Q (.int i) H) := fun pins s σ H xs us Q I r h => call_int1 pins s σ H xs us Q I r (Or.inl h)
/-! ### the state of the draws: four entries -/
def mk4 (L s : Int) (c : Addr) (n : Int) : List (Key × V) := [(Sum.inr "left", .int L), (Sum.inr "seed", .int s), (Sum.inr "cells", .ref c), (Sum.inr "spot", .int n)]
theorem kn12 : ¬ (("left" : Str) = "seed") := by decide +kernel
theorem kn13 : ¬ (("left" : Str) = "cells") := by decide +kernel
theorem kn14 : ¬ (("left" : Str) = "spot") := by decide +kernel
theorem kn23 : ¬ (("seed" : Str) = "cells") := by decide +kernel
theorem kn24 : ¬ (("seed" : Str) = "spot") := by decide +kernel
theorem kn34 : ¬ (("cells" : Str) = "spot") := by decide +kernel
theorem kn21 : ¬ (("seed" : Str) = "left") := by decide +kernel
theorem kn31 : ¬ (("cells" : Str) = "left") := by decide +kernel
theorem kn41 : ¬ (("spot" : Str) = "left") := by decide +kernel
theorem kn42 : ¬ (("spot" : Str) = "seed") := by decide +kernel
theorem kn43 : ¬ (("spot" : Str) = "cells") := by decide +kernel
theorem kn32 : ¬ (("cells" : Str) = "seed") := by decide +kernel
section
variable {L s n : Int} {c : Addr}
theorem m4_left : valV (mk4 L s c n) (Sum.inr "left") = some (.int L) := by simp [valV, mk4, List.find?_cons]
theorem m4_seed : valV (mk4 L s c n) (Sum.inr "seed") = some (.int s) := by simp [valV, mk4, List.find?_cons, kn12]
theorem m4_cells : valV (mk4 L s c n) (Sum.inr "cells") = some (.ref c) := by simp [valV, mk4, List.find?_cons, kn13, kn23]
theorem m4_spot : valV (mk4 L s c n) (Sum.inr "spot") = some (.int n) := by simp [valV, mk4, List.find?_cons, kn14, kn24, kn34]
theorem m4_putL (y : Int) : putK (mk4 L s c n) (Sum.inr "left") (.int y) = mk4 y s c n := by simp [putK, mk4, kn21, kn31, kn41]
theorem m4_merge : mergeK [] (mk4 L s c n) = mk4 L s c n := by simp [mergeK, putK, mk4, List.foldl, kn12, kn13, kn14, kn23, kn24, kn34]
theorem m4_putS (y : Int) : putK (mk4 L s c n) (Sum.inr "spot") (.int y) = mk4 L s c y := by simp [putK, mk4, kn14, kn24, kn34]
end
/-- the state stands at m, with at most n draws out of the cells behind it -/
def MAt (H : Hp) (m c : Addr) (n : Nat) : Prop := ∃ (L s : Int) (cs : List Int) (k : Nat), H m = some (.dK (mk4 L s c (k : Int))) ∧ k ≤ n ∧ H c = some (.lst (cs.map V.int)) ∧ 0 < cs.length
theorem MAt.up {H : Hp} {m cl : Addr} {n n' : Nat} (h : MAt H m cl n) (k : n ≤ n') : MAt H m cl n' := by
  obtain ⟨L, s, cs, j, h1, h2, h3, h4⟩ := h
  exact ⟨L, s, cs, j, h1, Nat.le_trans h2 k, h3, h4⟩
theorem MAt.same {H H' : Hp} {m cl : Addr} {n : Nat} (h : MAt H m cl n) (e : Same H H') : MAt H' m cl n := by
  obtain ⟨L, s, cs, j, h1, h2, h3, h4⟩ := h
  exact ⟨L, s, cs, j, e _ _ h1, h2, e _ _ h3, h4⟩
theorem MAt.some {H : Hp} {m cl : Addr} {n : Nat} (h : MAt H m cl n) : ∃ kvs, H m = some (.dK kvs) := by
  obtain ⟨L, s, cs, j, h1, _⟩ := h
  exact ⟨_, h1⟩
theorem MAt.ne {H : Hp} {m cl p : Addr} {n : Nat} (h : MAt H m cl n) (e : H p = none) : m ≠ p ∧ cl ≠ p := by
  obtain ⟨L, s, cs, j, h1, h2, h3, h4⟩ := h
  exact ⟨ne_of_none h1 e, ne_of_none h3 e⟩
theorem MAt.put {H : Hp} {m cl p : Addr} {n : Nat} {o : HO} (h : MAt H m cl n) (e : m ≠ p ∧ cl ≠ p) : MAt (upd H p o) m cl n := by
  obtain ⟨L, s, cs, j, h1, h2, h3, h4⟩ := h
  refine ⟨L, s, cs, j, ?_, h2, ?_, h4⟩
  · rw [upd_ne e.1]
    exact h1
  · rw [upd_ne e.2]
    exact h3
/-- what the draws leave: fresh stays fresh -/
theorem But.free {m p cl : Addr} {H H' : Hp} {n : Nat} (b : But m H H') (h : MAt H' m cl n) (e : H' p = none) : H p = none := by
  obtain ⟨kvs, hm⟩ := h.some
  cases q : H p with
  | none => rfl
  | some o =>
    by_cases hp : p = m
    · subst hp
      rw [hm] at e
      cases e
    · rw [b p o q hp] at e
      cases e
theorem But.tup {m p cl : Addr} {H H' : Hp} {n : Nat} {xs : List V} (b : But m H H') (h : MAt H m cl n) (e : H p = some (.tup xs)) : H' p = some (.tup xs) := by
  obtain ⟨kvs, hm⟩ := h.some
  exact b p _ e (ne_of e hm (by intro z; cases z))
theorem But.lst {m p cl : Addr} {H H' : Hp} {n : Nat} {xs : List V} (b : But m H H') (h : MAt H m cl n) (e : H p = some (.lst xs)) : H' p = some (.lst xs) := by
  obtain ⟨kvs, hm⟩ := h.some
  exact b p _ e (ne_of e hm (by intro z; cases z))
theorem But.seqL {K : PySem.W.Frag} {m p cl : Addr} {H H' : Hp} {n : Nat} {xs : List V} (b : But m H H') (h : MAt H m cl n) (e : SqL K H p xs) : SqL K H' p xs := by
  obtain ⟨kvs, hm⟩ := h.some
  rcases e with (e | ⟨o, e⟩) | e
  · exact Or.inl (Or.inl (b p _ e (ne_of e hm (by intro z; cases z))))
  · exact Or.inl (Or.inr ⟨o, b p _ e (ne_of e hm (by intro z; cases z))⟩)
  · exact Or.inr e
theorem But.seqT {K : PySem.W.Frag} {m p cl : Addr} {H H' : Hp} {n : Nat} {xs : List V} (b : But m H H') (h : MAt H m cl n) (e : SqT K H p xs) : SqT K H' p xs := by
  obtain ⟨kvs, hm⟩ := h.some
  rcases e with (e | ⟨o, e⟩) | e
  · exact Or.inl (Or.inl (b p _ e (ne_of e hm (by intro z; cases z))))
  · exact Or.inl (Or.inr ⟨o, b p _ e (ne_of e hm (by intro z; cases z))⟩)
  · exact Or.inr e
/-! ### tuples -/
theorem catA_any {K : PySem.W.Frag} {H : Hp} {Q : VK} {a b : Addr} {xs ys : List V} (ha : SqT K H a xs) (hb : SqT K H b ys) (hl : xs.length + ys.length ≤ 1000) (k : ∀ p H', Same H H' → SqT K H' p (xs ++ ys) → Q (.ref p) H') : rCatA K (.ref a) (.ref b) H Q := by
  refine ⟨a, b, xs, ys, rfl, rfl, ha, hb, small hl, fun e => ?_, fun _ e => ?_, fun _ _ p hp => k p _ (Same.new hp) (tup_of upd_same)⟩
  · subst e
    exact k b H (Same.refl H) hb
  · subst e
    exact k a H (Same.refl H) (by rw [List.append_nil]; exact ha)
theorem slA_any {K : PySem.W.Frag} {H : Hp} {Q : VK} {a : Addr} {xs : List V} {lo hi : Option Int} (ha : SqT K H a xs) (k : ∀ p H', Same H H' → SqT K H' p (cutV xs lo hi) → Q (.ref p) H') : rSlA K (.ref a) lo hi H Q := by
  refine ⟨a, xs, rfl, ha, fun e => ?_, fun _ p hp => k p _ (Same.new hp) (tup_of upd_same)⟩
  refine k a H (Same.refl H) ?_
  have e2 : cutV xs lo hi = xs := by
    unfold cutV
    rw [e.1, e.2, List.drop_zero, Nat.sub_zero, List.take_length]
  rw [e2]
  exact ha
/-! ### defs by their names -/
structure Df (K : PySem.W.Frag) (mg : Str → Option Value) (x : Str) (st : Stmt) (ps : List Str) : Prop where
  ex : ∃ (f : Addr) (fd : FuncData), Fun K x x st f fd ∧ mg x = some (.ref f) ∧ Binds K fd ps []
section
variable {P : Program} {w : World} {K : PySem.W.Frag} {mg : Str → Option Value} {base : Heap} {x : Str} {st : Stmt} {N ps : List Str} {k : Nat} {sp : Sp}
theorem Kl.by_body (D : Df K mg x st ps) (S : FnScope N ps (defScope st)) (len : ∀ vs H Q E, sp vs H Q E → vs.length = ps.length)
    (hb : ∀ (f : Addr) (cdv : Value) (A : Around) (outer : List Env) (s : Shared) (H : Hp) (vs : List V) (Q : VK) (E : XK), Room k (A.deeper (envOfC x (defScope st) s.heap.objs.size f cdv)) → sp vs H Q E →
      ∃ t, PSs (cxOf CX0 P w K mg base N x (defScope st) f cdv A outer s H E).nox (defBody st) t ∧ t { nx := fun _ H' => Q .non H', rt := Q } (start N vs) H) : Kl P w K mg base (k + 1) x sp := by
  obtain ⟨f, fd, F, hm, b⟩ := D.ex
  exact ⟨f, fd, ps, F.ok S len (hb f), hm, F.kp, b⟩
theorem Kg.by_body (D : Df K mg x st ps) (S : FnScope N ps (defScope st)) (len : ∀ vs H Q E, sp vs H Q E → vs.length = ps.length)
    (hb : ∀ (f : Addr) (cdv : Value) (A : Around) (outer : List Env) (s : Shared) (H : Hp) (vs : List V) (Q : VK) (E : XK), A.guards = some [] → Room k (A.deeper (envOfC x (defScope st) s.heap.objs.size f cdv)) → sp vs H Q E →
      ∃ t, PSs (cxOf CX0 P w K mg base N x (defScope st) f cdv A outer s H E).nox (defBody st) t ∧ t { nx := fun _ H' => Q .non H', rt := Q } (start N vs) H) : Kg P w K mg base (k + 1) x sp := by
  obtain ⟨f, fd, F, hm, b⟩ := D.ex
  exact ⟨f, fd, ps, FnG.by_body F S len (hb f), hm, F.kp, b⟩
theorem df_mk {h : Heap} {f : Addr} {oc : Value} {od an : Option Addr} {osl : Array (Option Value)} {kV doc pm cdv ct : Value} (X : K.In h) (G : h.Ns mainGlobals mg) (a : PySem.W.nsIn K mainGlobals x = some (some (.ref f)))
    (l : K.lookup f = some ⟨oc, od, .func (PySem.W.fnOf x x (defArgs st) (defBody st) (defScope st) .none kV doc pm an cdv ct), osl⟩) (c : PySem.W.codeIn K cdv x = true) (kp : PySem.W.keepIn K (.ref f) = true)
    (hb : ∀ (kV doc pm : Value) (an : Option Addr) (cdv ct : Value) (us : List Value), us.length = ps.length → bindArgs (PySem.W.fnOf x x (defArgs st) (defBody st) (defScope st) .none kV doc pm an cdv ct) ⟨us, []⟩ = pure (ps.zip us)) : Df K mg x st ps :=
  ⟨f, _, fun_mk l c kp, PySem.W.mg_of X G a, (fun_mk l c kp).binds hb⟩
theorem law_fd {h : Heap} {fa f : Addr} {j : Nat} {oc : Value} {od an : Option Addr} {osl : Array (Option Value)} {kV doc pm cdv ct : Value} (X : K.In h) (G : h.Ns mainGlobals mg) (hfa : mg "law" = some (.ref fa)) (a : PySem.W.nsIn K mainGlobals "law" = some (some (.ref f)))
    (l : K.lookup f = some ⟨oc, od, .func (PySem.W.fnOf "law" "law" (defArgs st) (defBody st) (defScope st) .none kV doc pm an cdv ct), osl⟩) (c : PySem.W.codeIn K cdv "law" = true) (kp : PySem.W.keepIn K (.ref f) = true)
    (hb : ∀ (kV doc pm : Value) (an : Option Addr) (cdv ct : Value) (us : List Value), us.length = 1 → bindArgs (PySem.W.fnOf "law" "law" (defArgs st) (defBody st) (defScope st) .none kV doc pm an cdv ct) ⟨us, []⟩ = pure ((["script"] : List Str).zip us))
    (go : ∀ fd, Fun K "law" "law" st fa fd → ∀ base : Heap, FnG P w K mg base j fa fd ["script"] sp) :
    ∃ fd : FuncData, (∀ (s : Shared) (u : Value), BindsTo s fd ⟨[u], []⟩ [("script", u)]) ∧ ∀ base : Heap, K.In base → base.Ns mainGlobals mg → FnG P w K mg base j fa fd ["script"] sp := by
  have e := hfa.symm.trans (PySem.W.mg_of X G a)
  cases e
  exact ⟨_, fun s u => .of_eq (hb kV doc pm an cdv ct [u] rfl), fun base _ _ => go _ (fun_mk l c kp) base⟩
end
end Gd
set_option linter.all false
/-! fractions: plain Lean -/
namespace QM
/-- n / d in lowest terms -/
def sg (n d : Int) : Int := if d < 0 then -((Nat.gcd n.natAbs d.natAbs : Nat) : Int) else ((Nat.gcd n.natAbs d.natAbs : Nat) : Int)
theorem sg_ne {n d : Int} (h : d ≠ 0) : sg n d ≠ 0 := by
  have hp : 0 < Nat.gcd n.natAbs d.natAbs := Nat.gcd_pos_of_pos_right _ (by omega)
  unfold sg
  split <;> omega
theorem fdiv_neg' (a b : Int) : (-a).fdiv (-b) = a.fdiv b := by
  exact Int.neg_fdiv_neg a b
theorem fr_num {n d : Int} (h : d ≠ 0) : n.fdiv (sg n d) = (Rat.divInt n d).num := by
  rw [Rat.num_divInt]
  unfold sg
  have g0 : ((Int.gcd d n : Nat) : Int) = ((Nat.gcd n.natAbs d.natAbs : Nat) : Int) := by rw [Int.gcd_comm]; rfl
  split
  · rename_i e
    rw [Int.sign_eq_neg_one_of_neg e, g0, Int.neg_mul, Int.one_mul]
    have e1 : n.fdiv (-((Nat.gcd n.natAbs d.natAbs : Nat) : Int)) = (-n).fdiv ((Nat.gcd n.natAbs d.natAbs : Nat) : Int) := by
      rw [← fdiv_neg' n, Int.neg_neg]
    rw [e1, Int.fdiv_eq_ediv_of_nonneg _ (by omega)]
  · rename_i e
    rw [Int.sign_eq_one_of_pos (by omega), g0, Int.one_mul, Int.fdiv_eq_ediv_of_nonneg _ (by omega)]
theorem fr_den {n d : Int} (h : d ≠ 0) : d.fdiv (sg n d) = ((Rat.divInt n d).den : Int) := by
  rw [Rat.den_divInt, if_neg h]
  have g0 : Int.gcd d n = Nat.gcd n.natAbs d.natAbs := by rw [Int.gcd_comm]; rfl
  rw [g0]
  unfold sg
  split
  · rename_i e
    have e1 : d.fdiv (-((Nat.gcd n.natAbs d.natAbs : Nat) : Int)) = (-d).fdiv ((Nat.gcd n.natAbs d.natAbs : Nat) : Int) := by
      rw [← fdiv_neg' d, Int.neg_neg]
    rw [e1, Int.fdiv_eq_ediv_of_nonneg _ (by omega), Int.natCast_ediv]
    congr 1
    omega
  · rename_i e
    rw [Int.fdiv_eq_ediv_of_nonneg _ (by omega), Int.natCast_ediv]
    congr 1
    omega
theorem den_ne (a : Rat) : (a.den : Int) ≠ 0 := by
  have := a.den_nz
  omega
theorem denR (a : Rat) : ((a.den : Int) : Rat) ≠ 0 := by
  intro h
  exact den_ne a (by exact_mod_cast h)
theorem as_div (a : Rat) : a = (a.num : Rat) / ((a.den : Int) : Rat) := by
  rw [← Rat.divInt_eq_div, Rat.num_divInt_den]
theorem fr_add (a b : Rat) : Rat.divInt (a.num * b.den + b.num * a.den) (a.den * b.den) = a + b := by
  have ha := denR a
  have hb := denR b
  have ea := as_div a
  have eb := as_div b
  rw [Rat.divInt_eq_div, Rat.intCast_add, Rat.intCast_mul, Rat.intCast_mul, Rat.intCast_mul]
  grind
theorem fr_sub (a b : Rat) : Rat.divInt (a.num * b.den - b.num * a.den) (a.den * b.den) = a - b := by
  have ha := denR a
  have hb := denR b
  have ea := as_div a
  have eb := as_div b
  rw [Rat.divInt_eq_div, Rat.intCast_sub, Rat.intCast_mul, Rat.intCast_mul, Rat.intCast_mul]
  grind
theorem fr_mul (a b : Rat) : Rat.divInt (a.num * b.num) (a.den * b.den) = a * b := by
  have ha := denR a
  have hb := denR b
  have ea := as_div a
  have eb := as_div b
  rw [Rat.divInt_eq_div, Rat.intCast_mul, Rat.intCast_mul]
  grind
theorem num_ne {a : Rat} (h : a ≠ 0) : a.num ≠ 0 := fun e => h (Rat.num_eq_zero.mp e)
theorem fr_div (a b : Rat) (h : b ≠ 0) : Rat.divInt (a.num * b.den) (a.den * b.num) = a / b := by
  have ha := denR a
  have hb := denR b
  have ea := as_div a
  have eb := as_div b
  have hn : (b.num : Rat) ≠ 0 := fun e => num_ne h (by exact_mod_cast e)
  rw [Rat.divInt_eq_div, Rat.intCast_mul, Rat.intCast_mul]
  grind
theorem mul_ne {a b : Int} (h : a ≠ 0) (k : b ≠ 0) : a * b ≠ 0 := Int.mul_ne_zero h k
/-! sizes -/
def RB (n : Nat) (q : Rat) : Prop := q.num.natAbs < 2 ^ n ∧ (q.den : Int).natAbs < 2 ^ n
theorem RB.up {m n : Nat} {q : Rat} (h : RB m q) (k : m ≤ n) : RB n q := ⟨Nat.lt_of_lt_of_le h.1 (Nat.pow_le_pow_right (by decide) k), Nat.lt_of_lt_of_le h.2 (Nat.pow_le_pow_right (by decide) k)⟩
theorem dv_le {x g : Int} (h : g ≠ 0) (d : g ∣ x) : (x.fdiv g).natAbs ≤ x.natAbs := by
  obtain ⟨k, rfl⟩ := d
  rw [Int.mul_fdiv_cancel_left k h, Int.natAbs_mul]
  have h1 : 1 ≤ g.natAbs := by omega
  have h2 : 1 * k.natAbs ≤ g.natAbs * k.natAbs := Nat.mul_le_mul_right _ h1
  omega
theorem sg_dvd (n d : Int) : sg n d ∣ n := by
  have h : ((Nat.gcd n.natAbs d.natAbs : Nat) : Int) ∣ n := Int.ofNat_dvd_left.mpr (Nat.gcd_dvd_left _ _)
  unfold sg
  split
  · exact Int.neg_dvd.mpr h
  · exact h
theorem sg_dvd2 (n d : Int) : sg n d ∣ d := by
  have h : ((Nat.gcd n.natAbs d.natAbs : Nat) : Int) ∣ d := Int.ofNat_dvd_left.mpr (Nat.gcd_dvd_right _ _)
  unfold sg
  split
  · exact Int.neg_dvd.mpr h
  · exact h
theorem RB.of {m : Nat} {n d : Int} (h : d ≠ 0) (hn : n.natAbs < 2 ^ m) (hd : d.natAbs < 2 ^ m) : RB m (Rat.divInt n d) := by
  unfold RB
  rw [← fr_num h, ← fr_den (n := n) h]
  exact ⟨Nat.lt_of_le_of_lt (dv_le (sg_ne h) (sg_dvd n d)) hn, Nat.lt_of_le_of_lt (dv_le (sg_ne h) (sg_dvd2 n d)) hd⟩
theorem pmul {m n a b : Nat} (ha : a < 2 ^ m) (hb : b < 2 ^ n) : a * b < 2 ^ (m + n) := by
  rw [Nat.pow_add]
  rcases Nat.eq_zero_or_pos b with h | h
  · subst h
    rw [Nat.mul_zero]
    exact Nat.mul_pos (Nat.two_pow_pos m) (Nat.two_pow_pos n)
  · exact Nat.mul_lt_mul_of_lt_of_le ha (Nat.le_of_lt hb) (Nat.two_pow_pos n)
theorem RB.add {m n : Nat} {a b : Rat} (ha : RB m a) (hb : RB n b) : RB (m + n + 1) (a + b) := by
  rw [← fr_add]
  have h1 := pmul ha.1 hb.2
  have h2 := pmul ha.2 hb.1
  have h3 := pmul ha.2 hb.2
  refine RB.of (mul_ne (den_ne a) (den_ne b)) ?_ ?_
  · rw [Nat.pow_succ]
    have h4 : (a.num * ↑b.den + b.num * ↑a.den).natAbs ≤ (a.num * ↑b.den).natAbs + (b.num * ↑a.den).natAbs := Int.natAbs_add_le _ _
    rw [Int.natAbs_mul, Int.natAbs_mul, Nat.mul_comm b.num.natAbs] at h4
    omega
  · rw [Nat.pow_succ, Int.natAbs_mul]
    omega
theorem RB.neg {m : Nat} {a : Rat} (ha : RB m a) : RB m (-a) := by
  unfold RB at *
  rw [Rat.neg_num, Rat.neg_den, Int.natAbs_neg]
  exact ha
theorem RB.sub {m n : Nat} {a b : Rat} (ha : RB m a) (hb : RB n b) : RB (m + n + 1) (a - b) := by
  rw [Rat.sub_eq_add_neg]
  exact ha.add hb.neg
theorem RB.mul {m n : Nat} {a b : Rat} (ha : RB m a) (hb : RB n b) : RB (m + n) (a * b) := by
  rw [← fr_mul]
  refine RB.of (mul_ne (den_ne a) (den_ne b)) ?_ ?_
  · rw [Int.natAbs_mul]
    exact pmul ha.1 hb.1
  · rw [Int.natAbs_mul]
    exact pmul ha.2 hb.2
theorem RB.div {m n : Nat} {a b : Rat} (h : b ≠ 0) (ha : RB m a) (hb : RB n b) : RB (m + n) (a / b) := by
  rw [← fr_div a b h]
  refine RB.of (mul_ne (den_ne a) (num_ne h)) ?_ ?_
  · rw [Int.natAbs_mul]
    exact pmul ha.1 hb.2
  · rw [Int.natAbs_mul]
    exact pmul ha.2 hb.1
theorem RB.int {m : Nat} {n : Int} (h : n.natAbs < 2 ^ m) (k : 1 ≤ m) : RB m (n : Rat) := by
  unfold RB
  rw [Rat.num_intCast, Rat.den_intCast]
  exact ⟨h, Nat.lt_of_lt_of_le (by decide : 1 < 2 ^ 1) (Nat.pow_le_pow_right (by decide) k)⟩
theorem RB.pow {m : Nat} {a : Rat} (ha : RB m a) : ∀ k : Nat, RB (m * k + 1) (a ^ k)
  | 0 => by
    rw [Rat.pow_zero]
    exact RB.int (n := 1) (by rw [Nat.mul_zero]; decide) (by omega)
  | k + 1 => by
    rw [Rat.pow_succ]
    exact (RB.mul (RB.pow ha k) ha).up (by rw [Nat.mul_succ]; omega)
/-! powers -/
theorem npow (a : Rat) (k : Nat) : (a ^ k).num = a.num ^ k := Rat.num_pow a k
theorem dpow (a : Rat) (k : Nat) : (a ^ k).den = a.den ^ k := Rat.den_pow a k
theorem le_npow (a : Nat) {k : Nat} (h : 1 ≤ k) : a ≤ a ^ k := by
  rcases Nat.eq_zero_or_pos a with e | e
  · omega
  · calc a = a ^ 1 := (Nat.pow_one a).symm
      _ ≤ a ^ k := Nat.pow_le_pow_right e h
theorem RB.root {m k : Nat} {a : Rat} (h : 1 ≤ k) (ha : RB m (a ^ k)) : RB m a := by
  unfold RB at *
  rw [npow, dpow, Int.natAbs_pow] at ha
  refine ⟨Nat.lt_of_le_of_lt (le_npow _ h) ha.1, ?_⟩
  have e : ((a.den ^ k : Nat) : Int).natAbs = a.den ^ k := Int.natAbs_natCast _
  rw [e] at ha
  rw [Int.natAbs_natCast]
  exact Nat.lt_of_le_of_lt (le_npow _ h) ha.2
theorem num_pos {a : Rat} (h : 0 < a) : 0 < a.num := by
  have h1 : 0 ≤ a.num := Rat.num_nonneg.mpr (Rat.le_of_lt h)
  have h2 : a.num ≠ 0 := num_ne (fun e => by rw [e] at h; exact absurd h (by decide))
  omega
end QM
set_option linter.all false
/-! roots: plain Lean -/
namespace QM
theorem dvd_pow' (a : Nat) {k : Nat} (h : k ≠ 0) : a ∣ a ^ k := by
  obtain ⟨j, rfl⟩ := Nat.exists_eq_succ_of_ne_zero h
  rw [Nat.pow_succ]
  exact Nat.dvd_mul_left a _
theorem ipow_le {a b : Int} (ha : 0 ≤ a) (h : a ≤ b) (k : Nat) : a ^ k ≤ b ^ k := by
  have h1 : a.natAbs ^ k ≤ b.natAbs ^ k := Nat.pow_le_pow_left (by omega) k
  rw [← Int.natAbs_pow, ← Int.natAbs_pow] at h1
  have h2 : 0 ≤ a ^ k := Int.pow_nonneg ha
  have h3 : 0 ≤ b ^ k := Int.pow_nonneg (by omega)
  omega
theorem pow_inj {a b k : Nat} (h : k ≠ 0) (e : a ^ k = b ^ k) : a = b := by
  rcases Nat.lt_trichotomy a b with x | x | x
  · have := Nat.pow_lt_pow_left x h
    omega
  · exact x
  · have := Nat.pow_lt_pow_left x h
    omega
theorem ipow_inj {a b : Int} {k : Nat} (h : k ≠ 0) (ha : 0 ≤ a) (hb : 0 ≤ b) (e : a ^ k = b ^ k) : a = b := by
  have h1 : a.natAbs ^ k = b.natAbs ^ k := by rw [← Int.natAbs_pow, ← Int.natAbs_pow, e]
  have := pow_inj h h1
  omega
theorem qpow_inj {a b : Rat} {k : Nat} (h : k ≠ 0) (ha : 0 < a) (hb : 0 < b) (e : a ^ k = b ^ k) : a = b := by
  have h1 := num_pos ha
  have h2 := num_pos hb
  have e1 : a.num ^ k = b.num ^ k := by rw [← npow, ← npow, e]
  have e2 : a.den ^ k = b.den ^ k := by rw [← dpow, ← dpow, e]
  exact Rat.ext (ipow_inj h (by omega) (by omega) e1) (pow_inj h e2)
/-- the root of a fraction from those of its parts -/
theorem rootQ {k : Nat} (hk : k ≠ 0) {q : Rat} {s t : Int} (hs0 : 0 < s) (ht0 : 0 < t) (hs : s ^ k = q.num) (ht : t ^ k = (q.den : Int)) : ∃ r : Rat, 0 < r ∧ r ^ k = q ∧ r.num = s ∧ (r.den : Int) = t := by
  have e1 : s.natAbs ^ k = q.num.natAbs := by rw [← Int.natAbs_pow, hs]
  have e2 : t.natAbs ^ k = q.den := by
    have h : (t ^ k).natAbs = ((q.den : Int)).natAbs := by rw [ht]
    rw [Int.natAbs_pow, Int.natAbs_natCast] at h
    exact h
  have hc : Nat.Coprime s.natAbs t.natAbs := by
    have c : Nat.Coprime (s.natAbs ^ k) (t.natAbs ^ k) := by
      rw [e1, e2]
      exact q.reduced
    have d1 : s.natAbs ∣ s.natAbs ^ k := dvd_pow' _ hk
    have d2 : t.natAbs ∣ t.natAbs ^ k := dvd_pow' _ hk
    exact Nat.Coprime.coprime_dvd_left d1 (Nat.Coprime.coprime_dvd_right d2 c)
  have hz : t.natAbs ≠ 0 := by omega
  refine ⟨⟨s, t.natAbs, hz, hc⟩, ?_, ?_, rfl, by show ((t.natAbs : Nat) : Int) = t; omega⟩
  · have h1 : (0 : Rat) ≤ ⟨s, t.natAbs, hz, hc⟩ := Rat.num_nonneg.mp (by show 0 ≤ s; omega)
    have h2 : (⟨s, t.natAbs, hz, hc⟩ : Rat) ≠ 0 := fun e => by
      have h3 : s = 0 := congrArg Rat.num e
      omega
    exact Rat.lt_of_le_of_ne h1 (fun e => h2 e.symm)
  · refine Rat.ext ?_ ?_
    · rw [npow]
      exact hs
    · rw [dpow]
      exact e2
/-- Newton's step -/
theorem mono {r s : Int} (hr : 0 ≤ r) (hs : 0 ≤ s) (k : Nat) : r * s ^ k + s * r ^ k ≤ r * r ^ k + s * s ^ k := by
  have key : 0 ≤ (r ^ k - s ^ k) * (r - s) := by
    rcases Int.le_total r s with h | h
    · have h1 : r ^ k ≤ s ^ k := ipow_le hr h k
      have := Int.mul_nonneg (show 0 ≤ s ^ k - r ^ k by omega) (show 0 ≤ s - r by omega)
      grind
    · have h1 : s ^ k ≤ r ^ k := ipow_le hs h k
      exact Int.mul_nonneg (by omega) (by omega)
  grind
theorem amgm {r s : Int} (hr : 0 ≤ r) (hs : 0 ≤ s) : ∀ k : Nat, ((k : Int) + 1) * s * r ^ k ≤ (k : Int) * (r * r ^ k) + s * s ^ k
  | 0 => by simp
  | k + 1 => by
    have h1 := amgm hr hs k
    have h2 := mono hr hs (k + 1)
    have h3 := Int.mul_le_mul_of_nonneg_left h1 hr
    rw [Int.pow_succ, Int.pow_succ] at *
    push_cast
    grind
theorem newton_ge {n r s : Int} {k : Nat} (hr : 1 ≤ r) (hs : 0 ≤ s) (h : s ^ (k + 1) ≤ n) : s ≤ ((k : Int) * r + n.fdiv (r ^ k)).fdiv ((k : Int) + 1) := by
  have hp : 0 < r ^ k := Int.pow_pos (by omega)
  have h1 := amgm (show 0 ≤ r by omega) hs k
  rw [Int.pow_succ] at h
  rw [Int.fdiv_eq_ediv_of_nonneg _ (Int.le_of_lt hp), Int.fdiv_eq_ediv_of_nonneg _ (by omega)]
  rw [Int.le_ediv_iff_mul_le (by omega)]
  have h2 : ((k : Int) + 1) * s - k * r ≤ n / r ^ k := by
    rw [Int.le_ediv_iff_mul_le hp]
    grind
  grind
theorem newton_le {n r : Int} {k : Nat} (hr : 1 ≤ r) (h : r ≤ ((k : Int) * r + n.fdiv (r ^ k)).fdiv ((k : Int) + 1)) : r ^ (k + 1) ≤ n := by
  have hp : 0 < r ^ k := Int.pow_pos (by omega)
  rw [Int.fdiv_eq_ediv_of_nonneg _ (Int.le_of_lt hp), Int.fdiv_eq_ediv_of_nonneg _ (by omega)] at h
  rw [Int.le_ediv_iff_mul_le (by omega)] at h
  have h2 : r ≤ n / r ^ k := by grind
  rw [Int.le_ediv_iff_mul_le hp] at h2
  rw [Int.pow_succ]
  grind
theorem start_ge {n s : Int} {k b : Nat} (hs : 0 ≤ s) (hb : n.natAbs < 2 ^ b) (hk : 0 < k) (h : s ^ k ≤ n) : s ≤ 1 * 2 ^ (b / k + 1) := by
  rw [Int.one_mul]
  rcases Int.le_total s (2 ^ (b / k + 1)) with z | z
  · exact z
  · exfalso
    have h1 : ((2 : Int) ^ (b / k + 1)) ^ k ≤ s ^ k := ipow_le (Int.le_of_lt (Int.pow_pos (by decide))) z k
    rw [← Int.pow_mul] at h1
    have h2 : b ≤ (b / k + 1) * k := by
      have := Nat.lt_div_mul_add (a := b) hk
      rw [Nat.add_mul, Nat.one_mul]
      omega
    have h3 : (2 : Nat) ^ b ≤ 2 ^ ((b / k + 1) * k) := Nat.pow_le_pow_right (by decide) h2
    have h4 : ((2 ^ b : Nat) : Int) ≤ ((2 ^ ((b / k + 1) * k) : Nat) : Int) := Int.ofNat_le.mpr h3
    rw [Int.natCast_pow, Int.natCast_pow] at h4
    have h5 : ((n.natAbs : Nat) : Int) < ((2 ^ b : Nat) : Int) := Int.ofNat_lt.mpr hb
    rw [Int.natCast_pow] at h5
    have e2 : ((2 : Nat) : Int) = 2 := rfl
    rw [e2] at h4 h5
    omega
theorem small_root {n s : Int} {k : Nat} (hs : 0 ≤ s) (hk : 1 ≤ k) (h : s ^ k ≤ n) : s ≤ n := by
  have h1 := le_npow s.natAbs hk
  have h2 : (s ^ k).natAbs = s.natAbs ^ k := Int.natAbs_pow s k
  have h3 : 0 ≤ s ^ k := Int.pow_nonneg hs
  omega
theorem pow01 {n : Int} (h0 : 0 ≤ n) (h2 : n < 2) {k : Nat} (hk : 1 ≤ k) : n ^ k ≤ n := by
  obtain ⟨j, rfl⟩ : ∃ j, k = j + 1 := ⟨k - 1, by omega⟩
  have e : n = 0 ∨ n = 1 := by omega
  rcases e with rfl | rfl
  · rw [Int.pow_succ, Int.mul_zero]
    exact Int.le_refl _
  · rw [Int.one_pow]
    exact Int.le_refl _
/-- the scale between two pairs -/
def U (c4 c6 e4 e6 : Int) (u : Rat) : Prop := 0 < u ∧ u ^ 4 * (e4 : Rat) = (c4 : Rat) ∧ u ^ 6 * (e6 : Rat) = (c6 : Rat)
theorem cz {a : Int} : (a : Rat) = 0 ↔ a = 0 := by
  constructor
  · intro h
    exact_mod_cast h
  · rintro rfl
    rfl
theorem pp {u : Rat} (h : 0 < u) (k : Nat) : u ^ k ≠ 0 := fun e => by
  have h1 := Rat.pow_pos (n := k) h
  rw [e] at h1
  exact absurd h1 (by decide)
theorem U.z4 {c4 c6 e4 e6 : Int} {u : Rat} (h : U c4 c6 e4 e6 u) : c4 = 0 ↔ e4 = 0 := by
  obtain ⟨h0, h1, h2⟩ := h
  have := pp h0 4
  rw [← cz, ← cz (a := e4), ← h1]
  grind
theorem U.z6 {c4 c6 e4 e6 : Int} {u : Rat} (h : U c4 c6 e4 e6 u) : c6 = 0 ↔ e6 = 0 := by
  obtain ⟨h0, h1, h2⟩ := h
  have := pp h0 6
  rw [← cz, ← cz (a := e6), ← h2]
  grind
theorem U.uniq {c4 c6 e4 e6 : Int} {u v : Rat} (z : e4 ≠ 0 ∨ e6 ≠ 0) (h : U c4 c6 e4 e6 u) (k : U c4 c6 e4 e6 v) : u = v := by
  obtain ⟨h0, h1, h2⟩ := h
  obtain ⟨k0, k1, k2⟩ := k
  rcases z with z | z
  · have z' : (e4 : Rat) ≠ 0 := fun e => z (cz.mp e)
    exact qpow_inj (k := 4) (by decide) h0 k0 (by grind)
  · have z' : (e6 : Rat) ≠ 0 := fun e => z (cz.mp e)
    exact qpow_inj (k := 6) (by decide) h0 k0 (by grind)
theorem U.p4 {c4 c6 e4 e6 : Int} {u : Rat} (z : e4 ≠ 0) (h : U c4 c6 e4 e6 u) : u ^ 4 = Rat.divInt c4 e4 := by
  obtain ⟨h0, h1, h2⟩ := h
  have z' : (e4 : Rat) ≠ 0 := fun e => z (cz.mp e)
  rw [Rat.divInt_eq_div]
  grind
theorem U.p6 {c4 c6 e4 e6 : Int} {u : Rat} (z : e6 ≠ 0) (h : U c4 c6 e4 e6 u) : u ^ 6 = Rat.divInt c6 e6 := by
  obtain ⟨h0, h1, h2⟩ := h
  have z' : (e6 : Rat) ≠ 0 := fun e => z (cz.mp e)
  rw [Rat.divInt_eq_div]
  grind
theorem U.p2 {c4 c6 e4 e6 : Int} {u : Rat} (z4 : c4 ≠ 0) (z6 : e6 ≠ 0) (h : U c4 c6 e4 e6 u) : u ^ 2 = Rat.divInt (c6 * e4) (e6 * c4) := by
  obtain ⟨h0, h1, h2⟩ := h
  have z6' : (e6 : Rat) ≠ 0 := fun e => z6 (cz.mp e)
  have z4' : (c4 : Rat) ≠ 0 := fun e => z4 (cz.mp e)
  have := pp h0 4
  rw [Rat.divInt_eq_div, Rat.intCast_mul, Rat.intCast_mul]
  have e : (c6 : Rat) * e4 = u ^ 2 * (e6 * c4) := by
    rw [← h1, ← h2]
    grind
  grind
theorem U.of4 {c4 e4 : Int} {u : Rat} (z : e4 ≠ 0) (h0 : 0 < u) (h : u ^ 4 = Rat.divInt c4 e4) : U c4 0 e4 0 u := by
  have z' : (e4 : Rat) ≠ 0 := fun e => z (cz.mp e)
  rw [Rat.divInt_eq_div] at h
  refine ⟨h0, by grind, by grind⟩
theorem U.of6 {c6 e6 : Int} {u : Rat} (z : e6 ≠ 0) (h0 : 0 < u) (h : u ^ 6 = Rat.divInt c6 e6) : U 0 c6 0 e6 u := by
  have z' : (e6 : Rat) ≠ 0 := fun e => z (cz.mp e)
  rw [Rat.divInt_eq_div] at h
  refine ⟨h0, by grind, by grind⟩
theorem U.of2 {c4 c6 e4 e6 : Int} {u : Rat} (z4 : c4 ≠ 0) (y4 : e4 ≠ 0) (z6 : e6 ≠ 0) (h0 : 0 < u) (h : u ^ 2 = Rat.divInt (c6 * e4) (e6 * c4)) : U c4 c6 e4 e6 u ↔ (u.num * u.num) * (u.num * u.num) * e4 = (u.den * u.den) * (u.den * u.den) * c4 := by
  have z6' : (e6 : Rat) ≠ 0 := fun e => z6 (cz.mp e)
  have z4' : (c4 : Rat) ≠ 0 := fun e => z4 (cz.mp e)
  have y4' : (e4 : Rat) ≠ 0 := fun e => y4 (cz.mp e)
  have hd := denR u
  have hu := as_div u
  rw [Rat.divInt_eq_div, Rat.intCast_mul, Rat.intCast_mul] at h
  have k : u ^ 4 * (e4 : Rat) = c4 ↔ (u.num * u.num) * (u.num * u.num) * e4 = ((u.den : Int) * u.den) * (u.den * u.den) * c4 := by
    rw [← Rat.intCast_inj]
    simp only [Rat.intCast_mul]
    constructor
    · intro e
      grind
    · intro e
      grind
  constructor
  · rintro ⟨_, h1, _⟩
    exact k.mp h1
  · intro e
    have h1 := k.mpr e
    refine ⟨h0, h1, ?_⟩
    have h3 : u ^ 6 = u ^ 4 * u ^ 2 := by grind
    have h5 : (e6 : Rat) * c4 ≠ 0 := fun e => by
      rcases Rat.mul_eq_zero.mp e with e | e
      · exact z6' e
      · exact z4' e
    have h6 : u ^ 2 * ((e6 : Rat) * c4) = c6 * e4 := by
      rw [h]
      grind
    have h7 : u ^ 6 * e6 * c4 = c6 * c4 := by
      rw [h3]
      have : u ^ 4 * u ^ 2 * e6 * c4 = u ^ 4 * (u ^ 2 * (e6 * c4)) := by grind
      rw [this, h6, ← h1]
      grind
    grind
theorem div_ne {n d : Int} (h : n ≠ 0) (k : d ≠ 0) : Rat.divInt n d ≠ 0 := fun e => by
  have hn : (n : Rat) ≠ 0 := fun e => h (cz.mp e)
  have hd : (d : Rat) ≠ 0 := fun e => k (cz.mp e)
  rw [Rat.divInt_eq_div] at e
  grind
theorem qpos {u : Rat} (h : 0 < u) (k : Nat) : 0 < u ^ k := Rat.pow_pos h
theorem U.pos6 {c4 c6 e4 e6 : Int} {u : Rat} (z : e6 ≠ 0) (h : U c4 c6 e4 e6 u) : 0 < (Rat.divInt c6 e6).num := by
  rw [← U.p6 z h]
  exact num_pos (qpos h.1 6)
theorem U.pos4 {c4 c6 e4 e6 : Int} {u : Rat} (z : e4 ≠ 0) (h : U c4 c6 e4 e6 u) : 0 < c4 * e4 := by
  have h1 : 0 < (Rat.divInt c4 e4).num := by
    rw [← U.p4 z h]
    exact num_pos (qpos h.1 4)
  rw [Rat.num_divInt] at h1
  have h2 : 0 < e4.sign * c4 := by
    have hg : (0 : Int) < ((Int.gcd e4 c4 : Nat) : Int) := by
      have := Int.gcd_pos_of_ne_zero_left c4 z
      omega
    have h3 := (Int.le_ediv_iff_mul_le (a := 1) (b := e4.sign * c4) hg).mp (by omega)
    omega
  rcases Int.lt_trichotomy e4 0 with y | y | y
  · rw [Int.sign_eq_neg_one_of_neg y] at h2
    exact Int.mul_pos_of_neg_of_neg (by omega) y
  · exact absurd y z
  · rw [Int.sign_eq_one_of_pos y] at h2
    exact Int.mul_pos (by omega) y
theorem U.sq4 {c4 c6 e4 e6 : Int} {u r : Rat} (z : e4 ≠ 0) (h : U c4 c6 e4 e6 u) (r0 : 0 < r) (re : r ^ 2 = Rat.divInt c4 e4) : u ^ 2 = r := by
  refine qpow_inj (k := 2) (by decide) (qpos h.1 2) r0 ?_
  rw [re, ← U.p4 z h]
  grind
theorem U.sq4' {c4 c6 e4 e6 : Int} {u : Rat} (z : e4 ≠ 0) (h : U c4 c6 e4 e6 u) : (u ^ 2) ^ 2 = Rat.divInt c4 e4 := by
  rw [← U.p4 z h]
  grind
theorem U.cb6 {c4 c6 e4 e6 : Int} {u r : Rat} (z : e6 ≠ 0) (h : U c4 c6 e4 e6 u) (r0 : 0 < r) (re : r ^ 3 = Rat.divInt c6 e6) : u ^ 2 = r := by
  refine qpow_inj (k := 3) (by decide) (qpos h.1 2) r0 ?_
  rw [re, ← U.p6 z h]
  grind
theorem U.cb6' {c4 c6 e4 e6 : Int} {u : Rat} (z : e6 ≠ 0) (h : U c4 c6 e4 e6 u) : (u ^ 2) ^ 3 = Rat.divInt c6 e6 := by
  rw [← U.p6 z h]
  grind
theorem U.iff {c4 c6 e4 e6 : Int} {u : Rat} (h : 0 < u) : U c4 c6 e4 e6 u ↔ (e6 : Rat) * u ^ 6 = (c6 : Rat) ∧ (e4 : Rat) * u ^ 4 = (c4 : Rat) := by
  unfold U
  constructor
  · rintro ⟨_, h1, h2⟩
    exact ⟨by grind, by grind⟩
  · rintro ⟨h1, h2⟩
    exact ⟨h, by grind, by grind⟩
end QM
set_option Elab.async false
set_option linter.all false
set_option maxRecDepth 100000
namespace L2
open PySem PySem.Spec PyProof.Rows
section
variable {X : Cx}
def rIsqrt : List V → Hp → VK → Prop := fun vs H Q => ∃ a : Int, vs = [.int a] ∧ 0 ≤ a ∧ a.natAbs < 2 ^ 4000 ∧ Q (.int ((Float64.isqrt a.toNat : Nat) : Int)) H
theorem isq_int1 {i : Int} {us : List Value} (r : Vals [V.int i] us) : ∃ t, us = [Value.int i t] := by
  obtain ⟨t, u, h⟩ := Vals.int2 (i := i) (j := i) (us := us ++ us) (by
    cases r with
    | cons a b => cases b; exact .cons a (.cons a .nil))
  match us, h with
  | [_], h => exact ⟨t, by simp at h; rw [h.1]⟩
  | [], h => simp at h
  | _ :: _ :: _, h => simp at h
theorem cr_isqrt : CallR X (.builtin "math.isqrt") rIsqrt := by
  intro pins s σ H vs us Q I r h
  obtain ⟨a, rfl, h0, h1, q⟩ := h
  obtain ⟨t, rfl⟩ := isq_int1 r
  have hl : a.toNat.log2 ≤ 3999 := PySem.W.mg_log (k := 3999) (by rw [show a.toNat = a.natAbs by omega]; exact h1)
  exact call_function_meets PySem.W.MGF.kind_isqrt PySem.W.MGF.plain_isqrt PySem.W.MGF.entry_isqrt (PySem.W.MGF.args_isqrt _) (PySem.W.mg_run_isqrt a t (by omega) (by omega) (by omega)).meets ⟨.int _, H, I.tok _, ⟨_, rfl⟩, q⟩
end
end L2
namespace QM
/-- the whole root of a number -/
theorem isqrt_is {n : Int} (h : 0 ≤ n) : ((PySem.Float64.isqrt n.toNat : Nat) : Int) * ((PySem.Float64.isqrt n.toNat : Nat) : Int) ≤ n ∧ ∀ s : Int, 0 ≤ s → s * s ≤ n → s ≤ ((PySem.Float64.isqrt n.toNat : Nat) : Int) := by
  obtain ⟨a, b⟩ := PySem.Float64.isqrt_spec n.toNat
  generalize PySem.Float64.isqrt n.toNat = q at a b
  have e : ((n.toNat : Nat) : Int) = n := Int.toNat_of_nonneg h
  have a' : (q : Int) * q ≤ n := by rw [← e]; exact_mod_cast a
  have b' : n < ((q : Int) + 1) * (q + 1) := by rw [← e]; exact_mod_cast b
  refine ⟨a', fun s hs h1 => ?_⟩
  rcases (show (q : Int) < s ∨ s ≤ q by omega) with z | z
  · exfalso
    have := Int.mul_le_mul (show (q : Int) + 1 ≤ s by omega) (show (q : Int) + 1 ≤ s by omega) (by omega) hs
    omega
  · exact z
end QM
set_option Elab.async false
set_option linter.all false
set_option maxRecDepth 100000
/-! fractions as pairs of ints; promises of the sums -/
namespace Gd
open PySem PySem.Spec PyProof.Rows L2 QM
/-- // by any divisor but 0, below 2 ^ 9000 -/
def CDivAny (_ j : Int) : Prop := j ≠ 0 ∧ j.natAbs.log2 < 9000
theorem op_fdivAny {X : Cx} : OpR X (binaryOp .FloorDiv) (rI CDivAny fun i j => .int (i.fdiv j)) := opI fun _ _ _ _ _ _ _ hc q => floordiv_int hc.1 q (.inl (PyProof.noPylong_of_log2 hc.2))
theorem B.log9 {n : Nat} {x : Int} (hx : B n x) (h : n ≤ 8900) : x.natAbs.log2 < 9000 := by
  have h1 : x.natAbs < 2 ^ 8901 := hx.up (by omega)
  exact PySem.Flt.log2_lt_of (by decide) (Nat.lt_of_lt_of_le h1 (Nat.pow_le_pow_right (by decide) (by decide)))
theorem div_any {m : Nat} {i j : Int} (h : j ≠ 0) (hb : B m j) (hm : m ≤ 8900) : CDivAny i j := ⟨h, hb.log9 hm⟩
theorem gcd_B {m : Nat} {n d : Int} (h : d ≠ 0) (hb : B m d) : B m ((Nat.gcd n.natAbs d.natAbs : Nat) : Int) := by
  unfold B at *
  have h1 : Nat.gcd n.natAbs d.natAbs ≤ d.natAbs := Nat.gcd_le_right _ (by omega)
  omega
theorem sg_B {m : Nat} {n d : Int} (h : d ≠ 0) (hb : B m d) : B m (sg n d) := by
  unfold sg
  split
  · exact (gcd_B h hb).neg
  · exact gcd_B h hb
/-- a fraction's pair -/
def fq (q : Rat) : List V := [.int q.num, .int (q.den : Int)]
theorem fq_div {n d : Int} (h : d ≠ 0) : [V.int (n.fdiv (sg n d)), V.int (d.fdiv (sg n d))] = fq (Rat.divInt n d) := by
  unfold fq
  rw [fr_num h, fr_den h]
theorem fq_int (n : Int) : fq (n : Rat) = [.int n, .int 1] := by
  unfold fq
  rw [Rat.num_intCast, Rat.den_intCast]
  rfl
theorem fq_inj {a b : Rat} (h : fq a = fq b) : a = b := by
  unfold fq at h
  simp only [List.cons.injEq, V.int.injEq, and_true] at h
  exact Rat.ext h.1 (by omega)
def dq (q : Rat) : PyData := .tuple [.int q.num, .int (q.den : Int)]
theorem dp_q {K : PySem.W.Frag} {H : Hp} {p : Addr} {q : Rat} (h : SqT K H p (fq q)) : Dp K H (.ref p) (dq q) := .tup h (.cons (.int _) (.cons (.int _) .nil))
theorem dq_inj {a b : Rat} : dq a = dq b ↔ a = b := by
  constructor
  · intro h
    unfold dq at h
    simp only [PyData.tuple.injEq, List.cons.injEq, PyData.int.injEq, and_true] at h
    exact Rat.ext h.1 (by omega)
  · rintro rfl
    rfl
theorem _root_.QM.RB.n {m : Nat} {q : Rat} (h : RB m q) : B m q.num := h.1
theorem _root_.QM.RB.d {m : Nat} {q : Rat} (h : RB m q) : B m (q.den : Int) := h.2
theorem okq {m : Nat} {q : Rat} (h : RB m q) (k : m ≤ 1900) : okD (dq q) = true := by
  have h1 := B.log (RB.n h) k
  have h2 := B.log (RB.d h) k
  unfold dq
  rw [okD, okAll, okAll, okAll, okD, okD]
  rw [decide_eq_true h1, decide_eq_true h2]
  rfl
def spCut (K : PySem.W.Frag) : Sp := fun vs H Q _ => ∃ n d : Int, vs = [.int n, .int d] ∧ d ≠ 0 ∧ B 6200 n ∧ B 6200 d ∧ ∀ t, H t = none → Q (.ref t) (upd H t (.tup (fq (Rat.divInt n d))))
def spBin (ok : Rat → Rat → Prop) (op : Rat → Rat → Rat) (K : PySem.W.Frag) : Sp := fun vs H Q _ => ∃ (f g : Addr) (a b : Rat), vs = [.ref f, .ref g] ∧ SqT K H f (fq a) ∧ SqT K H g (fq b) ∧ RB 3000 a ∧ RB 3000 b ∧ ok a b ∧ ∀ t, H t = none → Q (.ref t) (upd H t (.tup (fq (op a b))))
/-- a list of fractions -/
def FrL (K : PySem.W.Frag) (H : Hp) (m : Nat) (ps : List (Addr × Rat)) : Prop := ∀ p ∈ ps, SqT K H p.1 (fq p.2) ∧ RB m p.2
def spSum (op : Rat → Rat → Rat) (e : Rat) (K : PySem.W.Frag) : Sp := fun vs H Q _ => ∃ (l : Addr) (ps : List (Addr × Rat)) (m : Nat), vs = [.ref l] ∧ SqL K H l (ps.map fun p => .ref p.1) ∧ FrL K H m ps ∧ ps.length * (m + 1) ≤ 2900 ∧ ∀ H' t, Same H H' → H t = none → H' t = some (.tup (fq (ps.foldl (fun x p => op x p.2) e))) → RB (ps.length * (m + 1) + 1) (ps.foldl (fun x p => op x p.2) e) → Q (.ref t) H'
/-- a list that is being made of the fractions of ints -/
def FrD (H : Hp) (D : Addr) (ns : List Int) (i : Nat) : Prop := ∃ L : List Addr, H D = some (.lst (L.map V.ref)) ∧ L.length = i ∧ ∀ (j : Nat) (p : Addr), L[j]? = some p → ∃ n : Int, ns[j]? = some n ∧ H p = some (.tup (fq (n : Rat)))
theorem FrD.new {H : Hp} {D : Addr} {ns : List Int} : FrD (upd H D (.lst [])) D ns 0 := ⟨[], upd_same, rfl, fun j p h => by simp at h⟩
theorem FrD.push {H : Hp} {D t : Addr} {ns : List Int} {i : Nat} {n : Int} (h : FrD H D ns i) (hi : ns[i]? = some n) (nt : H t = none) (hl : i < 1000) :
    ∃ acc, (upd H t (.tup (fq (n : Rat)))) D = some (.lst acc) ∧ acc.length < sizeLine ∧ FrD (upd (upd H t (.tup (fq (n : Rat)))) D (.lst (acc ++ [.ref t]))) D ns (i + 1) := by
  obtain ⟨L, h1, h2, h3⟩ := h
  have hDt : D ≠ t := ne_of_none h1 nt
  refine ⟨L.map V.ref, by rw [upd_ne hDt]; exact h1, by rw [List.length_map]; exact small1000 (by omega), L ++ [t], ?_, by rw [List.length_append, h2]; rfl, fun j p hj => ?_⟩
  · rw [upd_same, List.map_append]
    rfl
  · rcases Nat.lt_or_ge j L.length with z | z
    · rw [List.getElem?_append_left z] at hj
      obtain ⟨m, hm, hp⟩ := h3 j p hj
      refine ⟨m, hm, ?_⟩
      have hpD : p ≠ D := ne_of hp h1 (by intro z; cases z)
      rw [upd_ne hpD, upd_ne (ne_of_none hp nt)]
      exact hp
    · rw [List.getElem?_append_right z] at hj
      have e : j - L.length = 0 := by
        rcases Nat.eq_zero_or_pos (j - L.length) with q | q
        · exact q
        · rw [List.getElem?_eq_none (by simp; omega)] at hj
          cases hj
      rw [e] at hj
      obtain rfl := Option.some.inj hj
      have ej : j = i := by omega
      refine ⟨n, by rw [ej]; exact hi, ?_⟩
      rw [upd_ne (fun q => hDt q.symm), upd_same]
theorem FrD.five {H : Hp} {D : Addr} {a b c d e : Int} (h : FrD H D [a, b, c, d, e] 5) : ∃ p1 p2 p3 p4 p5, H D = some (.lst [.ref p1, .ref p2, .ref p3, .ref p4, .ref p5]) ∧ H p1 = some (.tup (fq (a : Rat))) ∧ H p2 = some (.tup (fq (b : Rat))) ∧ H p3 = some (.tup (fq (c : Rat))) ∧ H p4 = some (.tup (fq (d : Rat))) ∧ H p5 = some (.tup (fq (e : Rat))) := by
  obtain ⟨L, h1, h2, h3⟩ := h
  match L, h2 with
  | [p1, p2, p3, p4, p5], _ =>
    have g : ∀ (j : Nat) (p : Addr) (n : Int), [p1, p2, p3, p4, p5][j]? = some p → [a, b, c, d, e][j]? = some n → H p = some (.tup (fq (n : Rat))) := fun j p n x y => by
      obtain ⟨m, hm, hp⟩ := h3 j p x
      rw [y] at hm
      obtain rfl := Option.some.inj hm
      exact hp
    exact ⟨p1, p2, p3, p4, p5, h1, g 0 _ _ rfl rfl, g 1 _ _ rfl rfl, g 2 _ _ rfl rfl, g 3 _ _ rfl rfl, g 4 _ _ rfl rfl⟩
/-! what stands of fractions in the heap -/
def FrE (K : PySem.W.Frag) (H : Hp) (es : List (Addr × Rat × Nat)) : Prop := ∀ x ∈ es, SqT K H x.1 (fq x.2.1) ∧ RB x.2.2 x.2.1
section
variable {K : PySem.W.Frag} {H H' : Hp} {es : List (Addr × Rat × Nat)} {p r : Addr} {a b : Rat} {m n : Nat} {Q : VK} {Z : XK}
theorem FrE.nil : FrE K H [] := fun x h => by cases h
theorem FrE.same (h : FrE K H es) (s : Same H H') : FrE K H' es := fun x k => ⟨Same.tup s (h x k).1, (h x k).2⟩
theorem FrE.get (h : FrE K H es) (k : (p, a, m) ∈ es) : SqT K H p (fq a) := (h _ k).1
theorem FrE.rb (h : FrE K H es) (k : (p, a, m) ∈ es) : RB m a := (h _ k).2
theorem FrE.add (h : FrE K H es) (k : SqT K H p (fq a)) (b : RB m a) : FrE K H ((p, a, m) :: es) := fun x z => by
  rcases List.mem_cons.mp z with rfl | z
  · exact ⟨k, b⟩
  · exact h x z
theorem FrE.re (h : FrE K H ((p, a, m) :: es)) (e : a = b) (k : RB n b) : FrE K H ((p, b, n) :: es) := fun x z => by
  subst e
  rcases List.mem_cons.mp z with rfl | z
  · exact ⟨(h _ List.mem_cons_self).1, k⟩
  · exact h x (List.mem_cons_of_mem _ z)
theorem FrE.sub {fs : List (Addr × Rat × Nat)} (h : FrE K H es) (k : ∀ x ∈ fs, x ∈ es) : FrE K H fs := fun x z => h x (k x z)
theorem stepE (E : FrE K H es) {t : Addr} (n : H t = none) {c : Rat} {k : Nat} (hb : RB k c) : ∃ H', upd H t (.tup (fq c)) = H' ∧ Same H H' ∧ FrE K H' ((t, c, k) :: es) :=
  ⟨_, rfl, Same.new n, (E.same (Same.new n)).add (tup_of upd_same) hb⟩
theorem litE (E : FrE K H es) {t : Addr} (n : H t = none) {vs : List V} {c : Rat} {k : Nat} (e : vs = fq c) (hb : RB k c) : ∃ H', upd H t (.tup vs) = H' ∧ Same H H' ∧ FrE K H' ((t, c, k) :: es) := by
  subst e
  exact stepE E n hb
theorem FrL.nil {M : Nat} : FrL K H M [] := fun x h => by cases h
theorem FrL.cons {M : Nat} {ps : List (Addr × Rat)} (E : FrE K H es) (k : (p, a, m) ∈ es) (hm : m ≤ M) (h : FrL K H M ps) : FrL K H M ((p, a) :: ps) := fun x z => by
  rcases List.mem_cons.mp z with rfl | z
  · exact ⟨E.get k, (E.rb k).up hm⟩
  · exact h x z
end
mutual
theorem dp_same {K : PySem.W.Frag} {H H' : Hp} (s : Same H H') : ∀ (d : PyData) (v : V), Dp K H v d → Dp K H' v d
  | .none, _, h => by
    cases h
    exact .non
  | .bool _, _, h => by
    cases h
    exact .bl _
  | .int _, _, h => by
    cases h
    exact .int _
  | .str _, _, h => by
    cases h
    exact .str _
  | .list ds, _, h => by
    cases h with
    | lst h1 h2 => exact .lst (s.seq h1) (dp_sameAll s ds _ h2)
  | .tuple ds, _, h => by
    cases h with
    | tup h1 h2 => exact .tup (Same.tup s h1) (dp_sameAll s ds _ h2)
  | .dict _, _, h => by cases h
theorem dp_sameAll {K : PySem.W.Frag} {H H' : Hp} (s : Same H H') : ∀ (ds : List PyData) (vs : List V), DpAll K H vs ds → DpAll K H' vs ds
  | [], _, h => by
    cases h
    exact .nil
  | d :: ds, _, h => by
    cases h with
    | cons h1 h2 => exact .cons (dp_same s d _ h1) (dp_sameAll s ds _ h2)
end
/-- a list's cell is no tuple's -/
theorem tup_put {K : PySem.W.Frag} {H : Hp} {D p : Addr} {L xs : List V} {o : HO} (hD : H D = some (.lst L)) (e : SqT K H p xs) : SqT K (upd H D o) p xs := by
  rcases e with (e | ⟨z, e⟩) | e
  · refine Or.inl (Or.inl ?_)
    rw [upd_ne (ne_of e hD (by intro z; cases z))]
    exact e
  · refine Or.inl (Or.inr ⟨z, ?_⟩)
    rw [upd_ne (ne_of e hD (by intro z; cases z))]
    exact e
  · exact Or.inr e
mutual
def noL : PyData → Bool
  | .list _ => false
  | .tuple ds => noLAll ds
  | .dict _ => false
  | _ => true
def noLAll : List PyData → Bool
  | [] => true
  | d :: ds => noL d && noLAll ds
end
mutual
theorem dp_put {K : PySem.W.Frag} {H : Hp} {D : Addr} {L : List V} {o : HO} (hD : H D = some (.lst L)) : ∀ (d : PyData) (v : V), noL d = true → Dp K H v d → Dp K (upd H D o) v d
  | .none, _, _, h => by
    cases h
    exact .non
  | .bool _, _, _, h => by
    cases h
    exact .bl _
  | .int _, _, _, h => by
    cases h
    exact .int _
  | .str _, _, _, h => by
    cases h
    exact .str _
  | .list ds, _, n, h => by
    rw [noL] at n
    cases n
  | .tuple ds, _, n, h => by
    rw [noL] at n
    cases h with
    | tup h1 h2 => exact .tup (tup_put hD h1) (dp_putAll hD ds _ n h2)
  | .dict _, _, _, h => by cases h
theorem dp_putAll {K : PySem.W.Frag} {H : Hp} {D : Addr} {L : List V} {o : HO} (hD : H D = some (.lst L)) : ∀ (ds : List PyData) (vs : List V), noLAll ds = true → DpAll K H vs ds → DpAll K (upd H D o) vs ds
  | [], _, _, h => by
    cases h
    exact .nil
  | d :: ds, _, n, h => by
    rw [noLAll, Bool.and_eq_true] at n
    cases h with
    | cons h1 h2 => exact .cons (dp_put hD d _ n.1 h1) (dp_putAll hD ds _ n.2 h2)
end
end Gd
set_option Elab.async false
set_option linter.all false
set_option maxRecDepth 100000
set_option maxHeartbeats 4000000
namespace K08
open PySem PySem.Spec PyProof.Rows L2 Gd QM
def topS (i : Nat) : Stmt := PySem.Challenge.pw_pointsum_k08_whole_short_plain_twists.main.body.getD i (.Pass ⟨0, 0, 0, 0⟩)
/-- what the walk asks of the module's names -/
structure Tx (K : PySem.W.Frag) (mg : Str → Option Value) : Prop where
  gcd : mg "gcd" = some (.builtin "math.gcd")
  isqrt : mg "isqrt" = some (.builtin "math.isqrt")
  int : mg "int" = none
  len : mg "len" = none
  tuple : mg "tuple" = none
  sorted : mg "sorted" = none
  min : mg "min" = none
  abs : mg "abs" = none
  range : mg "range" = none
  repr : mg "repr" = none
  c_TRIED_primes : ∃ u, mg "TRIED_primes" = some u ∧ RelV (.int 1000) u
  c_MOST : ∃ u, mg "MOST" = some u ∧ RelV (.int 10000) u
  c_TRIED_shortening : ∃ u, mg "TRIED_shortening" = some u ∧ RelV (.int 10000) u
theorem iteN {c A B : Prop} [Decidable c] (h : ¬ c) (b : B) : if c then A else B := by
  rw [if_neg h]
  exact b
theorem iteY {c A B : Prop} [Decidable c] (h : c) (b : A) : if c then A else B := by
  rw [if_pos h]
  exact b
/-- the five numbers of a curve -/
structure Cv where
  a1 : Int
  a2 : Int
  a3 : Int
  a4 : Int
  a6 : Int
namespace Cv
variable (c : Cv)
def tup : List V := [.int c.a1, .int c.a2, .int c.a3, .int c.a4, .int c.a6]
def b2 : Int := c.a1 * c.a1 + 4 * c.a2
def b4 : Int := 2 * c.a4 + c.a1 * c.a3
def b6 : Int := c.a3 * c.a3 + 4 * c.a6
def b8 : Int := c.a1 * c.a1 * c.a6 + 4 * c.a2 * c.a6 - c.a1 * c.a3 * c.a4 + c.a2 * c.a3 * c.a3 - c.a4 * c.a4
def c4 : Int := c.b2 * c.b2 - 24 * c.b4
def c6 : Int := 36 * c.b2 * c.b4 - c.b2 * c.b2 * c.b2 - 216 * c.b6
def disc : Int := 9 * c.b2 * c.b4 * c.b6 - c.b2 * c.b2 * c.b8 - 8 * c.b4 * c.b4 * c.b4 - 27 * c.b6 * c.b6
def nums : List V := [.int c.b2, .int c.b4, .int c.b6, .int c.b8, .int c.c4, .int c.c6, .int c.disc]
/-- small numbers: two more than a curve that is passed -/
structure Sm : Prop where
  h1 : B 12 c.a1
  h2 : B 12 c.a2
  h3 : B 12 c.a3
  h4 : B 36 c.a4
  h6 : B 60 c.a6
end Cv
local macro_rules | `(tactic| walk_at "bd") => `(tactic| (repeat (first | assumption | apply B.add | apply B.sub | apply B.mul | apply B.neg | exact B.lit (n := 8) (by decide))))
local macro_rules | `(tactic| walk_at "bu") => `(tactic| (apply B.up; walk_at "bd"; decide))
local macro_rules | `(tactic| walk_at "bnd") => `(tactic| (apply B.mulW; walk_at "bd"; decide))
theorem Cv.Sm.b2 {c : Cv} (h : c.Sm) : B 25 c.b2 := by
  obtain ⟨h1, h2, h3, h4, h6⟩ := h
  unfold Cv.b2
  walk_at "bu"
theorem Cv.Sm.b4 {c : Cv} (h : c.Sm) : B 48 c.b4 := by
  obtain ⟨h1, h2, h3, h4, h6⟩ := h
  unfold Cv.b4
  walk_at "bu"
theorem Cv.Sm.b6 {c : Cv} (h : c.Sm) : B 70 c.b6 := by
  obtain ⟨h1, h2, h3, h4, h6⟩ := h
  unfold Cv.b6
  walk_at "bu"
theorem Cv.Sm.b8 {c : Cv} (h : c.Sm) : B 95 c.b8 := by
  obtain ⟨h1, h2, h3, h4, h6⟩ := h
  unfold Cv.b8
  walk_at "bu"
theorem Cv.Sm.c4 {c : Cv} (h : c.Sm) : B 58 c.c4 := by
  have e2 := h.b2
  have e4 := h.b4
  unfold Cv.c4
  walk_at "bu"
theorem Cv.Sm.c6 {c : Cv} (h : c.Sm) : B 90 c.c6 := by
  have e2 := h.b2
  have e4 := h.b4
  have e6 := h.b6
  unfold Cv.c6
  walk_at "bu"
section
variable {P : Program} {w : World} {K : PySem.W.Frag} {mg : Str → Option Value} {base : Heap}
/-! ### five -/
def sp_five (K : PySem.W.Frag) : Sp := fun vs H Q _ => ∃ (p : Addr) (c : Cv), vs = [.ref p] ∧ SqT K H p c.tup ∧ Q (.ref p) H
abbrev s_five : Stmt := topS 33
theorem sc_five : FnScope ["curve", "a", "b", "c"] ["curve"] (defScope s_five) := ⟨rfl, rfl, rfl, by decide +kernel, rfl, by decide +kernel, by decide +kernel⟩
theorem k_five (T : Tx K mg) (D : Df K mg "five" s_five ["curve"])  : Kl P w K mg base 1 "five" (sp_five K) := by
  have nd := sc_five.nd
  refine Kl.by_body D sc_five (fun vs H Q E h => ?_) (fun f cdv A outer s H vs Q E hr h => ?_)
  · obtain ⟨_, _, rfl, _⟩ := h
    rfl
  · obtain ⟨p, c, rfl, hx, q⟩ := h
    have hu1 := hu_of hr
    refine ⟨_, (pss_cons (ps_if (pt_cmpR op_eq (pe_callB call_len_seq (by rfl) T.len (by decide +kernel) (pa_cons (pv 0) pa_nil)) pe_int (nomark _)) (pss_cons (ps_asg (pv 0) (pg_tup rfl (pgs_cons (pg_name (i := 1) nd rfl (by first | exact Or.inl rfl | exact Or.inr rfl)) (pgs_cons (pg_name (i := 2) nd rfl (by first | exact Or.inl rfl | exact Or.inr rfl)) (pgs_cons (pg_name (i := 3) nd rfl (by first | exact Or.inl rfl | exact Or.inr rfl)) pgs_nil)))))
      (pss_one (ps_ret (pe_tup (pa_cons pe_int (pa_cons (pv 1) (pa_cons pe_int (pa_cons (pv 2) (pa_cons (pv 3) pa_nil))))))))) pss_nil)
      (pss_one (ps_ret (pv 0)))), ?_⟩
    refine ⟨.ref p, rfl, p, _, rfl, .inr hx, rfl, _, rfl, ?_⟩
    refine iteN (by simp [Cv.tup]) ?_
    exact ⟨.ref p, rfl, q⟩
/-! ### numbers_of -/
def sp_numbers_of (K : PySem.W.Frag) : Sp := fun vs H Q _ => ∃ (p : Addr) (c : Cv), vs = [.ref p] ∧ SqT K H p c.tup ∧ c.Sm ∧ ∀ t, H t = none → Q (.ref t) (upd H t (.tup c.nums))
abbrev s_numbers_of : Stmt := topS 34
theorem sc_numbers_of : FnScope ["curve", "a1", "a2", "a3", "a4", "a6", "b2", "b4", "b6", "b8", "c4", "c6", "d"] ["curve"] (defScope s_numbers_of) := ⟨rfl, rfl, rfl, by decide +kernel, rfl, by decide +kernel, by decide +kernel⟩
theorem k_numbers_of (T : Tx K mg) (D : Df K mg "numbers_of" s_numbers_of ["curve"]) (c_five : Kl P w K mg base 1 "five" (sp_five K)) : Kl P w K mg base 2 "numbers_of" (sp_numbers_of K) := by
  have nd := sc_numbers_of.nd
  refine Kl.by_body D sc_numbers_of (fun vs H Q E h => ?_) (fun f cdv A outer s H vs Q E hr h => ?_)
  · obtain ⟨_, _, rfl, _⟩ := h
    rfl
  · obtain ⟨p, c, rfl, hx, hm, q⟩ := h
    have hu1 := hu_of hr
    refine ⟨_, (pss_cons (ps_asg (pe_k c_five  hr (by decide) (by rfl) (pa_cons (pv 0) pa_nil)) (pg_tup rfl (pgs_cons (pg_name (i := 1) nd rfl (by first | exact Or.inl rfl | exact Or.inr rfl)) (pgs_cons (pg_name (i := 2) nd rfl (by first | exact Or.inl rfl | exact Or.inr rfl)) (pgs_cons (pg_name (i := 3) nd rfl (by first | exact Or.inl rfl | exact Or.inr rfl)) (pgs_cons (pg_name (i := 4) nd rfl (by first | exact Or.inl rfl | exact Or.inr rfl)) (pgs_cons (pg_name (i := 5) nd rfl (by first | exact Or.inl rfl | exact Or.inr rfl)) pgs_nil)))))))
      (pss_cons (ps_set (i := 6) nd rfl (by first | exact Or.inl rfl | exact Or.inr rfl) (pe_op op_add (pe_op op_mulW (pv 1) (pv 1)) (pe_op op_mul pe_int (pv 2))))
      (pss_cons (ps_set (i := 7) nd rfl (by first | exact Or.inl rfl | exact Or.inr rfl) (pe_op op_add (pe_op op_mul pe_int (pv 4)) (pe_op op_mulW (pv 1) (pv 3))))
      (pss_cons (ps_set (i := 8) nd rfl (by first | exact Or.inl rfl | exact Or.inr rfl) (pe_op op_add (pe_op op_mulW (pv 3) (pv 3)) (pe_op op_mul pe_int (pv 5))))
      (pss_cons (ps_set (i := 9) nd rfl (by first | exact Or.inl rfl | exact Or.inr rfl) (pe_op op_sub (pe_op op_add (pe_op op_sub (pe_op op_add (pe_op op_mulW (pe_op op_mulW (pv 1) (pv 1)) (pv 5)) (pe_op op_mulW (pe_op op_mul pe_int (pv 2)) (pv 5))) (pe_op op_mulW (pe_op op_mulW (pv 1) (pv 3)) (pv 4))) (pe_op op_mulW (pe_op op_mulW (pv 2) (pv 3)) (pv 3))) (pe_op op_mulW (pv 4) (pv 4))))
      (pss_cons (ps_set (i := 10) nd rfl (by first | exact Or.inl rfl | exact Or.inr rfl) (pe_op op_sub (pe_op op_mulW (pv 6) (pv 6)) (pe_op op_mul pe_int (pv 7))))
      (pss_cons (ps_set (i := 11) nd rfl (by first | exact Or.inl rfl | exact Or.inr rfl) (pe_op op_sub (pe_op op_sub (pe_op op_mulW (pe_op op_mul pe_int (pv 6)) (pv 7)) (pe_op op_mulW (pe_op op_mulW (pv 6) (pv 6)) (pv 6))) (pe_op op_mul pe_int (pv 8))))
      (pss_cons (ps_set (i := 12) nd rfl (by first | exact Or.inl rfl | exact Or.inr rfl) (pe_op op_sub (pe_op op_sub (pe_op op_sub (pe_op op_mulW (pe_op op_mulW (pe_op op_mul pe_int (pv 6)) (pv 7)) (pv 8)) (pe_op op_mulW (pe_op op_mulW (pv 6) (pv 6)) (pv 9))) (pe_op op_mulW (pe_op op_mulW (pe_op op_mul pe_int (pv 7)) (pv 7)) (pv 7))) (pe_op op_mulW (pe_op op_mul pe_int (pv 8)) (pv 8))))
      (pss_one (ps_ret (pe_tup (pa_cons (pv 6) (pa_cons (pv 7) (pa_cons (pv 8) (pa_cons (pv 9) (pa_cons (pv 10) (pa_cons (pv 11) (pa_cons (pv 12) pa_nil)))))))))))))))))), ?_⟩
    refine ⟨.ref p, rfl, p, c, rfl, hx, ?_⟩
    have e2 := hm.b2
    have e4 := hm.b4
    have e6 := hm.b6
    have e8 := hm.b8
    obtain ⟨h1, h2, h3, h4, h6⟩ := hm
    refine ⟨p, _, rfl, hx, rfl, _, _, rfl, _, _, rfl, _, _, rfl, _, _, rfl, _, _, rfl, rfl, ?_⟩
    first | refine sigN [some (.ref p), some (.int (c.a1)), some (.int (c.a2)), some (.int (c.a3)), some (.int (c.a4)), some (.int (c.a6)), none, none, none, none, none, none, none] (by rfl) ?_ | refine sig [some (.ref p), some (.int (c.a1)), some (.int (c.a2)), some (.int (c.a3)), some (.int (c.a4)), some (.int (c.a6)), none, none, none, none, none, none, none] (by rfl) ?_
    refine ⟨_, rfl, _, rfl, _, _, rfl, rfl, (by walk_at "bnd"), _, rfl, _, _, rfl, rfl, (Or.inl ⟨by decide, by decide⟩), _, _, rfl, rfl, ?_⟩
    first | refine sigN [some (.ref p), some (.int (c.a1)), some (.int (c.a2)), some (.int (c.a3)), some (.int (c.a4)), some (.int (c.a6)), some (.int (c.b2)), none, none, none, none, none, none] (by rfl) ?_ | refine sig [some (.ref p), some (.int (c.a1)), some (.int (c.a2)), some (.int (c.a3)), some (.int (c.a4)), some (.int (c.a6)), some (.int (c.b2)), none, none, none, none, none, none] (by rfl) ?_
    refine ⟨_, rfl, _, _, rfl, rfl, (Or.inl ⟨by decide, by decide⟩), _, rfl, _, rfl, _, _, rfl, rfl, (by walk_at "bnd"), _, _, rfl, rfl, ?_⟩
    first | refine sigN [some (.ref p), some (.int (c.a1)), some (.int (c.a2)), some (.int (c.a3)), some (.int (c.a4)), some (.int (c.a6)), some (.int (c.b2)), some (.int (c.b4)), none, none, none, none, none] (by rfl) ?_ | refine sig [some (.ref p), some (.int (c.a1)), some (.int (c.a2)), some (.int (c.a3)), some (.int (c.a4)), some (.int (c.a6)), some (.int (c.b2)), some (.int (c.b4)), none, none, none, none, none] (by rfl) ?_
    refine ⟨_, rfl, _, rfl, _, _, rfl, rfl, (by walk_at "bnd"), _, rfl, _, _, rfl, rfl, (Or.inl ⟨by decide, by decide⟩), _, _, rfl, rfl, ?_⟩
    first | refine sigN [some (.ref p), some (.int (c.a1)), some (.int (c.a2)), some (.int (c.a3)), some (.int (c.a4)), some (.int (c.a6)), some (.int (c.b2)), some (.int (c.b4)), some (.int (c.b6)), none, none, none, none] (by rfl) ?_ | refine sig [some (.ref p), some (.int (c.a1)), some (.int (c.a2)), some (.int (c.a3)), some (.int (c.a4)), some (.int (c.a6)), some (.int (c.b2)), some (.int (c.b4)), some (.int (c.b6)), none, none, none, none] (by rfl) ?_
    refine ⟨_, rfl, _, rfl, _, _, rfl, rfl, (by walk_at "bnd"), _, rfl, _, _, rfl, rfl, (by walk_at "bnd"), _, rfl, _, _, rfl, rfl, (Or.inl ⟨by decide, by decide⟩), _, rfl, _, _, rfl, rfl, (by walk_at "bnd"), _, _, rfl, rfl, _, rfl, _, rfl, _, _, rfl, rfl, (by walk_at "bnd"), _, rfl, _, _, rfl, rfl, (by walk_at "bnd"), _, _, rfl, rfl, _, rfl, _, rfl, _, _, rfl, rfl, (by walk_at "bnd"), _, rfl, _, _, rfl, rfl, (by walk_at "bnd"), _, _, rfl, rfl, _, rfl, _, rfl, _, _, rfl, rfl, (by walk_at "bnd"), _, _, rfl, rfl, ?_⟩
    first | refine sigN [some (.ref p), some (.int (c.a1)), some (.int (c.a2)), some (.int (c.a3)), some (.int (c.a4)), some (.int (c.a6)), some (.int (c.b2)), some (.int (c.b4)), some (.int (c.b6)), some (.int (c.b8)), none, none, none] (by rfl) ?_ | refine sig [some (.ref p), some (.int (c.a1)), some (.int (c.a2)), some (.int (c.a3)), some (.int (c.a4)), some (.int (c.a6)), some (.int (c.b2)), some (.int (c.b4)), some (.int (c.b6)), some (.int (c.b8)), none, none, none] (by rfl) ?_
    refine ⟨_, rfl, _, rfl, _, _, rfl, rfl, (by walk_at "bnd"), _, rfl, _, _, rfl, rfl, (Or.inl ⟨by decide, by decide⟩), _, _, rfl, rfl, ?_⟩
    first | refine sigN [some (.ref p), some (.int (c.a1)), some (.int (c.a2)), some (.int (c.a3)), some (.int (c.a4)), some (.int (c.a6)), some (.int (c.b2)), some (.int (c.b4)), some (.int (c.b6)), some (.int (c.b8)), some (.int (c.c4)), none, none] (by rfl) ?_ | refine sig [some (.ref p), some (.int (c.a1)), some (.int (c.a2)), some (.int (c.a3)), some (.int (c.a4)), some (.int (c.a6)), some (.int (c.b2)), some (.int (c.b4)), some (.int (c.b6)), some (.int (c.b8)), some (.int (c.c4)), none, none] (by rfl) ?_
    refine ⟨_, rfl, _, _, rfl, rfl, (Or.inl ⟨by decide, by decide⟩), _, rfl, _, _, rfl, rfl, (by walk_at "bnd"), _, rfl, _, rfl, _, _, rfl, rfl, (by walk_at "bnd"), _, rfl, _, _, rfl, rfl, (by walk_at "bnd"), _, _, rfl, rfl, _, rfl, _, _, rfl, rfl, (Or.inl ⟨by decide, by decide⟩), _, _, rfl, rfl, ?_⟩
    first | refine sigN [some (.ref p), some (.int (c.a1)), some (.int (c.a2)), some (.int (c.a3)), some (.int (c.a4)), some (.int (c.a6)), some (.int (c.b2)), some (.int (c.b4)), some (.int (c.b6)), some (.int (c.b8)), some (.int (c.c4)), some (.int (c.c6)), none] (by rfl) ?_ | refine sig [some (.ref p), some (.int (c.a1)), some (.int (c.a2)), some (.int (c.a3)), some (.int (c.a4)), some (.int (c.a6)), some (.int (c.b2)), some (.int (c.b4)), some (.int (c.b6)), some (.int (c.b8)), some (.int (c.c4)), some (.int (c.c6)), none] (by rfl) ?_
    refine ⟨_, rfl, _, _, rfl, rfl, (Or.inl ⟨by decide, by decide⟩), _, rfl, _, _, rfl, rfl, (by walk_at "bnd"), _, rfl, _, _, rfl, rfl, (by walk_at "bnd"), _, rfl, _, rfl, _, _, rfl, rfl, (by walk_at "bnd"), _, rfl, _, _, rfl, rfl, (by walk_at "bnd"), _, _, rfl, rfl, _, rfl, _, _, rfl, rfl, (Or.inl ⟨by decide, by decide⟩), _, rfl, _, _, rfl, rfl, (by walk_at "bnd"), _, rfl, _, _, rfl, rfl, (by walk_at "bnd"), _, _, rfl, rfl, _, rfl, _, _, rfl, rfl, (Or.inl ⟨by decide, by decide⟩), _, rfl, _, _, rfl, rfl, (by walk_at "bnd"), _, _, rfl, rfl, ?_⟩
    first | refine sigN [some (.ref p), some (.int (c.a1)), some (.int (c.a2)), some (.int (c.a3)), some (.int (c.a4)), some (.int (c.a6)), some (.int (c.b2)), some (.int (c.b4)), some (.int (c.b6)), some (.int (c.b8)), some (.int (c.c4)), some (.int (c.c6)), some (.int (c.disc))] (by rfl) ?_ | refine sig [some (.ref p), some (.int (c.a1)), some (.int (c.a2)), some (.int (c.a3)), some (.int (c.a4)), some (.int (c.a6)), some (.int (c.b2)), some (.int (c.b4)), some (.int (c.b6)), some (.int (c.b8)), some (.int (c.c4)), some (.int (c.c6)), some (.int (c.disc))] (by rfl) ?_
    refine ⟨_, rfl, _, rfl, _, rfl, _, rfl, _, rfl, _, rfl, _, rfl, (by show 7 ≤ sizeLine; decide), fun t2 nt2 => ?_⟩
    exact q t2 nt2
/-! ### lowest -/
def sp_lowest : PySem.W.Frag → Sp := spCut
abbrev s_lowest : Stmt := topS 8
theorem sc_lowest : FnScope ["n", "d", "shared"] ["n", "d"] (defScope s_lowest) := ⟨rfl, rfl, rfl, by decide +kernel, rfl, by decide +kernel, by decide +kernel⟩
theorem k_lowest (T : Tx K mg) (D : Df K mg "lowest" s_lowest ["n", "d"])  : Kl P w K mg base 1 "lowest" (sp_lowest K) := by
  have nd := sc_lowest.nd
  refine Kl.by_body D sc_lowest (fun vs H Q E h => ?_) (fun f cdv A outer s H vs Q E hr h => ?_)
  · obtain ⟨_, _, rfl, _⟩ := h
    rfl
  · obtain ⟨n, d, rfl, hd, hn, hb, q⟩ := h
    have hu1 := hu_of hr
    refine ⟨_, (pss_cons (ps_set (i := 2) nd rfl (by first | exact Or.inl rfl | exact Or.inr rfl) (pe_callBfun cr_gcd (by rfl) T.gcd (pa_cons (pv 0) (pa_cons (pv 1) pa_nil))))
      (pss_cons (ps_if (pt_cmpR op_lt (pv 1) pe_int (nomark _)) (pss_one (ps_set (i := 2) nd rfl (by first | exact Or.inl rfl | exact Or.inr rfl) (pe_un un_neg (pv 2)))) pss_nil)
      (pss_one (ps_ret (pe_tup (pa_cons (pe_op op_fdivAny (pv 0) (pv 2)) (pa_cons (pe_op op_fdivAny (pv 1) (pv 2)) pa_nil))))))), ?_⟩
    refine ⟨_, rfl, _, rfl, n, d, rfl, ?_⟩
    have h1 : sg n d ≠ 0 := sg_ne hd
    have h2 : CDivAny n (sg n d) := div_any h1 (sg_B hd hb) (by decide)
    have h3 : CDivAny d (sg n d) := div_any h1 (sg_B hd hb) (by decide)
    refine ⟨_, rfl, d, 0, rfl, rfl, _, rfl, ite2 (fun e => ?_) (fun e => ?_)⟩
    · have e' : d < 0 := of_decide_eq_true e
      have es : sg n d = -((Nat.gcd n.natAbs d.natAbs : Nat) : Int) := if_pos e'
      refine ⟨_, rfl, _, rfl, ?_⟩
      refine ⟨_, rfl, _, rfl, n, _, rfl, rfl, es ▸ h2, _, rfl, _, rfl, d, _, rfl, rfl, es ▸ h3, (by show 2 ≤ sizeLine; decide), fun t nt => ?_⟩
      rw [← fq_div hd, es] at q
      exact q t nt
    · have e' : ¬ d < 0 := fun z => e (decide_eq_true z)
      have es : sg n d = ((Nat.gcd n.natAbs d.natAbs : Nat) : Int) := if_neg e'
      refine ⟨_, rfl, _, rfl, n, _, rfl, rfl, es ▸ h2, _, rfl, _, rfl, d, _, rfl, rfl, es ▸ h3, (by show 2 ≤ sizeLine; decide), fun t nt => ?_⟩
      rw [← fq_div hd, es] at q
      exact q t nt
/-! ### the sums -/
def sp_plus : PySem.W.Frag → Sp := spBin (fun a b => True) (fun a b => a + b)
abbrev s_plus : Stmt := topS 42
theorem sc_plus : FnScope ["f", "g"] ["f", "g"] (defScope s_plus) := ⟨rfl, rfl, rfl, by decide +kernel, rfl, by decide +kernel, by decide +kernel⟩
theorem k_plus (T : Tx K mg) (D : Df K mg "plus" s_plus ["f", "g"]) (c_lowest : Kl P w K mg base 1 "lowest" (sp_lowest K)) : Kl P w K mg base 2 "plus" (sp_plus K) := by
  have nd := sc_plus.nd
  refine Kl.by_body D sc_plus (fun vs H Q E h => ?_) (fun f cdv A outer s H vs Q E hr h => ?_)
  · obtain ⟨_, _, _, _, rfl, _⟩ := h
    rfl
  · obtain ⟨f, g, a, b, rfl, hf, hg, ha, hb, h0, q⟩ := h
    have hu1 := hu_of hr
    refine ⟨_, (pss_one (ps_ret (pe_k c_lowest  hr (by decide) (by rfl) (pa_cons (pe_op op_add (pe_op op_mulW (pe_ix ix_tup (pv 0) pe_int (fun _ _ => rfl)) (pe_ix ix_tup (pv 1) pe_int (fun _ _ => rfl))) (pe_op op_mulW (pe_ix ix_tup (pv 1) pe_int (fun _ _ => rfl)) (pe_ix ix_tup (pv 0) pe_int (fun _ _ => rfl)))) (pa_cons (pe_op op_mulW (pe_ix ix_tup (pv 0) pe_int (fun _ _ => rfl)) (pe_ix ix_tup (pv 1) pe_int (fun _ _ => rfl))) pa_nil))))), ?_⟩
    refine ⟨.ref f, rfl, f, _, 0, .int a.num, rfl, rfl, hf, rfl, .ref g, rfl, g, _, 1, .int b.den, rfl, rfl, hg, rfl, _, _, rfl, rfl, (B.mulW ha.n hb.d (by decide)), .ref g, rfl, g, _, 0, .int b.num, rfl, rfl, hg, rfl, .ref f, rfl, f, _, 1, .int a.den, rfl, rfl, hf, rfl, _, _, rfl, rfl, (B.mulW hb.n ha.d (by decide)), _, _, rfl, rfl, .ref f, rfl, f, _, 1, .int a.den, rfl, rfl, hf, rfl, .ref g, rfl, g, _, 1, .int b.den, rfl, rfl, hg, rfl, _, _, rfl, rfl, (B.mulW ha.d hb.d (by decide)), _, _, rfl, (mul_ne (den_ne a) (den_ne b)), ((B.mul ha.n hb.d).add (B.mul hb.n ha.d)).up (by decide), (B.mul ha.d hb.d).up (by decide), fun t nt => ?_⟩
    rw [fr_add a b]
    exact q t nt
def sp_times : PySem.W.Frag → Sp := spBin (fun a b => True) (fun a b => a * b)
abbrev s_times : Stmt := topS 43
theorem sc_times : FnScope ["f", "g"] ["f", "g"] (defScope s_times) := ⟨rfl, rfl, rfl, by decide +kernel, rfl, by decide +kernel, by decide +kernel⟩
theorem k_times (T : Tx K mg) (D : Df K mg "times" s_times ["f", "g"]) (c_lowest : Kl P w K mg base 1 "lowest" (sp_lowest K)) : Kl P w K mg base 2 "times" (sp_times K) := by
  have nd := sc_times.nd
  refine Kl.by_body D sc_times (fun vs H Q E h => ?_) (fun f cdv A outer s H vs Q E hr h => ?_)
  · obtain ⟨_, _, _, _, rfl, _⟩ := h
    rfl
  · obtain ⟨f, g, a, b, rfl, hf, hg, ha, hb, h0, q⟩ := h
    have hu1 := hu_of hr
    refine ⟨_, (pss_one (ps_ret (pe_k c_lowest  hr (by decide) (by rfl) (pa_cons (pe_op op_mulW (pe_ix ix_tup (pv 0) pe_int (fun _ _ => rfl)) (pe_ix ix_tup (pv 1) pe_int (fun _ _ => rfl))) (pa_cons (pe_op op_mulW (pe_ix ix_tup (pv 0) pe_int (fun _ _ => rfl)) (pe_ix ix_tup (pv 1) pe_int (fun _ _ => rfl))) pa_nil))))), ?_⟩
    refine ⟨.ref f, rfl, f, _, 0, .int a.num, rfl, rfl, hf, rfl, .ref g, rfl, g, _, 0, .int b.num, rfl, rfl, hg, rfl, _, _, rfl, rfl, (B.mulW ha.n hb.n (by decide)), .ref f, rfl, f, _, 1, .int a.den, rfl, rfl, hf, rfl, .ref g, rfl, g, _, 1, .int b.den, rfl, rfl, hg, rfl, _, _, rfl, rfl, (B.mulW ha.d hb.d (by decide)), _, _, rfl, (mul_ne (den_ne a) (den_ne b)), (B.mul ha.n hb.n).up (by decide), (B.mul ha.d hb.d).up (by decide), fun t nt => ?_⟩
    rw [fr_mul a b]
    exact q t nt
def sp_over : PySem.W.Frag → Sp := spBin (fun a b => b ≠ 0) (fun a b => a / b)
abbrev s_over : Stmt := topS 44
theorem sc_over : FnScope ["f", "g"] ["f", "g"] (defScope s_over) := ⟨rfl, rfl, rfl, by decide +kernel, rfl, by decide +kernel, by decide +kernel⟩
theorem k_over (T : Tx K mg) (D : Df K mg "over" s_over ["f", "g"]) (c_lowest : Kl P w K mg base 1 "lowest" (sp_lowest K)) : Kl P w K mg base 2 "over" (sp_over K) := by
  have nd := sc_over.nd
  refine Kl.by_body D sc_over (fun vs H Q E h => ?_) (fun f cdv A outer s H vs Q E hr h => ?_)
  · obtain ⟨_, _, _, _, rfl, _⟩ := h
    rfl
  · obtain ⟨f, g, a, b, rfl, hf, hg, ha, hb, h0, q⟩ := h
    have hu1 := hu_of hr
    refine ⟨_, (pss_one (ps_ret (pe_k c_lowest  hr (by decide) (by rfl) (pa_cons (pe_op op_mulW (pe_ix ix_tup (pv 0) pe_int (fun _ _ => rfl)) (pe_ix ix_tup (pv 1) pe_int (fun _ _ => rfl))) (pa_cons (pe_op op_mulW (pe_ix ix_tup (pv 0) pe_int (fun _ _ => rfl)) (pe_ix ix_tup (pv 1) pe_int (fun _ _ => rfl))) pa_nil))))), ?_⟩
    refine ⟨.ref f, rfl, f, _, 0, .int a.num, rfl, rfl, hf, rfl, .ref g, rfl, g, _, 1, .int b.den, rfl, rfl, hg, rfl, _, _, rfl, rfl, (B.mulW ha.n hb.d (by decide)), .ref f, rfl, f, _, 1, .int a.den, rfl, rfl, hf, rfl, .ref g, rfl, g, _, 0, .int b.num, rfl, rfl, hg, rfl, _, _, rfl, rfl, (B.mulW ha.d hb.n (by decide)), _, _, rfl, (mul_ne (den_ne a) (num_ne h0)), (B.mul ha.n hb.d).up (by decide), (B.mul ha.d hb.n).up (by decide), fun t nt => ?_⟩
    rw [fr_div a b h0]
    exact q t nt
/-! ### whole_fraction -/
def sp_whole_fraction (K : PySem.W.Frag) : Sp := fun vs H Q _ => ∃ n : Int, vs = [.int n] ∧ ∀ t, H t = none → Q (.ref t) (upd H t (.tup (fq (n : Rat))))
abbrev s_whole_fraction : Stmt := topS 45
theorem sc_whole_fraction : FnScope ["n"] ["n"] (defScope s_whole_fraction) := ⟨rfl, rfl, rfl, by decide +kernel, rfl, by decide +kernel, by decide +kernel⟩
theorem k_whole_fraction (T : Tx K mg) (D : Df K mg "whole_fraction" s_whole_fraction ["n"])  : Kl P w K mg base 1 "whole_fraction" (sp_whole_fraction K) := by
  have nd := sc_whole_fraction.nd
  refine Kl.by_body D sc_whole_fraction (fun vs H Q E h => ?_) (fun f cdv A outer s H vs Q E hr h => ?_)
  · obtain ⟨_, rfl, _⟩ := h
    rfl
  · obtain ⟨n, rfl, q⟩ := h
    have hu1 := hu_of hr
    refine ⟨_, (pss_one (ps_ret (pe_tup (pa_cons (pv 0) (pa_cons pe_int pa_nil))))), ?_⟩
    refine ⟨_, rfl, (by show 2 ≤ sizeLine; decide), fun t nt => ?_⟩
    rw [fq_int] at q
    exact q t nt
/-! ### total, product -/
theorem foldl_take (op : Rat → Rat → Rat) (e : Rat) (ps : List (Addr × Rat)) {i : Nat} {p : Addr × Rat} (h : ps[i]? = some p) : (ps.take (i + 1)).foldl (fun x p => op x p.2) e = op ((ps.take i).foldl (fun x p => op x p.2) e) p.2 := by
  rw [List.take_succ, List.foldl_append, h]
  rfl
theorem map_get {ps : List (Addr × Rat)} {i : Nat} {x : V} (h : (ps.map fun p => V.ref p.1)[i]? = some x) : ∃ p, ps[i]? = some p ∧ x = .ref p.1 := by
  rw [List.getElem?_map] at h
  cases e : ps[i]? with
  | none =>
    rw [e] at h
    cases h
  | some p =>
    rw [e] at h
    exact ⟨p, rfl, (Option.some.inj h).symm⟩
def sp_total : PySem.W.Frag → Sp := spSum (· + ·) 0
theorem q0 : [V.int 0, V.int 1] = fq 0 := rfl
theorem q1 : [V.int 1, V.int 1] = fq 1 := rfl
theorem _root_.QM.RB.zero : RB 1 (0 : Rat) := ⟨by decide, by decide⟩
theorem _root_.QM.RB.one : RB 1 (1 : Rat) := ⟨by decide, by decide⟩
abbrev s_total : Stmt := topS 46
theorem sc_total : FnScope ["fractions", "result", "f"] ["fractions"] (defScope s_total) := ⟨rfl, rfl, rfl, by decide +kernel, rfl, by decide +kernel, by decide +kernel⟩
theorem k_total (T : Tx K mg) (D : Df K mg "total" s_total ["fractions"]) (c_plus : Kl P w K mg base 2 "plus" (sp_plus K)) : Kl P w K mg base 3 "total" (sp_total K) := by
  have nd := sc_total.nd
  refine Kl.by_body D sc_total (fun vs H Q E h => ?_) (fun f cdv A outer s H vs Q E hr h => ?_)
  · obtain ⟨_, _, _, rfl, _⟩ := h
    rfl
  · obtain ⟨l, ps, m, rfl, hx, hp, hl, q⟩ := h
    have hu1 := hu_of hr
    refine ⟨_, (pss_cons (ps_set (i := 1) nd rfl (by first | exact Or.inl rfl | exact Or.inr rfl) (pe_tup (pa_cons pe_int (pa_cons pe_int pa_nil))))
      (pss_cons (ps_for PassesOwn.never rfl (pi_list (pv 0)) (pg_name (i := 2) nd rfl (by first | exact Or.inl rfl | exact Or.inr rfl)) (pss_one (ps_set (i := 1) nd rfl (by first | exact Or.inl rfl | exact Or.inr rfl) (pe_k c_plus  hr (by decide) (by rfl) (pa_cons (pv 1) (pa_cons (pv 2) pa_nil))))))
      (pss_one (ps_ret (pv 1))))), ?_⟩
    refine ⟨(by show 2 ≤ sizeLine; decide), fun r nr => ?_⟩
    rw [q0]
    have s1 := Same.new (H := H) (p := r) (o := .tup (fq 0)) nr
    have g1 : upd H r (.tup (fq 0)) r = some (.tup (fq 0)) := upd_same
    generalize upd H r (.tup (fq 0)) = H1 at s1 g1 ⊢
    refine ⟨_, rfl, l, rfl, ⟨_, s1.seq hx⟩, for_list (K := K) (a := l) (xs := ps.map fun p => .ref p.1) (fun i σ H2 => Same H H2 ∧ ∃ (r : Addr) (v : Option V), σ = [some (.ref l), some (.ref r), v] ∧ H r = none ∧ H2 r = some (.tup (fq ((ps.take i).foldl (fun x p => x + p.2) 0))) ∧ RB (i * (m + 1) + 1) ((ps.take i).foldl (fun x p => x + p.2) 0)) ⟨s1, r, none, rfl, nr, g1, RB.zero.up (by omega)⟩ (fun i σ H2 _ z => z.1.seq hx) ?_ ?_⟩
    · rintro i x σ H2 hi ⟨s2, r2, v, rfl, n2, g2, b2⟩
      obtain ⟨p, hpi, rfl⟩ := map_get hi
      obtain ⟨h1, h2⟩ := hp p (List.mem_of_getElem? hpi)
      have hi2 : i < ps.length := (List.getElem?_eq_some_iff.mp hpi).1
      have hsz : (i + 1) * (m + 1) ≤ 2900 := Nat.le_trans (Nat.mul_le_mul_right _ hi2) hl
      rw [Nat.add_mul, Nat.one_mul] at hsz
      refine ⟨_, rfl, _, rfl, r2, p.1, _, _, rfl, tup_of g2, Same.tup s2 h1, b2.up (by omega), h2.up (by omega), trivial, fun t nt => ?_⟩
      refine ⟨Same.put s2 (s2.free nt), t, _, rfl, s2.free nt, ?_, ?_⟩
      · rw [upd_same, foldl_take _ _ _ hpi]
      · rw [foldl_take (fun a b => a + b) 0 _ hpi]
        exact (b2.add h2).up (by rw [Nat.add_mul]; omega)
    · rintro σ H2 ⟨s2, r2, v, rfl, n2, g2, b2⟩
      rw [List.length_map, List.take_length] at g2
      rw [List.length_map, List.take_length] at b2
      exact ⟨_, rfl, q _ r2 s2 n2 g2 b2⟩
def sp_product : PySem.W.Frag → Sp := spSum (· * ·) 1
abbrev s_product : Stmt := topS 47
theorem sc_product : FnScope ["fractions", "result", "f"] ["fractions"] (defScope s_product) := ⟨rfl, rfl, rfl, by decide +kernel, rfl, by decide +kernel, by decide +kernel⟩
theorem k_product (T : Tx K mg) (D : Df K mg "product" s_product ["fractions"]) (c_times : Kl P w K mg base 2 "times" (sp_times K)) : Kl P w K mg base 3 "product" (sp_product K) := by
  have nd := sc_product.nd
  refine Kl.by_body D sc_product (fun vs H Q E h => ?_) (fun f cdv A outer s H vs Q E hr h => ?_)
  · obtain ⟨_, _, _, rfl, _⟩ := h
    rfl
  · obtain ⟨l, ps, m, rfl, hx, hp, hl, q⟩ := h
    have hu1 := hu_of hr
    refine ⟨_, (pss_cons (ps_set (i := 1) nd rfl (by first | exact Or.inl rfl | exact Or.inr rfl) (pe_tup (pa_cons pe_int (pa_cons pe_int pa_nil))))
      (pss_cons (ps_for PassesOwn.never rfl (pi_list (pv 0)) (pg_name (i := 2) nd rfl (by first | exact Or.inl rfl | exact Or.inr rfl)) (pss_one (ps_set (i := 1) nd rfl (by first | exact Or.inl rfl | exact Or.inr rfl) (pe_k c_times  hr (by decide) (by rfl) (pa_cons (pv 1) (pa_cons (pv 2) pa_nil))))))
      (pss_one (ps_ret (pv 1))))), ?_⟩
    refine ⟨(by show 2 ≤ sizeLine; decide), fun r nr => ?_⟩
    rw [q1]
    have s1 := Same.new (H := H) (p := r) (o := .tup (fq 1)) nr
    have g1 : upd H r (.tup (fq 1)) r = some (.tup (fq 1)) := upd_same
    generalize upd H r (.tup (fq 1)) = H1 at s1 g1 ⊢
    refine ⟨_, rfl, l, rfl, ⟨_, s1.seq hx⟩, for_list (K := K) (a := l) (xs := ps.map fun p => .ref p.1) (fun i σ H2 => Same H H2 ∧ ∃ (r : Addr) (v : Option V), σ = [some (.ref l), some (.ref r), v] ∧ H r = none ∧ H2 r = some (.tup (fq ((ps.take i).foldl (fun x p => x * p.2) 1))) ∧ RB (i * (m + 1) + 1) ((ps.take i).foldl (fun x p => x * p.2) 1)) ⟨s1, r, none, rfl, nr, g1, RB.one.up (by omega)⟩ (fun i σ H2 _ z => z.1.seq hx) ?_ ?_⟩
    · rintro i x σ H2 hi ⟨s2, r2, v, rfl, n2, g2, b2⟩
      obtain ⟨p, hpi, rfl⟩ := map_get hi
      obtain ⟨h1, h2⟩ := hp p (List.mem_of_getElem? hpi)
      have hi2 : i < ps.length := (List.getElem?_eq_some_iff.mp hpi).1
      have hsz : (i + 1) * (m + 1) ≤ 2900 := Nat.le_trans (Nat.mul_le_mul_right _ hi2) hl
      rw [Nat.add_mul, Nat.one_mul] at hsz
      refine ⟨_, rfl, _, rfl, r2, p.1, _, _, rfl, tup_of g2, Same.tup s2 h1, b2.up (by omega), h2.up (by omega), trivial, fun t nt => ?_⟩
      refine ⟨Same.put s2 (s2.free nt), t, _, rfl, s2.free nt, ?_, ?_⟩
      · rw [upd_same, foldl_take _ _ _ hpi]
      · rw [foldl_take (fun a b => a * b) 1 _ hpi]
        exact (b2.mul h2).up (by rw [Nat.add_mul]; omega)
    · rintro σ H2 ⟨s2, r2, v, rfl, n2, g2, b2⟩
      rw [List.length_map, List.take_length] at g2
      rw [List.length_map, List.take_length] at b2
      exact ⟨_, rfl, q _ r2 s2 n2 g2 b2⟩
end
end K08
set_option Elab.async false
set_option linter.all false
set_option maxRecDepth 100000
set_option maxHeartbeats 4000000
namespace K08
open PySem PySem.Spec PyProof.Rows L2 Gd QM
section
variable {P : Program} {w : World} {K : PySem.W.Frag} {mg : Str → Option Value} {base : Heap}
/-! ### power -/
theorem pw_odd (y x : Int) {j : Nat} (h : j % 2 = 1) : y * x ^ j = y * x * (x * x) ^ (j / 2) := by
  have e : j = 2 * (j / 2) + 1 := by omega
  have e2 : x ^ j = x ^ (j / 2) * x ^ (j / 2) * x := by
    calc x ^ j = x ^ (2 * (j / 2) + 1) := by rw [← e]
      _ = _ := by rw [Int.pow_succ, Nat.two_mul, Int.pow_add]
  have e3 : (x * x) ^ (j / 2) = x ^ (j / 2) * x ^ (j / 2) := Int.mul_pow ..
  rw [e2, e3]
  grind
theorem pw_even (y x : Int) {j : Nat} (h : j % 2 = 0) : y * x ^ j = y * (x * x) ^ (j / 2) := by
  have e : j = 2 * (j / 2) := by omega
  have e2 : x ^ j = x ^ (j / 2) * x ^ (j / 2) := by
    calc x ^ j = x ^ (2 * (j / 2)) := by rw [← e]
      _ = _ := by rw [Nat.two_mul, Int.pow_add]
  have e3 : (x * x) ^ (j / 2) = x ^ (j / 2) * x ^ (j / 2) := Int.mul_pow ..
  rw [e2, e3]
def sp_power (K : PySem.W.Frag) : Sp := fun vs H Q _ => ∃ (a e : Int), vs = [.int a, .int e] ∧ 0 ≤ e ∧ e ≤ 8 ∧ B 400 a ∧ Q (.int (a ^ e.toNat)) H
abbrev s_power : Stmt := topS 7
theorem sc_power : FnScope ["a", "e", "result"] ["a", "e"] (defScope s_power) := ⟨rfl, rfl, rfl, by decide +kernel, rfl, by decide +kernel, by decide +kernel⟩
theorem k_power (T : Tx K mg) (D : Df K mg "power" s_power ["a", "e"])  : Kl P w K mg base 1 "power" (sp_power K) := by
  have nd := sc_power.nd
  refine Kl.by_body D sc_power (fun vs H Q E h => ?_) (fun f cdv A outer s H vs Q E hr h => ?_)
  · obtain ⟨_, _, rfl, _⟩ := h
    rfl
  · obtain ⟨a, e, rfl, h0, h8, ha, q⟩ := h
    have hu1 := hu_of hr
    refine ⟨_, (pss_cons (ps_set (i := 2) nd rfl (by first | exact Or.inl rfl | exact Or.inr rfl) pe_int)
      (pss_cons (ps_while PassesOwn.never (pt_cmpR op_gt (pv 1) pe_int (nomark _)) (C8.pss_cut (ps_if (pt_truth (pe_op op_and (pv 1) pe_int) (fun _ => rfl)) (pss_one (ps_set (i := 2) nd rfl (by first | exact Or.inl rfl | exact Or.inr rfl) (pe_op op_mulW (pv 2) (pv 0)))) pss_nil)
      (pss_cons (ps_set (i := 1) nd rfl (by first | exact Or.inl rfl | exact Or.inr rfl) (pe_op op_shr (pv 1) pe_int))
      (pss_one (ps_if (pt_cmpR op_gt (pv 1) pe_int (nomark _)) (pss_one (ps_set (i := 0) nd rfl (by first | exact Or.inl rfl | exact Or.inr rfl) (pe_op op_mulW (pv 0) (pv 0)))) pss_nil)))))
      (pss_one (ps_ret (pv 2))))), ?_⟩
    refine while_by (fun σ H2 => ∃ (x y : Int) (j i : Nat), σ = [some (.int x), some (.int (j : Int)), some (.int y)] ∧ H2 = H ∧ y * x ^ j = a ^ e.toNat ∧ j * 2 ^ i ≤ 8 ∧ (j ≠ 0 → B (400 * 2 ^ i) x) ∧ B (400 * 2 ^ i) y ∧ i ≤ 4)
      (fun σ _ => match σ with | [_, some (.int j), _] => j.toNat | _ => 0) ⟨a, 1, e.toNat, 0, ?_, rfl, Int.one_mul _, by omega, fun _ => ha, B.lit (by decide), by decide⟩ ?_ ?_
    · rw [show ((e.toNat : Nat) : Int) = e by omega]
      rfl
    · rintro σ H2 ⟨x, y, j, i, rfl, rfl, h1, h2, h3, h4, h5⟩
      refine ⟨_, rfl, _, _, rfl, rfl, _, rfl, ?_⟩
      by_cases hj : j = 0
      · subst hj
        refine iteN (by simp) ?_
        refine ⟨_, rfl, ?_⟩
        rw [Int.pow_zero, Int.mul_one] at h1
        rw [h1]
        exact q
      · refine iteY (by simp; omega) ?_
        have hx := h3 hj
        have hi : i ≤ 3 := by
          rcases Nat.lt_or_ge 3 i with z | z
          · have h6 : 1 * 2 ^ 4 ≤ j * 2 ^ i := Nat.mul_le_mul (by omega) (Nat.pow_le_pow_right (by decide) z)
            omega
          · exact z
        have e2 : 400 * 2 ^ (i + 1) = 400 * 2 ^ i + 400 * 2 ^ i := by rw [Nat.pow_succ]; omega
        have hw : 400 * 2 ^ i ≤ 3200 := by
          have h6 : 2 ^ i ≤ 2 ^ 3 := Nat.pow_le_pow_right (by decide) hi
          omega
        have hd : (j / 2) * 2 ^ (i + 1) ≤ 8 := by
          rw [Nat.pow_succ]
          have h6 : (j / 2) * 2 ≤ j := Nat.div_mul_le_self j 2
          have h7 : (j / 2) * 2 * 2 ^ i ≤ j * 2 ^ i := Nat.mul_le_mul_right _ h6
          calc j / 2 * (2 ^ i * 2) = (j / 2) * 2 * 2 ^ i := by rw [Nat.mul_comm (2 ^ i) 2, Nat.mul_assoc]
            _ ≤ _ := Nat.le_trans h7 h2
        refine ⟨fun σ H3 => H3 = H2 ∧ σ = [some (.int x), some (.int (j : Int)), some (.int (if j % 2 = 1 then y * x else y))], ?_, ?_⟩
        · refine ⟨_, rfl, (j : Int), 1, rfl, rfl, _, rfl, ?_⟩
          rw [bitAnd_m1]
          by_cases hp : j % 2 = 1
          · refine iteY (by simp; omega) ?_
            refine ⟨_, rfl, _, rfl, _, _, rfl, rfl, h4.mulW hx (by omega), rfl, ?_⟩
            rw [if_pos hp]
            rfl
          · refine iteN (by simp; omega) ?_
            refine ⟨rfl, ?_⟩
            rw [if_neg hp]
        · rintro σ H3 ⟨rfl, rfl⟩
          refine ⟨_, rfl, _, _, rfl, rfl, by omega, ?_⟩
          have hy : B (400 * 2 ^ (i + 1)) (if j % 2 = 1 then y * x else y) := by
            rw [e2]
            split
            · exact h4.mul hx
            · exact h4.up (by omega)
          have hj2 : (j : Int) / 2 ^ (1 : Int).toNat = ((j / 2 : Nat) : Int) := by
            show (j : Int) / 2 = _
            omega
          refine sigN [some (.int x), some (.int ((j / 2 : Nat) : Int)), some (.int (if j % 2 = 1 then y * x else y))] (by rw [← hj2]; rfl) ?_
          refine ⟨_, rfl, _, _, rfl, rfl, _, rfl, ?_⟩
          by_cases hk : j / 2 = 0
          · rw [hk]
            refine iteN (by simp) ?_
            have hj1 : j = 1 := by omega
            subst hj1
            rw [Int.pow_one] at h1
            exact ⟨⟨x, _, 0, i + 1, rfl, rfl, (by rw [Int.pow_zero, Int.mul_one]; exact h1), by omega, fun z => absurd rfl z, hy, by omega⟩, by show (0 : Int).toNat < ((1 : Nat) : Int).toNat; decide⟩
          · refine iteY (by simp; omega) ?_
            refine ⟨_, rfl, _, rfl, _, _, rfl, rfl, hx.mulW hx (by omega), ?_⟩
            refine ⟨⟨x * x, _, j / 2, i + 1, rfl, rfl, ?_, hd, fun _ => ?_, hy, by omega⟩, ?_⟩
            · rw [← h1]
              split
              · rename_i hp
                exact (pw_odd y x hp).symm
              · rename_i hp
                exact (pw_even y x (by omega)).symm
            · rw [e2]
              exact hx.mul hx
            · show ((j / 2 : Nat) : Int).toNat < ((j : Nat) : Int).toNat
              omega
    · rintro σ H2 Q1 Q2 i ⟨v, hv, x, y, e1, e2, k, e, z⟩
      exact ⟨v, hv, x, y, e1, e2, k, e, i _ _ z⟩
/-! ### root_of -/
def sp_root_of (K : PySem.W.Frag) : Sp := fun vs H Q _ => ∃ (n : Int) (m : Nat), vs = [.int n, .int ((m : Int) + 1)] ∧ 0 ≤ n ∧ B 200 n ∧ 1 ≤ m ∧ m ≤ 5 ∧ ∀ r, 0 ≤ r → B 400 r → r ^ (m + 1) ≤ n → (∀ s, 0 ≤ s → s ^ (m + 1) ≤ n → s ≤ r) → Q (.int r) H
abbrev s_root_of : Stmt := topS 9
theorem sc_root_of : FnScope ["n", "k", "r", "better"] ["n", "k"] (defScope s_root_of) := ⟨rfl, rfl, rfl, by decide +kernel, rfl, by decide +kernel, by decide +kernel⟩
theorem k_root_of (T : Tx K mg) (D : Df K mg "root_of" s_root_of ["n", "k"]) (c_power : Kl P w K mg base 1 "power" (sp_power K)) : Kl P w K mg base 2 "root_of" (sp_root_of K) := by
  have nd := sc_root_of.nd
  refine Kl.by_body D sc_root_of (fun vs H Q E h => ?_) (fun f cdv A outer s H vs Q E hr h => ?_)
  · obtain ⟨_, _, rfl, _⟩ := h
    rfl
  · obtain ⟨n, m, rfl, h0, hn, hm1, hm5, q⟩ := h
    have hu1 := hu_of hr
    refine ⟨_, (pss_cons (ps_if (PW.pt (pw_or (pt_cmpR op_lt (pv 0) pe_int (nomark _)) (pw_or1 (pt_cmpR op_eq (pv 1) pe_int (nomark _))))) (pss_one (ps_ret (pv 0))) pss_nil)
      (pss_cons (ps_if (pt_cmpR op_eq (pv 1) pe_int (nomark _)) (pss_one (ps_ret (pe_callBfun cr_isqrt (by rfl) T.isqrt (pa_cons (pv 0) pa_nil)))) pss_nil)
      (pss_cons (ps_set (i := 2) nd rfl (by first | exact Or.inl rfl | exact Or.inr rfl) (pe_op op_shlN pe_int (pe_op op_add (pe_op op_fdivAny (pe_bits (pv 0)) (pv 1)) pe_int)))
      (pss_one (ps_while PassesOwn.never (pt_val pe_bl) (pss_cons (ps_set (i := 3) nd rfl (by first | exact Or.inl rfl | exact Or.inr rfl) (pe_op op_fdivAny (pe_op op_add (pe_op op_mulW (pe_op op_sub (pv 1) pe_int) (pv 2)) (pe_op op_fdivAny (pv 0) (pe_k c_power  hr (by decide) (by rfl) (pa_cons (pv 2) (pa_cons (pe_op op_sub (pv 1) pe_int) pa_nil))))) (pv 1)))
      (pss_cons (ps_if (pt_cmpR op_ge (pv 3) (pv 2) (nomark _)) (pss_one (ps_ret (pv 2))) pss_nil)
      (pss_one (ps_set (i := 2) nd rfl (by first | exact Or.inl rfl | exact Or.inr rfl) (pv 3)))))))))), ?_⟩
    have bm : B 4 ((m : Int) + 1) := by
      unfold B
      omega
    refine ⟨_, rfl, n, 2, rfl, rfl, _, rfl, ?_⟩
    by_cases hn2 : n < 2
    · refine iteY (by simpa using hn2) ?_
      exact ⟨_, rfl, q n h0 (hn.up (by decide)) (pow01 h0 hn2 (by omega)) (fun s hs h => small_root hs (by omega) h)⟩
    · refine iteN (by simpa using hn2) ?_
      refine ⟨_, rfl, rfl, _, rfl, ?_⟩
      rw [dec_int]
      refine iteN (by simp; omega) ?_
      refine ⟨_, rfl, rfl, _, rfl, ?_⟩
      rw [dec_int]
      by_cases hk2 : (m : Int) + 1 = 2
      · refine iteY (by simpa using hk2) ?_
        obtain rfl : m = 1 := by omega
        obtain ⟨z1, z2⟩ := isqrt_is h0
        have hB4 : n.natAbs < 2 ^ 4000 := hn.up (n := 4000) (by decide)
        refine ⟨_, rfl, n, rfl, h0, hB4, ?_⟩
        generalize ((PySem.Float64.isqrt n.toNat : Nat) : Int) = y at z1 z2
        have hy0 : 0 ≤ y := by
          have := z2 0 (by decide) (by omega)
          omega
        have hyn : y ≤ n := by
          rcases (show y = 0 ∨ 1 ≤ y by omega) with e | e
          · omega
          · have := Int.mul_le_mul_of_nonneg_left e hy0
            omega
        have hyB : B 400 y := by
          refine B.up (m := 200) ?_ (by decide)
          unfold B at hn ⊢
          omega
        exact q y hy0 hyB (by rw [Int.pow_succ, Int.pow_succ, Int.pow_zero, Int.one_mul]; exact z1) (fun s hs h => z2 s hs (by rw [Int.pow_succ, Int.pow_succ, Int.pow_zero, Int.one_mul] at h; exact h))
      refine iteN (by simpa using hk2) ?_
      have hdv : ((Builtin.Int.intBits n : Nat) : Int).fdiv ((m : Int) + 1) + 1 = ((Builtin.Int.intBits n / (m + 1) + 1 : Nat) : Int) := by
        rw [Int.fdiv_eq_ediv_of_nonneg _ (by omega)]
        push_cast
        rfl
      have hbl : Builtin.Int.intBits n ≤ 200 := PyProof.Rows.intBits_le hn
      have hb2 : n.natAbs < 2 ^ Builtin.Int.intBits n := by
        unfold Builtin.Int.intBits
        rw [if_neg (by simp; omega)]
        exact Nat.lt_log2_self
      have hdl : Builtin.Int.intBits n / (m + 1) ≤ 100 := by
        have h1 : Builtin.Int.intBits n / (m + 1) ≤ Builtin.Int.intBits n / 2 := Nat.div_le_div_left (by omega) (by decide)
        omega
      refine ⟨_, rfl, n, rfl, _, rfl, _, _, rfl, rfl, div_any (by omega) bm (by decide), _, _, rfl, rfl, 1, Builtin.Int.intBits n / (m + 1) + 1, rfl, congrArg V.int hdv, shl_ok (n := 1) (by decide) (by omega), ?_⟩
      have hB : B 120 (1 * 2 ^ (Builtin.Int.intBits n / (m + 1) + 1) : Int) := by
        unfold B
        rw [Int.one_mul, Int.natAbs_pow]
        exact Nat.pow_lt_pow_right (by decide) (by omega)
      have hP : (1 : Int) ≤ 1 * 2 ^ (Builtin.Int.intBits n / (m + 1) + 1) := by
        have : (0 : Int) < 2 ^ (Builtin.Int.intBits n / (m + 1) + 1) := Int.pow_pos (by decide)
        omega
      refine while_by (fun σ H2 => ∃ (r : Int) (v : Option V), σ = [some (.int n), some (.int ((m : Int) + 1)), some (.int r), v] ∧ H2 = H ∧ 1 ≤ r ∧ B 120 r ∧ ∀ s, 0 ≤ s → s ^ (m + 1) ≤ n → s ≤ r)
        (fun σ _ => match σ with | [_, _, some (.int r), _] => r.toNat | _ => 0) ⟨_, none, rfl, rfl, hP, hB, fun s hs h => start_ge hs hb2 (by omega) h⟩ ?_ ?_
      · rintro σ H2 ⟨r, v, rfl, rfl, h1, hr2, hup⟩
        refine ⟨true, rfl, iteY rfl ?_⟩
        have e1 : (m : Int) + 1 - 1 = m := by omega
        have hpB : B 800 (r ^ m) := (hr2.pow m).up (by omega)
        have hp0 : 0 < r ^ m := Int.pow_pos (by omega)
        refine ⟨_, rfl, _, _, rfl, rfl, _, rfl, _, _, rfl, rfl, B.mulW (m := 4) (n := 120) (by unfold B; omega) hr2 (by decide), _, rfl, _, rfl, _, rfl, _, _, rfl, rfl, r, (m : Int), congrArg (fun z => [V.int r, V.int z]) e1, by omega, by omega, hr2.up (by decide), ?_⟩
        refine ⟨n, r ^ m, rfl, rfl, div_any (by omega) hpB (by decide), _, _, rfl, rfl, _, rfl, _, _, rfl, rfl, div_any (by omega) bm (by decide), ?_⟩
        refine sigN [some (.int n), some (.int ((m : Int) + 1)), some (.int r), some (.int (((m : Int) * r + n.fdiv (r ^ m)).fdiv ((m : Int) + 1)))] (by show [some (V.int n), some (V.int ((m : Int) + 1)), some (V.int r), some (V.int ((((m : Int) + 1 - 1) * r + n.fdiv (r ^ m)).fdiv ((m : Int) + 1)))] = _; rw [e1]) ?_
        have g1 := newton_ge (n := n) (r := r) (s := 1) (k := m) h1 (by decide) (by rw [Int.one_pow]; omega)
        refine ⟨_, rfl, _, rfl, _, _, rfl, rfl, _, rfl, ?_⟩
        by_cases hge : r ≤ ((m : Int) * r + n.fdiv (r ^ m)).fdiv ((m : Int) + 1)
        · refine iteY (by simpa using hge) ?_
          exact ⟨_, rfl, q r (by omega) (hr2.up (by decide)) (newton_le h1 hge) hup⟩
        · refine iteN (by simpa using hge) ?_
          refine ⟨_, rfl, ⟨_, _, rfl, rfl, g1, ?_, fun s hs h => newton_ge h1 hs h⟩, ?_⟩
          · unfold B at *
            omega
          · show Int.toNat _ < Int.toNat _
            omega
      · rintro σ H2 Q1 Q2 i ⟨c, hc, z⟩
        exact ⟨c, hc, i _ _ z⟩
/-! ### exact_root, where there is a root -/
def sp_exact_root0 (K : PySem.W.Frag) : Sp := fun vs H Q _ => ∃ (n r : Int) (m : Nat), vs = [.int n, .int ((m : Int) + 1)] ∧ B 200 n ∧ (m = 1 ∨ m = 2) ∧ 0 ≤ r ∧ r ^ (m + 1) = n ∧ Q (.int r) H
abbrev s_exact_root : Stmt := topS 10
theorem sc_exact_root : FnScope ["n", "k", "r"] ["n", "k"] (defScope s_exact_root) := ⟨rfl, rfl, rfl, by decide +kernel, rfl, by decide +kernel, by decide +kernel⟩
theorem k_exact_root0 (T : Tx K mg) (D : Df K mg "exact_root" s_exact_root ["n", "k"]) (c_root_of : Kl P w K mg base 2 "root_of" (sp_root_of K)) (c_power : Kl P w K mg base 1 "power" (sp_power K)) : Kl P w K mg base 3 "exact_root" (sp_exact_root0 K) := by
  have nd := sc_exact_root.nd
  refine Kl.by_body D sc_exact_root (fun vs H Q E h => ?_) (fun f cdv A outer s H vs Q E hr h => ?_)
  · obtain ⟨_, _, _, rfl, _⟩ := h
    rfl
  · obtain ⟨n, r, m, rfl, hn, hm, r0, hr1, q⟩ := h
    have c_exact_root : Kl P w K mg base (0 + 1) "exact_root" (fun _ _ _ _ => False) := Kl.by_body D sc_exact_root (fun _ _ _ _ h => h.elim) (fun _ _ _ _ _ _ _ _ _ _ h => h.elim)
    have hu1 := hu_of hr
    refine ⟨_, (pss_cons (ps_if (pt_cmpR op_lt (pv 0) pe_int (nomark _)) (pss_cons (ps_if (pt_cmpR op_eq (pe_op op_mod (pv 1) pe_int) pe_int (nomark _)) (pss_one (ps_ret pe_non)) pss_nil)
      (pss_cons (ps_set (i := 2) nd rfl (by first | exact Or.inl rfl | exact Or.inr rfl) (pe_k c_exact_root  hr (by decide) (by rfl) (pa_cons (pe_un un_neg (pv 0)) (pa_cons (pv 1) pa_nil))))
      (pss_one (ps_ret (pe_ifExp (pt_cmpR op_isN (pv 2) pe_non (nomark _)) pe_non (pe_un un_neg (pv 2))))))) pss_nil)
      (pss_cons (ps_set (i := 2) nd rfl (by first | exact Or.inl rfl | exact Or.inr rfl) (pe_k c_root_of  hr (by decide) (by rfl) (pa_cons (pv 0) (pa_cons (pv 1) pa_nil))))
      (pss_one (ps_ret (pe_ifExp (pt_cmpR op_eq (pe_k c_power  hr (by decide) (by rfl) (pa_cons (pv 2) (pa_cons (pv 1) pa_nil))) (pv 0) (nomark _)) (pv 2) pe_non))))), ?_⟩
    have hn0 : ¬ n < 0 := by
      have : 0 ≤ r ^ (m + 1) := Int.pow_nonneg r0
      omega
    refine ⟨_, rfl, n, 0, rfl, rfl, _, rfl, ?_⟩
    refine iteN (by simpa using hn0) ?_
    refine ⟨_, rfl, _, rfl, n, m, rfl, by omega, hn, by omega, by omega, fun y y0 yB yle ymax => ?_⟩
    have hy : y = r := by
      have h1 := ymax r r0 (by omega)
      rcases (show r < y ∨ y ≤ r by omega) with z | z
      · exfalso
        have h2 := Nat.pow_lt_pow_left (show r.natAbs < y.natAbs by omega) (show m + 1 ≠ 0 by omega)
        rw [← Int.natAbs_pow, ← Int.natAbs_pow] at h2
        have h3 : 0 ≤ y ^ (m + 1) := Int.pow_nonneg y0
        have h4 : 0 ≤ r ^ (m + 1) := Int.pow_nonneg r0
        omega
      · omega
    subst hy
    refine ⟨_, rfl, _, rfl, y, (m : Int) + 1, rfl, by omega, by omega, yB, _, rfl, rfl, _, rfl, ?_⟩
    rw [dec_int]
    have e : ((m : Int) + 1).toNat = m + 1 := by omega
    rw [e]
    refine iteY (by simp [hr1]) ?_
    exact ⟨_, rfl, q⟩
def sp_exact_root (K : PySem.W.Frag) : Sp := fun vs H Q _ => ∃ (n r : Int) (m : Nat), vs = [.int n, .int ((m : Int) + 1)] ∧ B 200 n ∧ (m = 1 ∧ 0 ≤ r ∨ m = 2) ∧ r ^ (m + 1) = n ∧ Q (.int r) H
theorem k_exact_root (T : Tx K mg) (D : Df K mg "exact_root" s_exact_root ["n", "k"]) (c_root_of : Kl P w K mg base 2 "root_of" (sp_root_of K)) (c_power : Kl P w K mg base 1 "power" (sp_power K)) : Kl P w K mg base 4 "exact_root" (sp_exact_root K) := by
  have nd := sc_exact_root.nd
  refine Kl.by_body D sc_exact_root (fun vs H Q E h => ?_) (fun f cdv A outer s H vs Q E hr h => ?_)
  · obtain ⟨_, _, _, rfl, _⟩ := h
    rfl
  · obtain ⟨n, r, m, rfl, hn, hm, hr1, q⟩ := h
    have c_exact_root := k_exact_root0 T D c_root_of c_power
    have hu1 := hu_of hr
    refine ⟨_, (pss_cons (ps_if (pt_cmpR op_lt (pv 0) pe_int (nomark _)) (pss_cons (ps_if (pt_cmpR op_eq (pe_op op_mod (pv 1) pe_int) pe_int (nomark _)) (pss_one (ps_ret pe_non)) pss_nil)
      (pss_cons (ps_set (i := 2) nd rfl (by first | exact Or.inl rfl | exact Or.inr rfl) (pe_k c_exact_root  hr (by decide) (by rfl) (pa_cons (pe_un un_neg (pv 0)) (pa_cons (pv 1) pa_nil))))
      (pss_one (ps_ret (pe_ifExp (pt_cmpR op_isN (pv 2) pe_non (nomark _)) pe_non (pe_un un_neg (pv 2))))))) pss_nil)
      (pss_cons (ps_set (i := 2) nd rfl (by first | exact Or.inl rfl | exact Or.inr rfl) (pe_k c_root_of  hr (by decide) (by rfl) (pa_cons (pv 0) (pa_cons (pv 1) pa_nil))))
      (pss_one (ps_ret (pe_ifExp (pt_cmpR op_eq (pe_k c_power  hr (by decide) (by rfl) (pa_cons (pv 2) (pa_cons (pv 1) pa_nil))) (pv 0) (nomark _)) (pv 2) pe_non))))), ?_⟩
    refine ⟨_, rfl, n, 0, rfl, rfl, _, rfl, ?_⟩
    by_cases hn0 : n < 0
    · refine iteY (by simpa using hn0) ?_
      refine ⟨_, rfl, _, _, rfl, rfl, (by show (0 : Int) < 2; decide), rfl, _, rfl, ?_⟩
      rw [dec_int]
      rcases hm with ⟨rfl, r0⟩ | rfl
      · exfalso
        have : 0 ≤ r ^ (1 + 1) := Int.pow_nonneg r0
        omega
      refine iteN (by decide) ?_
      have e3 : (-r) ^ (2 + 1) = -n := by
        rw [← hr1]
        grind
      have r1 : 0 ≤ -r := by
        rcases (show 0 ≤ -r ∨ 0 < r by omega) with z | z
        · exact z
        · have : 0 < r ^ (2 + 1) := Int.pow_pos z
          omega
      refine ⟨_, rfl, _, rfl, _, rfl, -n, -r, 2, rfl, hn.neg, .inr rfl, r1, e3, ?_⟩
      refine ⟨_, rfl, rfl, _, rfl, iteF ?_⟩
      refine ⟨_, rfl, _, rfl, ?_⟩
      show Q (V.int (- -r)) H
      rw [Int.neg_neg]
      exact q
    · refine iteN (by simpa using hn0) ?_
      have r0 : 0 ≤ r := by
        rcases hm with ⟨rfl, r0⟩ | rfl
        · exact r0
        · rcases (show 0 ≤ r ∨ 0 < -r by omega) with z | z
          · exact z
          · exfalso
            have h1 : 0 < (-r) ^ (2 + 1) := Int.pow_pos z
            have h2 : (-r) ^ (2 + 1) = -(r ^ (2 + 1)) := by grind
            omega
      have hm' : m = 1 ∨ m = 2 := by
        rcases hm with ⟨h, _⟩ | h
        · exact .inl h
        · exact .inr h
      refine ⟨_, rfl, _, rfl, n, m, rfl, by omega, hn, by omega, by omega, fun y y0 yB yle ymax => ?_⟩
      have hy : y = r := by
        have h1 := ymax r r0 (by omega)
        rcases (show r < y ∨ y ≤ r by omega) with z | z
        · exfalso
          have h2 := Nat.pow_lt_pow_left (show r.natAbs < y.natAbs by omega) (show m + 1 ≠ 0 by omega)
          rw [← Int.natAbs_pow, ← Int.natAbs_pow] at h2
          have h3 : 0 ≤ y ^ (m + 1) := Int.pow_nonneg y0
          have h4 : 0 ≤ r ^ (m + 1) := Int.pow_nonneg r0
          omega
        · omega
      subst hy
      refine ⟨_, rfl, _, rfl, y, (m : Int) + 1, rfl, by omega, by omega, yB, _, rfl, rfl, _, rfl, ?_⟩
      rw [dec_int]
      have e : ((m : Int) + 1).toNat = m + 1 := by omega
      rw [e]
      refine iteY (by simp [hr1]) ?_
      exact ⟨_, rfl, q⟩
/-! ### root_of_fraction, where there is a root -/
def sp_root_of_fraction (K : PySem.W.Frag) : Sp := fun vs H Q _ => ∃ (f : Addr) (a r : Rat) (m : Nat), vs = [.ref f, .int ((m : Int) + 1)] ∧ SqT K H f (fq a) ∧ RB 200 a ∧ (m = 1 ∧ 0 ≤ r ∨ m = 2) ∧ r ^ (m + 1) = a ∧ ∀ t, H t = none → Q (.ref t) (upd H t (.tup (fq r)))
abbrev s_root_of_fraction : Stmt := topS 48
theorem sc_root_of_fraction : FnScope ["f", "k", "n", "d"] ["f", "k"] (defScope s_root_of_fraction) := ⟨rfl, rfl, rfl, by decide +kernel, rfl, by decide +kernel, by decide +kernel⟩
theorem k_root_of_fraction (T : Tx K mg) (D : Df K mg "root_of_fraction" s_root_of_fraction ["f", "k"]) (c_exact_root : Kl P w K mg base 4 "exact_root" (sp_exact_root K)) : Kl P w K mg base 5 "root_of_fraction" (sp_root_of_fraction K) := by
  have nd := sc_root_of_fraction.nd
  refine Kl.by_body D sc_root_of_fraction (fun vs H Q E h => ?_) (fun f cdv A outer s H vs Q E hr h => ?_)
  · obtain ⟨_, _, _, _, rfl, _⟩ := h
    rfl
  · obtain ⟨f, a, r, m, rfl, hf, ha, hm, hr1, q⟩ := h
    have hu1 := hu_of hr
    refine ⟨_, (pss_cons (ps_par (i := 2) (j := 3) (by rfl) nd rfl rfl (by decide) rfl rfl (pa_cons (pe_k c_exact_root  hr (by decide) (by rfl) (pa_cons (pe_ix ix_tup (pv 0) pe_int (fun _ _ => rfl)) (pa_cons (pv 1) pa_nil))) (pa_cons (pe_k c_exact_root  hr (by decide) (by rfl) (pa_cons (pe_ix ix_tup (pv 0) pe_int (fun _ _ => rfl)) (pa_cons (pv 1) pa_nil))) pa_nil)) (by rfl))
      (pss_one (ps_ret (pe_ifExp (PW.pt (pw_or (pt_cmpR op_isN (pv 2) pe_non (nomark _)) (pw_or1 (pt_cmpR op_isN (pv 3) pe_non (nomark _))))) pe_non (pe_tup (pa_cons (pv 2) (pa_cons (pv 3) pa_nil))))))), ?_⟩
    have en : r.num ^ (m + 1) = a.num := by rw [← npow, hr1]
    have ed : (r.den : Int) ^ (m + 1) = (a.den : Int) := by rw [← Int.natCast_pow, ← dpow, hr1]
    have hm2 : m = 1 ∧ 0 ≤ r.num ∨ m = 2 := by
      rcases hm with ⟨h, h0⟩ | h
      · exact .inl ⟨h, Rat.num_nonneg.mpr h0⟩
      · exact .inr h
    have hm3 : m = 1 ∧ 0 ≤ (r.den : Int) ∨ m = 2 := by
      rcases hm with ⟨h, h0⟩ | h
      · exact .inl ⟨h, by omega⟩
      · exact .inr h
    refine ⟨.ref f, rfl, f, _, 0, .int a.num, rfl, rfl, hf, rfl, _, rfl, a.num, r.num, m, rfl, ha.n, hm2, en, ?_⟩
    refine ⟨.ref f, rfl, f, _, 1, .int (a.den : Int), rfl, rfl, hf, rfl, _, rfl, (a.den : Int), (r.den : Int), m, rfl, ha.d, hm3, ed, ?_⟩
    refine ⟨_, _, rfl, ?_⟩
    refine ⟨_, rfl, rfl, _, rfl, iteF ?_⟩
    refine ⟨_, rfl, rfl, _, rfl, iteF ?_⟩
    refine ⟨_, rfl, _, rfl, (by show 2 ≤ sizeLine; decide), fun t nt => ?_⟩
    exact q t nt
end
end K08
set_option Elab.async false
set_option linter.all false
set_option maxRecDepth 100000
set_option maxHeartbeats 4000000
namespace K08
open PySem PySem.Spec PyProof.Rows L2 Gd QM
local macro_rules | `(tactic| walk_at "bd") => `(tactic| (repeat (first | assumption | apply B.add | apply B.sub | apply B.mul | apply B.neg | exact B.lit (n := 8) (by decide))))
local macro_rules | `(tactic| walk_at "bu") => `(tactic| (apply B.up; walk_at "bd"; decide))
local macro_rules | `(tactic| walk_at "bnd") => `(tactic| (apply B.mulW; walk_at "bd"; decide))
local macro_rules | `(tactic| walk_at "pw") => `(tactic| exact B.up (n := 64) (by assumption) (by decide))
theorem abs_eq (i : Int) : (if i < 0 then -i else i) = (i.natAbs : Int) := by
  split <;> omega
section
variable {P : Program} {w : World} {K : PySem.W.Frag} {mg : Str → Option Value} {base : Heap}
/-! ### the law's common factor -/
def sp_law_common (K : PySem.W.Frag) : Sp := fun vs H Q _ => ∃ a b : Int, vs = [.int a, .int b] ∧ B 6200 a ∧ B 6200 b ∧ Q (.int ((Nat.gcd a.natAbs b.natAbs : Nat) : Int)) H
theorem gcd_turn {x y : Int} (h1 : 0 ≤ x) (h2 : 0 ≤ y) (h0 : y ≠ 0) : 0 ≤ x - x.fdiv y * y ∧ (x - x.fdiv y * y).natAbs < y.natAbs ∧ Nat.gcd y.natAbs (x - x.fdiv y * y).natAbs = Nat.gcd x.natAbs y.natAbs := by
  have e : x - x.fdiv y * y = x % y := by
    rw [Int.fdiv_eq_ediv_of_nonneg x h2, Int.emod_def, Int.mul_comm]
  have h3 : 0 ≤ x % y := Int.emod_nonneg x h0
  have h4 : x % y < y := Int.emod_lt_of_pos x (by omega)
  rw [e]
  refine ⟨h3, by omega, ?_⟩
  have e2 : (x % y).natAbs = x.natAbs % y.natAbs := by
    rw [Int.natAbs_emod_of_nonneg h1]
  rw [e2, Nat.gcd_comm y.natAbs, ← Nat.gcd_rec y.natAbs x.natAbs, Nat.gcd_comm]
abbrev s__law_common : Stmt := topS 61
theorem sc__law_common : FnScope ["a", "b"] ["a", "b"] (defScope s__law_common) := ⟨rfl, rfl, rfl, by decide +kernel, rfl, by decide +kernel, by decide +kernel⟩
theorem k_law_common (T : Tx K mg) (D : Df K mg "_law_common" s__law_common ["a", "b"])  : Kl P w K mg base 1 "_law_common" (sp_law_common K) := by
  have nd := sc__law_common.nd
  refine Kl.by_body D sc__law_common (fun vs H Q E h => ?_) (fun f cdv A outer s H vs Q E hr h => ?_)
  · obtain ⟨_, _, rfl, _⟩ := h
    rfl
  · obtain ⟨a, b, rfl, ha, hb, q⟩ := h
    have hu1 := hu_of hr
    refine ⟨_, (pss_cons (ps_par (i := 0) (j := 1) (by rfl) nd rfl rfl (by decide) rfl rfl (pa_cons (pe_callB call_abs (by rfl) T.abs (by decide +kernel) (pa_cons (pv 0) pa_nil)) (pa_cons (pe_callB call_abs (by rfl) T.abs (by decide +kernel) (pa_cons (pv 1) pa_nil)) pa_nil)) (by rfl))
      (pss_cons (ps_while PassesOwn.never (pt_cmpR op_ne (pv 1) pe_int (nomark _)) (pss_one (ps_par (i := 0) (j := 1) (by rfl) nd rfl rfl (by decide) rfl rfl (pa_cons (pv 1) (pa_cons (pe_op op_sub (pv 0) (pe_op op_mulW (pe_op op_fdivAny (pv 0) (pv 1)) (pv 1))) pa_nil)) (by rfl))))
      (pss_one (ps_ret (pv 0))))), ?_⟩
    refine ⟨_, rfl, a, rfl, _, rfl, b, rfl, _, _, rfl, ?_⟩
    rw [abs_eq, abs_eq]
    first | refine sigN [some (.int ((a.natAbs : Int))), some (.int ((b.natAbs : Int)))] (by rfl) ?_ | refine sig [some (.int ((a.natAbs : Int))), some (.int ((b.natAbs : Int)))] (by rfl) ?_
    have na : B 6200 (a.natAbs : Int) := by
      unfold B at *
      omega
    have nb : B 6200 (b.natAbs : Int) := by
      unfold B at *
      omega
    refine while_by (fun σ H2 => ∃ x y : Int, σ = [some (.int x), some (.int y)] ∧ H2 = H ∧ 0 ≤ x ∧ 0 ≤ y ∧ Nat.gcd x.natAbs y.natAbs = Nat.gcd a.natAbs b.natAbs ∧ B 6200 x ∧ B 6200 y)
      (fun σ _ => match σ with | [_, some (.int y)] => y.natAbs | _ => 0) ⟨_, _, rfl, rfl, by omega, by omega, by rw [Int.natAbs_natCast, Int.natAbs_natCast], na, nb⟩ ?_ ?_
    · rintro σ H2 ⟨x, y, rfl, rfl, h1, h2, h3, h4, h5⟩
      refine ⟨_, rfl, rfl, _, rfl, ?_⟩
      rw [dec_int]
      by_cases h0 : y = 0
      · subst h0
        refine iteN (by simp) ?_
        refine ⟨_, rfl, ?_⟩
        rw [← h3] at q
        have e : ((Nat.gcd x.natAbs (0 : Int).natAbs : Nat) : Int) = x := by
          rw [show (0 : Int).natAbs = 0 from rfl, Nat.gcd_zero_right]
          omega
        rw [e] at q
        exact q
      · refine iteY (by simp [h0]) ?_
        obtain ⟨g1, g2, g3⟩ := gcd_turn h1 h2 h0
        have d1 : B 6200 (x.fdiv y) := by
          rw [Int.fdiv_eq_ediv_of_nonneg x h2]
          have e1 : 0 ≤ x / y := Int.ediv_nonneg h1 h2
          have e2 : x / y ≤ x := Int.ediv_le_self y h1
          unfold B at *
          omega
        refine ⟨_, rfl, _, rfl, _, rfl, _, rfl, x, y, rfl, rfl, div_any h0 h5 (by decide), _, rfl, _, _, rfl, rfl, d1.mulW h5 (by decide), _, _, rfl, rfl, _, _, rfl, ?_⟩
        have g4 : B 6200 (x - x.fdiv y * y) := by
          unfold B at *
          omega
        exact ⟨⟨_, _, rfl, rfl, h2, g1, g3.trans h3, h5, g4⟩, g2⟩
    · rintro σ H2 Q1 Q2 i ⟨v, hv, hs, k, e, z⟩
      exact ⟨v, hv, hs, k, e, i _ _ z⟩
/-! ### cut -/
def sp_law_cut : PySem.W.Frag → Sp := spCut
abbrev s__law_cut : Stmt := topS 62
theorem sc__law_cut : FnScope ["n", "d", "part"] ["n", "d"] (defScope s__law_cut) := ⟨rfl, rfl, rfl, by decide +kernel, rfl, by decide +kernel, by decide +kernel⟩
theorem k_law_cut (T : Tx K mg) (D : Df K mg "_law_cut" s__law_cut ["n", "d"]) (c_law_common : Kl P w K mg base 1 "_law_common" (sp_law_common K)) : Kl P w K mg base 2 "_law_cut" (sp_law_cut K) := by
  have nd := sc__law_cut.nd
  refine Kl.by_body D sc__law_cut (fun vs H Q E h => ?_) (fun f cdv A outer s H vs Q E hr h => ?_)
  · obtain ⟨_, _, rfl, _⟩ := h
    rfl
  · obtain ⟨n, d, rfl, h0, hn, hd, q⟩ := h
    have hu1 := hu_of hr
    refine ⟨_, (pss_cons (ps_set (i := 2) nd rfl (by first | exact Or.inl rfl | exact Or.inr rfl) (pe_k c_law_common  hr (by decide) (by rfl) (pa_cons (pv 0) (pa_cons (pv 1) pa_nil))))
      (pss_cons (ps_set (i := 2) nd rfl (by first | exact Or.inl rfl | exact Or.inr rfl) (pe_ifExp (pt_cmpR op_gt (pv 1) pe_int (nomark _)) (pv 2) (pe_un un_neg (pv 2))))
      (pss_one (ps_ret (pe_tup (pa_cons (pe_op op_fdivAny (pv 0) (pv 2)) (pa_cons (pe_op op_fdivAny (pv 1) (pv 2)) pa_nil))))))), ?_⟩
    refine ⟨_, rfl, _, rfl, n, d, rfl, hn, hd, ?_⟩
    have hs : sg n d ≠ 0 := sg_ne h0
    have c1 : CDivAny n (sg n d) := div_any hs (sg_B h0 hd) (by decide)
    have c2 : CDivAny d (sg n d) := div_any hs (sg_B h0 hd) (by decide)
    rw [← fq_div h0] at q
    refine ⟨_, rfl, _, _, rfl, rfl, _, rfl, ite2 (fun e => ?_) (fun e => ?_)⟩
    · have e' : 0 < d := of_decide_eq_true e
      have es : sg n d = ((Nat.gcd n.natAbs d.natAbs : Nat) : Int) := if_neg (by omega)
      refine ⟨_, rfl, ?_⟩
      refine ⟨_, rfl, _, rfl, n, _, rfl, rfl, es ▸ c1, _, rfl, _, rfl, d, _, rfl, rfl, es ▸ c2, (by show 2 ≤ sizeLine; decide), fun t nt => ?_⟩
      rw [es] at q
      exact q t nt
    · have e' : ¬ 0 < d := fun z => e (decide_eq_true z)
      have es : sg n d = -((Nat.gcd n.natAbs d.natAbs : Nat) : Int) := if_pos (by omega)
      refine ⟨_, rfl, _, rfl, ?_⟩
      refine ⟨_, rfl, _, rfl, n, _, rfl, rfl, es ▸ c1, _, rfl, _, rfl, d, _, rfl, rfl, es ▸ c2, (by show 2 ≤ sizeLine; decide), fun t nt => ?_⟩
      rw [es] at q
      exact q t nt
/-! ### the law's numbers -/
theorem Cv.nums_b8 (c : Cv) : (c.b2 * c.b6 - c.b4 * c.b4) / 4 = c.b8 := by
  have e : c.b2 * c.b6 - c.b4 * c.b4 = 4 * c.b8 := by
    unfold Cv.b2 Cv.b4 Cv.b6 Cv.b8
    grind
  rw [e]
  exact Int.mul_ediv_cancel_left _ (by decide)
theorem Cv.nums_c6 (c : Cv) : 36 * c.b2 * c.b4 - c.b2 ^ 3 - 216 * c.b6 = c.c6 := by
  unfold Cv.c6
  grind
theorem Cv.nums_d (c : Cv) : 9 * c.b2 * c.b4 * c.b6 - c.b2 * c.b2 * c.b8 - 8 * c.b4 ^ 3 - 27 * c.b6 * c.b6 = c.disc := by
  unfold Cv.disc
  grind
def sp_law_numbers (K : PySem.W.Frag) : Sp := fun vs H Q _ => ∃ (p : Addr) (c : Cv), vs = [.ref p] ∧ SqT K H p c.tup ∧ c.Sm ∧ ∀ t, H t = none → Q (.ref t) (upd H t (.tup c.nums))
abbrev s__law_numbers : Stmt := topS 63
theorem sc__law_numbers : FnScope ["five_v", "a", "b", "c", "d", "e", "b2", "b4", "b6", "b8", "c4", "c6", "disc"] ["five_v"] (defScope s__law_numbers) := ⟨rfl, rfl, rfl, by decide +kernel, rfl, by decide +kernel, by decide +kernel⟩
theorem k_law_numbers (T : Tx K mg) (D : Df K mg "_law_numbers" s__law_numbers ["five_v"])  : Kl P w K mg base 1 "_law_numbers" (sp_law_numbers K) := by
  have nd := sc__law_numbers.nd
  refine Kl.by_body D sc__law_numbers (fun vs H Q E h => ?_) (fun f cdv A outer s H vs Q E hr h => ?_)
  · obtain ⟨_, _, rfl, _⟩ := h
    rfl
  · obtain ⟨p, c, rfl, hx, hm, q⟩ := h
    have hu1 := hu_of hr
    refine ⟨_, (pss_cons (ps_asg (pv 0) (pg_tup rfl (pgs_cons (pg_name (i := 1) nd rfl (by first | exact Or.inl rfl | exact Or.inr rfl)) (pgs_cons (pg_name (i := 2) nd rfl (by first | exact Or.inl rfl | exact Or.inr rfl)) (pgs_cons (pg_name (i := 3) nd rfl (by first | exact Or.inl rfl | exact Or.inr rfl)) (pgs_cons (pg_name (i := 4) nd rfl (by first | exact Or.inl rfl | exact Or.inr rfl)) (pgs_cons (pg_name (i := 5) nd rfl (by first | exact Or.inl rfl | exact Or.inr rfl)) pgs_nil)))))))
      (pss_cons (ps_par3 (i := 6) (j := 7) (l := 8) (by rfl) nd rfl rfl rfl (by decide) (by decide) (by decide) rfl rfl rfl (pa_cons (pe_op op_add (pe_op op_mulW (pv 1) (pv 1)) (pe_op op_mul pe_int (pv 2))) (pa_cons (pe_op op_add (pe_op op_mul pe_int (pv 4)) (pe_op op_mulW (pv 1) (pv 3))) (pa_cons (pe_op op_add (pe_op op_mulW (pv 3) (pv 3)) (pe_op op_mul pe_int (pv 5))) pa_nil))) (by rfl))
      (pss_cons (ps_set (i := 9) nd rfl (by first | exact Or.inl rfl | exact Or.inr rfl) (pe_op op_fdiv (pe_op op_sub (pe_op op_mulW (pv 6) (pv 8)) (pe_op op_mulW (pv 7) (pv 7))) pe_int))
      (pss_cons (ps_par (i := 10) (j := 11) (by rfl) nd rfl rfl (by decide) rfl rfl (pa_cons (pe_op op_sub (pe_op op_mulW (pv 6) (pv 6)) (pe_op op_mul pe_int (pv 7))) (pa_cons (pe_op op_sub (pe_op op_sub (pe_op op_mulW (pe_op op_mul pe_int (pv 6)) (pv 7)) (pe_op op_pow (pv 6) pe_int)) (pe_op op_mul pe_int (pv 8))) pa_nil)) (by rfl))
      (pss_cons (ps_set (i := 12) nd rfl (by first | exact Or.inl rfl | exact Or.inr rfl) (pe_op op_sub (pe_op op_mulW (pe_op op_mulW (pe_op op_mul pe_int (pv 6)) (pv 7)) (pv 8)) (pe_op op_mulW (pe_op op_mulW (pv 6) (pv 6)) (pv 9))))
      (pss_one (ps_ret (pe_tup (pa_cons (pv 6) (pa_cons (pv 7) (pa_cons (pv 8) (pa_cons (pv 9) (pa_cons (pv 10) (pa_cons (pv 11) (pa_cons (pe_op op_sub (pe_op op_sub (pv 12) (pe_op op_mul pe_int (pe_op op_pow (pv 7) pe_int))) (pe_op op_mulW (pe_op op_mul pe_int (pv 8)) (pv 8))) pa_nil))))))))))))))), ?_⟩
    have e2 := hm.b2
    have e4 := hm.b4
    have e6 := hm.b6
    have e8 := hm.b8
    obtain ⟨h1, h2, h3, h4, h6⟩ := hm
    have p3 : B 133 (c.b2 ^ (3 : Int).toNat) := (e2.pow 3).up (by decide)
    have p4 : B 233 (c.b4 ^ (3 : Int).toNat) := (e4.pow 3).up (by decide)
    refine ⟨.ref p, rfl, p, _, rfl, hx, rfl, _, _, rfl, _, _, rfl, _, _, rfl, _, _, rfl, _, _, rfl, rfl, ?_⟩
    first | refine sigN [some (.ref p), some (.int (c.a1)), some (.int (c.a2)), some (.int (c.a3)), some (.int (c.a4)), some (.int (c.a6)), none, none, none, none, none, none, none] (by rfl) ?_ | refine sig [some (.ref p), some (.int (c.a1)), some (.int (c.a2)), some (.int (c.a3)), some (.int (c.a4)), some (.int (c.a6)), none, none, none, none, none, none, none] (by rfl) ?_
    refine ⟨_, rfl, _, rfl, _, _, rfl, rfl, (by walk_at "bnd"), _, rfl, _, _, rfl, rfl, (Or.inl ⟨by decide, by decide⟩), _, _, rfl, rfl, _, rfl, _, _, rfl, rfl, (Or.inl ⟨by decide, by decide⟩), _, rfl, _, rfl, _, _, rfl, rfl, (by walk_at "bnd"), _, _, rfl, rfl, _, rfl, _, rfl, _, _, rfl, rfl, (by walk_at "bnd"), _, rfl, _, _, rfl, rfl, (Or.inl ⟨by decide, by decide⟩), _, _, rfl, rfl, _, _, _, rfl, ?_⟩
    first | refine sigN [some (.ref p), some (.int (c.a1)), some (.int (c.a2)), some (.int (c.a3)), some (.int (c.a4)), some (.int (c.a6)), some (.int (c.b2)), some (.int (c.b4)), some (.int (c.b6)), none, none, none, none] (by rfl) ?_ | refine sig [some (.ref p), some (.int (c.a1)), some (.int (c.a2)), some (.int (c.a3)), some (.int (c.a4)), some (.int (c.a6)), some (.int (c.b2)), some (.int (c.b4)), some (.int (c.b6)), none, none, none, none] (by rfl) ?_
    refine ⟨_, rfl, _, rfl, _, _, rfl, rfl, (by walk_at "bnd"), _, rfl, _, rfl, _, _, rfl, rfl, (by walk_at "bnd"), _, _, rfl, rfl, _, _, rfl, rfl, ⟨by decide, by decide⟩, ?_⟩
    first | refine sigN [some (.ref p), some (.int c.a1), some (.int c.a2), some (.int c.a3), some (.int c.a4), some (.int c.a6), some (.int c.b2), some (.int c.b4), some (.int c.b6), some (.int c.b8), none, none, none] (by rw [← Cv.nums_b8]; rfl) ?_ | refine sig [some (.ref p), some (.int c.a1), some (.int c.a2), some (.int c.a3), some (.int c.a4), some (.int c.a6), some (.int c.b2), some (.int c.b4), some (.int c.b6), some (.int c.b8), none, none, none] (by rw [← Cv.nums_b8]; rfl) ?_
    refine ⟨_, rfl, _, rfl, _, _, rfl, rfl, (by walk_at "bnd"), _, rfl, _, _, rfl, rfl, (Or.inl ⟨by decide, by decide⟩), _, _, rfl, rfl, _, rfl, _, _, rfl, rfl, (Or.inl ⟨by decide, by decide⟩), _, rfl, _, _, rfl, rfl, (by walk_at "bnd"), _, rfl, _, _, rfl, rfl, ⟨by decide, by decide, by walk_at "pw"⟩, _, _, rfl, rfl, _, rfl, _, _, rfl, rfl, (Or.inl ⟨by decide, by decide⟩), _, _, rfl, rfl, _, _, rfl, ?_⟩
    first | refine sigN [some (.ref p), some (.int (c.a1)), some (.int (c.a2)), some (.int (c.a3)), some (.int (c.a4)), some (.int (c.a6)), some (.int (c.b2)), some (.int (c.b4)), some (.int (c.b6)), some (.int (c.b8)), some (.int (c.c4)), some (.int (36 * c.b2 * c.b4 - c.b2 ^ 3 - 216 * c.b6)), none] (by rfl) ?_ | refine sig [some (.ref p), some (.int (c.a1)), some (.int (c.a2)), some (.int (c.a3)), some (.int (c.a4)), some (.int (c.a6)), some (.int (c.b2)), some (.int (c.b4)), some (.int (c.b6)), some (.int (c.b8)), some (.int (c.c4)), some (.int (36 * c.b2 * c.b4 - c.b2 ^ 3 - 216 * c.b6)), none] (by rfl) ?_
    refine ⟨_, rfl, _, _, rfl, rfl, (Or.inl ⟨by decide, by decide⟩), _, rfl, _, _, rfl, rfl, (by walk_at "bnd"), _, rfl, _, _, rfl, rfl, (by walk_at "bnd"), _, rfl, _, rfl, _, _, rfl, rfl, (by walk_at "bnd"), _, rfl, _, _, rfl, rfl, (by walk_at "bnd"), _, _, rfl, rfl, ?_⟩
    first | refine sigN [some (.ref p), some (.int (c.a1)), some (.int (c.a2)), some (.int (c.a3)), some (.int (c.a4)), some (.int (c.a6)), some (.int (c.b2)), some (.int (c.b4)), some (.int (c.b6)), some (.int (c.b8)), some (.int (c.c4)), some (.int (36 * c.b2 * c.b4 - c.b2 ^ 3 - 216 * c.b6)), some (.int (9 * c.b2 * c.b4 * c.b6 - c.b2 * c.b2 * c.b8))] (by rfl) ?_ | refine sig [some (.ref p), some (.int (c.a1)), some (.int (c.a2)), some (.int (c.a3)), some (.int (c.a4)), some (.int (c.a6)), some (.int (c.b2)), some (.int (c.b4)), some (.int (c.b6)), some (.int (c.b8)), some (.int (c.c4)), some (.int (36 * c.b2 * c.b4 - c.b2 ^ 3 - 216 * c.b6)), some (.int (9 * c.b2 * c.b4 * c.b6 - c.b2 * c.b2 * c.b8))] (by rfl) ?_
    refine ⟨_, rfl, _, rfl, _, rfl, _, rfl, _, rfl, _, rfl, _, rfl, _, rfl, _, _, rfl, rfl, ⟨by decide, by decide, by walk_at "pw"⟩, _, _, rfl, rfl, (Or.inl ⟨by decide, by decide⟩), _, _, rfl, rfl, _, rfl, _, _, rfl, rfl, (Or.inl ⟨by decide, by decide⟩), _, rfl, _, _, rfl, rfl, (by walk_at "bnd"), _, _, rfl, rfl, (by show 7 ≤ sizeLine; decide), fun t nt => ?_⟩
    have e : c.nums = [V.int c.b2, V.int c.b4, V.int c.b6, V.int c.b8, V.int c.c4, V.int (36 * c.b2 * c.b4 - c.b2 ^ 3 - 216 * c.b6), V.int (9 * c.b2 * c.b4 * c.b6 - c.b2 * c.b2 * c.b8 - 8 * c.b4 ^ 3 - 27 * c.b6 * c.b6)] := by
      rw [Cv.nums_c6, Cv.nums_d]
      rfl
    rw [e] at q
    exact q t nt
end
end K08
set_option Elab.async false
set_option linter.all false
set_option maxRecDepth 100000
set_option maxHeartbeats 4000000
namespace K08
open PySem PySem.Spec PyProof.Rows L2 Gd QM
section
variable {P : Program} {w : World} {K : PySem.W.Frag} {mg : Str → Option Value} {base : Heap}
/-! ### one draw -/
def sp_law_draw (K : PySem.W.Frag) : Sp := fun vs H Q _ => ∃ (m cl : Addr) (b : Int) (n : Nat), vs = [.ref m, .int b] ∧ 0 < b ∧ b < 1073741824 ∧ n ≤ 1000000 ∧ MAt H m cl n ∧ ∀ H' r, But m H H' → MAt H' m cl (n + 1) → 0 ≤ r → r < b → Q (.int r) H'
abbrev s__law_draw : Stmt := topS 58
theorem sc__law_draw : FnScope ["m", "below", "found", "spot", "cells", "extra", "cell", "blend"] ["m", "below"] (defScope s__law_draw) := ⟨rfl, rfl, rfl, by decide +kernel, rfl, by decide +kernel, by decide +kernel⟩
theorem k_law_draw (T : Tx K mg) (D : Df K mg "_law_draw" s__law_draw ["m", "below"])  : Kl P w K mg base 1 "_law_draw" (sp_law_draw K) := by
  have nd := sc__law_draw.nd
  refine Kl.by_body D sc__law_draw (fun vs H Q E h => ?_) (fun f cdv A outer s H vs Q E hr h => ?_)
  · obtain ⟨_, _, _, _, rfl, _⟩ := h
    rfl
  · obtain ⟨m, c, b, n, rfl, hb0, hb1, hn, ⟨L, s0, cs, k, hm, hk, hc, hl⟩, q⟩ := h
    have hu1 := hu_of hr
    refine ⟨_, (pss_cons (ps_if (pt_cmpR op_gt (pe_dget hu1 (pv 0) pe_str (fun _ _ => rfl)) pe_int (nomark _)) (pss_cons (ps_set (i := 2) nd rfl (by first | exact Or.inl rfl | exact Or.inr rfl) (pe_op op_mod (pe_callTy call_intI (by rfl) T.int (by decide +kernel) (pa_cons (pe_dget hu1 (pv 0) pe_str (fun _ _ => rfl)) pa_nil)) (pv 1)))
      (pss_cons (ps_dput hu1 (pv 0) pe_str (pe_op op_fdivN (pe_dget hu1 (pv 0) pe_str (fun _ _ => rfl)) (pv 1)) rfl)
      (pss_one (ps_ret (pv 2))))) pss_nil)
      (pss_cons (ps_set (i := 3) nd rfl (by first | exact Or.inl rfl | exact Or.inr rfl) (pe_dget hu1 (pv 0) pe_str (fun _ _ => rfl)))
      (pss_cons (ps_dput hu1 (pv 0) pe_str (pe_op op_add (pv 3) pe_int) rfl)
      (pss_cons (ps_par (i := 4) (j := 5) (by rfl) nd rfl rfl (by decide) rfl rfl (pa_cons (pe_dget hu1 (pv 0) pe_str (fun _ _ => rfl)) (pa_cons (pe_op op_add (pe_dget hu1 (pv 0) pe_str (fun _ _ => rfl)) (pe_op op_mulW (pe_op op_mul pe_int (pv 3)) (pv 3))) pa_nil)) (by rfl))
      (pss_cons (ps_set (i := 6) nd rfl (by first | exact Or.inl rfl | exact Or.inr rfl) (pe_ix ix_list (pv 4) (pe_op op_mod (pe_callTy call_intI (by rfl) T.int (by decide +kernel) (pa_cons (pv 3) pa_nil)) (pe_callB call_len_seq (by rfl) T.len (by decide +kernel) (pa_cons (pv 4) pa_nil))) (fun _ _ => rfl)))
      (pss_cons (ps_set (i := 7) nd rfl (by first | exact Or.inl rfl | exact Or.inr rfl) (pe_op op_mod (pe_callTy call_intI (by rfl) T.int (by decide +kernel) (pa_cons (pe_op op_add (pe_op op_mul (pv 6) (pe_op op_add (pe_op op_mul pe_int (pv 3)) pe_int)) (pv 5)) pa_nil)) pe_int))
      (pss_cons (ps_set (i := 7) nd rfl (by first | exact Or.inl rfl | exact Or.inr rfl) (pe_op op_mod (pe_callTy call_intI (by rfl) T.int (by decide +kernel) (pa_cons (pe_op op_add (pe_op op_add (pe_op op_mul (pv 7) (pv 7)) (pe_op op_mul pe_int (pv 3))) (pe_dget hu1 (pv 0) pe_str (fun _ _ => rfl))) pa_nil)) pe_int))
      (pss_one (ps_ret (pe_op op_mod (pe_op op_fdiv (pe_op op_mod (pe_callTy call_intI (by rfl) T.int (by decide +kernel) (pa_cons (pe_op op_add (pe_op op_mul (pv 7) pe_int) (pv 3)) pa_nil)) pe_int) pe_int) (pv 1))))))))))), ?_⟩
    have gL : DGet H m (.str "left") (some (.int L)) := m4_left (L := L) ▸ DGet.k (k := Sum.inr "left") hm
    have ncm : c ≠ m := ne_of hc hm (by intro z; cases z)
    refine ⟨_, rfl, m, _, rfl, gL, _, _, rfl, rfl, _, rfl, ite2 (fun e => ?_) (fun e => ?_)⟩
    · refine ⟨_, rfl, m, _, rfl, gL, _, rfl, _, rfl, _, _, rfl, rfl, hb0, ?_⟩
      refine ⟨_, rfl, m, _, rfl, gL, _, rfl, _, _, rfl, rfl, ⟨by omega, by omega⟩, _, rfl, m, _, rfl, DPut.k (k := Sum.inr "left") hm (small1000 (by show 4 ≤ 1000; decide)), ?_⟩
      rw [m4_putL]
      refine ⟨_, rfl, ?_⟩
      refine q _ _ But.upd ⟨_, s0, cs, k, upd_same, by omega, ?_, hl⟩ (Int.emod_nonneg _ (by omega)) (Int.emod_lt_of_pos _ hb0)
      rw [upd_ne ncm]
      exact hc
    · have gS : DGet H m (.str "spot") (some (.int k)) := m4_spot (n := k) ▸ DGet.k (k := Sum.inr "spot") hm
      refine ⟨_, rfl, m, _, rfl, gS, ?_⟩
      refine ⟨_, rfl, _, _, rfl, rfl, _, rfl, m, _, rfl, DPut.k (k := Sum.inr "spot") hm (small1000 (by show 4 ≤ 1000; decide)), ?_⟩
      rw [m4_putS]
      have hm2 : (upd H m (HO.dK (mk4 L s0 c (k + 1)))) m = some (.dK (mk4 L s0 c (k + 1))) := upd_same
      have hc2 : (upd H m (HO.dK (mk4 L s0 c (k + 1)))) c = some (.lst (cs.map V.int)) := by
        rw [upd_ne ncm]
        exact hc
      have bt : But m H (upd H m (HO.dK (mk4 L s0 c (k + 1)))) := But.upd
      generalize upd H m (HO.dK (mk4 L s0 c (k + 1))) = H2 at hm2 hc2 bt ⊢
      have gC : DGet H2 m (.str "cells") (some (.ref c)) := m4_cells (c := c) ▸ DGet.k (k := Sum.inr "cells") hm2
      have gE : DGet H2 m (.str "seed") (some (.int s0)) := m4_seed (s := s0) ▸ DGet.k (k := Sum.inr "seed") hm2
      have bk : B 20 (k : Int) := by
        unfold B
        omega
      refine ⟨_, rfl, m, _, rfl, gC, _, rfl, m, _, rfl, gE, _, rfl, _, _, rfl, rfl, (Or.inl ⟨by decide, by decide⟩), _, rfl, _, _, rfl, rfl, ((B.lit (n := 20) (by decide)).mul bk).mulW bk (by decide), _, _, rfl, rfl, _, _, rfl, ?_⟩
      have hlz : (0 : Int) < ((cs.map V.int).length : Int) := by
        rw [List.length_map]
        omega
      have hix : ∃ z : Int, atI (cs.map V.int) ((k : Int) % ((cs.map V.int).length : Int)) = some (.int z) := by
        rw [List.length_map]
        have h1 : k % cs.length < cs.length := Nat.mod_lt _ hl
        refine ⟨cs[k % cs.length], ?_⟩
        rw [← Int.natCast_emod]
        refine atI_nat ?_
        rw [List.getElem?_map, List.getElem?_eq_getElem h1]
        rfl
      obtain ⟨z, hz⟩ := hix
      refine ⟨_, rfl, _, rfl, _, rfl, _, rfl, c, _, rfl, .inl (.inl (.inl hc2)), _, _, rfl, rfl, hlz, c, _, _, _, rfl, rfl, .inl (.inl hc2), hz, ?_⟩
      have bk2 : B 30 (2 * (k : Int) + 3) := by
        unfold B
        omega
      refine ⟨_, rfl, _, rfl, _, _, rfl, rfl, (Or.inl ⟨by decide, by decide⟩), _, _, rfl, rfl, _, _, rfl, rfl, bk2.mulR (by decide), _, rfl, _, _, rfl, rfl, _, rfl, _, _, rfl, rfl, (by show (0 : Int) < 2147483647; decide), ?_⟩
      have be : ∀ y : Int, B 32 (y % 2147483647) := fun y => by
        have h1 := Int.emod_nonneg y (show (2147483647 : Int) ≠ 0 by decide)
        have h2 := Int.emod_lt_of_pos y (show (0 : Int) < 2147483647 by decide)
        unfold B
        omega
      refine ⟨_, rfl, _, rfl, _, _, rfl, rfl, (be _).mulR (by decide), _, rfl, _, _, rfl, rfl, (Or.inl ⟨by decide, by decide⟩), _, _, rfl, rfl, _, rfl, m, _, rfl, gE, _, _, rfl, rfl, _, rfl, _, _, rfl, rfl, (by show (0 : Int) < 2147483629; decide), ?_⟩
      refine ⟨_, rfl, _, _, rfl, rfl, (Or.inr ⟨by decide, by decide⟩), _, rfl, _, _, rfl, rfl, _, rfl, _, _, rfl, rfl, (by show (0 : Int) < 2147483647; decide), _, _, rfl, rfl, ⟨by decide, by decide⟩, _, rfl, _, _, rfl, rfl, hb0, ?_⟩
      exact q _ _ bt ⟨L, s0, cs, k + 1, hm2, by omega, hc2, hl⟩ (Int.emod_nonneg _ (by omega)) (Int.emod_lt_of_pos _ hb0)
/-! ### one of some -/
def sp_law_of (K : PySem.W.Frag) : Sp := fun vs H Q _ => ∃ (m cl a : Addr) (xs : List V) (n : Nat), vs = [.ref m, .ref a] ∧ SqL K H a xs ∧ 0 < xs.length ∧ xs.length ≤ 1000 ∧ n ≤ 1000000 ∧ MAt H m cl n ∧ ∀ H' x, But m H H' → MAt H' m cl (n + 1) → x ∈ xs → Q x H'
abbrev s__law_of : Stmt := topS 59
theorem sc__law_of : FnScope ["m", "some"] ["m", "some"] (defScope s__law_of) := ⟨rfl, rfl, rfl, by decide +kernel, rfl, by decide +kernel, by decide +kernel⟩
theorem k_law_of (T : Tx K mg) (D : Df K mg "_law_of" s__law_of ["m", "some"]) (c_law_draw : Kl P w K mg base 1 "_law_draw" (sp_law_draw K)) : Kl P w K mg base 2 "_law_of" (sp_law_of K) := by
  have nd := sc__law_of.nd
  refine Kl.by_body D sc__law_of (fun vs H Q E h => ?_) (fun f cdv A outer s H vs Q E hr h => ?_)
  · obtain ⟨_, _, _, _, _, rfl, _⟩ := h
    rfl
  · obtain ⟨m, cl, a, xs, n, rfl, hx, h0, h1, hn, hM, q⟩ := h
    have hu1 := hu_of hr
    refine ⟨_, (pss_one (ps_ret (pe_ix ix_list (pv 1) (pe_k c_law_draw  hr (by decide) (by rfl) (pa_cons (pv 0) (pa_cons (pe_callB call_len_seq (by rfl) T.len (by decide +kernel) (pa_cons (pv 1) pa_nil)) pa_nil))) (fun _ _ => rfl)))), ?_⟩
    refine ⟨.ref a, rfl, _, rfl, .ref a, rfl, a, xs, rfl, .inl hx, m, cl, _, n, rfl, by omega, by omega, hn, hM, fun H1 r b1 m1 r0 r1 => ?_⟩
    have hr1 : r.toNat < xs.length := by omega
    refine ⟨a, xs, r, xs[r.toNat], rfl, rfl, b1.seqL hM hx, ?_, q _ _ b1 m1 (List.getElem_mem hr1)⟩
    have key : atI xs ((r.toNat : Nat) : Int) = some xs[r.toNat] := atI_nat (List.getElem?_eq_getElem hr1)
    rw [show ((r.toNat : Nat) : Int) = r by omega] at key
    exact key
/-! ### between -/
def sp_law_between (K : PySem.W.Frag) : Sp := fun vs H Q _ => ∃ (m cl : Addr) (z : Int) (n : Nat), vs = [.ref m, .int z] ∧ 0 ≤ z ∧ z ≤ 100000 ∧ n ≤ 1000000 ∧ MAt H m cl n ∧ ∀ H' r, But m H H' → MAt H' m cl (n + 1) → -z ≤ r → r ≤ z → Q (.int r) H'
abbrev s__law_between : Stmt := topS 60
theorem sc__law_between : FnScope ["m", "size"] ["m", "size"] (defScope s__law_between) := ⟨rfl, rfl, rfl, by decide +kernel, rfl, by decide +kernel, by decide +kernel⟩
theorem k_law_between (T : Tx K mg) (D : Df K mg "_law_between" s__law_between ["m", "size"]) (c_law_draw : Kl P w K mg base 1 "_law_draw" (sp_law_draw K)) : Kl P w K mg base 2 "_law_between" (sp_law_between K) := by
  have nd := sc__law_between.nd
  refine Kl.by_body D sc__law_between (fun vs H Q E h => ?_) (fun f cdv A outer s H vs Q E hr h => ?_)
  · obtain ⟨_, _, _, _, rfl, _⟩ := h
    rfl
  · obtain ⟨m, cl, z, n, rfl, h0, h1, hn, hM, q⟩ := h
    have hu1 := hu_of hr
    refine ⟨_, (pss_one (ps_ret (pe_op op_sub (pe_k c_law_draw  hr (by decide) (by rfl) (pa_cons (pv 0) (pa_cons (pe_op op_add (pe_op op_mul pe_int (pv 1)) pe_int) pa_nil))) (pv 1)))), ?_⟩
    refine ⟨_, rfl, _, rfl, _, _, rfl, rfl, (Or.inl ⟨by decide, by decide⟩), _, _, rfl, rfl, m, cl, _, n, rfl, by omega, by omega, hn, hM, fun H1 r b1 m1 r0 r1 => ?_⟩
    refine ⟨_, rfl, _, _, rfl, rfl, ?_⟩
    exact q _ _ b1 m1 (by omega) (by omega)
/-! ### the state of a turn -/
def sp_law_begun (K : PySem.W.Frag) : Sp := fun vs H Q _ => ∃ (a : Addr) (k : Int) (ns : List Int), vs = [.ref a, .int k] ∧ SqL K H a (ns.map V.int) ∧ ns.length ≤ 63 ∧ 0 ≤ k ∧ k ≤ 100 ∧ ∀ H' m cl, Same H H' → H m = none → H cl = none → MAt H' m cl 0 → Q (.ref m) H'
theorem cut_int {ns : List Int} (lo hi : Option Int) : ∃ ms : List Int, cutV (ns.map V.int) lo hi = ms.map V.int ∧ ms.length ≤ ns.length := by
  unfold cutV
  refine ⟨(ns.drop (HT.sIx (ns.map V.int).length 0 lo)).take (HT.sIx (ns.map V.int).length (ns.map V.int).length hi - HT.sIx (ns.map V.int).length 0 lo), ?_, ?_⟩
  · rw [List.map_take, List.map_drop]
  · rw [List.length_take, List.length_drop]
    omega
abbrev s__law_begun : Stmt := topS 57
theorem sc__law_begun : FnScope ["script", "k", "cells", "great", "cell", "begun", "left"] ["script", "k"] (defScope s__law_begun) := ⟨rfl, rfl, rfl, by decide +kernel, rfl, by decide +kernel, by decide +kernel⟩
theorem k_law_begun (T : Tx K mg) (D : Df K mg "_law_begun" s__law_begun ["script", "k"])  : Kl P w K mg base 1 "_law_begun" (sp_law_begun K) := by
  have nd := sc__law_begun.nd
  refine Kl.by_body D sc__law_begun (fun vs H Q E h => ?_) (fun f cdv A outer s H vs Q E hr h => ?_)
  · obtain ⟨_, _, _, rfl, _⟩ := h
    rfl
  · obtain ⟨a, k, ns, rfl, hx, hl, hk0, hk1, q⟩ := h
    have hu1 := hu_of hr
    refine ⟨_, (pss_cons (ps_set (i := 2) nd rfl (by first | exact Or.inl rfl | exact Or.inr rfl) (pe_op op_cat (pe_slice sl_list (pv 0) (po_some (pv 1)) po_none) (pe_slice sl_list (pv 0) po_none (po_some (pv 1)))))
      (pss_cons (ps_setLc (i := 3) (own := [("cell", 4)]) (g := gName 4) rfl nd rfl rfl (sw_true rfl rfl rfl (by decide +kernel)) (pi_list (pv 0)) (blkOk_by (N := ["script", "k", "cells", "great", "cell", "begun", "left"]) (sc := defScope s__law_begun) (by decide +kernel)) (fun _ _ _ _ _ => (pg_name (i := 4) nd rfl (by first | exact Or.inl rfl | exact Or.inr rfl))) (fun _ _ _ _ _ => (pts_one (pt_cmpR op_ge (pv 4) (pe_op op_pow pe_int pe_int) (nomark _)))) (fun _ _ _ _ _ => (pv 4)))
      (pss_cons (ps_set (i := 5) nd rfl (by first | exact Or.inl rfl | exact Or.inr rfl) (pe_op op_add pe_int (pe_op op_mul pe_int (pv 1))))
      (pss_cons (ps_for PassesOwn.never rfl (pi_list (pv 2)) (pg_name (i := 4) nd rfl (by first | exact Or.inl rfl | exact Or.inr rfl)) (pss_one (ps_set (i := 5) nd rfl (by first | exact Or.inl rfl | exact Or.inr rfl) (pe_op op_mod (pe_callTy call_intI (by rfl) T.int (by decide +kernel) (pa_cons (pe_op op_add (pe_op op_mul (pv 5) pe_int) (pv 4)) pa_nil)) pe_int))))
      (pss_cons (ps_set (i := 6) nd rfl (by first | exact Or.inl rfl | exact Or.inr rfl) (pe_ifExp (pt_cmpR op_lt (pv 1) (pe_callB call_len_seq (by rfl) T.len (by decide +kernel) (pa_cons (pv 3) pa_nil)) (nomark _)) (pe_ix ix_list (pv 3) (pv 1) (fun _ _ => rfl)) pe_int))
      (pss_one (ps_ret (pe_disp (pps_cons pe_str (pv 6) (pps_cons pe_str (pv 5) (pps_cons pe_str (pe_op op_cat (pv 2) (pe_lst (pa_cons (pe_op op_add (pe_op op_mul pe_int (pv 1)) pe_int) pa_nil))) (pps_cons pe_str pe_int pps_nil)))) (by rfl) (by rfl) (fun z => by cases z) (by decide))))))))), ?_⟩
    obtain ⟨m1, e1, l1⟩ := cut_int (ns := ns) (some k) none
    obtain ⟨m2, e2, l2⟩ := cut_int (ns := ns) none (some k)
    refine ⟨.ref a, rfl, _, rfl, k, rfl, a, _, rfl, hx, fun p1 n1 => ?_⟩
    rw [e1]
    have s1 : Same H (upd H p1 (.lst (m1.map V.int))) := Same.new n1
    have g1 : (upd H p1 (.lst (m1.map V.int))) p1 = some (.lst (m1.map V.int)) := upd_same
    generalize upd H p1 (.lst (m1.map V.int)) = H1 at s1 g1 ⊢
    refine ⟨.ref a, rfl, _, rfl, k, rfl, a, _, rfl, s1.seq hx, fun p2 n2 => ?_⟩
    rw [e2]
    have s2 : Same H1 (upd H1 p2 (.lst (m2.map V.int))) := Same.new n2
    have g2 : (upd H1 p2 (.lst (m2.map V.int))) p2 = some (.lst (m2.map V.int)) := upd_same
    generalize upd H1 p2 (.lst (m2.map V.int)) = H2 at s2 g2 ⊢
    refine ⟨p1, p2, _, _, rfl, rfl, s2 _ _ g1, g2, ?_, fun p3 n3 => ?_⟩
    · rw [List.length_map, List.length_map]
      exact small (by omega)
    rw [← List.map_append]
    have s3 : Same H2 (upd H2 p3 (.lst ((m1 ++ m2).map V.int))) := Same.new n3
    have g3 : (upd H2 p3 (.lst ((m1 ++ m2).map V.int))) p3 = some (.lst ((m1 ++ m2).map V.int)) := upd_same
    have hl3 : (m1 ++ m2).length ≤ 126 := by
      rw [List.length_append]
      omega
    generalize m1 ++ m2 = cs at s3 g3 hl3 ⊢
    generalize upd H2 p3 (.lst (cs.map V.int)) = H3 at s3 g3 ⊢
    have sA : Same H H3 := (s1.trans s2).trans s3
    clear s1 s2 s3 g1 g2
    first | refine sigN [some (.ref a), some (.int (k)), some (V.ref p3), none, none, none, none] (by rfl) ?_ | refine sig [some (.ref a), some (.int (k)), some (V.ref p3), none, none, none, none] (by rfl) ?_
    refine ⟨.ref a, rfl, a, rfl, ⟨_, sA.seq hx⟩, fun D hD => ?_⟩
    refine lc_list (K := K) (a := a) (xs := ns.map V.int) (fun i H4 => Same H3 H4 ∧ ∃ gs : List Int, H4 D = some (.lst (gs.map V.int)) ∧ gs.length ≤ i) ⟨Same.new hD, [], upd_same, Nat.le_refl _⟩ (fun i H4 _ z => (sA.trans z.1).seq hx) (fun i x H4 hi z => ?_) (fun H4 z => ?_)
    · obtain ⟨s4, gs, g4, l4⟩ := z
      obtain ⟨y, rfl⟩ : ∃ y : Int, x = .int y := by
        rw [List.getElem?_map] at hi
        cases e : ns[i]? with
        | none =>
          rw [e] at hi
          cases hi
        | some y =>
          rw [e] at hi
          exact ⟨y, (Option.some.inj hi).symm⟩
      have hi2 : i < ns.length := by
        have h1 := (List.getElem?_eq_some_iff.mp hi).1
        rw [List.length_map] at h1
        exact h1
      refine ⟨rfl, _, rfl, _, _, rfl, rfl, ⟨by decide, by decide, by decide⟩, _, _, rfl, rfl, _, rfl, ite2 (fun _ => ?_) (fun _ => ?_)⟩
      · refine ⟨_, rfl, _, g4, ?_, Same.put s4 hD, gs ++ [y], ?_, ?_⟩
        · rw [List.length_map]
          exact small1000 (by omega)
        · rw [upd_same, List.map_append]
          rfl
        · rw [List.length_append]
          exact Nat.add_le_add_right l4 1
      · exact ⟨s4, gs, g4, Nat.le_succ_of_le l4⟩
    · obtain ⟨s4, gs, g4, l4⟩ := z
      have sB : Same H H4 := sA.trans s4
      have g3' := s4 _ _ g3
      refine ⟨_, rfl, _, _, rfl, rfl, (Or.inl ⟨by decide, by decide⟩), _, _, rfl, rfl, ?_⟩
      first | refine sigN [some (.ref a), some (.int (k)), some (V.ref p3), some (V.ref D), none, some (.int (61 + 9 * k)), none] (by rfl) ?_ | refine sig [some (.ref a), some (.int (k)), some (V.ref p3), some (V.ref D), none, some (.int (61 + 9 * k)), none] (by rfl) ?_
      refine ⟨_, rfl, p3, rfl, ⟨_, .inl (.inl g3')⟩, for_list (K := K) (a := p3) (xs := cs.map V.int) (fun i σ H5 => H5 = H4 ∧ ∃ (y : Int) (v : Option V), σ = [some (.ref a), some (.int k), some (.ref p3), some (.ref D), v, some (.int y), none]) ⟨rfl, _, none, rfl⟩ (fun i σ H5 _ z => by rw [z.1]; exact .inl (.inl g3')) ?_ ?_⟩
      · rintro i x σ H5 hi ⟨rfl, y, v, rfl⟩
        obtain ⟨t, rfl⟩ : ∃ t : Int, x = .int t := by
          rw [List.getElem?_map] at hi
          cases e : cs[i]? with
          | none =>
            rw [e] at hi
            cases hi
          | some t =>
            rw [e] at hi
            exact ⟨t, (Option.some.inj hi).symm⟩
        refine ⟨_, rfl, _, _, rfl, rfl, (Or.inr ⟨by decide, by decide⟩), _, rfl, _, _, rfl, rfl, _, rfl, _, _, rfl, rfl, (by show (0 : Int) < 2147483647; decide), ?_⟩
        exact ⟨rfl, _, _, rfl⟩
      · rintro σ H5 ⟨rfl, y, v, rfl⟩
        refine ⟨_, rfl, _, rfl, D, _, rfl, .inl (.inl (.inl g4)), _, _, rfl, rfl, _, rfl, ite2 (fun e => ?A) (fun e => ?B)⟩
        case' A =>
          have e' : k < ((gs.map V.int).length : Int) := of_decide_eq_true e
          rw [List.length_map] at e'
          have hk2 : k.toNat < gs.length := by omega
          have hz : atI (gs.map V.int) k = some (.int gs[k.toNat]) := by
            have key : atI (gs.map V.int) ((k.toNat : Nat) : Int) = some (.int gs[k.toNat]) := atI_nat (by
              rw [List.getElem?_map, List.getElem?_eq_getElem hk2]
              rfl)
            rw [show ((k.toNat : Nat) : Int) = k by omega] at key
            exact key
          refine ⟨_, rfl, _, rfl, D, _, _, _, rfl, rfl, .inl (.inl g4), hz, ?_⟩
        all_goals
          intro m nm
          have h3m : p3 ≠ m := ne_of_none g3' nm
          refine ⟨_, rfl, _, rfl, _, rfl, _, rfl, _, _, rfl, rfl, (Or.inl ⟨by decide, by decide⟩), _, _, rfl, rfl, (by show 1 ≤ sizeLine; decide), fun l nl => ?_⟩
          have nml : m ≠ l := ne_of_none upd_same nl
          have nl0 : H5 l = none := Same.free (Same.new nm) nl
          refine ⟨p3, l, cs.map V.int, [V.int (47 * k + 19)], rfl, rfl, ?_, upd_same, ?_, fun u nu => ?_⟩
          · rw [upd_ne (ne_of_none g3' nl0), upd_ne h3m]
            exact g3'
          · rw [List.length_map]
            exact small (by show cs.length + 1 ≤ 1000; omega)
          have nmu : m ≠ u := ne_of_none (by rw [upd_ne nml]; exact upd_same) nu
          have nu0 : H5 u = none := Same.free (Same.put (Same.new nm) nl0) nu
          refine ⟨?_, mk4 _ y u 0, rfl, (by show 4 ≤ 15; decide), ?_⟩
          · rw [upd_ne nmu, upd_ne nml]
            exact upd_same
          rw [m4_merge]
          have hm0 : H m = none := Same.free sB nm
          have hl0 : H l = none := Same.free sB nl0
          have hu0 : H u = none := Same.free sB nu0
          refine q _ m u (Same.put (Same.put (Same.put (Same.put sB hm0) hl0) hu0) hm0) hm0 hu0 ⟨_, y, cs ++ [47 * k + 19], 0, upd_same, Nat.le_refl _, ?_, ?_⟩
          · rw [upd_ne (fun z => nmu z.symm), upd_same, List.map_append]
            rfl
          · rw [List.length_append]
            exact Nat.lt_of_lt_of_le (by decide : 0 < 1) (Nat.le_add_left _ _)
end
end K08
set_option linter.all false
/-! short forms: plain Lean -/
namespace K08M
/-- nothing can be divided out -/
def Sh (a b : Int) : Prop := ∀ p : Nat, 2 ≤ p → p ^ 4 ∣ a.natAbs → ¬ p ^ 6 ∣ b.natAbs
theorem pow_cop {u v k m : Nat} (h : Nat.Coprime u v) : Nat.Coprime (u ^ k) (v ^ m) := Nat.Coprime.pow k m h
/-- from u ^ k A = v ^ k B with u, v without common factor: v ^ k divides A -/
theorem part_dvd {u v k A B : Nat} (h : Nat.Coprime u v) (e : u ^ k * A = v ^ k * B) : v ^ k ∣ A := by
  have h1 : v ^ k ∣ u ^ k * A := ⟨B, e⟩
  exact Nat.Coprime.dvd_of_dvd_mul_left (pow_cop h).symm h1
theorem uniqN {u v : Nat} {A B C D : Int} (hu : 0 < u) (hv : 0 < v) (h4 : u ^ 4 * A.natAbs = v ^ 4 * C.natAbs) (h6 : u ^ 6 * B.natAbs = v ^ 6 * D.natAbs) (s1 : Sh A B) (s2 : Sh C D) : u = v := by
  obtain ⟨g, x, y, hg, hc, rfl, rfl⟩ : ∃ g x y : Nat, 0 < g ∧ Nat.Coprime x y ∧ u = x * g ∧ v = y * g := by
    have hg : 0 < Nat.gcd u v := Nat.gcd_pos_of_pos_left _ hu
    refine ⟨Nat.gcd u v, u / Nat.gcd u v, v / Nat.gcd u v, hg, Nat.coprime_div_gcd_div_gcd hg, ?_, ?_⟩
    · exact (Nat.div_mul_cancel (Nat.gcd_dvd_left u v)).symm
    · exact (Nat.div_mul_cancel (Nat.gcd_dvd_right u v)).symm
  have g4 : 0 < g ^ 4 := Nat.pow_pos hg
  have g6 : 0 < g ^ 6 := Nat.pow_pos hg
  have k4 : x ^ 4 * A.natAbs = y ^ 4 * C.natAbs := by
    rw [Nat.mul_pow, Nat.mul_pow] at h4
    refine Nat.eq_of_mul_eq_mul_left g4 ?_
    calc g ^ 4 * (x ^ 4 * A.natAbs) = x ^ 4 * g ^ 4 * A.natAbs := by rw [← Nat.mul_assoc, Nat.mul_comm (g ^ 4)]
      _ = y ^ 4 * g ^ 4 * C.natAbs := h4
      _ = _ := by rw [Nat.mul_comm (y ^ 4), Nat.mul_assoc]
  have k6 : x ^ 6 * B.natAbs = y ^ 6 * D.natAbs := by
    rw [Nat.mul_pow, Nat.mul_pow] at h6
    refine Nat.eq_of_mul_eq_mul_left g6 ?_
    calc g ^ 6 * (x ^ 6 * B.natAbs) = x ^ 6 * g ^ 6 * B.natAbs := by rw [← Nat.mul_assoc, Nat.mul_comm (g ^ 6)]
      _ = y ^ 6 * g ^ 6 * D.natAbs := h6
      _ = _ := by rw [Nat.mul_comm (y ^ 6), Nat.mul_assoc]
  have hx : 0 < x := Nat.pos_of_ne_zero (fun z => by rw [z, Nat.zero_mul] at hu; exact absurd hu (Nat.lt_irrefl _))
  have hy : 0 < y := Nat.pos_of_ne_zero (fun z => by rw [z, Nat.zero_mul] at hv; exact absurd hv (Nat.lt_irrefl _))
  have y1 : y = 1 := by
    rcases Nat.lt_or_ge y 2 with z | z
    · omega
    · exact absurd (part_dvd hc k6) (s1 y z (part_dvd hc k4))
  have x1 : x = 1 := by
    rcases Nat.lt_or_ge x 2 with z | z
    · omega
    · exact absurd (part_dvd hc.symm k6.symm) (s2 x z (part_dvd hc.symm k4.symm))
  rw [x1, y1]
/-- one form alone: (a, b) = (u ^ 4 A, u ^ 6 B) = (v ^ 4 C, v ^ 6 D) -/
theorem uniq {u v : Nat} {a b A B C D : Int} (hu : 0 < u) (hv : 0 < v) (e1 : a = (u : Int) ^ 4 * A) (e2 : b = (u : Int) ^ 6 * B) (e3 : a = (v : Int) ^ 4 * C) (e4 : b = (v : Int) ^ 6 * D) (s1 : Sh A B) (s2 : Sh C D) : A = C ∧ B = D := by
  have n : ∀ (w : Nat) (k : Nat) (X : Int), ((w : Int) ^ k * X).natAbs = w ^ k * X.natAbs := fun w k X => by
    rw [Int.natAbs_mul, Int.natAbs_pow, Int.natAbs_natCast]
  have h4 : u ^ 4 * A.natAbs = v ^ 4 * C.natAbs := by
    rw [← n, ← n, ← e1, e3]
  have h6 : u ^ 6 * B.natAbs = v ^ 6 * D.natAbs := by
    rw [← n, ← n, ← e2, e4]
  have uv := uniqN hu hv h4 h6 s1 s2
  subst uv
  have p4 : (u : Int) ^ 4 ≠ 0 := Int.ne_of_gt (Int.pow_pos (by omega))
  have p6 : (u : Int) ^ 6 ≠ 0 := Int.ne_of_gt (Int.pow_pos (by omega))
  exact ⟨Int.eq_of_mul_eq_mul_left p4 (e1.symm.trans e3), Int.eq_of_mul_eq_mul_left p6 (e2.symm.trans e4)⟩
/-- the least divisor from 2 on -/
theorem least_div {q : Nat} (h : 2 ≤ q) : ∃ d, 2 ≤ d ∧ d ∣ q ∧ ∀ e, 2 ≤ e → e ∣ d → e = d := by
  induction q using Nat.strongRecOn with
  | ind q ih =>
    by_cases z : ∃ e, 2 ≤ e ∧ e ∣ q ∧ e ≠ q
    · obtain ⟨e, e2, eq, ne⟩ := z
      have hlt : e < q := Nat.lt_of_le_of_ne (Nat.le_of_dvd (by omega) eq) ne
      obtain ⟨d, d2, dd, hd⟩ := ih e hlt e2
      exact ⟨d, d2, Nat.dvd_trans dd eq, hd⟩
    · refine ⟨q, h, Nat.dvd_refl q, fun e e2 eq => ?_⟩
      rcases Nat.eq_or_lt_of_le (Nat.le_of_dvd (by omega) eq) with y | y
      · exact y
      · exact absurd ⟨e, e2, eq, by omega⟩ z
/-- such a one and a smaller number have no common factor -/
theorem irr_cop {d p : Nat} (h : ∀ e, 2 ≤ e → e ∣ d → e = d) (hd : 2 ≤ d) (hp : 0 < p) (hlt : p < d) : Nat.Coprime d p := by
  have h1 : Nat.gcd d p ∣ d := Nat.gcd_dvd_left d p
  have h2 : Nat.gcd d p ≤ p := Nat.gcd_le_right _ hp
  have h3 : 0 < Nat.gcd d p := Nat.gcd_pos_of_pos_right _ hp
  unfold Nat.Coprime
  rcases Nat.lt_or_ge (Nat.gcd d p) 2 with z | z
  · omega
  · have := h _ z h1
    omega
theorem sh_of_irr {a b : Int} (h : ∀ d, 2 ≤ d → (∀ e, 2 ≤ e → e ∣ d → e = d) → d ^ 4 ∣ a.natAbs → ¬ d ^ 6 ∣ b.natAbs) : Sh a b := by
  intro p hp h4 h6
  obtain ⟨d, d2, dp, hd⟩ := least_div hp
  exact h d d2 hd (Nat.dvd_trans (Nat.pow_dvd_pow_iff (by decide) |>.mpr dp) h4) (Nat.dvd_trans (Nat.pow_dvd_pow_iff (by decide) |>.mpr dp) h6)
end K08M
set_option linter.all false
/-! the short form by dividing: plain Lean -/
namespace K08M
/-- no divisor but 1 and itself -/
def Irr (d : Nat) : Prop := 2 ≤ d ∧ ∀ e, 2 ≤ e → e ∣ d → e = d
/-- d can be divided out -/
def Cut (d : Nat) (a b : Int) : Prop := d ^ 4 ∣ a.natAbs ∧ d ^ 6 ∣ b.natAbs
/-- (a, b) is (A, B) made greater -/
def Up (a b A B : Int) : Prop := ∃ u : Nat, 0 < u ∧ a = (u : Int) ^ 4 * A ∧ b = (u : Int) ^ 6 * B
theorem Up.refl (a b : Int) : Up a b a b := ⟨1, by decide, by simp, by simp⟩
theorem Up.trans {a b c d e f : Int} (h : Up a b c d) (h2 : Up c d e f) : Up a b e f := by
  obtain ⟨u, hu, rfl, rfl⟩ := h
  obtain ⟨v, hv, rfl, rfl⟩ := h2
  refine ⟨u * v, Nat.mul_pos hu hv, ?_, ?_⟩
  · rw [Int.natCast_mul, Int.mul_pow, Int.mul_assoc]
  · rw [Int.natCast_mul, Int.mul_pow, Int.mul_assoc]
theorem Up.one {a b A B : Int} {p : Nat} (hp : 0 < p) (h4 : a = (p : Int) ^ 4 * A) (h6 : b = (p : Int) ^ 6 * B) : Up a b A B := ⟨p, hp, h4, h6⟩
theorem Up.cut {a b A B : Int} (h : Up a b A B) {d : Nat} (c : Cut d A B) : Cut d a b := by
  obtain ⟨u, hu, rfl, rfl⟩ := h
  refine ⟨?_, ?_⟩
  · rw [Int.natAbs_mul]; exact Nat.dvd_mul_left_of_dvd c.1 _
  · rw [Int.natAbs_mul]; exact Nat.dvd_mul_left_of_dvd c.2 _
theorem Up.nz {a b A B : Int} (h : Up a b A B) (n : ¬ (a = 0 ∧ b = 0)) : ¬ (A = 0 ∧ B = 0) := by
  obtain ⟨u, hu, rfl, rfl⟩ := h
  rintro ⟨rfl, rfl⟩
  exact n ⟨Int.mul_zero _, Int.mul_zero _⟩
theorem Up.zero {a b A B : Int} (h : Up a b A B) : a = 0 ↔ A = 0 := by
  obtain ⟨u, hu, rfl, rfl⟩ := h
  have p4 : (u : Int) ^ 4 ≠ 0 := Int.ne_of_gt (Int.pow_pos (by omega))
  constructor
  · intro e
    rcases Int.mul_eq_zero.mp e with z | z
    · exact absurd z p4
    · exact z
  · rintro rfl
    exact Int.mul_zero _
theorem Up.one_form {a b A B C D : Int} (h : Up a b A B) (h2 : Up a b C D) (s : Sh A B) (s2 : Sh C D) : A = C ∧ B = D := by
  obtain ⟨u, hu, e1, e2⟩ := h
  obtain ⟨v, hv, e3, e4⟩ := h2
  exact uniq hu hv e1 e2 e3 e4 s s2
theorem sh_of_cut {a b : Int} (h : ∀ d, Irr d → ¬ Cut d a b) : Sh a b :=
  sh_of_irr (fun d d2 hd c4 c6 => h d ⟨d2, hd⟩ ⟨c4, c6⟩)
/-- the law's end: p ** 4 or p ** 6 is too great -/
theorem sh_law {a b : Int} {p : Nat} (nz : ¬ (a = 0 ∧ b = 0)) (h : ∀ d, 2 ≤ d → d < p → ¬ Cut d a b) (e : a ≠ 0 → a.natAbs < p ^ 4) (e' : a = 0 → b.natAbs < p ^ 6) : Sh a b := by
  refine sh_of_cut (fun d hd c => ?_)
  rcases Nat.lt_or_ge d p with z | z
  · exact h d hd.1 z c
  · by_cases a0 : a = 0
    · have b0 : 0 < b.natAbs := by
        have : b ≠ 0 := fun y => nz ⟨a0, y⟩
        omega
      have h1 := Nat.le_of_dvd b0 c.2
      have h2 : p ^ 6 ≤ d ^ 6 := Nat.pow_le_pow_left z 6
      have h3 := e' a0
      omega
    · have h1 := Nat.le_of_dvd (by omega) c.1
      have h2 : p ^ 4 ≤ d ^ 4 := Nat.pow_le_pow_left z 4
      have h3 := e a0
      omega
/-- the program's end: the root of what is left is below p -/
theorem sh_prog {a b : Int} {p rest least most : Nat} (hr : 0 < rest) (h : ∀ d, Irr d → d < p → ¬ Cut d a b) (g : ∀ d, Irr d → p ≤ d → Cut d a b → d ^ least ∣ rest) (hm : rest < (most + 1) ^ least) (hp : most < p) : Sh a b := by
  refine sh_of_cut (fun d hd c => ?_)
  rcases Nat.lt_or_ge d p with z | z
  · exact h d hd z c
  · have h1 := Nat.le_of_dvd hr (g d hd z c)
    have h2 : (most + 1) ^ least ≤ d ^ least := Nat.pow_le_pow_left (by omega) least
    omega
/-- p is divided out of what is left -/
theorem strip {q p k r least : Nat} (hq : Irr q) (hp : 0 < p) (hlt : p < q) (h : q ^ least ∣ p ^ k * r) : q ^ least ∣ r :=
  Nat.Coprime.dvd_of_dvd_mul_left (pow_cop (irr_cop hq.2 hq.1 hp hlt)) h
/-- one turn of the program's loop where p divides nothing -/
theorem turn_no {a b : Int} {p rest least : Nat} (hl : 0 < least) (h : ∀ d, Irr d → d < p → ¬ Cut d a b) (g : ∀ d, Irr d → p ≤ d → Cut d a b → d ^ least ∣ rest) (hp : ¬ p ∣ rest) : (∀ d, Irr d → d < p + 1 → ¬ Cut d a b) ∧ ∀ d, Irr d → p + 1 ≤ d → Cut d a b → d ^ least ∣ rest := by
  refine ⟨fun d hd lt c => ?_, fun d hd le c => g d hd (by omega) c⟩
  rcases Nat.lt_or_ge d p with z | z
  · exact h d hd z c
  · have e : d = p := by omega
    subst e
    exact hp (Nat.dvd_trans (Nat.dvd_of_pow_dvd hl (Nat.dvd_refl _)) (g d hd z c))
/-- one turn where p divides: (a, b) becomes (A, B), what is left is p ^ k r -/
theorem turn_yes {a b A B : Int} {p k r least : Nat} (h0 : 0 < p) (u : Up a b A B) (n : ¬ Cut p A B) (h : ∀ d, Irr d → d < p → ¬ Cut d a b) (g : ∀ d, Irr d → p ≤ d → Cut d a b → d ^ least ∣ p ^ k * r) : (∀ d, Irr d → d < p + 1 → ¬ Cut d A B) ∧ ∀ d, Irr d → p + 1 ≤ d → Cut d A B → d ^ least ∣ r := by
  refine ⟨fun d hd lt c => ?_, fun d hd le c => strip hd h0 (by omega) (g d hd (by omega) (u.cut c))⟩
  rcases Nat.lt_or_ge d p with z | z
  · exact h d hd z (u.cut c)
  · have e : d = p := by omega
    subst e
    exact n c
/-- its beginning -/
theorem start_gcd (a b : Int) (d : Nat) (c : Cut d a b) : d ^ 4 ∣ Nat.gcd a.natAbs b.natAbs :=
  Nat.dvd_gcd c.1 (Nat.dvd_trans (Nat.pow_dvd_pow d (by decide)) c.2)
theorem start_zero (a b : Int) (d : Nat) (c : Cut d a b) : d ^ 6 ∣ b.natAbs := c.2
/-- dividing once by p, as Python divides -/
theorem up_div {a b : Int} {p : Nat} (hp : 0 < p) (c : Cut p a b) : Up a b (a.fdiv ((p : Int) ^ 4)) (b.fdiv ((p : Int) ^ 6)) := by
  have f : ∀ (x : Int) (k : Nat), p ^ k ∣ x.natAbs → x = (p : Int) ^ k * x.fdiv ((p : Int) ^ k) := by
    intro x k h
    have h1 : (p : Int) ^ k ∣ x := by
      rw [← Int.natCast_pow]
      exact Int.ofNat_dvd_left.mpr h
    rw [Int.fdiv_eq_ediv_of_dvd h1]
    exact (Int.mul_ediv_cancel' h1).symm
  exact ⟨p, hp, f a 4 c.1, f b 6 c.2⟩
theorem cut_iff {a b : Int} {p : Nat} : Cut p a b ↔ a.fmod ((p : Int) ^ 4) = 0 ∧ b.fmod ((p : Int) ^ 6) = 0 := by
  have f : ∀ (x : Int) (k : Nat), p ^ k ∣ x.natAbs ↔ x.fmod ((p : Int) ^ k) = 0 := by
    intro x k
    rw [← Int.natCast_pow, ← Int.dvd_iff_fmod_eq_zero]
    exact Int.ofNat_dvd_left.symm
  unfold Cut
  rw [f, f]
end K08M
set_option Elab.async false
set_option linter.all false
set_option maxRecDepth 100000
set_option maxHeartbeats 4000000
namespace K08
open PySem PySem.Spec PyProof.Rows L2 Gd QM
local macro_rules | `(tactic| walk_at "bd") => `(tactic| (repeat (first | assumption | apply B.add | apply B.sub | apply B.mul | apply B.neg | exact B.lit (n := 8) (by decide))))
local macro_rules | `(tactic| walk_at "bu") => `(tactic| (apply B.up; walk_at "bd"; decide))
local macro_rules | `(tactic| walk_at "bnd") => `(tactic| (apply B.mulW; walk_at "bd"; decide))
local macro_rules | `(tactic| walk_at "pw") => `(tactic| exact B.up (n := 64) (by assumption) (by decide))
/-- x //= y -/
def ipIc (c : Int → Int → Prop) (f : Int → Int → Int) : TIp := fun x y H Q => ∃ i j, x = .int i ∧ y = .int j ∧ c i j ∧ Q (.int (f i j)) H
theorem ip_fdivAny {X : Cx} : PIp X .FloorDiv (ipIc CDivAny fun i j => i.fdiv j) := by
  intro pins s σ H x y v u Q I r1 r2 h
  obtain ⟨i, j, e1, e2, c, q⟩ := h
  subst e1; subst e2
  obtain ⟨t, rfl⟩ := r1
  obtain ⟨t', rfl⟩ := r2
  exact ifloordiv_int c.1 ⟨.int _, H, I.tok _, ⟨_, rfl⟩, q⟩ (.inl (PyProof.noPylong_of_log2 c.2))
section
variable {P : Program} {w : World} {K : PySem.W.Frag} {mg : Str → Option Value} {base : Heap}
/-- the limits of a pair -/
def PB (a b : Int) : Prop := ¬ (a = 0 ∧ b = 0) ∧ a.natAbs < 10 ^ 16 ∧ b.natAbs < 10 ^ 24
theorem PB.a {a b : Int} (h : PB a b) : B 54 a := by
  unfold B
  exact Nat.lt_of_lt_of_le h.2.1 (by decide)
theorem PB.b {a b : Int} (h : PB a b) : B 80 b := by
  unfold B
  exact Nat.lt_of_lt_of_le h.2.2 (by decide)
theorem PB.up {a b A C : Int} (h : PB a b) (u : K08M.Up a b A C) : PB A C ∧ A.natAbs ≤ a.natAbs ∧ C.natAbs ≤ b.natAbs := by
  have n := u.nz h.1
  obtain ⟨p, hp, rfl, rfl⟩ := u
  have f : ∀ (k : Nat) (X : Int), X.natAbs ≤ ((p : Int) ^ k * X).natAbs := by
    intro k X
    rw [Int.natAbs_mul, Int.natAbs_pow, Int.natAbs_natCast]
    exact Nat.le_mul_of_pos_left _ (Nat.pow_pos hp)
  exact ⟨⟨n, Nat.lt_of_le_of_lt (f 4 A) h.2.1, Nat.lt_of_le_of_lt (f 6 C) h.2.2⟩, f 4 A, f 6 C⟩
theorem up_less {a b : Int} {p : Nat} (hp : 2 ≤ p) (h : PB a b) (c : K08M.Cut p a b) : (a.fdiv ((p : Int) ^ 4)).natAbs + (b.fdiv ((p : Int) ^ 6)).natAbs < a.natAbs + b.natAbs := by
  have u := K08M.up_div (by omega) c
  have f : ∀ (k : Nat) (x X : Int), 1 ≤ k → x = (p : Int) ^ k * X → X.natAbs + X.natAbs ≤ x.natAbs := by
    rintro k x X hk rfl
    rw [Int.natAbs_mul, Int.natAbs_pow, Int.natAbs_natCast]
    have h1 : 2 ^ 1 ≤ p ^ k := Nat.le_trans (Nat.pow_le_pow_left hp 1) (Nat.pow_le_pow_right (by omega) hk)
    have h2 := Nat.mul_le_mul_right X.natAbs h1
    omega
  have g : ∀ (x : Int) (k : Nat), p ^ k ∣ x.natAbs → x = (p : Int) ^ k * x.fdiv ((p : Int) ^ k) := by
    intro x k h
    have h1 : (p : Int) ^ k ∣ x := by
      rw [← Int.natCast_pow]
      exact Int.ofNat_dvd_left.mpr h
    rw [Int.fdiv_eq_ediv_of_dvd h1]
    exact (Int.mul_ediv_cancel' h1).symm
  have h4 := f 4 a _ (by decide) (g a 4 c.1)
  have h6 := f 6 b _ (by decide) (g b 6 c.2)
  have n := h.1
  omega
/-! ### divided_by -/
def sp_divided_by (K : PySem.W.Frag) : Sp := fun vs H Q _ => ∃ (a b : Int) (p : Nat), vs = [.int a, .int b, .int (p : Int)] ∧ 2 ≤ p ∧ p ≤ 10000 ∧ PB a b ∧ ∀ A C t, K08M.Up a b A C → ¬ K08M.Cut p A C → H t = none → Q (.ref t) (upd H t (.tup [.int A, .int C]))
abbrev s_divided_by : Stmt := topS 28
theorem sc_divided_by : FnScope ["a", "b", "u", "fourth", "sixth"] ["a", "b", "u"] (defScope s_divided_by) := ⟨rfl, rfl, rfl, by decide +kernel, rfl, by decide +kernel, by decide +kernel⟩
theorem k_divided_by (T : Tx K mg) (D : Df K mg "divided_by" s_divided_by ["a", "b", "u"])  : Kl P w K mg base 1 "divided_by" (sp_divided_by K) := by
  have nd := sc_divided_by.nd
  refine Kl.by_body D sc_divided_by (fun vs H Q E h => ?_) (fun f cdv A outer s H vs Q E hr h => ?_)
  · obtain ⟨_, _, _, rfl, _⟩ := h
    rfl
  · obtain ⟨a, b, p, rfl, h2, h4, hb, q⟩ := h
    have hu1 := hu_of hr
    refine ⟨_, (pss_cons (ps_set (i := 3) nd rfl (by first | exact Or.inl rfl | exact Or.inr rfl) (pe_op op_mulW (pe_op op_mulW (pe_op op_mulW (pv 2) (pv 2)) (pv 2)) (pv 2)))
      (pss_cons (ps_set (i := 4) nd rfl (by first | exact Or.inl rfl | exact Or.inr rfl) (pe_op op_mulW (pe_op op_mulW (pv 3) (pv 2)) (pv 2)))
      (pss_cons (ps_while PassesOwn.never (PW.pt (pw_and (pt_cmpR op_eq (pe_op op_mod (pv 0) (pv 3)) pe_int (nomark _)) (pw_and1 (pt_cmpR op_eq (pe_op op_mod (pv 1) (pv 4)) pe_int (nomark _))))) (pss_cons (ps_aug (i := 0) nd rfl (by first | exact Or.inl rfl | exact Or.inr rfl) (pv 3) ip_fdivAny)
      (pss_one (ps_aug (i := 1) nd rfl (by first | exact Or.inl rfl | exact Or.inr rfl) (pv 4) ip_fdivAny))))
      (pss_one (ps_ret (pe_tup (pa_cons (pv 0) (pa_cons (pv 1) pa_nil)))))))), ?_⟩
    have bp : B 14 (p : Int) := by
      unfold B
      omega
    have p4 : (p : Int) * p * p * p = (p : Int) ^ 4 := by
      rw [Int.pow_succ, Int.pow_succ, Int.pow_succ, Int.pow_succ, Int.pow_zero, Int.one_mul]
    have p6 : (p : Int) ^ 4 * p * p = (p : Int) ^ 6 := by
      rw [Int.pow_succ (p : Int) 5, Int.pow_succ (p : Int) 4]
    have b4 : B 57 ((p : Int) ^ 4) := (bp.pow 4).up (by decide)
    have b6 : B 85 ((p : Int) ^ 6) := (bp.pow 6).up (by decide)
    have g4 : 0 < (p : Int) ^ 4 := Int.pow_pos (by omega)
    have g6 : 0 < (p : Int) ^ 6 := Int.pow_pos (by omega)
    refine ⟨_, rfl, _, rfl, _, _, rfl, rfl, (by walk_at "bnd"), _, rfl, _, _, rfl, rfl, (by walk_at "bnd"), _, rfl, _, _, rfl, rfl, (by walk_at "bnd"), ?_⟩
    refine sigN [some (.int a), some (.int b), some (.int (p : Int)), some (.int ((p : Int) ^ 4)), none] (by rw [← p4]; rfl) ?_
    refine ⟨_, rfl, _, rfl, _, _, rfl, rfl, (by walk_at "bnd"), _, rfl, _, _, rfl, rfl, (by walk_at "bnd"), ?_⟩
    refine sigN [some (.int a), some (.int b), some (.int (p : Int)), some (.int ((p : Int) ^ 4)), some (.int ((p : Int) ^ 6))] (by rw [← p6]; rfl) ?_
    refine while_by (fun σ H2 => ∃ x y : Int, σ = [some (.int x), some (.int y), some (.int (p : Int)), some (.int ((p : Int) ^ 4)), some (.int ((p : Int) ^ 6))] ∧ H2 = H ∧ K08M.Up a b x y)
      (fun σ _ => match σ with | [some (.int x), some (.int y), _, _, _] => x.natAbs + y.natAbs | _ => 0) ⟨a, b, rfl, rfl, K08M.Up.refl a b⟩ ?_ ?_
    · rintro σ H2 ⟨x, y, rfl, rfl, u⟩
      obtain ⟨hx, -, -⟩ := hb.up u
      have ec : K08M.Cut p x y ↔ x % (p : Int) ^ 4 = 0 ∧ y % (p : Int) ^ 6 = 0 := by
        rw [K08M.cut_iff, Int.fmod_eq_emod_of_nonneg x (by omega), Int.fmod_eq_emod_of_nonneg y (by omega)]
      have no : ¬ K08M.Cut p x y → ∀ t, H2 t = none → Q (.ref t) (upd H2 t (.tup [.int x, .int y])) := fun n t nt => q x y t u n nt
      refine ⟨_, rfl, _, rfl, x, _, rfl, rfl, g4, rfl, _, rfl, ?_⟩
      rw [dec_int]
      by_cases h0 : x % (p : Int) ^ 4 = 0
      · refine iteY (by simp [h0]) ?_
        refine ⟨_, rfl, _, rfl, y, _, rfl, rfl, g6, rfl, _, rfl, ?_⟩
        rw [dec_int]
        by_cases h1 : y % (p : Int) ^ 6 = 0
        · refine iteY (by simp [h1]) ?_
          have c : K08M.Cut p x y := ec.mpr ⟨h0, h1⟩
          refine ⟨_, rfl, _, rfl, x, _, rfl, rfl, div_any (by omega) b4 (by decide), ?_⟩
          refine ⟨_, rfl, _, rfl, y, _, rfl, rfl, div_any (by omega) b6 (by decide), ?_⟩
          exact ⟨⟨_, _, rfl, rfl, u.trans (K08M.up_div (by omega) c)⟩, up_less h2 hx c⟩
        · refine iteN (by simp [h1]) ?_
          refine ⟨_, rfl, _, rfl, (by show 2 ≤ sizeLine; decide), fun t nt => ?_⟩
          exact no (fun z => h1 (ec.mp z).2) t nt
      · refine iteN (by simp [h0]) ?_
        refine iteN (by simp) ?_
        refine ⟨_, rfl, _, rfl, (by show 2 ≤ sizeLine; decide), fun t nt => ?_⟩
        exact no (fun z => h0 (ec.mp z).1) t nt
    · rintro σ H2 Q1 Q2 i ⟨v1, e1, v2, e2, x, y, e3, e4, e5, e6, c, e7, z⟩
      refine ⟨v1, e1, v2, e2, x, y, e3, e4, e5, e6, c, e7, ?_⟩
      by_cases hc : c = true
      · refine iteY hc ?_
        obtain ⟨w1, d1, w2, d2, x', y', d3, d4, d5, d6, c', d7, z⟩ := (if_pos hc).mp z
        exact ⟨w1, d1, w2, d2, x', y', d3, d4, d5, d6, c', d7, i _ _ z⟩
      · exact iteN hc (i _ _ ((if_neg hc).mp z))
end
end K08
set_option linter.all false
namespace K08
open PySem PySem.Spec PyProof.Rows L2 Gd QM
/-! what is read asks no more of what follows than it gives -/
def MoE (t : TE) : Prop := ∀ σ H (Q Q' : VK), (∀ v H1, Q v H1 → Q' v H1) → t σ H Q → t σ H Q'
def MoA (t : TA) : Prop := ∀ σ H (Q Q' : List V → Hp → Prop), (∀ v H1, Q v H1 → Q' v H1) → t σ H Q → t σ H Q'
def MoT (t : TT) : Prop := ∀ σ H (Q Q' : Bool → Hp → Prop), (∀ b H1, Q b H1 → Q' b H1) → t σ H Q → t σ H Q'
def MoR (r : R2) : Prop := ∀ x y H (Q Q' : VK), (∀ v H1, Q v H1 → Q' v H1) → r x y H Q → r x y H Q'
def MoB (r : List V → Hp → VK → Prop) : Prop := ∀ x H (Q Q' : VK), (∀ v H1, Q v H1 → Q' v H1) → r x H Q → r x H Q'
theorem MoE.var {i : Nat} : MoE (tVar i) := fun _ _ _ _ k ⟨v, e, z⟩ => ⟨v, e, k _ _ z⟩
theorem MoE.c {v : V} : MoE (tC v) := fun _ _ _ _ k z => k _ _ z
theorem MoE.op {r : R2} {t u : TE} (h : MoR r) (h1 : MoE t) (h2 : MoE u) : MoE (tOp r t u) := fun _ _ _ _ k z => h1 _ _ _ _ (fun _ _ y => h2 _ _ _ _ (fun _ _ x => h _ _ _ _ _ k x) y) z
theorem MoE.cb {r : List V → Hp → VK → Prop} {t : TA} (h : MoB r) (h1 : MoA t) : MoE (tCB r t) := fun _ _ _ _ k z => h1 _ _ _ _ (fun _ _ y => h _ _ _ _ k y) z
theorem MoA.nil : MoA tNil := fun _ _ _ _ k z => k _ _ z
theorem MoA.cons {t : TE} {u : TA} (h1 : MoE t) (h2 : MoA u) : MoA (tCons t u) := fun _ _ _ _ k z => h1 _ _ _ _ (fun _ _ y => h2 _ _ _ _ (fun _ _ x => k _ _ x) y) z
theorem MoR.i {C : Int → Int → Prop} {g : Int → Int → V} : MoR (rI C g) := fun _ _ _ _ _ k ⟨i, j, e1, e2, c, z⟩ => ⟨i, j, e1, e2, c, k _ _ z⟩
theorem MoR.i0 {g : Int → Int → V} : MoR (rI0 g) := fun _ _ _ _ _ k ⟨i, j, e1, e2, z⟩ => ⟨i, j, e1, e2, k _ _ z⟩
theorem MoR.eq : MoR rEq := fun _ _ _ _ _ k ⟨e, z⟩ => ⟨e, k _ _ z⟩
theorem MoR.ne : MoR rNe := fun _ _ _ _ _ k ⟨e, z⟩ => ⟨e, k _ _ z⟩
theorem MoB.i {g : Int → V} : MoB (fun xs H Q => ∃ i, xs = [V.int i] ∧ Q (g i) H) := fun _ _ _ _ k ⟨i, e, z⟩ => ⟨i, e, k _ _ z⟩
theorem MoT.test {t : TE} (h : MoE t) : MoT (tTest t) := fun _ _ _ _ k z => h _ _ _ _ (fun _ _ ⟨c, e, y⟩ => ⟨c, e, k _ _ y⟩) z
theorem MoT.and {t u : TT} (h : MoT t) (h' : MoT u) : MoT (tAnd t u) := fun σ H Q Q' i z => h _ _ _ _ (fun b H1 y => by
  by_cases hb : b = true
  · rw [if_pos hb] at y ⊢
    exact h' _ _ _ _ i y
  · rw [if_neg hb] at y ⊢
    exact i _ _ y) z
theorem MoT.or {t u : TT} (h : MoT t) (h' : MoT u) : MoT (tOr t u) := fun σ H Q Q' i z => h _ _ _ _ (fun b H1 y => by
  by_cases hb : b = true
  · rw [if_pos hb] at y ⊢
    exact i _ _ y
  · rw [if_neg hb] at y ⊢
    exact h' _ _ _ _ i y) z
theorem MoE.tup {t : TA} (h : MoA t) : MoE (tTup t) := fun _ _ _ _ k z => h _ _ _ _ (fun _ _ ⟨l, y⟩ => ⟨l, fun p n => k _ _ (y p n)⟩) z
theorem MoE.ifx {c : TT} {t u : TE} (h : MoT c) (h1 : MoE t) (h2 : MoE u) : MoE (tIf c t u) := fun _ _ _ _ k z => h _ _ _ _ (fun b _ y => by
  by_cases hb : b = true
  · rw [if_pos hb] at y ⊢
    exact h1 _ _ _ _ k y
  · rw [if_neg hb] at y ⊢
    exact h2 _ _ _ _ k y) z
theorem MoB.i2 {g : Int → Int → V} : MoB (fun xs H Q => ∃ i j, xs = [V.int i, V.int j] ∧ Q (g i j) H) := fun _ _ _ _ k ⟨i, j, e, z⟩ => ⟨i, j, e, k _ _ z⟩
theorem MoB.gcd : MoB rGcd := fun _ _ _ _ k ⟨i, j, e, z⟩ => ⟨i, j, e, k _ _ z⟩
local macro_rules | `(tactic| walk_at "mo") => `(tactic| (repeat (first | with_reducible apply MoT.or | with_reducible apply MoT.and | with_reducible apply MoT.test | with_reducible apply MoE.op | with_reducible apply MoE.cb | with_reducible exact MoE.var | with_reducible exact MoE.c | with_reducible exact MoA.nil | with_reducible apply MoA.cons | exact MoR.eq | exact MoR.ne | exact MoR.i | exact MoR.i0 | exact MoB.i | exact MoB.i2 (g := fun i j => V.int (if j < i then j else i)) | exact MoB.i2 | exact MoB.gcd | with_reducible apply MoE.tup | with_reducible apply MoE.ifx)))
end K08
set_option Elab.async false
set_option linter.all false
set_option maxRecDepth 100000
set_option maxHeartbeats 4000000
namespace K08
open PySem PySem.Spec PyProof.Rows L2 Gd QM
local macro_rules | `(tactic| walk_at "mo") => `(tactic| (repeat (first | with_reducible apply MoT.or | with_reducible apply MoT.and | with_reducible apply MoT.test | with_reducible apply MoE.op | with_reducible apply MoE.cb | with_reducible exact MoE.var | with_reducible exact MoE.c | with_reducible exact MoA.nil | with_reducible apply MoA.cons | exact MoR.eq | exact MoR.ne | exact MoR.i | exact MoR.i0 | exact MoB.i | exact MoB.i2 (g := fun i j => V.int (if j < i then j else i)) | exact MoB.i2 | exact MoB.gcd | with_reducible apply MoE.tup | with_reducible apply MoE.ifx)))
local macro_rules | `(tactic| walk_at "bd") => `(tactic| (repeat (first | assumption | apply B.add | apply B.sub | apply B.mul | apply B.neg | exact B.lit (n := 8) (by decide))))
local macro_rules | `(tactic| walk_at "bu") => `(tactic| (apply B.up; walk_at "bd"; decide))
local macro_rules | `(tactic| walk_at "bnd") => `(tactic| (apply B.mulW; walk_at "bd"; decide))
local macro_rules | `(tactic| walk_at "pw") => `(tactic| exact B.up (n := 64) (by assumption) (by decide))
section
variable {P : Program} {w : World} {K : PySem.W.Frag} {mg : Str → Option Value} {base : Heap}
theorem cpow {p : Nat} (h : p ≤ 10001) {k : Int} (k0 : 0 ≤ k) (k1 : k ≤ 1000000) : CPow (p : Int) k := ⟨k0, k1, by
  rw [Int.natAbs_natCast]
  exact Nat.lt_of_le_of_lt h (by decide)⟩
/-! ### the law's short form -/
def sp_law_short (K : PySem.W.Frag) : Sp := fun vs H Q _ => ∃ (a b : Int), vs = [.int a, .int b] ∧ PB a b ∧ ∀ A C t, K08M.Up a b A C → K08M.Sh A C → H t = none → Q (.ref t) (upd H t (.tup [.int A, .int C]))
abbrev s__law_short : Stmt := topS 65
theorem sc__law_short : FnScope ["a", "b", "p"] ["a", "b"] (defScope s__law_short) := ⟨rfl, rfl, rfl, by decide +kernel, rfl, by decide +kernel, by decide +kernel⟩
theorem k_law_short (T : Tx K mg) (D : Df K mg "_law_short" s__law_short ["a", "b"])  : Kl P w K mg base 1 "_law_short" (sp_law_short K) := by
  have nd := sc__law_short.nd
  refine Kl.by_body D sc__law_short (fun vs H Q E h => ?_) (fun f cdv A outer s H vs Q E hr h => ?_)
  · obtain ⟨_, _, rfl, _⟩ := h
    rfl
  · obtain ⟨a, b, rfl, hb, q⟩ := h
    have hu1 := hu_of hr
    refine ⟨_, (pss_cons (ps_set (i := 2) nd rfl (by first | exact Or.inl rfl | exact Or.inr rfl) pe_int)
      (pss_cons (ps_while PassesOwn.never (PW.pt (pw_or (PW.pt (pw_and (pt_cmpR op_ne (pv 0) pe_int (nomark _)) (pw_and1 (pt_cmpR op_le (pe_op op_pow (pv 2) pe_int) (pe_callB call_abs (by rfl) T.abs (by decide +kernel) (pa_cons (pv 0) pa_nil)) (nomark _))))) (pw_or1 (PW.pt (pw_and (pt_cmpR op_eq (pv 0) pe_int (nomark _)) (pw_and1 (pt_cmpR op_le (pe_op op_pow (pv 2) pe_int) (pe_callB call_abs (by rfl) T.abs (by decide +kernel) (pa_cons (pv 1) pa_nil)) (nomark _)))))))) (pss_cons (ps_while PassesOwn.never (PW.pt (pw_and (pt_cmpR op_eq (pe_op op_mod (pe_callTy call_intI (by rfl) T.int (by decide +kernel) (pa_cons (pv 0) pa_nil)) (pe_op op_pow (pv 2) pe_int)) pe_int (nomark _)) (pw_and1 (pt_cmpR op_eq (pe_op op_mod (pe_callTy call_intI (by rfl) T.int (by decide +kernel) (pa_cons (pv 1) pa_nil)) (pe_op op_pow (pv 2) pe_int)) pe_int (nomark _))))) (pss_one (ps_par (i := 0) (j := 1) (by rfl) nd rfl rfl (by decide) rfl rfl (pa_cons (pe_op op_fdivAny (pv 0) (pe_op op_pow (pv 2) pe_int)) (pa_cons (pe_op op_fdivAny (pv 1) (pe_op op_pow (pv 2) pe_int)) pa_nil)) (by rfl))))
      (pss_one (ps_set (i := 2) nd rfl (by first | exact Or.inl rfl | exact Or.inr rfl) (pe_op op_add (pv 2) pe_int)))))
      (pss_one (ps_ret (pe_tup (pa_cons (pv 0) (pa_cons (pv 1) pa_nil))))))), ?_⟩
    first | refine sigN [some (.int (a)), some (.int (b)), some (.int (2))] (by rfl) ?_ | refine sig [some (.int (a)), some (.int (b)), some (.int (2))] (by rfl) ?_
    refine while_by (fun σ H2 => ∃ (x y : Int) (p : Nat), σ = [some (.int x), some (.int y), some (.int (p : Int))] ∧ H2 = H ∧ K08M.Up a b x y ∧ 2 ≤ p ∧ p ≤ 10001 ∧ ∀ d, 2 ≤ d → d < p → ¬ K08M.Cut d x y)
      (fun σ _ => match σ with | [_, _, some (.int p)] => 10001 - p.toNat | _ => 0) ⟨a, b, 2, rfl, rfl, K08M.Up.refl a b, by decide, by decide, fun d h1 h2 => absurd h1 (by omega)⟩ ?_ ?_
    · rintro σ H2 ⟨x, y, p, rfl, rfl, u, h2, h4, hs⟩
      have c4 : CPow (p : Int) 4 := cpow h4 (by decide) (by decide)
      have c6 : CPow (p : Int) 6 := cpow h4 (by decide) (by decide)
      have bp : B 14 (p : Int) := by
        unfold B
        omega
      have b4 : B 57 ((p : Int) ^ 4) := (bp.pow 4).up (by decide)
      have b6 : B 85 ((p : Int) ^ 6) := (bp.pow 6).up (by decide)
      have g4 : 0 < (p : Int) ^ 4 := Int.pow_pos (by omega)
      have g6 : 0 < (p : Int) ^ 6 := Int.pow_pos (by omega)
      have hx := (hb.up u).1
      have l4 : ∀ z : Int, decide ((p : Int) ^ 4 ≤ (if z < 0 then -z else z)) = true ↔ p ^ 4 ≤ z.natAbs := fun z => by
        rw [abs_eq, ← Int.natCast_pow, decide_eq_true_iff]
        exact Int.ofNat_le
      have l6 : ∀ z : Int, decide ((p : Int) ^ 6 ≤ (if z < 0 then -z else z)) = true ↔ p ^ 6 ≤ z.natAbs := fun z => by
        rw [abs_eq, ← Int.natCast_pow, decide_eq_true_iff]
        exact Int.ofNat_le
      refine MoT.or (MoT.and ?m1 ?m2) (MoT.and ?m3 ?m4) _ _ (fun b H3 => H3 = H2 ∧ (b = true ↔ (x ≠ 0 ∧ p ^ 4 ≤ x.natAbs) ∨ (x = 0 ∧ p ^ 6 ≤ y.natAbs))) _ ?B ?R
      case m1 => walk_at "mo"
      case m2 => walk_at "mo"
      case m3 => walk_at "mo"
      case m4 => walk_at "mo"
      case R =>
        refine ⟨_, rfl, rfl, _, rfl, ?_⟩
        rw [dec_int]
        by_cases h0 : x = 0
        · subst h0
          refine iteN (by simp) ?_
          refine iteN (by simp) ?_
          refine ⟨_, rfl, rfl, _, rfl, ?_⟩
          rw [dec_int]
          refine iteY (by simp) ?_
          refine ⟨_, rfl, _, _, rfl, rfl, c6, _, rfl, y, rfl, _, _, rfl, rfl, _, rfl, rfl, ?_⟩
          refine (l6 y).trans ⟨fun z => Or.inr ⟨rfl, z⟩, ?_⟩
          rintro (z | z)
          · exact absurd rfl z.1
          · exact z.2
        · refine iteY (by simp [h0]) ?_
          refine ⟨_, rfl, _, _, rfl, rfl, c4, _, rfl, x, rfl, _, _, rfl, rfl, _, rfl, ?_⟩
          by_cases h1 : p ^ 4 ≤ x.natAbs
          · refine iteY ((l4 x).mpr h1) ?_
            exact ⟨rfl, fun _ => Or.inl ⟨h0, h1⟩, fun _ => rfl⟩
          · refine iteN (fun z => h1 ((l4 x).mp z)) ?_
            refine ⟨_, rfl, rfl, _, rfl, ?_⟩
            rw [dec_int]
            refine iteN (by simp [h0]) ?_
            refine ⟨rfl, fun z => absurd z (by decide), ?_⟩
            rintro (z | z)
            · exact absurd z.2 h1
            · exact absurd z.1 h0
      case B =>
        rintro b1 H3 ⟨rfl, hc⟩
        by_cases hb1 : b1 = true
        · refine iteY hb1 ?_
          have hc := hc.mp hb1
          have hp : p ≤ 10000 := by
            rcases Nat.lt_or_ge 10000 p with z | z
            · exfalso
              rcases hc with ⟨_, c⟩ | ⟨_, c⟩
              · have h5 : 10 ^ 16 ≤ p ^ 4 := Nat.le_trans (by decide) (Nat.pow_le_pow_left (Nat.le_of_lt z) 4)
                exact absurd (Nat.le_trans h5 c) (Nat.not_le.mpr hx.2.1)
              · have h5 : 10 ^ 24 ≤ p ^ 6 := Nat.le_trans (by decide) (Nat.pow_le_pow_left (Nat.le_of_lt z) 6)
                exact absurd (Nat.le_trans h5 c) (Nat.not_le.mpr hx.2.2)
            · exact z
          refine while_by (fun σ H4 => ∃ x' y' : Int, σ = [some (.int x'), some (.int y'), some (.int (p : Int))] ∧ H4 = H3 ∧ K08M.Up x y x' y')
            (fun σ _ => match σ with | [some (.int x'), some (.int y'), _] => x'.natAbs + y'.natAbs | _ => 0) ⟨x, y, rfl, rfl, K08M.Up.refl x y⟩ ?_ ?_
          · rintro σ H4 ⟨x', y', rfl, rfl, v⟩
            obtain ⟨hx', -, -⟩ := hx.up v
            have ec : K08M.Cut p x' y' ↔ x' % (p : Int) ^ 4 = 0 ∧ y' % (p : Int) ^ 6 = 0 := by
              rw [K08M.cut_iff, Int.fmod_eq_emod_of_nonneg x' (by omega), Int.fmod_eq_emod_of_nonneg y' (by omega)]
            refine MoT.and ?m5 ?m6 _ _ (fun b H5 => H5 = H4 ∧ (b = true ↔ K08M.Cut p x' y')) _ ?C ?S
            case m5 => walk_at "mo"
            case m6 => walk_at "mo"
            case S =>
              refine ⟨_, rfl, x', rfl, _, rfl, _, _, rfl, rfl, c4, _, _, rfl, rfl, g4, rfl, _, rfl, ?_⟩
              rw [dec_int]
              by_cases h0 : x' % (p : Int) ^ 4 = 0
              · refine iteY (beq_iff_eq.mpr h0) ?_
                refine ⟨_, rfl, y', rfl, _, rfl, _, _, rfl, rfl, c6, _, _, rfl, rfl, g6, rfl, _, rfl, rfl, ?_⟩
                rw [dec_int]
                exact beq_iff_eq.trans ⟨fun z => ec.mpr ⟨h0, z⟩, fun z => (ec.mp z).2⟩
              · refine iteN (fun z => h0 (beq_iff_eq.mp z)) ?_
                exact ⟨rfl, fun z => absurd z (by decide), fun z => absurd (ec.mp z).1 h0⟩
            case C =>
              rintro b2 H5 ⟨rfl, hd⟩
              by_cases hb2 : b2 = true
              · refine iteY hb2 ?_
                have c := hd.mp hb2
                refine ⟨_, rfl, _, rfl, _, _, rfl, rfl, c4, _, _, rfl, rfl, div_any (Int.ne_of_gt g4) b4 (by decide), _, rfl, _, rfl, _, _, rfl, rfl, c6, _, _, rfl, rfl, div_any (Int.ne_of_gt g6) b6 (by decide), _, _, rfl, ?_⟩
                exact ⟨⟨_, _, rfl, rfl, v.trans (K08M.up_div (by omega) c)⟩, up_less h2 hx' c⟩
              · refine iteN hb2 ?_
                have c : ¬ K08M.Cut p x' y' := fun z => hb2 (hd.mpr z)
                refine ⟨_, rfl, _, _, rfl, rfl, ?_⟩
                refine ⟨⟨x', y', p + 1, ?_, rfl, u.trans v, by omega, by omega, fun d d2 dp => ?_⟩, ?_⟩
                · rfl
                · rcases Nat.lt_or_ge d p with z | z
                  · exact fun y => hs d d2 z (v.cut y)
                  · rw [show d = p by omega]
                    exact c
                · show 10001 - ((p : Int) + 1).toNat < 10001 - (p : Int).toNat
                  omega
          · intro σ H Q Q' i z
            refine (?_ : MoT _) σ H Q Q' i z
            walk_at "mo"
        · refine iteN hb1 ?_
          refine ⟨_, rfl, _, rfl, (by show 2 ≤ sizeLine; decide), fun t nt => ?_⟩
          refine q x y t u (K08M.sh_law hx.1 hs (fun z => ?_) (fun z => ?_)) nt
          · exact Nat.lt_of_not_le (fun k => hb1 (hc.mpr (Or.inl ⟨z, k⟩)))
          · exact Nat.lt_of_not_le (fun k => hb1 (hc.mpr (Or.inr ⟨z, k⟩)))
    · intro σ H Q Q' i z
      refine (?_ : MoT _) σ H Q Q' i z
      walk_at "mo"
end
end K08
set_option Elab.async false
set_option linter.all false
set_option maxRecDepth 100000
set_option maxHeartbeats 4000000
namespace K08
open PySem PySem.Spec PyProof.Rows L2 Gd QM
local macro_rules | `(tactic| walk_at "mo") => `(tactic| (repeat (first | with_reducible apply MoT.or | with_reducible apply MoT.and | with_reducible apply MoT.test | with_reducible apply MoE.op | with_reducible apply MoE.cb | with_reducible exact MoE.var | with_reducible exact MoE.c | with_reducible exact MoA.nil | with_reducible apply MoA.cons | exact MoR.eq | exact MoR.ne | exact MoR.i | exact MoR.i0 | exact MoB.i | exact MoB.i2 (g := fun i j => V.int (if j < i then j else i)) | exact MoB.i2 | exact MoB.gcd | with_reducible apply MoE.tup | with_reducible apply MoE.ifx)))
local macro_rules | `(tactic| walk_at "bd") => `(tactic| (repeat (first | assumption | apply B.add | apply B.sub | apply B.mul | apply B.neg | exact B.lit (n := 8) (by decide))))
local macro_rules | `(tactic| walk_at "bu") => `(tactic| (apply B.up; walk_at "bd"; decide))
local macro_rules | `(tactic| walk_at "bnd") => `(tactic| (apply B.mulW; walk_at "bd"; decide))
local macro_rules | `(tactic| walk_at "pw") => `(tactic| exact B.up (n := 64) (by assumption) (by decide))
section
variable {P : Program} {w : World} {K : PySem.W.Frag} {mg : Str → Option Value} {base : Heap}
/-! ### without_powers -/
def sp_without_great_powers (K : PySem.W.Frag) : Sp := fun _ _ _ _ => False
def sp_without_powers (K : PySem.W.Frag) : Sp := fun vs H Q _ => ∃ (a b : Int), vs = [.int a, .int b] ∧ PB a b ∧ ∀ A C t H', K08M.Up a b A C → K08M.Sh A C → Same H H' → H t = none → H' t = some (.tup [.int A, .int C]) → Q (.ref t) H'
abbrev s_without_powers : Stmt := topS 29
theorem sc_without_powers : FnScope ["a", "b", "rest", "least", "p", "most"] ["a", "b"] (defScope s_without_powers) := ⟨rfl, rfl, rfl, by decide +kernel, rfl, by decide +kernel, by decide +kernel⟩
theorem k_without_powers (T : Tx K mg) (D : Df K mg "without_powers" s_without_powers ["a", "b"]) (c_root_of : Kl P w K mg base 2 "root_of" (sp_root_of K)) (c_without_great_powers : Kl P w K mg base 6 "without_great_powers" (sp_without_great_powers K)) (c_divided_by : Kl P w K mg base 1 "divided_by" (sp_divided_by K)) : Kl P w K mg base 7 "without_powers" (sp_without_powers K) := by
  have nd := sc_without_powers.nd
  refine Kl.by_body D sc_without_powers (fun vs H Q E h => ?_) (fun f cdv A outer s H vs Q E hr h => ?_)
  · obtain ⟨_, _, rfl, _⟩ := h
    rfl
  · obtain ⟨a, b, rfl, hb, q⟩ := h
    have hu1 := hu_of hr
    refine ⟨_, (pss_cons (ps_asg (pe_ifExp (pt_cmpR op_eq (pv 0) pe_int (nomark _)) (pe_tup (pa_cons (pe_callB call_abs (by rfl) T.abs (by decide +kernel) (pa_cons (pv 1) pa_nil)) (pa_cons pe_int pa_nil))) (pe_tup (pa_cons (pe_callBfun cr_gcd (by rfl) T.gcd (pa_cons (pv 0) (pa_cons (pv 1) pa_nil))) (pa_cons pe_int pa_nil)))) (pg_tup rfl (pgs_cons (pg_name (i := 2) nd rfl (by first | exact Or.inl rfl | exact Or.inr rfl)) (pgs_cons (pg_name (i := 3) nd rfl (by first | exact Or.inl rfl | exact Or.inr rfl)) pgs_nil))))
      (pss_cons (ps_set (i := 4) nd rfl (by first | exact Or.inl rfl | exact Or.inr rfl) pe_int)
      (pss_cons (ps_set (i := 5) nd rfl (by first | exact Or.inl rfl | exact Or.inr rfl) (pe_k c_root_of  hr (by decide) (by rfl) (pa_cons (pv 2) (pa_cons (pv 3) pa_nil))))
      (pss_cons (ps_while PassesOwn.never (pt_cmpR op_le (pv 4) (pe_callB (call_min2 rfl) (by rfl) T.min (by decide +kernel) (pa_cons (pv 5) (pa_cons (pe_kon (by rfl) T.c_TRIED_shortening) pa_nil))) (nomark _)) (pss_cons (ps_if (pt_cmpR op_eq (pe_op op_mod (pv 2) (pv 4)) pe_int (nomark _)) (pss_cons (ps_asg (pe_k c_divided_by  hr (by decide) (by rfl) (pa_cons (pv 0) (pa_cons (pv 1) (pa_cons (pv 4) pa_nil)))) (pg_tup rfl (pgs_cons (pg_name (i := 0) nd rfl (by first | exact Or.inl rfl | exact Or.inr rfl)) (pgs_cons (pg_name (i := 1) nd rfl (by first | exact Or.inl rfl | exact Or.inr rfl)) pgs_nil))))
      (pss_cons (ps_while PassesOwn.never (pt_cmpR op_eq (pe_op op_mod (pv 2) (pv 4)) pe_int (nomark _)) (pss_one (ps_aug (i := 2) nd rfl (by first | exact Or.inl rfl | exact Or.inr rfl) (pv 4) ip_fdivAny)))
      (pss_one (ps_set (i := 5) nd rfl (by first | exact Or.inl rfl | exact Or.inr rfl) (pe_k c_root_of  hr (by decide) (by rfl) (pa_cons (pv 2) (pa_cons (pv 3) pa_nil))))))) pss_nil)
      (pss_one (ps_aug (i := 4) nd rfl (by first | exact Or.inl rfl | exact Or.inr rfl) pe_int ip_add))))
      (pss_one (ps_ret (pe_ifExp (pt_cmpR op_gt (pv 5) (pe_kon (by rfl) T.c_TRIED_shortening) (nomark _)) (pe_k c_without_great_powers  hr (by decide) (by rfl) (pa_cons (pv 0) (pa_cons (pv 1) (pa_cons (pv 2) (pa_cons (pv 3) pa_nil))))) (pe_tup (pa_cons (pv 0) (pa_cons (pv 1) pa_nil)))))))))), ?_⟩
    have hA := hb.a
    have hB := hb.b
    refine MoE.ifx ?m1 ?m2 ?m3 _ _ (fun v H1 => ∃ (t : Addr) (rest least : Nat), v = .ref t ∧ H t = none ∧ H1 = upd H t (.tup [.int (rest : Int), .int (least : Int)]) ∧ 0 < rest ∧ rest < 10000 ^ least ∧ (least = 4 ∨ least = 6) ∧ ∀ d, K08M.Cut d a b → d ^ least ∣ rest) _ ?B ?R
    case m1 => walk_at "mo"
    case m2 => walk_at "mo"
    case m3 => walk_at "mo"
    case R =>
      refine ⟨_, rfl, rfl, _, rfl, ?_⟩
      rw [dec_int]
      by_cases h0 : a = 0
      · refine iteY (by simp [h0]) ?_
        refine ⟨_, rfl, b, rfl, (by show 2 ≤ sizeLine; decide), fun t nt => ?_⟩
        refine ⟨t, b.natAbs, 6, rfl, nt, ?_, ?_, ?_, Or.inr rfl, fun d c => K08M.start_zero a b d c⟩
        · rw [abs_eq]
          rfl
        · have := hb.1
          omega
        · exact Nat.lt_of_lt_of_le hb.2.2 (by decide)
      · refine iteN (by simp [h0]) ?_
        refine ⟨_, rfl, _, rfl, a, b, rfl, (by show 2 ≤ sizeLine; decide), fun t nt => ?_⟩
        refine ⟨t, Nat.gcd a.natAbs b.natAbs, 4, rfl, nt, rfl, Nat.gcd_pos_of_pos_left _ (by omega), ?_, Or.inl rfl, fun d c => K08M.start_gcd a b d c⟩
        have h1 : Nat.gcd a.natAbs b.natAbs ≤ a.natAbs := Nat.gcd_le_left _ (by omega)
        exact Nat.lt_of_le_of_lt h1 (Nat.lt_of_lt_of_le hb.2.1 (by decide))
    case B =>
      rintro v H1 ⟨t, rest, least, rfl, nt, rfl, r0, rL, hl, hc⟩
      have sm : Same H (upd H t (.tup [.int (rest : Int), .int (least : Int)])) := Same.new nt
      have gt : (upd H t (.tup [.int (rest : Int), .int (least : Int)])) t = some (.tup [.int (rest : Int), .int (least : Int)]) := upd_same
      generalize upd H t (.tup [.int (rest : Int), .int (least : Int)]) = H1 at sm gt ⊢
      refine ⟨t, _, rfl, tup_of gt, rfl, _, _, rfl, _, _, rfl, rfl, ?_⟩
      obtain ⟨m, rfl, hm1, hm5⟩ : ∃ m, least = m + 1 ∧ 1 ≤ m ∧ m ≤ 5 := ⟨least - 1, by omega, by omega, by omega⟩
      have lim : 10000 ^ (m + 1) ≤ 10 ^ 24 := by
        rcases hl with z | z
        · rw [z]
          decide
        · rw [z]
          decide
      have small : ∀ r : Nat, r < 10000 ^ (m + 1) → B 80 (r : Int) := fun r h => by
        unfold B
        rw [Int.natAbs_natCast]
        exact Nat.lt_of_lt_of_le (Nat.lt_of_lt_of_le h lim) (by decide)
      have root : ∀ (r : Nat) (s : Int), r < 10000 ^ (m + 1) → 0 ≤ s → s ^ (m + 1) ≤ (r : Int) → (∀ t : Int, 0 ≤ t → t ^ (m + 1) ≤ (r : Int) → t ≤ s) → ∃ most : Nat, s = (most : Int) ∧ most < 10000 ∧ r < (most + 1) ^ (m + 1) := by
        intro r s hr2 s0 sle smax
        obtain ⟨n, rfl⟩ : ∃ n : Nat, s = (n : Int) := ⟨s.toNat, by omega⟩
        refine ⟨n, rfl, ?_, ?_⟩
        · rcases Nat.lt_or_ge n 10000 with z | z
          · exact z
          · exfalso
            have h1 : n ^ (m + 1) ≤ r := by
              rw [← Int.natCast_pow] at sle
              exact Int.ofNat_le.mp sle
            have h2 : 10000 ^ (m + 1) ≤ n ^ (m + 1) := Nat.pow_le_pow_left z _
            omega
        · rcases Nat.lt_or_ge r ((n + 1) ^ (m + 1)) with z | z
          · exact z
          · exfalso
            have h1 := smax ((n + 1 : Nat) : Int) (by omega) (by
              rw [← Int.natCast_pow]
              exact Int.ofNat_le.mpr z)
            omega
      first | refine sigN [some (.int (a)), some (.int (b)), some (.int ((rest : Int))), some (.int (((m + 1 : Nat) : Int))), none, none] (by rfl) ?_ | refine sig [some (.int (a)), some (.int (b)), some (.int ((rest : Int))), some (.int (((m + 1 : Nat) : Int))), none, none] (by rfl) ?_
      refine ⟨_, rfl, _, rfl, (rest : Int), m, rfl, by omega, (small rest rL).up (by decide), hm1, hm5, fun sq s0 _ sle smax => ?_⟩
      obtain ⟨most0, rfl, hm0, hr0⟩ := root rest sq rL s0 sle smax
      refine while_by (fun σ H2 => ∃ (x y : Int) (r p most : Nat), σ = [some (.int x), some (.int y), some (.int (r : Int)), some (.int ((m + 1 : Nat) : Int)), some (.int (p : Int)), some (.int (most : Int))] ∧ Same H H2 ∧ K08M.Up a b x y ∧ 0 < r ∧ r < 10000 ^ (m + 1) ∧ 2 ≤ p ∧ p ≤ 10001 ∧ most < 10000 ∧ r < (most + 1) ^ (m + 1) ∧ (∀ d, K08M.Irr d → d < p → ¬ K08M.Cut d x y) ∧ ∀ d, K08M.Irr d → p ≤ d → K08M.Cut d x y → d ^ (m + 1) ∣ r)
        (fun σ _ => match σ with | [_, _, _, _, some (.int p), _] => 10001 - p.toNat | _ => 0) ⟨a, b, rest, 2, most0, rfl, sm, K08M.Up.refl a b, r0, rL, by decide, by decide, hm0, hr0, fun d hd lt => absurd hd.1 (by omega), fun d _ _ c => hc d c⟩ ?_ ?_
      · rintro σ H2 ⟨x, y, r, p, most, rfl, s2, u, hr0, hrL, h2, h4, hmo, hrm, hs, hg⟩
        have hx := (hb.up u).1
        have bp : B 14 (p : Int) := by
          unfold B
          omega
        refine ⟨_, rfl, _, rfl, _, _, rfl, _, _, rfl, rfl, _, rfl, ?_⟩
        have nn : ∀ r : Nat, ((r : Int) % (p : Int) == 0) = true ↔ p ∣ r := fun r => by
          rw [beq_iff_eq, ← Int.natCast_emod]
          exact ⟨fun z => Nat.dvd_of_mod_eq_zero (by omega), fun z => by rw [Nat.mod_eq_zero_of_dvd z]; rfl⟩
        by_cases hle : p ≤ most
        · refine iteY (by rw [decide_eq_true_iff]; split <;> omega) ?_
          refine ⟨_, rfl, _, rfl, _, _, rfl, rfl, (by omega), rfl, _, rfl, ?_⟩
          rw [dec_int]
          by_cases hd : p ∣ r
          · refine iteY ((nn r).mpr hd) ?_
            refine ⟨_, rfl, _, rfl, _, rfl, x, y, p, rfl, h2, by omega, hx, fun A C t2 v nc nt2 => ?_⟩
            refine ⟨t2, _, rfl, tup_of upd_same, rfl, _, _, rfl, _, _, rfl, rfl, ?_⟩
            have s3 := Same.put s2 (s2.free nt2) (o := .tup [.int A, .int C])
            generalize upd H2 t2 (.tup [.int A, .int C]) = H3 at s3 ⊢
            first | refine sigN [some (.int (A)), some (.int (C)), some (.int ((r : Int))), some (.int (((m + 1 : Nat) : Int))), some (.int ((p : Int))), some (.int ((most : Int)))] (by rfl) ?_ | refine sig [some (.int (A)), some (.int (C)), some (.int ((r : Int))), some (.int (((m + 1 : Nat) : Int))), some (.int ((p : Int))), some (.int ((most : Int)))] (by rfl) ?_
            refine while_by (fun σ H4 => ∃ k r' : Nat, σ = [some (.int A), some (.int C), some (.int (r' : Int)), some (.int ((m + 1 : Nat) : Int)), some (.int (p : Int)), some (.int (most : Int))] ∧ H4 = H3 ∧ r = p ^ k * r' ∧ 0 < r')
              (fun σ _ => match σ with | [_, _, some (.int r'), _, _, _] => r'.toNat | _ => 0) ⟨0, r, rfl, rfl, by rw [Nat.pow_zero, Nat.one_mul], hr0⟩ ?_ ?_
            · rintro σ H4 ⟨k, r', rfl, rfl, er, r0'⟩
              have rle : r' ≤ r := by
                rw [er]
                exact Nat.le_mul_of_pos_left _ (Nat.pow_pos (by omega))
              refine ⟨_, rfl, _, rfl, _, _, rfl, rfl, (by omega), rfl, _, rfl, ?_⟩
              rw [dec_int]
              by_cases hd' : p ∣ r'
              · refine iteY ((nn r').mpr hd') ?_
                obtain ⟨r2, rfl⟩ := hd'
                have e2 : ((p * r2 : Nat) : Int).fdiv (p : Int) = (r2 : Int) := by
                  rw [Int.natCast_mul, Int.fdiv_eq_ediv_of_nonneg _ (by omega)]
                  exact Int.mul_ediv_cancel_left _ (by omega)
                have r20 : 0 < r2 := Nat.pos_of_mul_pos_left r0'
                refine ⟨_, rfl, _, rfl, _, _, rfl, rfl, div_any (by omega) bp (by decide), ?_⟩
                refine ⟨⟨k + 1, r2, ?_, rfl, ?_, r20⟩, ?_⟩
                · rw [← e2]
                  rfl
                · rw [er, Nat.pow_succ, Nat.mul_assoc]
                · show (((p * r2 : Nat) : Int).fdiv (p : Int)).toNat < ((p * r2 : Nat) : Int).toNat
                  rw [e2]
                  have : 2 * r2 ≤ p * r2 := Nat.mul_le_mul_right _ h2
                  omega
              · refine iteN (fun z => hd' ((nn r').mp z)) ?_
                have rL' : r' < 10000 ^ (m + 1) := by omega
                refine ⟨_, rfl, _, rfl, (r' : Int), m, rfl, by omega, (small r' rL').up (by decide), hm1, hm5, fun sq s0 _ sle smax => ?_⟩
                obtain ⟨most1, rfl, hm1', hr1'⟩ := root r' sq rL' s0 sle smax
                obtain ⟨n1, n2⟩ := K08M.turn_yes (k := k) (r := r') (least := m + 1) (by omega) v nc hs (by rw [← er]; exact hg)
                refine ⟨_, rfl, _, _, rfl, rfl, ?_⟩
                refine ⟨⟨A, C, r', p + 1, most1, rfl, s3, u.trans v, r0', rL', by omega, by omega, hm1', hr1', n1, n2⟩, ?_⟩
                show 10001 - ((p : Int) + 1).toNat < 10001 - (p : Int).toNat
                omega
            · intro σ H Q Q' i z
              refine (?_ : MoT _) σ H Q Q' i z
              walk_at "mo"
          · refine iteN (fun z => hd ((nn r).mp z)) ?_
            obtain ⟨n1, n2⟩ := K08M.turn_no (by omega : 0 < m + 1) hs hg hd
            refine ⟨_, rfl, _, _, rfl, rfl, ?_⟩
            refine ⟨⟨x, y, r, p + 1, most, rfl, s2, u, hr0, hrL, by omega, by omega, hmo, hrm, n1, n2⟩, ?_⟩
            show 10001 - ((p : Int) + 1).toNat < 10001 - (p : Int).toNat
            omega
        · refine iteN (by rw [decide_eq_true_iff]; split <;> omega) ?_
          refine ⟨_, rfl, _, _, rfl, rfl, _, rfl, ?_⟩
          refine iteN (by rw [decide_eq_true_iff]; omega) ?_
          refine ⟨_, rfl, _, rfl, (by show 2 ≤ sizeLine; decide), fun t2 nt2 => ?_⟩
          exact q x y t2 _ u (K08M.sh_prog hr0 hs hg hrm (by omega)) (Same.put s2 (s2.free nt2)) (s2.free nt2) upd_same
      · intro σ H Q Q' i z
        refine (?_ : MoT _) σ H Q Q' i z
        walk_at "mo"
end
end K08
set_option Elab.async false
set_option linter.all false
set_option maxRecDepth 100000
set_option maxHeartbeats 4000000
namespace K08
open PySem PySem.Spec PyProof.Rows L2 Gd QM
local macro_rules | `(tactic| walk_at "bd") => `(tactic| (repeat (first | assumption | apply B.add | apply B.sub | apply B.mul | apply B.neg | exact B.lit (n := 8) (by decide))))
local macro_rules | `(tactic| walk_at "bu") => `(tactic| (apply B.up; walk_at "bd"; decide))
local macro_rules | `(tactic| walk_at "bnd") => `(tactic| (apply B.mulW; walk_at "bd"; decide))
local macro_rules | `(tactic| walk_at "pw") => `(tactic| exact B.up (n := 64) (by assumption) (by decide))
section
variable {P : Program} {w : World} {K : PySem.W.Frag} {mg : Str → Option Value} {base : Heap}
/-! ### never entered -/
abbrev s_without_great_powers : Stmt := topS 31
theorem sc_without_great_powers : FnScope ["a", "b", "rest", "least", "p", "_"] ["a", "b", "rest", "least"] (defScope s_without_great_powers) := ⟨rfl, rfl, rfl, by decide +kernel, rfl, by decide +kernel, by decide +kernel⟩
theorem k_without_great_powers (D : Df K mg "without_great_powers" s_without_great_powers ["a", "b", "rest", "least"]) : Kl P w K mg base 6 "without_great_powers" (sp_without_great_powers K) :=
  Kl.by_body D sc_without_great_powers (fun _ _ _ _ h => h.elim) (fun _ _ _ _ _ _ _ _ _ _ h => h.elim)
/-! ### short_form -/
def sp_short_form (K : PySem.W.Frag) : Sp := fun vs H Q _ => ∃ (p : Addr) (c : Cv), vs = [.ref p] ∧ SqT K H p c.tup ∧ c.Sm ∧ PB (-27 * c.c4) (-54 * c.c6) ∧ ∀ A C t H', K08M.Up (-27 * c.c4) (-54 * c.c6) A C → K08M.Sh A C → Same H H' → H t = none → H' t = some (.tup [.int A, .int C]) → Q (.ref t) H'
abbrev s_short_form : Stmt := topS 36
theorem sc_short_form : FnScope ["curve", "_", "c4", "c6"] ["curve"] (defScope s_short_form) := ⟨rfl, rfl, rfl, by decide +kernel, rfl, by decide +kernel, by decide +kernel⟩
theorem k_short_form (T : Tx K mg) (D : Df K mg "short_form" s_short_form ["curve"]) (c_numbers_of : Kl P w K mg base 2 "numbers_of" (sp_numbers_of K)) (c_without_powers : Kl P w K mg base 7 "without_powers" (sp_without_powers K)) : Kl P w K mg base 8 "short_form" (sp_short_form K) := by
  have nd := sc_short_form.nd
  refine Kl.by_body D sc_short_form (fun vs H Q E h => ?_) (fun f cdv A outer s H vs Q E hr h => ?_)
  · obtain ⟨_, _, rfl, _⟩ := h
    rfl
  · obtain ⟨p, c, rfl, hx, hm, hb, q⟩ := h
    have hu1 := hu_of hr
    refine ⟨_, (pss_cons (ps_asg (pe_k c_numbers_of  hr (by decide) (by rfl) (pa_cons (pv 0) pa_nil)) (pg_tup rfl (pgs_cons (pg_name (i := 1) nd rfl (by first | exact Or.inl rfl | exact Or.inr rfl)) (pgs_cons (pg_name (i := 1) nd rfl (by first | exact Or.inl rfl | exact Or.inr rfl)) (pgs_cons (pg_name (i := 1) nd rfl (by first | exact Or.inl rfl | exact Or.inr rfl)) (pgs_cons (pg_name (i := 1) nd rfl (by first | exact Or.inl rfl | exact Or.inr rfl)) (pgs_cons (pg_name (i := 2) nd rfl (by first | exact Or.inl rfl | exact Or.inr rfl)) (pgs_cons (pg_name (i := 3) nd rfl (by first | exact Or.inl rfl | exact Or.inr rfl)) (pgs_cons (pg_name (i := 1) nd rfl (by first | exact Or.inl rfl | exact Or.inr rfl)) pgs_nil)))))))))
      (pss_one (ps_ret (pe_k c_without_powers  hr (by decide) (by rfl) (pa_cons (pe_op op_mul (pe_un un_neg pe_int) (pv 2)) (pa_cons (pe_op op_mul (pe_un un_neg pe_int) (pv 3)) pa_nil)))))), ?_⟩
    refine ⟨.ref p, rfl, p, c, rfl, hx, hm, fun t nt => ?_⟩
    refine ⟨t, _, rfl, tup_of upd_same, rfl, _, _, rfl, _, _, rfl, _, _, rfl, _, _, rfl, _, _, rfl, _, _, rfl, _, _, rfl, rfl, ?_⟩
    have sm : Same H (upd H t (.tup c.nums)) := Same.new nt
    generalize upd H t (.tup c.nums) = H1 at sm ⊢
    refine ⟨27, rfl, _, rfl, _, _, rfl, rfl, Or.inl ⟨by decide, by decide⟩, 54, rfl, _, rfl, _, _, rfl, rfl, Or.inl ⟨by decide, by decide⟩, ?_⟩
    exact ⟨_, _, rfl, hb, fun A C t2 H3 u z s2 n2 e2 => q A C t2 H3 u z (sm.trans s2) (sm.free n2) e2⟩
end
end K08
set_option Elab.async false
set_option linter.all false
set_option maxRecDepth 100000
set_option maxHeartbeats 4000000
namespace K08
open PySem PySem.Spec PyProof.Rows L2 Gd QM
local macro_rules | `(tactic| walk_at "bd") => `(tactic| (repeat (first | assumption | apply B.add | apply B.sub | apply B.mul | apply B.neg | exact B.lit (n := 8) (by decide))))
local macro_rules | `(tactic| walk_at "bu") => `(tactic| (apply B.up; walk_at "bd"; decide))
local macro_rules | `(tactic| walk_at "bnd") => `(tactic| (apply B.mulW; walk_at "bd"; decide))
local macro_rules | `(tactic| walk_at "pw") => `(tactic| exact B.up (n := 64) (by assumption) (by decide))
section
variable {P : Program} {w : World} {K : PySem.W.Frag} {mg : Str → Option Value} {base : Heap}
/-! ### the law's short form of a curve -/
def sp_law_short_of (K : PySem.W.Frag) : Sp := fun vs H Q _ => ∃ (p : Addr) (c : Cv), vs = [.ref p] ∧ SqT K H p c.tup ∧ c.Sm ∧ PB (-27 * c.c4) (-54 * c.c6) ∧ ∀ A C t H', K08M.Up (-27 * c.c4) (-54 * c.c6) A C → K08M.Sh A C → Same H H' → H t = none → H' t = some (.tup [.int A, .int C]) → Q (.ref t) H'
abbrev s__law_short_of : Stmt := topS 66
theorem sc__law_short_of : FnScope ["five_v", "c4", "c6"] ["five_v"] (defScope s__law_short_of) := ⟨rfl, rfl, rfl, by decide +kernel, rfl, by decide +kernel, by decide +kernel⟩
theorem k_law_short_of (T : Tx K mg) (D : Df K mg "_law_short_of" s__law_short_of ["five_v"]) (c_law_short : Kl P w K mg base 1 "_law_short" (sp_law_short K)) (c_law_numbers : Kl P w K mg base 1 "_law_numbers" (sp_law_numbers K)) : Kl P w K mg base 2 "_law_short_of" (sp_law_short_of K) := by
  have nd := sc__law_short_of.nd
  refine Kl.by_body D sc__law_short_of (fun vs H Q E h => ?_) (fun f cdv A outer s H vs Q E hr h => ?_)
  · obtain ⟨_, _, rfl, _⟩ := h
    rfl
  · obtain ⟨p, c, rfl, hx, hm, hb, q⟩ := h
    have hu1 := hu_of hr
    refine ⟨_, (pss_cons (ps_asg (pe_slice sl_tup (pe_k c_law_numbers  hr (by decide) (by rfl) (pa_cons (pv 0) pa_nil)) (po_some pe_int) (po_some pe_int)) (pg_tup rfl (pgs_cons (pg_name (i := 1) nd rfl (by first | exact Or.inl rfl | exact Or.inr rfl)) (pgs_cons (pg_name (i := 2) nd rfl (by first | exact Or.inl rfl | exact Or.inr rfl)) pgs_nil))))
      (pss_one (ps_ret (pe_k c_law_short  hr (by decide) (by rfl) (pa_cons (pe_op op_mul (pe_un un_neg pe_int) (pv 1)) (pa_cons (pe_op op_mul (pe_un un_neg pe_int) (pv 2)) pa_nil)))))), ?_⟩
    refine ⟨_, rfl, p, c, rfl, hx, hm, fun t nt => ?_⟩
    have sm : Same H (upd H t (.tup c.nums)) := Same.new nt
    have gt : (upd H t (.tup c.nums)) t = some (.tup c.nums) := upd_same
    generalize upd H t (.tup c.nums) = H1 at sm gt ⊢
    refine ⟨_, rfl, _, rfl, t, _, rfl, tup_of gt, (by show ¬ (HT.sIx 7 0 (some 4) = 0 ∧ HT.sIx 7 7 (some 6) = 7); decide), fun t2 nt2 => ?_⟩
    have s2 := Same.put sm (sm.free nt2) (o := .tup (cutV c.nums (some 4) (some 6)))
    refine ⟨t2, [.int c.c4, .int c.c6], rfl, tup_of upd_same, rfl, _, _, rfl, _, _, rfl, rfl, ?_⟩
    have e : cutV c.nums (some 4) (some 6) = [.int c.c4, .int c.c6] := rfl
    rw [e] at s2 ⊢
    generalize upd H1 t2 (.tup [.int c.c4, .int c.c6]) = H2 at s2 ⊢
    refine ⟨27, rfl, _, rfl, _, _, rfl, rfl, Or.inl ⟨by decide, by decide⟩, 54, rfl, _, rfl, _, _, rfl, rfl, Or.inl ⟨by decide, by decide⟩, ?_⟩
    exact ⟨_, _, rfl, hb, fun A C t3 u z n3 => q A C t3 _ u z (Same.put s2 (s2.free n3)) (s2.free n3) upd_same⟩
/-! ### the law's twist of a short form -/
def sp_law_twist (K : PySem.W.Frag) : Sp := fun vs H Q _ => ∃ (p : Addr) (a b d : Int), vs = [.ref p, .int d] ∧ SqT K H p [.int a, .int b] ∧ B 80 a ∧ B 80 b ∧ B 16 d ∧ PB (d * d * a) (d ^ 3 * b) ∧ ∀ A C t, K08M.Up (d * d * a) (d ^ 3 * b) A C → K08M.Sh A C → H t = none → Q (.ref t) (upd H t (.tup [.int A, .int C]))
abbrev s__law_twist : Stmt := topS 68
theorem sc__law_twist : FnScope ["form", "d"] ["form", "d"] (defScope s__law_twist) := ⟨rfl, rfl, rfl, by decide +kernel, rfl, by decide +kernel, by decide +kernel⟩
theorem k_law_twist (T : Tx K mg) (D : Df K mg "_law_twist" s__law_twist ["form", "d"]) (c_law_short : Kl P w K mg base 1 "_law_short" (sp_law_short K)) : Kl P w K mg base 2 "_law_twist" (sp_law_twist K) := by
  have nd := sc__law_twist.nd
  refine Kl.by_body D sc__law_twist (fun vs H Q E h => ?_) (fun f cdv A outer s H vs Q E hr h => ?_)
  · obtain ⟨_, _, _, _, rfl, _⟩ := h
    rfl
  · obtain ⟨p, a, b, d, rfl, hx, ha, hb, hd, hp, q⟩ := h
    have hu1 := hu_of hr
    refine ⟨_, (pss_one (ps_ret (pe_k c_law_short  hr (by decide) (by rfl) (pa_cons (pe_op op_mulW (pe_op op_mulW (pv 1) (pv 1)) (pe_ix ix_tup (pv 0) pe_int (fun _ _ => rfl))) (pa_cons (pe_op op_mulW (pe_op op_pow (pv 1) pe_int) (pe_ix ix_tup (pv 0) pe_int (fun _ _ => rfl))) pa_nil))))), ?_⟩
    refine ⟨_, rfl, _, rfl, _, _, rfl, rfl, hd.mulW hd (by decide), .ref p, rfl, p, _, 0, .int a, rfl, rfl, hx, rfl, _, _, rfl, rfl, (hd.mul hd).mulW ha (by decide), _, rfl, _, _, rfl, rfl, ⟨by decide, by decide, hd.up (by decide)⟩, .ref p, rfl, p, _, 1, .int b, rfl, rfl, hx, rfl, _, _, rfl, rfl, ((hd.pow 3).up (by decide) : B 60 _).mulW hb (by decide), ?_⟩
    exact ⟨_, _, rfl, hp, q⟩
end
end K08
set_option Elab.async false
set_option linter.all false
set_option maxRecDepth 100000
set_option maxHeartbeats 4000000
namespace K08
open PySem PySem.Spec PyProof.Rows L2 Gd QM
local macro_rules | `(tactic| walk_at "mo") => `(tactic| (repeat (first | with_reducible apply MoT.or | with_reducible apply MoT.and | with_reducible apply MoT.test | with_reducible apply MoE.op | with_reducible apply MoE.cb | with_reducible exact MoE.var | with_reducible exact MoE.c | with_reducible exact MoA.nil | with_reducible apply MoA.cons | exact MoR.eq | exact MoR.ne | exact MoR.i | exact MoR.i0 | exact MoB.i | exact MoB.i2 (g := fun i j => V.int (if j < i then j else i)) | exact MoB.i2 | exact MoB.gcd | with_reducible apply MoE.tup | with_reducible apply MoE.ifx)))
local macro_rules | `(tactic| walk_at "bd") => `(tactic| (repeat (first | assumption | apply B.add | apply B.sub | apply B.mul | apply B.neg | exact B.lit (n := 8) (by decide))))
local macro_rules | `(tactic| walk_at "bu") => `(tactic| (apply B.up; walk_at "bd"; decide))
local macro_rules | `(tactic| walk_at "bnd") => `(tactic| (apply B.mulW; walk_at "bd"; decide))
local macro_rules | `(tactic| walk_at "pw") => `(tactic| exact B.up (n := 64) (by assumption) (by decide))
section
variable {P : Program} {w : World} {K : PySem.W.Frag} {mg : Str → Option Value} {base : Heap}
/-! ### a number without its square factors -/
/-- f is d without square factors -/
def Free (d f : Int) : Prop := (∃ s : Nat, 0 < s ∧ d = (s : Int) * s * f) ∧ ∀ p : Nat, 2 ≤ p → ¬ p * p ∣ f.natAbs
def sp_law_free (K : PySem.W.Frag) : Sp := fun vs H Q _ => ∃ d : Int, vs = [.int d] ∧ d ≠ 0 ∧ d.natAbs ≤ 100000 ∧ ∀ f, Free d f → Q (.int f) H
abbrev s__law_free : Stmt := topS 67
theorem sc__law_free : FnScope ["d", "p"] ["d"] (defScope s__law_free) := ⟨rfl, rfl, rfl, by decide +kernel, rfl, by decide +kernel, by decide +kernel⟩
theorem k_law_free (T : Tx K mg) (D : Df K mg "_law_free" s__law_free ["d"])  : Kl P w K mg base 1 "_law_free" (sp_law_free K) := by
  have nd := sc__law_free.nd
  refine Kl.by_body D sc__law_free (fun vs H Q E h => ?_) (fun f cdv A outer s H vs Q E hr h => ?_)
  · obtain ⟨_, rfl, _⟩ := h
    rfl
  · obtain ⟨d, rfl, hd0, hd, q⟩ := h
    have hu1 := hu_of hr
    refine ⟨_, (pss_cons (ps_set (i := 1) nd rfl (by first | exact Or.inl rfl | exact Or.inr rfl) pe_int)
      (pss_cons (ps_while PassesOwn.never (pt_cmpR op_le (pe_op op_mulW (pv 1) (pv 1)) (pe_callB call_abs (by rfl) T.abs (by decide +kernel) (pa_cons (pv 0) pa_nil)) (nomark _)) (pss_cons (ps_while PassesOwn.never (pt_cmpR op_eq (pe_op op_mod (pe_callTy call_intI (by rfl) T.int (by decide +kernel) (pa_cons (pv 0) pa_nil)) (pe_op op_mulW (pv 1) (pv 1))) pe_int (nomark _)) (pss_one (ps_set (i := 0) nd rfl (by first | exact Or.inl rfl | exact Or.inr rfl) (pe_op op_fdivAny (pv 0) (pe_op op_mulW (pv 1) (pv 1))))))
      (pss_one (ps_set (i := 1) nd rfl (by first | exact Or.inl rfl | exact Or.inr rfl) (pe_op op_add (pv 1) pe_int)))))
      (pss_one (ps_ret (pv 0))))), ?_⟩
    first | refine sigN [some (.int (d)), some (.int (2))] (by rfl) ?_ | refine sig [some (.int (d)), some (.int (2))] (by rfl) ?_
    refine while_by (fun σ H2 => ∃ (x : Int) (s p : Nat), σ = [some (.int x), some (.int (p : Int))] ∧ H2 = H ∧ 0 < s ∧ d = (s : Int) * s * x ∧ x ≠ 0 ∧ x.natAbs ≤ d.natAbs ∧ 2 ≤ p ∧ p ≤ 100001 ∧ ∀ e, 2 ≤ e → e < p → ¬ e * e ∣ x.natAbs)
      (fun σ _ => match σ with | [_, some (.int p)] => 100001 - p.toNat | _ => 0) ⟨d, 1, 2, rfl, rfl, by decide, by simp, hd0, Nat.le_refl _, by decide, by decide, fun e h1 h2 => absurd h1 (by omega)⟩ ?_ ?_
    · rintro σ H2 ⟨x, s, p, rfl, rfl, s0, ed, x0, xd, h2, h4, hs⟩
      have bp : B 17 (p : Int) := by
        unfold B
        omega
      refine ⟨_, rfl, _, rfl, _, _, rfl, rfl, bp.mulW bp (by decide), _, rfl, x, rfl, _, _, rfl, rfl, _, rfl, ?_⟩
      by_cases hc : p * p ≤ x.natAbs
      · refine iteY (by rw [decide_eq_true_iff, abs_eq, ← Int.natCast_mul]; exact Int.ofNat_le.mpr hc) ?_
        have hp : p ≤ 100000 := by
          have h1 : 1 * p ≤ p * p := Nat.mul_le_mul_right _ (by omega)
          omega
        have g2 : (0 : Int) < (p : Int) * p := Int.mul_pos (by omega) (by omega)
        refine while_by (fun σ H4 => ∃ (x' : Int) (s' : Nat), σ = [some (.int x'), some (.int (p : Int))] ∧ H4 = H2 ∧ 0 < s' ∧ x = (s' : Int) * s' * x' ∧ x' ≠ 0 ∧ x'.natAbs ∣ x.natAbs)
          (fun σ _ => match σ with | [some (.int x'), _] => x'.natAbs | _ => 0) ⟨x, 1, rfl, rfl, by decide, by simp, x0, Nat.dvd_refl _⟩ ?_ ?_
        · rintro σ H4 ⟨x', s', rfl, rfl, s0', ex, x0', xx⟩
          refine ⟨_, rfl, x', rfl, _, rfl, _, rfl, _, _, rfl, rfl, bp.mulW bp (by decide), _, _, rfl, rfl, g2, rfl, _, rfl, ?_⟩
          rw [dec_int]
          by_cases hm : x' % ((p : Int) * p) = 0
          · refine iteY (beq_iff_eq.mpr hm) ?_
            obtain ⟨k, ek⟩ := Int.dvd_of_emod_eq_zero hm
            have ef : x'.fdiv ((p : Int) * p) = k := by
              rw [Int.fdiv_eq_ediv_of_nonneg _ (by omega), ek]
              exact Int.mul_ediv_cancel_left _ (by omega)
            have k0 : k ≠ 0 := fun z => x0' (by rw [ek, z, Int.mul_zero])
            refine ⟨_, rfl, _, rfl, _, rfl, _, _, rfl, rfl, bp.mulW bp (by decide), _, _, rfl, rfl, div_any (by omega) (bp.mul bp) (by decide), ?_⟩
            have en : x'.natAbs = p * p * k.natAbs := by
              rw [ek, Int.natAbs_mul, Int.natAbs_mul, Int.natAbs_natCast]
            refine ⟨⟨k, s' * p, ?_, rfl, Nat.mul_pos s0' (by omega), ?_, k0, ?_⟩, ?_⟩
            · rw [← ef]
              rfl
            · rw [ex, ek, Int.natCast_mul]
              grind
            · exact Nat.dvd_trans ⟨p * p, by rw [en, Nat.mul_comm]⟩ xx
            · show (x'.fdiv ((p : Int) * p)).natAbs < x'.natAbs
              rw [ef, en]
              have h1 : 2 * 2 ≤ p * p := Nat.mul_le_mul h2 h2
              have h3 : 2 * 2 * k.natAbs ≤ p * p * k.natAbs := Nat.mul_le_mul_right _ h1
              omega
          · refine iteN (fun z => hm (beq_iff_eq.mp z)) ?_
            refine ⟨_, rfl, _, _, rfl, rfl, ?_⟩
            have xle := Nat.le_of_dvd (by omega) xx
            refine ⟨⟨x', s * s', p + 1, rfl, rfl, Nat.mul_pos s0 s0', ?_, x0', by omega, by omega, by omega, fun e e2 ep dv => ?_⟩, ?_⟩
            · rw [ed, ex, Int.natCast_mul]
              grind
            · rcases Nat.lt_or_ge e p with z | z
              · exact hs e e2 z (Nat.dvd_trans dv xx)
              · have ee : e = p := by omega
                subst ee
                refine hm (Int.emod_eq_zero_of_dvd ?_)
                rw [← Int.natCast_mul]
                exact Int.ofNat_dvd_left.mpr dv
            · show 100001 - ((p : Int) + 1).toNat < 100001 - (p : Int).toNat
              omega
        · intro σ H Q Q' i z
          refine (?_ : MoT _) σ H Q Q' i z
          walk_at "mo"
      · refine iteN (fun z => hc ?_) ?_
        · rw [decide_eq_true_iff, abs_eq, ← Int.natCast_mul] at z
          exact Int.ofNat_le.mp z
        · refine ⟨_, rfl, q x ⟨⟨s, s0, ed⟩, fun e e2 dv => ?_⟩⟩
          rcases Nat.lt_or_ge e p with z | z
          · exact hs e e2 z dv
          · have h1 := Nat.le_of_dvd (by omega) dv
            have h3 : p * p ≤ e * e := Nat.mul_le_mul z z
            omega
    · intro σ H Q Q' i z
      refine (?_ : MoT _) σ H Q Q' i z
      walk_at "mo"
end
end K08
set_option Elab.async false
set_option linter.all false
set_option maxRecDepth 100000
set_option maxHeartbeats 4000000
namespace K08
open PySem PySem.Spec PyProof.Rows L2 Gd QM
local macro_rules | `(tactic| walk_at "mo") => `(tactic| (repeat (first | with_reducible apply MoT.or | with_reducible apply MoT.and | with_reducible apply MoT.test | with_reducible apply MoE.op | with_reducible apply MoE.cb | with_reducible exact MoE.var | with_reducible exact MoE.c | with_reducible exact MoA.nil | with_reducible apply MoA.cons | exact MoR.eq | exact MoR.ne | exact MoR.i | exact MoR.i0 | exact MoB.i | exact MoB.i2 (g := fun i j => V.int (if j < i then j else i)) | exact MoB.i2 | exact MoB.gcd | with_reducible apply MoE.tup | with_reducible apply MoE.ifx)))
local macro_rules | `(tactic| walk_at "bd") => `(tactic| (repeat (first | assumption | apply B.add | apply B.sub | apply B.mul | apply B.neg | exact B.lit (n := 8) (by decide))))
local macro_rules | `(tactic| walk_at "bu") => `(tactic| (apply B.up; walk_at "bd"; decide))
local macro_rules | `(tactic| walk_at "bnd") => `(tactic| (apply B.mulW; walk_at "bd"; decide))
/-! ### small numbers in their factors: as the program finds them -/
/-- how often p divides n, and what is left -/
def cutN : Nat → Nat → Nat → Nat × Nat
  | 0, _, n => (0, n)
  | f + 1, p, n => if n % p = 0 then ((cutN f p (n / p)).1 + 1, (cutN f p (n / p)).2) else (0, n)
def sfGo : Nat → Nat → Nat → List Nat
  | 0, _, _ => []
  | f + 1, p, n => if p < 1000 ∧ p * p ≤ n then List.replicate (cutN n p n).1 p ++ sfGo f (p + 1) (cutN n p n).2 else if 1 < n then [n] else []
def sfN (n : Nat) : List Nat := sfGo 1001 2 n
def grp : List Nat → List (Nat × Nat)
  | [] => []
  | p :: r => match grp r with
    | [] => [(p, 1)]
    | (q, k) :: t => if q = p then (q, k + 1) :: t else (p, 1) :: (q, k) :: t
def asI : Option V → Int
  | some (.int k) => k
  | _ => 0
/-- the dict of how often -/
def cntK (L : List Nat) : List (Key × V) := L.foldl (fun (kvs : List (Key × V)) (p : Nat) => putK kvs (Sum.inl (p : Int)) (V.int (asI (valV kvs (Sum.inl (p : Int))) + 1))) []
def tabOk (n : Nat) : Bool := n == 0 || (decide ((sfN n).length ≤ 20) && decide (cntK (sfN n) = (grp (sfN n)).map fun e => (Sum.inl (e.1 : Int), V.int (e.2 : Int))) && decide (((grp (sfN n)).map fun e => (e.1 : Int)).Pairwise (· ≤ ·)) && decide ((grp (sfN n)).length ≤ 20) && (grp (sfN n)).all fun e => decide (valV (cntK (sfN n)) (Sum.inl (e.1 : Int)) = some (V.int (e.2 : Int)) ∧ e.1 < 1600 ∧ e.2 < 20))
theorem tab : ∀ n, n < 1600 → tabOk n = true := by decide +kernel
theorem tab_is {n : Nat} (h0 : 0 < n) (h : n < 1600) : (sfN n).length ≤ 20 ∧ cntK (sfN n) = (grp (sfN n)).map (fun e => (Sum.inl (e.1 : Int), V.int (e.2 : Int))) ∧ ((grp (sfN n)).map fun e => (e.1 : Int)).Pairwise (· ≤ ·) ∧ (grp (sfN n)).length ≤ 20 ∧ ∀ e ∈ grp (sfN n), valV (cntK (sfN n)) (Sum.inl (e.1 : Int)) = some (V.int (e.2 : Int)) ∧ e.1 < 1600 ∧ e.2 < 20 := by
  have := tab n h
  unfold tabOk at this
  rw [Bool.or_eq_true, beq_iff_eq, Bool.and_eq_true, Bool.and_eq_true, Bool.and_eq_true, Bool.and_eq_true, decide_eq_true_iff, decide_eq_true_iff, decide_eq_true_iff, decide_eq_true_iff, List.all_eq_true] at this
  rcases this with e | ⟨⟨⟨⟨a, b⟩, c⟩, d⟩, e⟩
  · omega
  · exact ⟨a, b, c, d, fun x hx => of_decide_eq_true (e x hx)⟩
/-- a number without its square factors, as the program finds it -/
def clsI (n : Int) : Int := (grp (sfN n.natAbs)).foldl (fun r e => if e.2 % 2 = 1 then r * (e.1 : Int) else r) (if 0 < n then 1 else -1)
theorem cutN_yes {f p n : Nat} (h : n % p = 0) : cutN (f + 1) p n = ((cutN f p (n / p)).1 + 1, (cutN f p (n / p)).2) := by
  rw [cutN, if_pos h]
theorem cutN_no {f p n : Nat} (h : ¬ n % p = 0) : cutN f p n = (0, n) := by
  cases f with
  | zero => rfl
  | succ f => rw [cutN, if_neg h]
theorem cutN_fuel : ∀ {f g p n : Nat}, 2 ≤ p → 0 < n → n ≤ f → n ≤ g → cutN f p n = cutN g p n
  | 0, _, _, _, _, h0, h, _ => by omega
  | _ + 1, 0, _, _, _, h0, _, h => by omega
  | f + 1, g + 1, p, n, h2, h0, hf, hg => by
    by_cases h : n % p = 0
    · have hd : n / p < n := Nat.div_lt_self h0 (by omega)
      have hp : 0 < n / p := Nat.div_pos (Nat.le_of_dvd h0 (Nat.dvd_of_mod_eq_zero h)) (by omega)
      rw [cutN_yes h, cutN_yes h, cutN_fuel (f := f) (g := g) h2 hp (by omega) (by omega)]
    · rw [cutN_no h, cutN_no h]
theorem cutN_step {p n : Nat} (h2 : 2 ≤ p) (h0 : 0 < n) (h : n % p = 0) : cutN n p n = ((cutN (n / p) p (n / p)).1 + 1, (cutN (n / p) p (n / p)).2) := by
  have hd : n / p < n := Nat.div_lt_self h0 (by omega)
  have hp : 0 < n / p := Nat.div_pos (Nat.le_of_dvd h0 (Nat.dvd_of_mod_eq_zero h)) (by omega)
  obtain ⟨m, rfl⟩ : ∃ m, n = m + 1 := ⟨n - 1, by omega⟩
  rw [cutN_yes h, cutN_fuel (f := m) (g := (m + 1) / p) h2 hp (by omega) (Nat.le_refl _)]
theorem sf_more {f p n : Nat} (h : p < 1000 ∧ p * p ≤ n) : sfGo (f + 1) p n = List.replicate (cutN n p n).1 p ++ sfGo f (p + 1) (cutN n p n).2 := by
  rw [sfGo, if_pos h]
theorem sf_end {f p n : Nat} (h : ¬ (p < 1000 ∧ p * p ≤ n)) : sfGo (f + 1) p n = if 1 < n then [n] else [] := by
  rw [sfGo, if_neg h]
theorem rep_snoc (k p : Nat) : List.replicate (k + 1) p = p :: List.replicate k p := rfl
def nats (L : List Nat) : List V := L.map fun (p : Nat) => V.int (p : Int)
theorem nats_snoc (L : List Nat) (p : Nat) : nats (L ++ [p]) = nats L ++ [V.int (p : Int)] := by
  unfold nats
  rw [List.map_append]
  rfl
section
variable {P : Program} {w : World} {K : PySem.W.Frag} {mg : Str → Option Value} {base : Heap}
def sp_small_factors (K : PySem.W.Frag) : Sp := fun vs H Q _ => ∃ n : Nat, vs = [.int (n : Int)] ∧ 0 < n ∧ n < 1600 ∧ ∀ H' t F, Same H H' → H F = none → H' t = some (.tup [.ref F, .int 1]) → H' F = some (.lst (nats (sfN n))) → Q (.ref t) H'
abbrev s_small_factors : Stmt := topS 23
theorem sc_small_factors : FnScope ["n", "found", "p"] ["n"] (defScope s_small_factors) := ⟨rfl, rfl, rfl, by decide +kernel, rfl, by decide +kernel, by decide +kernel⟩
theorem k_small_factors (T : Tx K mg) (D : Df K mg "small_factors" s_small_factors ["n"])  : Kl P w K mg base 1 "small_factors" (sp_small_factors K) := by
  have nd := sc_small_factors.nd
  refine Kl.by_body D sc_small_factors (fun vs H Q E h => ?_) (fun f cdv A outer s H vs Q E hr h => ?_)
  · obtain ⟨_, rfl, _⟩ := h
    rfl
  · obtain ⟨N, rfl, h0, hN, q⟩ := h
    have hu1 := hu_of hr
    refine ⟨_, (pss_cons (ps_set (i := 1) nd rfl (by first | exact Or.inl rfl | exact Or.inr rfl) (pe_lst pa_nil))
      (pss_cons (ps_set (i := 2) nd rfl (by first | exact Or.inl rfl | exact Or.inr rfl) pe_int)
      (pss_cons (ps_while PassesOwn.never (PW.pt (pw_and (pt_cmpR op_lt (pv 2) (pe_kon (by rfl) T.c_TRIED_primes) (nomark _)) (pw_and1 (pt_cmpR op_le (pe_op op_mulW (pv 2) (pv 2)) (pv 0) (nomark _))))) (pss_cons (ps_while PassesOwn.never (pt_cmpR op_eq (pe_op op_mod (pv 0) (pv 2)) pe_int (nomark _)) (pss_cons (ps_expr (pe_bm PySem.F.plainAttrs_list PySem.F.slot_list_append PySem.F.type_list_append mt_append (pv 1) (pa_cons (pv 2) pa_nil)))
      (pss_one (ps_aug (i := 0) nd rfl (by first | exact Or.inl rfl | exact Or.inr rfl) (pv 2) ip_fdivAny))))
      (pss_one (ps_aug (i := 2) nd rfl (by first | exact Or.inl rfl | exact Or.inr rfl) pe_int ip_add))))
      (pss_cons (ps_if (pt_chain op_lt op_lt pe_int (pv 0) (pe_op op_mulW (pe_kon (by rfl) T.c_TRIED_primes) (pe_kon (by rfl) T.c_TRIED_primes))) (pss_cons (ps_expr (pe_bm PySem.F.plainAttrs_list PySem.F.slot_list_append PySem.F.type_list_append mt_append (pv 1) (pa_cons (pv 0) pa_nil)))
      (pss_one (ps_set (i := 0) nd rfl (by first | exact Or.inl rfl | exact Or.inr rfl) pe_int))) pss_nil)
      (pss_one (ps_ret (pe_tup (pa_cons (pv 1) (pa_cons (pv 0) pa_nil))))))))), ?_⟩
    obtain ⟨hlen, _⟩ := tab_is h0 hN
    refine ⟨(by show 0 ≤ sizeLine; decide), fun F nF => ?_⟩
    have s1 := Same.new (H := H) (p := F) (o := .lst []) nF
    have gF : upd H F (.lst []) F = some (.lst []) := upd_same
    generalize upd H F (.lst []) = H1 at s1 gF ⊢
    first | refine sigN [some (.int (N)), some (.ref F), none] (by rfl) ?_ | refine sig [some (.int (N)), some (.ref F), none] (by rfl) ?_
    refine while_by (fun σ H2 => ∃ (acc : List Nat) (p n f : Nat), σ = [some (.int (n : Int)), some (.ref F), some (.int (p : Int))] ∧ But F H1 H2 ∧ H2 F = some (.lst (nats acc)) ∧ acc ++ sfGo (f + 1) p n = sfN N ∧ p + f = 1002 ∧ 2 ≤ p ∧ p ≤ 41 ∧ 0 < n ∧ n ≤ N)
      (fun σ _ => match σ with | [_, _, some (.int p)] => 1100 - p.toNat | _ => 0) ⟨[], 2, N, 1000, rfl, But.refl _ _, gF, rfl, rfl, by decide, by decide, h0, Nat.le_refl _⟩ ?_ ?_
    · rintro σ H2 ⟨acc, p, n, f, rfl, b2, g2, hT, hf, h2, h41, n0, nN⟩
      have bp : B 17 (p : Int) := by
        unfold B
        omega
      refine ⟨_, rfl, (p : Int), 1000, rfl, rfl, _, rfl, iteY (decide_eq_true (by omega)) ?_⟩
      refine ⟨_, rfl, _, rfl, _, _, rfl, rfl, bp.mulW bp (by decide), _, rfl, _, _, rfl, rfl, _, rfl, ?_⟩
      by_cases hc : p * p ≤ n
      · refine iteY (decide_eq_true (by rw [← Int.natCast_mul]; exact Int.ofNat_le.mpr hc)) ?_
        have p40 : p ≤ 40 := by
          rcases Nat.lt_or_ge 40 p with z | z
          · have : 41 * 41 ≤ p * p := Nat.mul_le_mul z z
            omega
          · exact z
        rw [sf_more ⟨by omega, hc⟩] at hT
        obtain ⟨k, hk⟩ : ∃ k, (cutN n p n).1 = k := ⟨_, rfl⟩
        obtain ⟨r, hr2⟩ : ∃ r, (cutN n p n).2 = r := ⟨_, rfl⟩
        rw [hk, hr2] at hT
        have hlen2 : acc.length + k ≤ 20 := by
          have := congrArg List.length hT
          rw [List.length_append, List.length_append, List.length_replicate] at this
          omega
        refine while_by (fun σ H4 => ∃ (m j : Nat), σ = [some (.int (m : Int)), some (.ref F), some (.int (p : Int))] ∧ But F H1 H4 ∧ H4 F = some (.lst (nats (acc ++ List.replicate j p))) ∧ k = j + (cutN m p m).1 ∧ r = (cutN m p m).2 ∧ 0 < m ∧ m ≤ n)
          (fun σ _ => match σ with | [some (.int m), _, _] => m.toNat | _ => 0) ⟨n, 0, rfl, b2, by rw [List.replicate_zero, List.append_nil]; exact g2, by omega, hr2.symm, n0, Nat.le_refl _⟩ ?_ ?_
        · rintro σ H4 ⟨m, j, rfl, b4, g4, ek, er, m0, mn⟩
          refine ⟨_, rfl, _, rfl, _, _, rfl, rfl, (by show (0 : Int) < (p : Int); omega), rfl, _, rfl, ?_⟩
          rw [dec_int]
          by_cases hm : m % p = 0
          · refine iteY (beq_iff_eq.mpr (by rw [← Int.natCast_emod, hm]; rfl)) ?_
            have hst := cutN_step h2 m0 hm
            have hd : m / p < m := Nat.div_lt_self m0 (by omega)
            have hp0 : 0 < m / p := Nat.div_pos (Nat.le_of_dvd m0 (Nat.dvd_of_mod_eq_zero hm)) (by omega)
            refine ⟨.ref F, rfl, .inl ⟨rfl, _, lst_of g4⟩, _, rfl, F, _, _, rfl, rfl, g4, small1000 (by unfold nats; rw [List.length_map, List.length_append, List.length_replicate]; omega), ?_⟩
            rw [← nats_snoc]
            have b5 : But F H1 (upd H4 F (.lst (nats (acc ++ List.replicate j p ++ [p])))) := b4.trans But.upd
            have g5 : (upd H4 F (.lst (nats (acc ++ List.replicate j p ++ [p])))) F = some (.lst (nats (acc ++ List.replicate j p ++ [p]))) := upd_same
            generalize upd H4 F (.lst (nats (acc ++ List.replicate j p ++ [p]))) = H5 at b5 g5 ⊢
            have ed : ((m : Int)).fdiv (p : Int) = ((m / p : Nat) : Int) := by
              rw [Int.fdiv_eq_ediv_of_nonneg _ (by omega)]
              exact (Int.natCast_ediv m p).symm
            refine ⟨_, rfl, _, rfl, (m : Int), (p : Int), rfl, rfl, div_any (by omega) bp (by decide), ?_⟩
            refine ⟨⟨m / p, j + 1, by rw [← ed]; rfl, b5, ?_, by rw [hst] at ek; simp only [] at ek; omega, by rw [hst] at er; exact er, hp0, by omega⟩, ?_⟩
            · rw [List.append_assoc, ← List.replicate_succ'] at g5
              exact g5
            · show ((m : Int).fdiv (p : Int)).toNat < m
              rw [ed]
              exact hd
          · refine iteN (fun z => hm ?_) ?_
            · have := beq_iff_eq.mp z
              rw [← Int.natCast_emod] at this
              exact Int.ofNat_eq_zero.mp this
            · rw [cutN_no hm] at ek er
              simp only [Nat.add_zero] at ek er
              subst ek er
              refine ⟨_, rfl, _, _, rfl, rfl, ?_⟩
              obtain ⟨f', rfl⟩ : ∃ f', f = f' + 1 := ⟨f - 1, by omega⟩
              refine ⟨⟨acc ++ List.replicate k p, p + 1, r, f', rfl, b4, g4, by rw [List.append_assoc]; exact hT, by omega, by omega, by omega, m0, by omega⟩, ?_⟩
              show 1100 - ((p : Int) + 1).toNat < 1100 - (p : Int).toNat
              omega
        · intro σ H Q Q' i z
          refine (?_ : MoT _) σ H Q Q' i z
          walk_at "mo"
      · refine iteN (fun z => hc ?_) ?_
        · have := of_decide_eq_true z
          rw [← Int.natCast_mul] at this
          exact Int.ofNat_le.mp this
        · rw [sf_end (fun z => hc z.2)] at hT
          have hacc : acc.length ≤ 20 := by
            have := congrArg List.length hT
            rw [List.length_append] at this
            omega
          by_cases h1 : 1 < n
          · rw [if_pos h1] at hT
            refine ⟨_, rfl, _, _, rfl, rfl, _, rfl, iteY (decide_eq_true (by omega)) ?_⟩
            have hbig : decide ((n : Int) < 1000 * 1000) = true := decide_eq_true (by omega)
            have hml : CMulW 1000 1000 := (B.lit (n := 12) (x := 1000) (by decide)).mulW (B.lit (n := 12) (x := 1000) (by decide)) (by decide)
            refine ⟨1000, 1000, rfl, rfl, hml, (n : Int), 1000 * 1000, rfl, rfl, true, congrArg V.bl hbig, iteT ?_⟩
            refine ⟨.ref F, rfl, .inl ⟨rfl, _, lst_of g2⟩, _, rfl, F, _, _, rfl, rfl, g2, small1000 (by unfold nats; rw [List.length_map]; omega), ?_⟩
            rw [← nats_snoc, hT]
            have b5 : But F H1 (upd H2 F (.lst (nats (sfN N)))) := b2.trans But.upd
            have g5 : (upd H2 F (.lst (nats (sfN N)))) F = some (.lst (nats (sfN N))) := upd_same
            generalize upd H2 F (.lst (nats (sfN N))) = H5 at b5 g5 ⊢
            refine ⟨.ref F, rfl, _, rfl, (by show 2 ≤ sizeLine; decide), fun t nt => ?_⟩
            exact q _ t F ((But.same s1 b5 nF).trans (Same.new nt)) nF upd_same (Same.new nt _ _ g5)
          · rw [if_neg h1, List.append_nil] at hT
            obtain rfl : n = 1 := by omega
            refine ⟨_, rfl, _, _, rfl, rfl, _, rfl, iteN (by simp) ⟨_, rfl, iteF ?_⟩⟩
            refine ⟨.ref F, rfl, _, rfl, (by show 2 ≤ sizeLine; decide), fun t nt => ?_⟩
            rw [hT] at g2
            exact q _ t F ((But.same s1 b2 nF).trans (Same.new nt)) nF upd_same (Same.new nt _ _ g2)
    · intro σ H Q Q' i z
      refine (?_ : MoT _) σ H Q Q' i z
      walk_at "mo"
end
end K08
set_option Elab.async false
set_option linter.all false
set_option maxRecDepth 100000
set_option maxHeartbeats 4000000
namespace K08
open PySem PySem.Spec PyProof.Rows L2 Gd QM
local macro_rules | `(tactic| walk_at "bd") => `(tactic| (repeat (first | assumption | apply B.add | apply B.sub | apply B.mul | apply B.neg | exact B.lit (n := 8) (by decide))))
local macro_rules | `(tactic| walk_at "bu") => `(tactic| (apply B.up; walk_at "bd"; decide))
local macro_rules | `(tactic| walk_at "bnd") => `(tactic| (apply B.mulW; walk_at "bd"; decide))
theorem ix_listK {X : Cx} {K : PySem.W.Frag} (h : X.K = K) : IxR X (rIxL K) := h ▸ ix_list
theorem ix_tupK {X : Cx} {K : PySem.W.Frag} (h : X.K = K) : IxR X (rIxT K) := h ▸ ix_tup
theorem op_in_seqK {X : Cx} {K : PySem.W.Frag} (h : X.K = K) : OpR X (compareOp .In) (rIn K false) := h ▸ op_in_seq
theorem cnt_snoc (L : List Nat) (p : Nat) : cntK (L ++ [p]) = putK (cntK L) (Sum.inl (p : Int)) (V.int (asI (valV (cntK L) (Sum.inl (p : Int))) + 1)) := by
  unfold cntK
  rw [List.foldl_append]
  rfl
theorem cnt_int (L : List Nat) : ∀ k v, valV (cntK L) k = some v → ∃ n, v = .int n := by
  have h : ∀ (L : List Nat) (A : List (Key × V)), (∀ k v, valV A k = some v → ∃ n, v = .int n) → ∀ k v, valV (L.foldl (fun (kvs : List (Key × V)) (p : Nat) => putK kvs (Sum.inl (p : Int)) (V.int (asI (valV kvs (Sum.inl (p : Int))) + 1))) A) k = some v → ∃ n, v = .int n := by
    intro L
    induction L with
    | nil => intro A hA; exact hA
    | cons p L ih =>
      intro A hA
      rw [List.foldl_cons]
      refine ih _ (fun k v e => ?_)
      rw [valV_put] at e
      split at e
      · exact ⟨_, (Option.some.inj e).symm⟩
      · exact hA k v e
  exact h L [] (fun k v e => by rw [valV_nil] at e; cases e)
theorem put_len (kvs : List (Key × V)) (k : Key) (v : V) : (putK kvs k v).length ≤ kvs.length + 1 := by
  unfold putK
  split
  · rw [List.length_map]
    omega
  · rw [List.length_append]
    exact Nat.le_refl _
theorem cnt_len (L : List Nat) : (cntK L).length ≤ L.length := by
  have h : ∀ (L : List Nat) (A : List (Key × V)), (L.foldl (fun (kvs : List (Key × V)) (p : Nat) => putK kvs (Sum.inl (p : Int)) (V.int (asI (valV kvs (Sum.inl (p : Int))) + 1))) A).length ≤ A.length + L.length := by
    intro L
    induction L with
    | nil => intro A; exact Nat.le_refl _
    | cons p L ih =>
      intro A
      rw [List.foldl_cons, List.length_cons]
      have h1 := ih (putK A (Sum.inl (p : Int)) (V.int (asI (valV A (Sum.inl (p : Int))) + 1)))
      have h2 := put_len A (Sum.inl (p : Int)) (V.int (asI (valV A (Sum.inl (p : Int))) + 1))
      omega
  have := h L []
  rw [List.length_nil, Nat.zero_add] at this
  exact this
theorem getD_int {o : Option V} (h : ∀ v, o = some v → ∃ n, v = .int n) : o.getD (.int 0) = .int (asI o) := by
  cases o with
  | none => rfl
  | some v =>
    obtain ⟨n, rfl⟩ := h v rfl
    rfl
theorem get_snoc {A : Type} {L : List A} {t p : A} {j : Nat} (h : (L ++ [t])[j]? = some p) : L[j]? = some p ∨ (j = L.length ∧ p = t) := by
  rcases Nat.lt_or_ge j L.length with z | z
  · rw [List.getElem?_append_left z] at h
    exact .inl h
  · rw [List.getElem?_append_right z] at h
    have e0 : j - L.length = 0 := by
      rcases Nat.eq_zero_or_pos (j - L.length) with y | y
      · exact y
      · rw [List.getElem?_eq_none (by simp; omega)] at h
        cases h
    rw [e0] at h
    exact .inr ⟨by omega, (Option.some.inj h).symm⟩
theorem get_lt {A : Type} {L : List A} {p : A} {j : Nat} (h : L[j]? = some p) : j < L.length := (List.getElem?_eq_some_iff.mp h).1
/-- pairs in a list -/
def PrD (H : Hp) (D : Addr) (es : List (Nat × Nat)) (i : Nat) : Prop := ∃ L : List Addr, H D = some (.lst (L.map V.ref)) ∧ L.length = i ∧ ∀ (j : Nat) (p : Addr), L[j]? = some p → ∃ e, es[j]? = some e ∧ H p = some (.tup [.int (e.1 : Int), .int (e.2 : Int)])
section
variable {P : Program} {w : World} {K : PySem.W.Frag} {mg : Str → Option Value} {base : Heap}
/-! ### never entered -/
def sp_has_no_parts (K : PySem.W.Frag) : Sp := fun _ _ _ _ => False
def sp_part_of (K : PySem.W.Frag) : Sp := fun _ _ _ _ => False
abbrev s_has_no_parts : Stmt := topS 17
theorem sc_has_no_parts : FnScope ["n", "p", "a"] ["n"] (defScope s_has_no_parts) := ⟨rfl, rfl, rfl, by decide +kernel, rfl, by decide +kernel, by decide +kernel⟩
theorem k_has_no_parts (D : Df K mg "has_no_parts" s_has_no_parts ["n"]) : Kl P w K mg base 4 "has_no_parts" (sp_has_no_parts K) :=
  Kl.by_body D sc_has_no_parts (fun _ _ _ _ h => h.elim) (fun _ _ _ _ _ _ _ _ _ _ h => h.elim)
abbrev s_part_of : Stmt := topS 20
theorem sc_part_of : FnScope ["n", "r", "c", "shared"] ["n"] (defScope s_part_of) := ⟨rfl, rfl, rfl, by decide +kernel, rfl, by decide +kernel, by decide +kernel⟩
theorem k_part_of (D : Df K mg "part_of" s_part_of ["n"]) : Kl P w K mg base 3 "part_of" (sp_part_of K) :=
  Kl.by_body D sc_part_of (fun _ _ _ _ h => h.elim) (fun _ _ _ _ _ _ _ _ _ _ h => h.elim)
def sp_factors (K : PySem.W.Frag) : Sp := fun vs H Q _ => ∃ n : Nat, vs = [.int (n : Int)] ∧ 0 < n ∧ n < 1600 ∧ ∀ H' t (L : List Addr), Same H H' → H' t = some (.tup (L.map V.ref)) → L.length = (grp (sfN n)).length → (∀ (j : Nat) (p : Addr), L[j]? = some p → ∃ e, (grp (sfN n))[j]? = some e ∧ H' p = some (.tup [.int (e.1 : Int), .int (e.2 : Int)])) → Q (.ref t) H'
abbrev s_factors : Stmt := topS 24
theorem sc_factors : FnScope ["n", "found", "rest", "todo", "part", "d", "times_found", "p"] ["n"] (defScope s_factors) := ⟨rfl, rfl, rfl, by decide +kernel, rfl, by decide +kernel, by decide +kernel⟩
theorem k_factors (T : Tx K mg) (D : Df K mg "factors" s_factors ["n"]) (c_small_factors : Kl P w K mg base 1 "small_factors" (sp_small_factors K)) (c_has_no_parts : Kl P w K mg base 4 "has_no_parts" (sp_has_no_parts K)) (c_part_of : Kl P w K mg base 3 "part_of" (sp_part_of K)) : Kl P w K mg base 5 "factors" (sp_factors K) := by
  have nd := sc_factors.nd
  refine Kl.by_body D sc_factors (fun vs H Q E h => ?_) (fun f cdv A outer s H vs Q E hr h => ?_)
  · obtain ⟨_, rfl, _⟩ := h
    rfl
  · obtain ⟨n, rfl, h0, hN, q⟩ := h
    have hu1 := hu_of hr
    refine ⟨_, (pss_cons (ps_asg (pe_k c_small_factors  hr (by decide) (by rfl) (pa_cons (pv 0) pa_nil)) (pg_tup rfl (pgs_cons (pg_name (i := 1) nd rfl (by first | exact Or.inl rfl | exact Or.inr rfl)) (pgs_cons (pg_name (i := 2) nd rfl (by first | exact Or.inl rfl | exact Or.inr rfl)) pgs_nil))))
      (pss_cons (ps_set (i := 3) nd rfl (by first | exact Or.inl rfl | exact Or.inr rfl) (pe_ifExp (pt_cmpR op_gt (pv 2) pe_int (nomark _)) (pe_lst (pa_cons (pv 2) pa_nil)) (pe_lst pa_nil)))
      (pss_cons (ps_while PassesOwn.never (pt_truth (pv 3) (fun _ => rfl)) (pss_cons (ps_set (i := 4) nd rfl (by first | exact Or.inl rfl | exact Or.inr rfl) (pe_bm0 PySem.F.plainAttrs_list PySem.F.slot_list_pop PySem.F.type_list_pop mt_pop (pv 3)))
      (pss_one (ps_if (pt_val (pe_k c_has_no_parts  hr (by decide) (by rfl) (pa_cons (pv 4) pa_nil))) (pss_one (ps_expr (pe_bm PySem.F.plainAttrs_list PySem.F.slot_list_append PySem.F.type_list_append mt_append (pv 1) (pa_cons (pv 4) pa_nil)))) (pss_cons (ps_set (i := 5) nd rfl (by first | exact Or.inl rfl | exact Or.inr rfl) (pe_k c_part_of  hr (by decide) (by rfl) (pa_cons (pv 4) pa_nil)))
      (pss_cons (ps_expr (pe_bm PySem.F.plainAttrs_list PySem.F.slot_list_append PySem.F.type_list_append mt_append (pv 3) (pa_cons (pv 5) pa_nil)))
      (pss_one (ps_expr (pe_bm PySem.F.plainAttrs_list PySem.F.slot_list_append PySem.F.type_list_append mt_append (pv 3) (pa_cons (pe_op op_fdivN (pv 4) (pv 5)) pa_nil))))))))))
      (pss_cons (ps_set (i := 6) nd rfl (by first | exact Or.inl rfl | exact Or.inr rfl) pe_dnewK)
      (pss_cons (ps_for PassesOwn.never rfl (pi_list (pv 1)) (pg_name (i := 7) nd rfl (by first | exact Or.inl rfl | exact Or.inr rfl)) (pss_one (ps_dput hu1 (pv 6) (pv 7) (pe_op op_add (pe_dget2 hu1 (pv 6) (pv 7) pe_int ⟨rfl, rfl, rfl, rfl⟩) pe_int) rfl)))
      (pss_one (ps_ret (pe_callTy call_tuple_of (by rfl) T.tuple (by decide +kernel) (pa_cons (pe_lc (own := [("p", 7)]) (g := gName 7) rfl nd (pi_list (pe_callB (call_sortedDI rfl) (by rfl) T.sorted (by decide +kernel) (pa_cons (pv 6) pa_nil))) (blkOk_by (N := ["n", "found", "rest", "todo", "part", "d", "times_found", "p"]) (sc := defScope s_factors) (by decide +kernel)) (fun _ _ _ _ _ => (pg_name (i := 7) nd rfl (by first | exact Or.inl rfl | exact Or.inr rfl))) (fun _ _ _ _ _ => pts_nil) (fun _ _ _ _ _ => (pe_tup (pa_cons (pv 7) (pa_cons (pe_dget hu1 (pv 6) (pv 7) (fun _ _ => rfl)) pa_nil))))) pa_nil))))))))), ?_⟩
    obtain ⟨hlen, hcnt, hpw, hgl, hval⟩ := tab_is h0 hN
    refine ⟨_, rfl, n, rfl, h0, hN, fun H1 t F s1 nF gt gF => ?_⟩
    refine ⟨t, _, rfl, tup_of gt, rfl, _, _, rfl, _, _, rfl, rfl, ?_⟩
    first | refine sigN [some (.int (n)), some (.ref F), some (.int (1)), none, none, none, none, none] (by rfl) ?_ | refine sig [some (.int (n)), some (.ref F), some (.int (1)), none, none, none, none, none] (by rfl) ?_
    refine ⟨_, rfl, _, _, rfl, rfl, _, rfl, iteN (by decide) ?_⟩
    refine ⟨(by show 0 ≤ sizeLine; decide), fun To nTo => ?_⟩
    have s2 := Same.new (H := H1) (p := To) (o := .lst []) nTo
    have gTo : upd H1 To (.lst []) To = some (.lst []) := upd_same
    generalize upd H1 To (.lst []) = H2 at s2 gTo ⊢
    refine ⟨fun m σ H3 => σ = [some (.int (n : Int)), some (.ref F), some (.int 1), some (.ref To), none, none, none, none] ∧ H3 = H2, ⟨0, rfl, rfl⟩, ?_⟩
    · rintro m σ H3 ⟨rfl, rfl⟩
      refine ⟨.ref To, rfl, false, .inl ⟨[], lst_of gTo, rfl⟩, iteF ?_⟩
      refine fun Dd nDd => ?_
      have gF3 := s2 _ _ gF
      have s4 := Same.new (H := H3) (p := Dd) (o := .dK []) nDd
      have gD : upd H3 Dd (.dK []) Dd = some (.dK []) := upd_same
      generalize upd H3 Dd (.dK []) = H4 at s4 gD ⊢
      first | refine sigN [some (.int (n)), some (.ref F), some (.int (1)), some (.ref To), none, none, some (.ref Dd), none] (by rfl) ?_ | refine sig [some (.int (n)), some (.ref F), some (.int (1)), some (.ref To), none, none, some (.ref Dd), none] (by rfl) ?_
      have sA := s1.trans (s2.trans s4)
      have gF4 := s4 _ _ gF3
      have hFD : F ≠ Dd := ne_of_none gF3 nDd
      refine ⟨.ref F, rfl, F, rfl, ⟨_, lst_of gF4⟩, for_list (K := K) (a := F) (xs := nats (sfN n)) (fun i σ H5 => But Dd H4 H5 ∧ H5 Dd = some (.dK (cntK ((sfN n).take i))) ∧ ∃ v, σ = [some (.int (n : Int)), some (.ref F), some (.int 1), some (.ref To), none, none, some (.ref Dd), v]) ⟨But.refl _ _, gD, none, rfl⟩ (fun i σ H5 _ z => lst_of (z.1 _ _ gF4 hFD)) ?_ ?_⟩
      · rintro i x σ H5 hi ⟨b5, g5, v, rfl⟩
        obtain ⟨p, rfl, hp⟩ : ∃ p : Nat, x = .int (p : Int) ∧ (sfN n)[i]? = some p := by
          unfold nats at hi
          rw [List.getElem?_map] at hi
          cases e : (sfN n)[i]? with
          | none =>
            rw [e] at hi
            cases hi
          | some y =>
            rw [e] at hi
            exact ⟨y, (Option.some.inj hi).symm, rfl⟩
        have hsz : (cntK ((sfN n).take i)).length < sizeLine := by
          have h1 := cnt_len ((sfN n).take i)
          rw [List.length_take] at h1
          exact small1000 (by omega)
        refine ⟨.ref Dd, rfl, Dd, rfl, .inl ⟨_, .inl g5⟩, _, rfl, _, DGet.k (k := Sum.inl (p : Int)) g5, ?_⟩
        rw [getD_int (cnt_int _ _)]
        refine ⟨_, _, rfl, rfl, .ref Dd, rfl, _, rfl, Dd, _, rfl, DPut.k (k := Sum.inl (p : Int)) g5 hsz, ?_⟩
        refine ⟨b5.trans But.upd, ?_, _, rfl⟩
        rw [upd_same, List.take_add_one, hp]
        show some (HO.dK (putK _ _ _)) = some (HO.dK (cntK ((sfN n).take i ++ [p])))
        rw [cnt_snoc]
      · rintro σ H5 ⟨b5, g5, v, rfl⟩
        rw [show (nats (sfN n)).length = (sfN n).length by unfold nats; rw [List.length_map], List.take_length, hcnt] at g5
        have hks : ((grp (sfN n)).map (fun e => ((Sum.inl (e.1 : Int) : Key), V.int (e.2 : Int)))).map (·.1) = ((grp (sfN n)).map fun e => (e.1 : Int)).map Sum.inl := by
          rw [List.map_map, List.map_map]
          rfl
        refine ⟨.ref Dd, rfl, Dd, _, _, rfl, .inl g5, hks, by rw [List.length_map]; omega, fun ys Ls perm pw nLs => ?_⟩
        obtain rfl : ys = (grp (sfN n)).map fun e => (e.1 : Int) := List.Perm.eq_of_pairwise (le := (· ≤ ·)) (fun a b _ _ h1 h2 => Int.le_antisymm h1 h2) pw hpw perm
        have s6 := Same.new (H := H5) (p := Ls) (o := .lst (((grp (sfN n)).map fun e => (e.1 : Int)).map V.int)) nLs
        have gLs : upd H5 Ls (.lst (((grp (sfN n)).map fun e => (e.1 : Int)).map V.int)) Ls = some (.lst (((grp (sfN n)).map fun e => (e.1 : Int)).map V.int)) := upd_same
        generalize upd H5 Ls (.lst (((grp (sfN n)).map fun e => (e.1 : Int)).map V.int)) = H6 at s6 gLs ⊢
        have g6 := s6 _ _ g5
        refine ⟨Ls, rfl, ⟨_, lst_of gLs⟩, fun D2 hD2 => ?_⟩
        rw [hcnt] at hval
        refine lc_list (K := K) (a := Ls) (xs := ((grp (sfN n)).map fun e => (e.1 : Int)).map V.int) (fun i H7 => Same H6 H7 ∧ PrD H7 D2 (grp (sfN n)) i) ⟨Same.new hD2, [], upd_same, rfl, fun j p e => by cases e⟩ (fun i H7 _ z => lst_of (z.1 _ _ gLs)) (fun i x H7 hi z => ?_) (fun H7 z => ?_)
        · obtain ⟨s7, L, gL, eL, hL⟩ := z
          obtain ⟨e, rfl, he⟩ : ∃ e, x = .int (e.1 : Int) ∧ (grp (sfN n))[i]? = some e := by
            rw [List.getElem?_map, List.getElem?_map] at hi
            cases e' : (grp (sfN n))[i]? with
            | none =>
              rw [e'] at hi
              cases hi
            | some y =>
              rw [e'] at hi
              exact ⟨y, (Option.some.inj hi).symm, rfl⟩
          have hi20 := get_lt he
          have hv := (hval e (List.mem_of_getElem? he)).1
          refine ⟨rfl, _, rfl, .ref Dd, rfl, _, rfl, Dd, .int (e.2 : Int), rfl, hv ▸ DGet.k (k := Sum.inl (e.1 : Int)) (s7 _ _ g6), (by show 2 ≤ sizeLine; decide), fun t8 n8 => ?_⟩
          have hDt : D2 ≠ t8 := ne_of_none gL n8
          refine ⟨L.map V.ref, by rw [upd_ne hDt]; exact gL, small1000 (by rw [List.length_map]; omega), Same.put (Same.put s7 (s7.free n8)) hD2, L ++ [t8], by rw [upd_same, List.map_append]; rfl, by rw [List.length_append, eL]; rfl, fun j p e' => ?_⟩
          rcases get_snoc e' with e' | ⟨rfl, rfl⟩
          · obtain ⟨e2, h1, h2⟩ := hL j p e'
            exact ⟨e2, h1, by rw [upd_ne (ne_of h2 gL (by intro z; cases z)), upd_ne (ne_of_none h2 n8)]; exact h2⟩
          · exact ⟨e, by rw [eL]; exact he, by rw [upd_ne hDt.symm, upd_same]⟩
        · obtain ⟨s7, L, gL, eL, hL⟩ := z
          rw [List.length_map, List.length_map] at eL
          refine ⟨D2, _, rfl, .inl ⟨lst_of gL, fun tz nz => ?_⟩⟩
          have s8 := Same.new (o := .tup (L.map V.ref)) nz
          refine q _ tz L ((But.same sA b5 (s1.free (s2.free nDd))).trans (s6.trans (s7.trans s8))) upd_same eL (fun j p e => ?_)
          obtain ⟨e2, h1, h2⟩ := hL j p e
          exact ⟨e2, h1, s8 _ _ h2⟩
/-! ### class_of -/
def sp_class_of (K : PySem.W.Frag) : Sp := fun vs H Q _ => ∃ n : Int, vs = [.int n] ∧ n ≠ 0 ∧ n.natAbs < 1600 ∧ ∀ H', Same H H' → Q (.int (clsI n)) H'
theorem fold_take (es : List (Nat × Nat)) (z : Int) {i : Nat} {e : Nat × Nat} (h : es[i]? = some e) : (es.take (i + 1)).foldl (fun (r : Int) e => if e.2 % 2 = 1 then r * (e.1 : Int) else r) z = if e.2 % 2 = 1 then (es.take i).foldl (fun (r : Int) e => if e.2 % 2 = 1 then r * (e.1 : Int) else r) z * (e.1 : Int) else (es.take i).foldl (fun (r : Int) e => if e.2 % 2 = 1 then r * (e.1 : Int) else r) z := by
  rw [List.take_succ, List.foldl_append, h]
  rfl
theorem fold_B (es : List (Nat × Nat)) (z : Int) (hz : B 1 z) (he : ∀ e ∈ es, e.1 < 1600) : ∀ i, B (1 + 11 * i) ((es.take i).foldl (fun (r : Int) e => if e.2 % 2 = 1 then r * (e.1 : Int) else r) z)
  | 0 => by simpa using hz
  | i + 1 => by
    have ih := fold_B es z hz he i
    cases h : es[i]? with
    | none =>
      rw [List.take_succ, h, Option.toList_none, List.append_nil]
      exact ih.up (by omega)
    | some e =>
      rw [fold_take es z h]
      have h1 := he e (List.mem_of_getElem? h)
      have hb : B 11 (e.1 : Int) := by
        unfold B
        omega
      split
      · exact (ih.mul hb).up (by omega)
      · exact ih.up (by omega)
abbrev s_class_of : Stmt := topS 25
theorem sc_class_of : FnScope ["n", "result", "p", "e"] ["n"] (defScope s_class_of) := ⟨rfl, rfl, rfl, by decide +kernel, rfl, by decide +kernel, by decide +kernel⟩
theorem k_class_of (T : Tx K mg) (D : Df K mg "class_of" s_class_of ["n"]) (c_factors : Kl P w K mg base 5 "factors" (sp_factors K)) : Kl P w K mg base 6 "class_of" (sp_class_of K) := by
  have nd := sc_class_of.nd
  refine Kl.by_body D sc_class_of (fun vs H Q E h => ?_) (fun f cdv A outer s H vs Q E hr h => ?_)
  · obtain ⟨_, rfl, _⟩ := h
    rfl
  · obtain ⟨n, rfl, n0, hn, q⟩ := h
    have hu1 := hu_of hr
    refine ⟨_, (C8.pss_cut (ps_set (i := 1) nd rfl (by first | exact Or.inl rfl | exact Or.inr rfl) (pe_ifExp (pt_cmpR op_gt (pv 0) pe_int (nomark _)) pe_int (pe_un un_neg pe_int)))
      (pss_cons (ps_for PassesOwn.never rfl (pi_tup (pe_k c_factors  hr (by decide) (by rfl) (pa_cons (pe_callB call_abs (by rfl) T.abs (by decide +kernel) (pa_cons (pv 0) pa_nil)) pa_nil))) (pg_tup rfl (pgs_cons (pg_name (i := 2) nd rfl (by first | exact Or.inl rfl | exact Or.inr rfl)) (pgs_cons (pg_name (i := 3) nd rfl (by first | exact Or.inl rfl | exact Or.inr rfl)) pgs_nil))) (pss_one (ps_if (pt_cmpR op_eq (pe_op op_mod (pv 3) pe_int) pe_int (nomark _)) (pss_one (ps_set (i := 1) nd rfl (by first | exact Or.inl rfl | exact Or.inr rfl) (pe_op op_mulW (pv 1) (pv 2)))) pss_nil)))
      (pss_one (ps_ret (pv 1))))), ?_⟩
    have h0 : 0 < n.natAbs := by omega
    obtain ⟨hlen, hcnt, hpw, hgl, hval⟩ := tab_is h0 hn
    refine ⟨fun σ H' => H' = H ∧ ∃ z : Int, z = (if 0 < n then 1 else -1) ∧ B 1 z ∧ σ = [some (.int n), some (.int z), none, none], ?_, ?_⟩
    · refine ⟨_, rfl, _, _, rfl, rfl, _, rfl, ite2 (fun e => ?_) (fun e => ?_)⟩
      · have e' : 0 < n := of_decide_eq_true e
        exact ⟨rfl, 1, by rw [if_pos e'], B.lit (by decide), rfl⟩
      · have e' : ¬ 0 < n := fun z => e (decide_eq_true z)
        exact ⟨_, rfl, rfl, -1, by rw [if_neg e'], B.lit (by decide), rfl⟩
    rintro σ H' ⟨rfl, z, hz, bz, rfl⟩
    have hB := fold_B (grp (sfN n.natAbs)) z bz (fun e he => (hval e he).2.1)
    refine ⟨_, rfl, n, rfl, n.natAbs, by rw [abs_eq], h0, hn, fun H1 t L s1 gt eL hL => ?_⟩
    refine ⟨t, rfl, ⟨_, tup_of gt⟩, for_tup (K := K) (a := t) (xs := L.map V.ref) (fun i σ H2 => H2 = H1 ∧ ∃ v1 v2 : Option V, σ = [some (.int n), some (.int (((grp (sfN n.natAbs)).take i).foldl (fun (r : Int) e => if e.2 % 2 = 1 then r * (e.1 : Int) else r) z)), v1, v2]) ⟨rfl, none, none, rfl⟩ (fun i σ H2 _ y => by rw [y.1]; exact tup_of gt) ?_ ?_⟩
    · rintro i x σ H2 hi ⟨rfl, v1, v2, rfl⟩
      obtain ⟨p, rfl, hpi⟩ : ∃ p, x = .ref p ∧ L[i]? = some p := by
        rw [List.getElem?_map] at hi
        cases e : L[i]? with
        | none =>
          rw [e] at hi
          cases hi
        | some y =>
          rw [e] at hi
          exact ⟨y, (Option.some.inj hi).symm, rfl⟩
      obtain ⟨e, he, ge⟩ := hL i p hpi
      have hi20 := get_lt he
      refine ⟨p, _, rfl, tup_of ge, rfl, _, _, rfl, _, _, rfl, rfl, ?_⟩
      refine ⟨_, rfl, _, _, rfl, rfl, (by show (0 : Int) < 2; decide), rfl, _, rfl, ?_⟩
      rw [dec_int]
      have hb1 : B 11 (e.1 : Int) := by
        have := (hval e (List.mem_of_getElem? he)).2.1
        unfold B
        omega
      by_cases h1 : e.2 % 2 = 1
      · refine iteY (beq_iff_eq.mpr (by omega)) ?_
        refine ⟨_, rfl, _, rfl, _, _, rfl, rfl, (hB i).mulW hb1 (by omega), ?_⟩
        refine ⟨rfl, some (.int (e.1 : Int)), some (.int (e.2 : Int)), ?_⟩
        rw [fold_take _ _ he, if_pos h1]
        rfl
      · refine iteN (fun y => h1 ?_) ?_
        · have := beq_iff_eq.mp y
          omega
        · refine ⟨rfl, some (.int (e.1 : Int)), some (.int (e.2 : Int)), ?_⟩
          rw [fold_take _ _ he, if_neg h1]
          rfl
    · rintro σ H2 ⟨rfl, v1, v2, rfl⟩
      rw [List.length_map, eL, List.take_length]
      refine ⟨_, rfl, ?_⟩
      have := q _ s1
      unfold clsI at this
      rw [← hz] at this
      exact this
end
end K08
set_option Elab.async false
set_option linter.all false
set_option maxRecDepth 100000
set_option maxHeartbeats 400000
namespace K08
open PySem PySem.Spec PyProof.Rows L2 Gd QM
/-! ### changes -/
structure Ch where
  u : Rat
  r : Rat
  s : Rat
  t : Rat
structure ChB (m : Nat) (c : Ch) : Prop where
  u0 : c.u ≠ 0
  u : RB m c.u
  r : RB m c.r
  s : RB m c.s
  t : RB m c.t
/-- a change stands there -/
def ChAt (K : PySem.W.Frag) (H : Hp) (p : Addr) (c : Ch) : Prop := ∃ pu pr ps pt, SqT K H p [.ref pu, .ref pr, .ref ps, .ref pt] ∧ SqT K H pu (fq c.u) ∧ SqT K H pr (fq c.r) ∧ SqT K H ps (fq c.s) ∧ SqT K H pt (fq c.t)
theorem ChAt.same {K : PySem.W.Frag} {H H' : Hp} {p : Addr} {c : Ch} (s : Same H H') (h : ChAt K H p c) : ChAt K H' p c := by
  obtain ⟨a, b, d, e, h1, h2, h3, h4, h5⟩ := h
  exact ⟨a, b, d, e, Same.tup s h1, Same.tup s h2, Same.tup s h3, Same.tup s h4, Same.tup s h5⟩
theorem ChAt.but {K : PySem.W.Frag} {m cl : Addr} {n : Nat} {H H' : Hp} {p : Addr} {c : Ch} (s : But m H H') (hM : MAt H m cl n) (h : ChAt K H p c) : ChAt K H' p c := by
  obtain ⟨a, b, d, e, h1, h2, h3, h4, h5⟩ := h
  exact ⟨a, b, d, e, s.seqT hM h1, s.seqT hM h2, s.seqT hM h3, s.seqT hM h4, s.seqT hM h5⟩
def l1 (c : Ch) (a1 : Rat) : Rat := (a1 + 2 * c.s) / c.u
def l2 (c : Ch) (a1 a2 : Rat) : Rat := (a2 - c.s * a1 + 3 * c.r - c.s * c.s) / (c.u * c.u)
def l3 (c : Ch) (a1 a3 : Rat) : Rat := (a3 + c.r * a1 + 2 * c.t) / (c.u * c.u * c.u)
def l4 (c : Ch) (a1 a2 a3 a4 : Rat) : Rat := (a4 - c.s * a3 + 2 * c.r * a2 - (c.t + c.r * c.s) * a1 + 3 * c.r * c.r - 2 * c.s * c.t) / (c.u * c.u * (c.u * c.u))
def l6 (c : Ch) (a1 a2 a3 a4 a6 : Rat) : Rat := (a6 + c.r * a4 + c.r * c.r * a2 + c.r * c.r * c.r - c.t * a3 - c.t * c.t - c.r * c.t * a1) / (c.u * c.u * c.u * (c.u * c.u * c.u))
def Cv.ints (c : Cv) : List Int := [c.a1, c.a2, c.a3, c.a4, c.a6]
theorem Cv.tup_ints (c : Cv) : c.tup = c.ints.map V.int := rfl
structure CvB (m : Nat) (c : Cv) : Prop where
  h1 : B m c.a1
  h2 : B m c.a2
  h3 : B m c.a3
  h4 : B m c.a4
  h6 : B m c.a6
theorem FrE.ren {K : PySem.W.Frag} {H : Hp} {es : List (Addr × Rat × Nat)} {p : Addr} {a b : Rat} {m : Nat} (h : FrE K H ((p, a, m) :: es)) (e : a = b) : FrE K H ((p, b, m) :: es) := e ▸ h
section
variable {P : Program} {w : World} {K : PySem.W.Frag} {mg : Str → Option Value} {base : Heap}
local macro_rules | `(tactic| walk_at "mm") => `(tactic| (repeat (first | exact List.mem_cons_self | apply List.mem_cons_of_mem)))
theorem rb_two : RB 2 (2 : Rat) := ⟨by decide, by decide⟩
theorem rb_three : RB 2 (3 : Rat) := ⟨by decide, by decide⟩
theorem rb_m1 : RB 1 (-1 : Rat) := ⟨by decide, by decide⟩
theorem rb_m2 : RB 2 (-2 : Rat) := ⟨by decide, by decide⟩
theorem fq_2 : [V.int 2, V.int 1] = fq 2 := rfl
theorem fq_3 : [V.int 3, V.int 1] = fq 3 := rfl
theorem fq_m1 : [V.int (-1), V.int 1] = fq (-1) := rfl
theorem fq_m2 : [V.int (-2), V.int 1] = fq (-2) := rfl
theorem qmul_ne {a b : Rat} (h : a ≠ 0) (k : b ≠ 0) : a * b ≠ 0 := fun e => by
  rcases Rat.mul_eq_zero.mp e with e | e
  · exact h e
  · exact k e
theorem sq_eq {K : PySem.W.Frag} {H : Hp} {p : Addr} {a b : Rat} (h : SqT K H p (fq a)) (e : a = b) : SqT K H p (fq b) := e ▸ h
/-- five fractions that a change leads to -/
def LedAt (K : PySem.W.Frag) (H : Hp) (t : Addr) (c : Ch) (v : Cv) : Prop := ∃ p1 p2 p3 p4 p6, H t = some (.tup [.ref p1, .ref p2, .ref p3, .ref p4, .ref p6]) ∧ SqT K H p1 (fq (l1 c v.a1)) ∧ SqT K H p2 (fq (l2 c v.a1 v.a2)) ∧ SqT K H p3 (fq (l3 c v.a1 v.a3)) ∧ SqT K H p4 (fq (l4 c v.a1 v.a2 v.a3 v.a4)) ∧ SqT K H p6 (fq (l6 c v.a1 v.a2 v.a3 v.a4 v.a6))
theorem LedAt.same {H H' : Hp} {t : Addr} {c : Ch} {v : Cv} (s : Same H H') (h : LedAt K H t c v) : LedAt K H' t c v := by
  obtain ⟨a, b, d, e, f, h1, h2, h3, h4, h5, h6⟩ := h
  exact ⟨a, b, d, e, f, s _ _ h1, Same.tup s h2, Same.tup s h3, Same.tup s h4, Same.tup s h5, Same.tup s h6⟩
def sp_led (K : PySem.W.Frag) : Sp := fun vs H Q _ => ∃ (p o : Addr) (c : Cv) (d : Ch), vs = [.ref p, .ref o] ∧ SqT K H p c.tup ∧ CvB 97 c ∧ ChAt K H o d ∧ ChB 29 d ∧ ∀ H' t, Same H H' → LedAt K H' t d c → Q (.ref t) H'
abbrev s_led : Stmt := topS 55
theorem sc_led : FnScope ["curve", "change", "a1", "a2", "a3", "a4", "a6", "a", "u", "r", "s", "t", "minus", "two", "three", "first", "second", "third", "fourth", "sixth", "uu", "uuu"] ["curve", "change"] (defScope s_led) := ⟨rfl, rfl, rfl, by decide +kernel, rfl, by decide +kernel, by decide +kernel⟩
theorem k_led (T : Tx K mg) (D : Df K mg "led" s_led ["curve", "change"]) (c_plus : Kl P w K mg base 2 "plus" (sp_plus K)) (c_total : Kl P w K mg base 3 "total" (sp_total K)) (c_times : Kl P w K mg base 2 "times" (sp_times K)) (c_whole_fraction : Kl P w K mg base 1 "whole_fraction" (sp_whole_fraction K)) (c_over : Kl P w K mg base 2 "over" (sp_over K)) (c_five : Kl P w K mg base 1 "five" (sp_five K)) (c_product : Kl P w K mg base 3 "product" (sp_product K)) : Kl P w K mg base 4 "led" (sp_led K) := by
  have nd := sc_led.nd
  refine Kl.by_body D sc_led (fun vs H Q E h => ?_) (fun f cdv A outer s H vs Q E hr h => ?_)
  · obtain ⟨_, _, _, _, rfl, _⟩ := h
    rfl
  · obtain ⟨p, o, c, d, rfl, hp, hc, hd, hB, q⟩ := h
    have hu1 := hu_of hr
    refine ⟨_, (pss_cons (ps_asg (pe_lc (own := [("a", 7)]) (g := gName 7) rfl nd (pi_tup (pe_k c_five  hr (by decide) (by rfl) (pa_cons (pv 0) pa_nil))) (blkOk_by (N := ["curve", "change", "a1", "a2", "a3", "a4", "a6", "a", "u", "r", "s", "t", "minus", "two", "three", "first", "second", "third", "fourth", "sixth", "uu", "uuu"]) (sc := defScope s_led) (by decide +kernel)) (fun _ _ _ _ _ => (pg_name (i := 7) nd rfl (by first | exact Or.inl rfl | exact Or.inr rfl))) (fun _ _ _ _ _ => pts_nil) (fun _ _ _ _ _ => (pe_k c_whole_fraction  hr (by decide) (by rfl) (pa_cons (pv 7) pa_nil)))) (pg_lst rfl (pgs_cons (pg_name (i := 2) nd rfl (by first | exact Or.inl rfl | exact Or.inr rfl)) (pgs_cons (pg_name (i := 3) nd rfl (by first | exact Or.inl rfl | exact Or.inr rfl)) (pgs_cons (pg_name (i := 4) nd rfl (by first | exact Or.inl rfl | exact Or.inr rfl)) (pgs_cons (pg_name (i := 5) nd rfl (by first | exact Or.inl rfl | exact Or.inr rfl)) (pgs_cons (pg_name (i := 6) nd rfl (by first | exact Or.inl rfl | exact Or.inr rfl)) pgs_nil)))))))
      (pss_cons (ps_asg (pv 1) (pg_tup rfl (pgs_cons (pg_name (i := 8) nd rfl (by first | exact Or.inl rfl | exact Or.inr rfl)) (pgs_cons (pg_name (i := 9) nd rfl (by first | exact Or.inl rfl | exact Or.inr rfl)) (pgs_cons (pg_name (i := 10) nd rfl (by first | exact Or.inl rfl | exact Or.inr rfl)) (pgs_cons (pg_name (i := 11) nd rfl (by first | exact Or.inl rfl | exact Or.inr rfl)) pgs_nil))))))
      (pss_cons (ps_asg (pe_tup (pa_cons (pe_tup (pa_cons (pe_un un_neg pe_int) (pa_cons pe_int pa_nil))) (pa_cons (pe_tup (pa_cons pe_int (pa_cons pe_int pa_nil))) (pa_cons (pe_tup (pa_cons pe_int (pa_cons pe_int pa_nil))) pa_nil)))) (pg_tup rfl (pgs_cons (pg_name (i := 12) nd rfl (by first | exact Or.inl rfl | exact Or.inr rfl)) (pgs_cons (pg_name (i := 13) nd rfl (by first | exact Or.inl rfl | exact Or.inr rfl)) (pgs_cons (pg_name (i := 14) nd rfl (by first | exact Or.inl rfl | exact Or.inr rfl)) pgs_nil)))))
      (pss_cons (ps_set (i := 15) nd rfl (by first | exact Or.inl rfl | exact Or.inr rfl) (pe_k c_plus  hr (by decide) (by rfl) (pa_cons (pv 2) (pa_cons (pe_k c_times  hr (by decide) (by rfl) (pa_cons (pv 13) (pa_cons (pv 10) pa_nil))) pa_nil))))
      (pss_cons (ps_set (i := 16) nd rfl (by first | exact Or.inl rfl | exact Or.inr rfl) (pe_k c_total  hr (by decide) (by rfl) (pa_cons (pe_lst (pa_cons (pv 3) (pa_cons (pe_k c_product  hr (by decide) (by rfl) (pa_cons (pe_lst (pa_cons (pv 12) (pa_cons (pv 10) (pa_cons (pv 2) pa_nil)))) pa_nil)) (pa_cons (pe_k c_times  hr (by decide) (by rfl) (pa_cons (pv 14) (pa_cons (pv 9) pa_nil))) (pa_cons (pe_k c_product  hr (by decide) (by rfl) (pa_cons (pe_lst (pa_cons (pv 12) (pa_cons (pv 10) (pa_cons (pv 10) pa_nil)))) pa_nil)) pa_nil))))) pa_nil)))
      (pss_cons (ps_set (i := 17) nd rfl (by first | exact Or.inl rfl | exact Or.inr rfl) (pe_k c_total  hr (by decide) (by rfl) (pa_cons (pe_lst (pa_cons (pv 4) (pa_cons (pe_k c_times  hr (by decide) (by rfl) (pa_cons (pv 9) (pa_cons (pv 2) pa_nil))) (pa_cons (pe_k c_times  hr (by decide) (by rfl) (pa_cons (pv 13) (pa_cons (pv 11) pa_nil))) pa_nil)))) pa_nil)))
      (pss_cons (ps_set (i := 18) nd rfl (by first | exact Or.inl rfl | exact Or.inr rfl) (pe_k c_total  hr (by decide) (by rfl) (pa_cons (pe_lst (pa_cons (pv 5) (pa_cons (pe_k c_product  hr (by decide) (by rfl) (pa_cons (pe_lst (pa_cons (pv 12) (pa_cons (pv 10) (pa_cons (pv 4) pa_nil)))) pa_nil)) (pa_cons (pe_k c_product  hr (by decide) (by rfl) (pa_cons (pe_lst (pa_cons (pv 13) (pa_cons (pv 9) (pa_cons (pv 3) pa_nil)))) pa_nil)) (pa_cons (pe_k c_product  hr (by decide) (by rfl) (pa_cons (pe_lst (pa_cons (pv 12) (pa_cons (pe_k c_plus  hr (by decide) (by rfl) (pa_cons (pv 11) (pa_cons (pe_k c_times  hr (by decide) (by rfl) (pa_cons (pv 9) (pa_cons (pv 10) pa_nil))) pa_nil))) (pa_cons (pv 2) pa_nil)))) pa_nil)) (pa_cons (pe_k c_product  hr (by decide) (by rfl) (pa_cons (pe_lst (pa_cons (pv 14) (pa_cons (pv 9) (pa_cons (pv 9) pa_nil)))) pa_nil)) (pa_cons (pe_k c_product  hr (by decide) (by rfl) (pa_cons (pe_lst (pa_cons (pe_tup (pa_cons (pe_un un_neg pe_int) (pa_cons pe_int pa_nil))) (pa_cons (pv 10) (pa_cons (pv 11) pa_nil)))) pa_nil)) pa_nil))))))) pa_nil)))
      (pss_cons (ps_set (i := 19) nd rfl (by first | exact Or.inl rfl | exact Or.inr rfl) (pe_k c_total  hr (by decide) (by rfl) (pa_cons (pe_lst (pa_cons (pv 6) (pa_cons (pe_k c_times  hr (by decide) (by rfl) (pa_cons (pv 9) (pa_cons (pv 5) pa_nil))) (pa_cons (pe_k c_product  hr (by decide) (by rfl) (pa_cons (pe_lst (pa_cons (pv 9) (pa_cons (pv 9) (pa_cons (pv 3) pa_nil)))) pa_nil)) (pa_cons (pe_k c_product  hr (by decide) (by rfl) (pa_cons (pe_lst (pa_cons (pv 9) (pa_cons (pv 9) (pa_cons (pv 9) pa_nil)))) pa_nil)) (pa_cons (pe_k c_product  hr (by decide) (by rfl) (pa_cons (pe_lst (pa_cons (pv 12) (pa_cons (pv 11) (pa_cons (pv 4) pa_nil)))) pa_nil)) (pa_cons (pe_k c_product  hr (by decide) (by rfl) (pa_cons (pe_lst (pa_cons (pv 12) (pa_cons (pv 11) (pa_cons (pv 11) pa_nil)))) pa_nil)) (pa_cons (pe_k c_product  hr (by decide) (by rfl) (pa_cons (pe_lst (pa_cons (pv 12) (pa_cons (pv 9) (pa_cons (pv 11) (pa_cons (pv 2) pa_nil))))) pa_nil)) pa_nil)))))))) pa_nil)))
      (pss_cons (ps_set (i := 20) nd rfl (by first | exact Or.inl rfl | exact Or.inr rfl) (pe_k c_times  hr (by decide) (by rfl) (pa_cons (pv 8) (pa_cons (pv 8) pa_nil))))
      (pss_cons (ps_set (i := 21) nd rfl (by first | exact Or.inl rfl | exact Or.inr rfl) (pe_k c_times  hr (by decide) (by rfl) (pa_cons (pv 20) (pa_cons (pv 8) pa_nil))))
      (pss_one (ps_ret (pe_tup (pa_cons (pe_k c_over  hr (by decide) (by rfl) (pa_cons (pv 15) (pa_cons (pv 8) pa_nil))) (pa_cons (pe_k c_over  hr (by decide) (by rfl) (pa_cons (pv 16) (pa_cons (pv 20) pa_nil))) (pa_cons (pe_k c_over  hr (by decide) (by rfl) (pa_cons (pv 17) (pa_cons (pv 21) pa_nil))) (pa_cons (pe_k c_over  hr (by decide) (by rfl) (pa_cons (pv 18) (pa_cons (pe_k c_times  hr (by decide) (by rfl) (pa_cons (pv 20) (pa_cons (pv 20) pa_nil))) pa_nil))) (pa_cons (pe_k c_over  hr (by decide) (by rfl) (pa_cons (pv 19) (pa_cons (pe_k c_times  hr (by decide) (by rfl) (pa_cons (pv 21) (pa_cons (pv 21) pa_nil))) pa_nil))) pa_nil)))))))))))))))))), ?_⟩
    refine ⟨.ref p, rfl, p, c, rfl, hp, p, rfl, ⟨_, hp⟩, fun D1 hD1 => ?_⟩
    refine lc_tup (K := K) (a := p) (xs := c.tup) (fun i H4 => Same H H4 ∧ FrD H4 D1 c.ints i) ⟨Same.new hD1, FrD.new⟩ (fun i H4 _ z => Same.tup z.1 hp) (fun i x H4 hi z => ?_) (fun H1 z => ?_)
    · obtain ⟨n, rfl, hn⟩ : ∃ n, x = .int n ∧ c.ints[i]? = some n := by
        rw [Cv.tup_ints, List.getElem?_map] at hi
        cases e : c.ints[i]? with
        | none =>
          rw [e] at hi
          cases hi
        | some y =>
          rw [e] at hi
          exact ⟨y, (Option.some.inj hi).symm, rfl⟩
      have hi5 : i < 5 := (List.getElem?_eq_some_iff.mp hn).1
      refine ⟨rfl, _, rfl, n, rfl, fun t nt => ?_⟩
      obtain ⟨acc, h1, h2, h3⟩ := FrD.push z.2 hn nt (by omega)
      exact ⟨acc, h1, h2, Same.put (Same.put z.1 (z.1.free nt)) hD1, h3⟩
    obtain ⟨s1, hF1⟩ := z
    obtain ⟨pa1, pa2, pa3, pa4, pa6, gD1, hpa1, hpa2, hpa3, hpa4, hpa6⟩ := hF1.five
    refine ⟨D1, _, rfl, lst_of gD1, rfl, _, _, rfl, _, _, rfl, _, _, rfl, _, _, rfl, _, _, rfl, rfl, ?_⟩
    obtain ⟨pu, pr, ps, pt, ho, hu, hr', hs, ht⟩ := hd.same s1
    first | refine sigN [some (.ref p), some (.ref o), some (.ref pa1), some (.ref pa2), some (.ref pa3), some (.ref pa4), some (.ref pa6), none, none, none, none, none, none, none, none, none, none, none, none, none, none, none] (by rfl) ?_ | refine sig [some (.ref p), some (.ref o), some (.ref pa1), some (.ref pa2), some (.ref pa3), some (.ref pa4), some (.ref pa6), none, none, none, none, none, none, none, none, none, none, none, none, none, none, none] (by rfl) ?_
    refine ⟨.ref o, rfl, o, _, rfl, ho, rfl, _, _, rfl, _, _, rfl, _, _, rfl, _, _, rfl, rfl, ?_⟩
    first | refine sigN [some (.ref p), some (.ref o), some (.ref pa1), some (.ref pa2), some (.ref pa3), some (.ref pa4), some (.ref pa6), none, some (.ref pu), some (.ref pr), some (.ref ps), some (.ref pt), none, none, none, none, none, none, none, none, none, none] (by rfl) ?_ | refine sig [some (.ref p), some (.ref o), some (.ref pa1), some (.ref pa2), some (.ref pa3), some (.ref pa4), some (.ref pa6), none, some (.ref pu), some (.ref pr), some (.ref ps), some (.ref pt), none, none, none, none, none, none, none, none, none, none] (by rfl) ?_
    have E0 : FrE K H1 [(pu, d.u, 29), (pr, d.r, 29), (ps, d.s, 29), (pt, d.t, 29), (pa1, (c.a1 : Rat), 97), (pa2, (c.a2 : Rat), 97), (pa3, (c.a3 : Rat), 97), (pa4, (c.a4 : Rat), 97), (pa6, (c.a6 : Rat), 97)] :=
      FrE.add (FrE.add (FrE.add (FrE.add (FrE.add (FrE.add (FrE.add (FrE.add (FrE.add FrE.nil (tup_of hpa6) (RB.int hc.h6 (by decide))) (tup_of hpa4) (RB.int hc.h4 (by decide))) (tup_of hpa3) (RB.int hc.h3 (by decide))) (tup_of hpa2) (RB.int hc.h2 (by decide))) (tup_of hpa1) (RB.int hc.h1 (by decide))) ht hB.t) hs hB.s) hr' hB.r) hu hB.u
    clear hpa1 hpa2 hpa3 hpa4 hpa6 gD1 hF1 hD1 ho hu hr' hs ht hd
    refine ⟨_, rfl, ?_⟩
    refine ⟨(by show 2 ≤ sizeLine; decide), fun minus nminus => ?_⟩
    obtain ⟨H2, eH_, s2, E1⟩ := litE E0 nminus fq_m1 rb_m1
    rw [eH_]
    clear eH_
    refine ⟨(by show 2 ≤ sizeLine; decide), fun two ntwo => ?_⟩
    obtain ⟨H3, eH_, s3, E2⟩ := litE E1 ntwo fq_2 rb_two
    rw [eH_]
    clear eH_
    refine ⟨(by show 2 ≤ sizeLine; decide), fun three nthree => ?_⟩
    obtain ⟨H4, eH_, s4, E3⟩ := litE E2 nthree fq_3 rb_three
    rw [eH_]
    clear eH_
    refine ⟨(by show 3 ≤ sizeLine; decide), fun tz nz => ?_⟩
    have E4 := E3.same (Same.new (o := .tup [.ref minus, .ref two, .ref three]) nz)
    have s5 := Same.new (o := .tup [.ref minus, .ref two, .ref three]) nz
    have gz : (upd H4 tz (.tup [.ref minus, .ref two, .ref three])) tz = some (.tup [.ref minus, .ref two, .ref three]) := upd_same
    generalize upd H4 tz (.tup [.ref minus, .ref two, .ref three]) = H5 at E4 s5 gz ⊢
    refine ⟨tz, _, rfl, tup_of gz, rfl, _, _, rfl, _, _, rfl, _, _, rfl, rfl, ?_⟩
    first | refine sigN [some (.ref p), some (.ref o), some (.ref pa1), some (.ref pa2), some (.ref pa3), some (.ref pa4), some (.ref pa6), none, some (.ref pu), some (.ref pr), some (.ref ps), some (.ref pt), some (.ref minus), some (.ref two), some (.ref three), none, none, none, none, none, none, none] (by rfl) ?_ | refine sig [some (.ref p), some (.ref o), some (.ref pa1), some (.ref pa2), some (.ref pa3), some (.ref pa4), some (.ref pa6), none, some (.ref pu), some (.ref pr), some (.ref ps), some (.ref pt), some (.ref minus), some (.ref two), some (.ref three), none, none, none, none, none, none, none] (by rfl) ?_
    have sA := s1.trans (s2.trans (s3.trans (s4.trans s5)))
    clear s1 s2 s3 s4 s5 gz E0 E1 E2 E3
    refine ⟨.ref pa1, rfl, .ref two, rfl, .ref ps, rfl, ?_⟩
    refine ⟨two, ps, _, _, rfl, E4.get (by walk_at "mm"), E4.get (by walk_at "mm"), (E4.rb (p := two) (by walk_at "mm")).up (by decide), (E4.rb (p := ps) (by walk_at "mm")).up (by decide), trivial, fun x1 nx1 => ?_⟩
    obtain ⟨H6, eH_, s6, E5⟩ := stepE E4 nx1 (RB.mul (E4.rb (p := two) (by walk_at "mm")) (E4.rb (p := ps) (by walk_at "mm")))
    rw [eH_]
    clear eH_
    refine ⟨pa1, x1, _, _, rfl, E5.get (by walk_at "mm"), E5.get (by walk_at "mm"), (E5.rb (p := pa1) (by walk_at "mm")).up (by decide), (E5.rb (p := x1) (by walk_at "mm")).up (by decide), trivial, fun first nfirst => ?_⟩
    obtain ⟨H7, eH_, s7, E6⟩ := stepE E5 nfirst (RB.add (E5.rb (p := pa1) (by walk_at "mm")) (E5.rb (p := x1) (by walk_at "mm")))
    rw [eH_]
    clear eH_
    first | refine sigN [some (.ref p), some (.ref o), some (.ref pa1), some (.ref pa2), some (.ref pa3), some (.ref pa4), some (.ref pa6), none, some (.ref pu), some (.ref pr), some (.ref ps), some (.ref pt), some (.ref minus), some (.ref two), some (.ref three), some (.ref first), none, none, none, none, none, none] (by rfl) ?_ | refine sig [some (.ref p), some (.ref o), some (.ref pa1), some (.ref pa2), some (.ref pa3), some (.ref pa4), some (.ref pa6), none, some (.ref pu), some (.ref pr), some (.ref ps), some (.ref pt), some (.ref minus), some (.ref two), some (.ref three), some (.ref first), none, none, none, none, none, none] (by rfl) ?_
    have sB := sA.trans (s6.trans s7)
    clear s6 s7 sA E4 E5
    refine ⟨.ref pa2, rfl, .ref minus, rfl, .ref ps, rfl, .ref pa1, rfl, ?_⟩
    refine ⟨(by show 3 ≤ sizeLine; decide), fun la nla => ?_⟩
    have E6_l := E6.same (Same.new (o := .lst [.ref minus, .ref ps, .ref pa1]) nla)
    refine ⟨la, _, 97, rfl, lst_of upd_same, (FrL.cons E6_l (p := minus) (by walk_at "mm") (by decide) (FrL.cons E6_l (p := ps) (by walk_at "mm") (by decide) (FrL.cons E6_l (p := pa1) (by walk_at "mm") (by decide) FrL.nil))), (by show 3 * (97 + 1) ≤ 2900; decide), fun H8 x2 s8_0 nx2 hx2 bx2 => ?_⟩
    have s8 := (Same.new (o := .lst [.ref minus, .ref ps, .ref pa1]) nla).trans s8_0
    have E7 := (E6_l.same s8_0).add (m := 295) (tup_of hx2) bx2
    refine ⟨.ref three, rfl, .ref pr, rfl, ?_⟩
    refine ⟨three, pr, _, _, rfl, E7.get (by walk_at "mm"), E7.get (by walk_at "mm"), (E7.rb (p := three) (by walk_at "mm")).up (by decide), (E7.rb (p := pr) (by walk_at "mm")).up (by decide), trivial, fun x3 nx3 => ?_⟩
    obtain ⟨H9, eH_, s9, E8⟩ := stepE E7 nx3 (RB.mul (E7.rb (p := three) (by walk_at "mm")) (E7.rb (p := pr) (by walk_at "mm")))
    rw [eH_]
    clear eH_
    refine ⟨.ref minus, rfl, .ref ps, rfl, .ref ps, rfl, ?_⟩
    refine ⟨(by show 3 ≤ sizeLine; decide), fun lb nlb => ?_⟩
    have E8_l := E8.same (Same.new (o := .lst [.ref minus, .ref ps, .ref ps]) nlb)
    refine ⟨lb, _, 29, rfl, lst_of upd_same, (FrL.cons E8_l (p := minus) (by walk_at "mm") (by decide) (FrL.cons E8_l (p := ps) (by walk_at "mm") (by decide) (FrL.cons E8_l (p := ps) (by walk_at "mm") (by decide) FrL.nil))), (by show 3 * (29 + 1) ≤ 2900; decide), fun Ha x4 sa_0 nx4 hx4 bx4 => ?_⟩
    have sa := (Same.new (o := .lst [.ref minus, .ref ps, .ref ps]) nlb).trans sa_0
    have E9 := (E8_l.same sa_0).add (m := 91) (tup_of hx4) bx4
    refine ⟨(by show 4 ≤ sizeLine; decide), fun lc nlc => ?_⟩
    have E9_l := E9.same (Same.new (o := .lst [.ref pa2, .ref x2, .ref x3, .ref x4]) nlc)
    refine ⟨lc, _, 400, rfl, lst_of upd_same, (FrL.cons E9_l (p := pa2) (by walk_at "mm") (by decide) (FrL.cons E9_l (p := x2) (by walk_at "mm") (by decide) (FrL.cons E9_l (p := x3) (by walk_at "mm") (by decide) (FrL.cons E9_l (p := x4) (by walk_at "mm") (by decide) FrL.nil)))), (by show 4 * (400 + 1) ≤ 2900; decide), fun Hb second sb_0 nsecond hsecond bsecond => ?_⟩
    have sb := (Same.new (o := .lst [.ref pa2, .ref x2, .ref x3, .ref x4]) nlc).trans sb_0
    have E10 := (E9_l.same sb_0).add (m := 1605) (tup_of hsecond) bsecond
    first | refine sigN [some (.ref p), some (.ref o), some (.ref pa1), some (.ref pa2), some (.ref pa3), some (.ref pa4), some (.ref pa6), none, some (.ref pu), some (.ref pr), some (.ref ps), some (.ref pt), some (.ref minus), some (.ref two), some (.ref three), some (.ref first), some (.ref second), none, none, none, none, none] (by rfl) ?_ | refine sig [some (.ref p), some (.ref o), some (.ref pa1), some (.ref pa2), some (.ref pa3), some (.ref pa4), some (.ref pa6), none, some (.ref pu), some (.ref pr), some (.ref ps), some (.ref pt), some (.ref minus), some (.ref two), some (.ref three), some (.ref first), some (.ref second), none, none, none, none, none] (by rfl) ?_
    have sC := sB.trans (s8.trans (s9.trans (sa.trans sb)))
    clear s8 s9 sa sb sB E6 E7 E8 E9 E6_l E8_l E9_l s8_0 sa_0 sb_0 hx2 bx2 hx4 bx4 hsecond bsecond
    refine ⟨.ref pa3, rfl, .ref pr, rfl, .ref pa1, rfl, ?_⟩
    refine ⟨pr, pa1, _, _, rfl, E10.get (by walk_at "mm"), E10.get (by walk_at "mm"), (E10.rb (p := pr) (by walk_at "mm")).up (by decide), (E10.rb (p := pa1) (by walk_at "mm")).up (by decide), trivial, fun x5 nx5 => ?_⟩
    obtain ⟨Hc, eH_, sc, E11⟩ := stepE E10 nx5 (RB.mul (E10.rb (p := pr) (by walk_at "mm")) (E10.rb (p := pa1) (by walk_at "mm")))
    rw [eH_]
    clear eH_
    refine ⟨.ref two, rfl, .ref pt, rfl, ?_⟩
    refine ⟨two, pt, _, _, rfl, E11.get (by walk_at "mm"), E11.get (by walk_at "mm"), (E11.rb (p := two) (by walk_at "mm")).up (by decide), (E11.rb (p := pt) (by walk_at "mm")).up (by decide), trivial, fun x6 nx6 => ?_⟩
    obtain ⟨Hd, eH_, sd, E12⟩ := stepE E11 nx6 (RB.mul (E11.rb (p := two) (by walk_at "mm")) (E11.rb (p := pt) (by walk_at "mm")))
    rw [eH_]
    clear eH_
    refine ⟨(by show 3 ≤ sizeLine; decide), fun ld nld => ?_⟩
    have E12_l := E12.same (Same.new (o := .lst [.ref pa3, .ref x5, .ref x6]) nld)
    refine ⟨ld, _, 130, rfl, lst_of upd_same, (FrL.cons E12_l (p := pa3) (by walk_at "mm") (by decide) (FrL.cons E12_l (p := x5) (by walk_at "mm") (by decide) (FrL.cons E12_l (p := x6) (by walk_at "mm") (by decide) FrL.nil))), (by show 3 * (130 + 1) ≤ 2900; decide), fun He third se_0 nthird hthird bthird => ?_⟩
    have se := (Same.new (o := .lst [.ref pa3, .ref x5, .ref x6]) nld).trans se_0
    have E13 := (E12_l.same se_0).add (m := 394) (tup_of hthird) bthird
    first | refine sigN [some (.ref p), some (.ref o), some (.ref pa1), some (.ref pa2), some (.ref pa3), some (.ref pa4), some (.ref pa6), none, some (.ref pu), some (.ref pr), some (.ref ps), some (.ref pt), some (.ref minus), some (.ref two), some (.ref three), some (.ref first), some (.ref second), some (.ref third), none, none, none, none] (by rfl) ?_ | refine sig [some (.ref p), some (.ref o), some (.ref pa1), some (.ref pa2), some (.ref pa3), some (.ref pa4), some (.ref pa6), none, some (.ref pu), some (.ref pr), some (.ref ps), some (.ref pt), some (.ref minus), some (.ref two), some (.ref three), some (.ref first), some (.ref second), some (.ref third), none, none, none, none] (by rfl) ?_
    have sD := sC.trans (sc.trans (sd.trans se))
    clear sc sd se sC E10 E11 E12 E12_l se_0 hthird bthird
    refine ⟨.ref pa4, rfl, .ref minus, rfl, .ref ps, rfl, .ref pa3, rfl, ?_⟩
    refine ⟨(by show 3 ≤ sizeLine; decide), fun le nle => ?_⟩
    have E13_l := E13.same (Same.new (o := .lst [.ref minus, .ref ps, .ref pa3]) nle)
    refine ⟨le, _, 97, rfl, lst_of upd_same, (FrL.cons E13_l (p := minus) (by walk_at "mm") (by decide) (FrL.cons E13_l (p := ps) (by walk_at "mm") (by decide) (FrL.cons E13_l (p := pa3) (by walk_at "mm") (by decide) FrL.nil))), (by show 3 * (97 + 1) ≤ 2900; decide), fun Hf y1 sf_0 ny1 hy1 by1 => ?_⟩
    have sf := (Same.new (o := .lst [.ref minus, .ref ps, .ref pa3]) nle).trans sf_0
    have E14 := (E13_l.same sf_0).add (m := 295) (tup_of hy1) by1
    refine ⟨.ref two, rfl, .ref pr, rfl, .ref pa2, rfl, ?_⟩
    refine ⟨(by show 3 ≤ sizeLine; decide), fun lf nlf => ?_⟩
    have E14_l := E14.same (Same.new (o := .lst [.ref two, .ref pr, .ref pa2]) nlf)
    refine ⟨lf, _, 97, rfl, lst_of upd_same, (FrL.cons E14_l (p := two) (by walk_at "mm") (by decide) (FrL.cons E14_l (p := pr) (by walk_at "mm") (by decide) (FrL.cons E14_l (p := pa2) (by walk_at "mm") (by decide) FrL.nil))), (by show 3 * (97 + 1) ≤ 2900; decide), fun Hg y2 sg_0 ny2 hy2 by2 => ?_⟩
    have sg := (Same.new (o := .lst [.ref two, .ref pr, .ref pa2]) nlf).trans sg_0
    have E15 := (E14_l.same sg_0).add (m := 295) (tup_of hy2) by2
    refine ⟨.ref minus, rfl, .ref pt, rfl, .ref pr, rfl, .ref ps, rfl, ?_⟩
    refine ⟨pr, ps, _, _, rfl, E15.get (by walk_at "mm"), E15.get (by walk_at "mm"), (E15.rb (p := pr) (by walk_at "mm")).up (by decide), (E15.rb (p := ps) (by walk_at "mm")).up (by decide), trivial, fun y3 ny3 => ?_⟩
    obtain ⟨Hh, eH_, sh, E16⟩ := stepE E15 ny3 (RB.mul (E15.rb (p := pr) (by walk_at "mm")) (E15.rb (p := ps) (by walk_at "mm")))
    rw [eH_]
    clear eH_
    refine ⟨pt, y3, _, _, rfl, E16.get (by walk_at "mm"), E16.get (by walk_at "mm"), (E16.rb (p := pt) (by walk_at "mm")).up (by decide), (E16.rb (p := y3) (by walk_at "mm")).up (by decide), trivial, fun y4 ny4 => ?_⟩
    obtain ⟨Hi, eH_, si, E17⟩ := stepE E16 ny4 (RB.add (E16.rb (p := pt) (by walk_at "mm")) (E16.rb (p := y3) (by walk_at "mm")))
    rw [eH_]
    clear eH_
    refine ⟨.ref pa1, rfl, ?_⟩
    refine ⟨(by show 3 ≤ sizeLine; decide), fun lg nlg => ?_⟩
    have E17_l := E17.same (Same.new (o := .lst [.ref minus, .ref y4, .ref pa1]) nlg)
    refine ⟨lg, _, 97, rfl, lst_of upd_same, (FrL.cons E17_l (p := minus) (by walk_at "mm") (by decide) (FrL.cons E17_l (p := y4) (by walk_at "mm") (by decide) (FrL.cons E17_l (p := pa1) (by walk_at "mm") (by decide) FrL.nil))), (by show 3 * (97 + 1) ≤ 2900; decide), fun Hj y5 sj_0 ny5 hy5 by5 => ?_⟩
    have sj := (Same.new (o := .lst [.ref minus, .ref y4, .ref pa1]) nlg).trans sj_0
    have E18 := (E17_l.same sj_0).add (m := 295) (tup_of hy5) by5
    refine ⟨.ref three, rfl, .ref pr, rfl, .ref pr, rfl, ?_⟩
    refine ⟨(by show 3 ≤ sizeLine; decide), fun lh nlh => ?_⟩
    have E18_l := E18.same (Same.new (o := .lst [.ref three, .ref pr, .ref pr]) nlh)
    refine ⟨lh, _, 29, rfl, lst_of upd_same, (FrL.cons E18_l (p := three) (by walk_at "mm") (by decide) (FrL.cons E18_l (p := pr) (by walk_at "mm") (by decide) (FrL.cons E18_l (p := pr) (by walk_at "mm") (by decide) FrL.nil))), (by show 3 * (29 + 1) ≤ 2900; decide), fun Hk y6 sk_0 ny6 hy6 by6 => ?_⟩
    have sk := (Same.new (o := .lst [.ref three, .ref pr, .ref pr]) nlh).trans sk_0
    have E19 := (E18_l.same sk_0).add (m := 91) (tup_of hy6) by6
    refine ⟨_, rfl, ?_⟩
    refine ⟨(by show 2 ≤ sizeLine; decide), fun m2 nm2 => ?_⟩
    obtain ⟨Hl, eH_, sl, E20⟩ := litE E19 nm2 fq_m2 rb_m2
    rw [eH_]
    clear eH_
    refine ⟨.ref ps, rfl, .ref pt, rfl, ?_⟩
    refine ⟨(by show 3 ≤ sizeLine; decide), fun li nli => ?_⟩
    have E20_l := E20.same (Same.new (o := .lst [.ref m2, .ref ps, .ref pt]) nli)
    refine ⟨li, _, 29, rfl, lst_of upd_same, (FrL.cons E20_l (p := m2) (by walk_at "mm") (by decide) (FrL.cons E20_l (p := ps) (by walk_at "mm") (by decide) (FrL.cons E20_l (p := pt) (by walk_at "mm") (by decide) FrL.nil))), (by show 3 * (29 + 1) ≤ 2900; decide), fun Hm y7 sm_0 ny7 hy7 by7 => ?_⟩
    have sm := (Same.new (o := .lst [.ref m2, .ref ps, .ref pt]) nli).trans sm_0
    have E21 := (E20_l.same sm_0).add (m := 91) (tup_of hy7) by7
    refine ⟨(by show 6 ≤ sizeLine; decide), fun lj nlj => ?_⟩
    have E21_l := E21.same (Same.new (o := .lst [.ref pa4, .ref y1, .ref y2, .ref y5, .ref y6, .ref y7]) nlj)
    refine ⟨lj, _, 300, rfl, lst_of upd_same, (FrL.cons E21_l (p := pa4) (by walk_at "mm") (by decide) (FrL.cons E21_l (p := y1) (by walk_at "mm") (by decide) (FrL.cons E21_l (p := y2) (by walk_at "mm") (by decide) (FrL.cons E21_l (p := y5) (by walk_at "mm") (by decide) (FrL.cons E21_l (p := y6) (by walk_at "mm") (by decide) (FrL.cons E21_l (p := y7) (by walk_at "mm") (by decide) FrL.nil)))))), (by show 6 * (300 + 1) ≤ 2900; decide), fun Hn fourth sn_0 nfourth hfourth bfourth => ?_⟩
    have sn := (Same.new (o := .lst [.ref pa4, .ref y1, .ref y2, .ref y5, .ref y6, .ref y7]) nlj).trans sn_0
    have E22 := (E21_l.same sn_0).add (m := 1807) (tup_of hfourth) bfourth
    first | refine sigN [some (.ref p), some (.ref o), some (.ref pa1), some (.ref pa2), some (.ref pa3), some (.ref pa4), some (.ref pa6), none, some (.ref pu), some (.ref pr), some (.ref ps), some (.ref pt), some (.ref minus), some (.ref two), some (.ref three), some (.ref first), some (.ref second), some (.ref third), some (.ref fourth), none, none, none] (by rfl) ?_ | refine sig [some (.ref p), some (.ref o), some (.ref pa1), some (.ref pa2), some (.ref pa3), some (.ref pa4), some (.ref pa6), none, some (.ref pu), some (.ref pr), some (.ref ps), some (.ref pt), some (.ref minus), some (.ref two), some (.ref three), some (.ref first), some (.ref second), some (.ref third), some (.ref fourth), none, none, none] (by rfl) ?_
    have sE := sD.trans (sf.trans (sg.trans (sh.trans (si.trans (sj.trans (sk.trans (sl.trans (sm.trans sn))))))))
    clear sf sg sh si sj sk sl sm sn sD E13 E14 E15 E16 E17 E18 E19 E20 E21 E13_l E14_l E17_l E18_l E20_l E21_l sf_0 sg_0 sj_0 sk_0 sm_0 sn_0 hy1 by1 hy2 by2 hy5 by5 hy6 by6 hy7 by7 hfourth bfourth
    refine ⟨.ref pa6, rfl, .ref pr, rfl, .ref pa4, rfl, ?_⟩
    refine ⟨pr, pa4, _, _, rfl, E22.get (by walk_at "mm"), E22.get (by walk_at "mm"), (E22.rb (p := pr) (by walk_at "mm")).up (by decide), (E22.rb (p := pa4) (by walk_at "mm")).up (by decide), trivial, fun z1 nz1 => ?_⟩
    obtain ⟨Ho, eH_, so, E23⟩ := stepE E22 nz1 (RB.mul (E22.rb (p := pr) (by walk_at "mm")) (E22.rb (p := pa4) (by walk_at "mm")))
    rw [eH_]
    clear eH_
    refine ⟨.ref pr, rfl, .ref pr, rfl, .ref pa2, rfl, ?_⟩
    refine ⟨(by show 3 ≤ sizeLine; decide), fun lk nlk => ?_⟩
    have E23_l := E23.same (Same.new (o := .lst [.ref pr, .ref pr, .ref pa2]) nlk)
    refine ⟨lk, _, 97, rfl, lst_of upd_same, (FrL.cons E23_l (p := pr) (by walk_at "mm") (by decide) (FrL.cons E23_l (p := pr) (by walk_at "mm") (by decide) (FrL.cons E23_l (p := pa2) (by walk_at "mm") (by decide) FrL.nil))), (by show 3 * (97 + 1) ≤ 2900; decide), fun Hp2 z2 sp2_0 nz2 hz2 bz2 => ?_⟩
    have sp2 := (Same.new (o := .lst [.ref pr, .ref pr, .ref pa2]) nlk).trans sp2_0
    have E24 := (E23_l.same sp2_0).add (m := 295) (tup_of hz2) bz2
    refine ⟨.ref pr, rfl, .ref pr, rfl, .ref pr, rfl, ?_⟩
    refine ⟨(by show 3 ≤ sizeLine; decide), fun ll nll => ?_⟩
    have E24_l := E24.same (Same.new (o := .lst [.ref pr, .ref pr, .ref pr]) nll)
    refine ⟨ll, _, 29, rfl, lst_of upd_same, (FrL.cons E24_l (p := pr) (by walk_at "mm") (by decide) (FrL.cons E24_l (p := pr) (by walk_at "mm") (by decide) (FrL.cons E24_l (p := pr) (by walk_at "mm") (by decide) FrL.nil))), (by show 3 * (29 + 1) ≤ 2900; decide), fun Hq z3 sq_0 nz3 hz3 bz3 => ?_⟩
    have sq := (Same.new (o := .lst [.ref pr, .ref pr, .ref pr]) nll).trans sq_0
    have E25 := (E24_l.same sq_0).add (m := 91) (tup_of hz3) bz3
    refine ⟨.ref minus, rfl, .ref pt, rfl, .ref pa3, rfl, ?_⟩
    refine ⟨(by show 3 ≤ sizeLine; decide), fun lm nlm => ?_⟩
    have E25_l := E25.same (Same.new (o := .lst [.ref minus, .ref pt, .ref pa3]) nlm)
    refine ⟨lm, _, 97, rfl, lst_of upd_same, (FrL.cons E25_l (p := minus) (by walk_at "mm") (by decide) (FrL.cons E25_l (p := pt) (by walk_at "mm") (by decide) (FrL.cons E25_l (p := pa3) (by walk_at "mm") (by decide) FrL.nil))), (by show 3 * (97 + 1) ≤ 2900; decide), fun Hr z4 sr_0 nz4 hz4 bz4 => ?_⟩
    have sr := (Same.new (o := .lst [.ref minus, .ref pt, .ref pa3]) nlm).trans sr_0
    have E26 := (E25_l.same sr_0).add (m := 295) (tup_of hz4) bz4
    refine ⟨.ref minus, rfl, .ref pt, rfl, .ref pt, rfl, ?_⟩
    refine ⟨(by show 3 ≤ sizeLine; decide), fun ln nln => ?_⟩
    have E26_l := E26.same (Same.new (o := .lst [.ref minus, .ref pt, .ref pt]) nln)
    refine ⟨ln, _, 29, rfl, lst_of upd_same, (FrL.cons E26_l (p := minus) (by walk_at "mm") (by decide) (FrL.cons E26_l (p := pt) (by walk_at "mm") (by decide) (FrL.cons E26_l (p := pt) (by walk_at "mm") (by decide) FrL.nil))), (by show 3 * (29 + 1) ≤ 2900; decide), fun Hs z5 ss_0 nz5 hz5 bz5 => ?_⟩
    have ss := (Same.new (o := .lst [.ref minus, .ref pt, .ref pt]) nln).trans ss_0
    have E27 := (E26_l.same ss_0).add (m := 91) (tup_of hz5) bz5
    refine ⟨.ref minus, rfl, .ref pr, rfl, .ref pt, rfl, .ref pa1, rfl, ?_⟩
    refine ⟨(by show 4 ≤ sizeLine; decide), fun lo nlo => ?_⟩
    have E27_l := E27.same (Same.new (o := .lst [.ref minus, .ref pr, .ref pt, .ref pa1]) nlo)
    refine ⟨lo, _, 97, rfl, lst_of upd_same, (FrL.cons E27_l (p := minus) (by walk_at "mm") (by decide) (FrL.cons E27_l (p := pr) (by walk_at "mm") (by decide) (FrL.cons E27_l (p := pt) (by walk_at "mm") (by decide) (FrL.cons E27_l (p := pa1) (by walk_at "mm") (by decide) FrL.nil)))), (by show 4 * (97 + 1) ≤ 2900; decide), fun Ht z6 st_0 nz6 hz6 bz6 => ?_⟩
    have st := (Same.new (o := .lst [.ref minus, .ref pr, .ref pt, .ref pa1]) nlo).trans st_0
    have E28 := (E27_l.same st_0).add (m := 393) (tup_of hz6) bz6
    refine ⟨(by show 7 ≤ sizeLine; decide), fun lp nlp => ?_⟩
    have E28_l := E28.same (Same.new (o := .lst [.ref pa6, .ref z1, .ref z2, .ref z3, .ref z4, .ref z5, .ref z6]) nlp)
    refine ⟨lp, _, 400, rfl, lst_of upd_same, (FrL.cons E28_l (p := pa6) (by walk_at "mm") (by decide) (FrL.cons E28_l (p := z1) (by walk_at "mm") (by decide) (FrL.cons E28_l (p := z2) (by walk_at "mm") (by decide) (FrL.cons E28_l (p := z3) (by walk_at "mm") (by decide) (FrL.cons E28_l (p := z4) (by walk_at "mm") (by decide) (FrL.cons E28_l (p := z5) (by walk_at "mm") (by decide) (FrL.cons E28_l (p := z6) (by walk_at "mm") (by decide) FrL.nil))))))), (by show 7 * (400 + 1) ≤ 2900; decide), fun Hu sixth su_0 nsixth hsixth bsixth => ?_⟩
    have su := (Same.new (o := .lst [.ref pa6, .ref z1, .ref z2, .ref z3, .ref z4, .ref z5, .ref z6]) nlp).trans su_0
    have E29 := (E28_l.same su_0).add (m := 2808) (tup_of hsixth) bsixth
    first | refine sigN [some (.ref p), some (.ref o), some (.ref pa1), some (.ref pa2), some (.ref pa3), some (.ref pa4), some (.ref pa6), none, some (.ref pu), some (.ref pr), some (.ref ps), some (.ref pt), some (.ref minus), some (.ref two), some (.ref three), some (.ref first), some (.ref second), some (.ref third), some (.ref fourth), some (.ref sixth), none, none] (by rfl) ?_ | refine sig [some (.ref p), some (.ref o), some (.ref pa1), some (.ref pa2), some (.ref pa3), some (.ref pa4), some (.ref pa6), none, some (.ref pu), some (.ref pr), some (.ref ps), some (.ref pt), some (.ref minus), some (.ref two), some (.ref three), some (.ref first), some (.ref second), some (.ref third), some (.ref fourth), some (.ref sixth), none, none] (by rfl) ?_
    have sF := sE.trans (so.trans (sp2.trans (sq.trans (sr.trans (ss.trans (st.trans su))))))
    clear so sp2 sq sr ss st su sE E22 E23 E24 E25 E26 E27 E28 E23_l E24_l E25_l E26_l E27_l E28_l sp2_0 sq_0 sr_0 ss_0 st_0 su_0 hz2 bz2 hz3 bz3 hz4 bz4 hz5 bz5 hz6 bz6 hsixth bsixth
    have n1 := hB.u0
    have n2 : d.u * d.u ≠ 0 := qmul_ne n1 n1
    have n3 : d.u * d.u * d.u ≠ 0 := qmul_ne n2 n1
    refine ⟨.ref pu, rfl, .ref pu, rfl, ?_⟩
    refine ⟨pu, pu, _, _, rfl, E29.get (by walk_at "mm"), E29.get (by walk_at "mm"), (E29.rb (p := pu) (by walk_at "mm")).up (by decide), (E29.rb (p := pu) (by walk_at "mm")).up (by decide), trivial, fun uu nuu => ?_⟩
    obtain ⟨Hv, eH_, sv, E30⟩ := stepE E29 nuu (RB.mul (E29.rb (p := pu) (by walk_at "mm")) (E29.rb (p := pu) (by walk_at "mm")))
    rw [eH_]
    clear eH_
    first | refine sigN [some (.ref p), some (.ref o), some (.ref pa1), some (.ref pa2), some (.ref pa3), some (.ref pa4), some (.ref pa6), none, some (.ref pu), some (.ref pr), some (.ref ps), some (.ref pt), some (.ref minus), some (.ref two), some (.ref three), some (.ref first), some (.ref second), some (.ref third), some (.ref fourth), some (.ref sixth), some (.ref uu), none] (by rfl) ?_ | refine sig [some (.ref p), some (.ref o), some (.ref pa1), some (.ref pa2), some (.ref pa3), some (.ref pa4), some (.ref pa6), none, some (.ref pu), some (.ref pr), some (.ref ps), some (.ref pt), some (.ref minus), some (.ref two), some (.ref three), some (.ref first), some (.ref second), some (.ref third), some (.ref fourth), some (.ref sixth), some (.ref uu), none] (by rfl) ?_
    refine ⟨.ref uu, rfl, .ref pu, rfl, ?_⟩
    refine ⟨uu, pu, _, _, rfl, E30.get (by walk_at "mm"), E30.get (by walk_at "mm"), (E30.rb (p := uu) (by walk_at "mm")).up (by decide), (E30.rb (p := pu) (by walk_at "mm")).up (by decide), trivial, fun uuu nuuu => ?_⟩
    obtain ⟨Hw, eH_, sw, E31⟩ := stepE E30 nuuu (RB.mul (E30.rb (p := uu) (by walk_at "mm")) (E30.rb (p := pu) (by walk_at "mm")))
    rw [eH_]
    clear eH_
    first | refine sigN [some (.ref p), some (.ref o), some (.ref pa1), some (.ref pa2), some (.ref pa3), some (.ref pa4), some (.ref pa6), none, some (.ref pu), some (.ref pr), some (.ref ps), some (.ref pt), some (.ref minus), some (.ref two), some (.ref three), some (.ref first), some (.ref second), some (.ref third), some (.ref fourth), some (.ref sixth), some (.ref uu), some (.ref uuu)] (by rfl) ?_ | refine sig [some (.ref p), some (.ref o), some (.ref pa1), some (.ref pa2), some (.ref pa3), some (.ref pa4), some (.ref pa6), none, some (.ref pu), some (.ref pr), some (.ref ps), some (.ref pt), some (.ref minus), some (.ref two), some (.ref three), some (.ref first), some (.ref second), some (.ref third), some (.ref fourth), some (.ref sixth), some (.ref uu), some (.ref uuu)] (by rfl) ?_
    refine ⟨.ref first, rfl, .ref pu, rfl, ?_⟩
    refine ⟨first, pu, _, _, rfl, E31.get (by walk_at "mm"), E31.get (by walk_at "mm"), (E31.rb (p := first) (by walk_at "mm")).up (by decide), (E31.rb (p := pu) (by walk_at "mm")).up (by decide), n1, fun r1 nr1 => ?_⟩
    obtain ⟨Hx, eH_, sx, E32⟩ := stepE E31 nr1 (RB.div n1 (E31.rb (p := first) (by walk_at "mm")) (E31.rb (p := pu) (by walk_at "mm")))
    rw [eH_]
    clear eH_
    refine ⟨.ref second, rfl, .ref uu, rfl, ?_⟩
    refine ⟨second, uu, _, _, rfl, E32.get (by walk_at "mm"), E32.get (by walk_at "mm"), (E32.rb (p := second) (by walk_at "mm")).up (by decide), (E32.rb (p := uu) (by walk_at "mm")).up (by decide), n2, fun r2 nr2 => ?_⟩
    obtain ⟨Hy, eH_, sy, E33⟩ := stepE E32 nr2 (RB.div n2 (E32.rb (p := second) (by walk_at "mm")) (E32.rb (p := uu) (by walk_at "mm")))
    rw [eH_]
    clear eH_
    refine ⟨.ref third, rfl, .ref uuu, rfl, ?_⟩
    refine ⟨third, uuu, _, _, rfl, E33.get (by walk_at "mm"), E33.get (by walk_at "mm"), (E33.rb (p := third) (by walk_at "mm")).up (by decide), (E33.rb (p := uuu) (by walk_at "mm")).up (by decide), n3, fun r3 nr3 => ?_⟩
    obtain ⟨Hz, eH_, sz, E34⟩ := stepE E33 nr3 (RB.div n3 (E33.rb (p := third) (by walk_at "mm")) (E33.rb (p := uuu) (by walk_at "mm")))
    rw [eH_]
    clear eH_
    refine ⟨.ref fourth, rfl, .ref uu, rfl, .ref uu, rfl, ?_⟩
    refine ⟨uu, uu, _, _, rfl, E34.get (by walk_at "mm"), E34.get (by walk_at "mm"), (E34.rb (p := uu) (by walk_at "mm")).up (by decide), (E34.rb (p := uu) (by walk_at "mm")).up (by decide), trivial, fun u4 nu4 => ?_⟩
    obtain ⟨I1, eH_, si1, E35⟩ := stepE E34 nu4 (RB.mul (E34.rb (p := uu) (by walk_at "mm")) (E34.rb (p := uu) (by walk_at "mm")))
    rw [eH_]
    clear eH_
    refine ⟨fourth, u4, _, _, rfl, E35.get (by walk_at "mm"), E35.get (by walk_at "mm"), (E35.rb (p := fourth) (by walk_at "mm")).up (by decide), (E35.rb (p := u4) (by walk_at "mm")).up (by decide), (qmul_ne n2 n2), fun r4 nr4 => ?_⟩
    obtain ⟨I2, eH_, si2, E36⟩ := stepE E35 nr4 (RB.div (qmul_ne n2 n2) (E35.rb (p := fourth) (by walk_at "mm")) (E35.rb (p := u4) (by walk_at "mm")))
    rw [eH_]
    clear eH_
    refine ⟨.ref sixth, rfl, .ref uuu, rfl, .ref uuu, rfl, ?_⟩
    refine ⟨uuu, uuu, _, _, rfl, E36.get (by walk_at "mm"), E36.get (by walk_at "mm"), (E36.rb (p := uuu) (by walk_at "mm")).up (by decide), (E36.rb (p := uuu) (by walk_at "mm")).up (by decide), trivial, fun u6 nu6 => ?_⟩
    obtain ⟨I3, eH_, si3, E37⟩ := stepE E36 nu6 (RB.mul (E36.rb (p := uuu) (by walk_at "mm")) (E36.rb (p := uuu) (by walk_at "mm")))
    rw [eH_]
    clear eH_
    refine ⟨sixth, u6, _, _, rfl, E37.get (by walk_at "mm"), E37.get (by walk_at "mm"), (E37.rb (p := sixth) (by walk_at "mm")).up (by decide), (E37.rb (p := u6) (by walk_at "mm")).up (by decide), (qmul_ne n3 n3), fun r6 nr6 => ?_⟩
    obtain ⟨I4, eH_, si4, E38⟩ := stepE E37 nr6 (RB.div (qmul_ne n3 n3) (E37.rb (p := sixth) (by walk_at "mm")) (E37.rb (p := u6) (by walk_at "mm")))
    rw [eH_]
    clear eH_
    refine ⟨(by show 5 ≤ sizeLine; decide), fun z nz => ?_⟩
    have sZ := Same.new (H := I4) (p := z) (o := .tup [.ref r1, .ref r2, .ref r3, .ref r4, .ref r6]) nz
    have E39 := E38.same sZ
    have g1 := E39.get (p := r1) (by walk_at "mm")
    have g2 := E39.get (p := r2) (by walk_at "mm")
    have g3 := E39.get (p := r3) (by walk_at "mm")
    have g4 := E39.get (p := r4) (by walk_at "mm")
    have g6 := E39.get (p := r6) (by walk_at "mm")
    simp only [List.foldl_cons, List.foldl_nil] at g1 g2 g3 g4 g6
    refine q _ z (sF.trans (sv.trans (sw.trans (sx.trans (sy.trans (sz.trans (si1.trans (si2.trans (si3.trans (si4.trans sZ)))))))))) ⟨r1, r2, r3, r4, r6, upd_same, ?_, ?_, ?_, ?_, ?_⟩
    · exact g1
    · exact sq_eq g2 (by unfold l2; grind)
    · exact sq_eq g3 (by unfold l3; grind)
    · exact sq_eq g4 (by unfold l4; grind)
    · exact sq_eq g6 (by unfold l6; grind)
end
end K08
set_option Elab.async false
set_option linter.all false
set_option maxRecDepth 100000
set_option maxHeartbeats 4000000
namespace K08
open PySem PySem.Spec PyProof.Rows L2 Gd QM
local macro_rules | `(tactic| walk_at "bd") => `(tactic| (repeat (first | assumption | apply B.add | apply B.sub | apply B.mul | apply B.neg | exact B.lit (n := 8) (by decide))))
local macro_rules | `(tactic| walk_at "bu") => `(tactic| (apply B.up; walk_at "bd"; decide))
local macro_rules | `(tactic| walk_at "bnd") => `(tactic| (apply B.mulW; walk_at "bd"; decide))
/-! ### plain forms -/
def Ev (c : Cv) : Prop := c.a1 % 2 = 0 ∧ c.a3 % 2 = 0
instance (c : Cv) : Decidable (Ev c) := inferInstanceAs (Decidable (_ ∧ _))
def plA (c : Cv) : Int := if Ev c then c.a2 + c.a1 / 2 * (c.a1 / 2) else c.b2
def plB (c : Cv) : Int := if Ev c then c.a4 + c.a1 / 2 * c.a3 else 8 * c.b4
def plC (c : Cv) : Int := if Ev c then c.a6 + c.a3 / 2 * (c.a3 / 2) else 16 * c.b6
def plT (c : Cv) : List V := [.int (plA c), .int (plB c), .int (plC c)]
def uP (c : Cv) : Rat := if Ev c then 1 else Rat.divInt 1 2
def chP (c : Cv) : Ch := ⟨uP c, 0, Rat.divInt (-c.a1) 2, Rat.divInt (-c.a3) 2⟩
theorem fq_h : [V.int 1, V.int 2] = fq (Rat.divInt 1 2) := by decide +kernel
theorem fq_1 : [V.int 1, V.int 1] = fq 1 := rfl
theorem fq_0 : [V.int 0, V.int 1] = fq 0 := rfl
theorem ev_sq {a : Int} (h : a % 2 = 0) : a * a / 4 = a / 2 * (a / 2) := by
  obtain ⟨k, rfl⟩ : ∃ k, a = 2 * k := ⟨a / 2, by omega⟩
  rw [show 2 * k * (2 * k) = 4 * (k * k) by grind, Int.mul_ediv_cancel_left _ (by decide), Int.mul_ediv_cancel_left _ (by decide)]
theorem ev_mul {a b : Int} (h : a % 2 = 0) : a * b / 2 = a / 2 * b := by
  obtain ⟨k, rfl⟩ : ∃ k, a = 2 * k := ⟨a / 2, by omega⟩
  rw [show 2 * k * b = 2 * (k * b) by grind, Int.mul_ediv_cancel_left _ (by decide), Int.mul_ediv_cancel_left _ (by decide)]
section
variable {P : Program} {w : World} {K : PySem.W.Frag} {mg : Str → Option Value} {base : Heap}
def spPlain (K : PySem.W.Frag) : Sp := fun vs H Q _ => ∃ (p : Addr) (c : Cv), vs = [.ref p] ∧ SqT K H p c.tup ∧ c.Sm ∧ ∀ H' t pp pc, Same H H' → H' t = some (.tup [.ref pp, .ref pc]) → H' pp = some (.tup (plT c)) → ChAt K H' pc (chP c) → Q (.ref t) H'
def sp_plain_form : PySem.W.Frag → Sp := spPlain
abbrev s_plain_form : Stmt := topS 37
theorem sc_plain_form : FnScope ["curve", "a1", "a2", "a3", "a4", "a6", "s", "t", "plain", "u", "b2", "b4", "b6", "_"] ["curve"] (defScope s_plain_form) := ⟨rfl, rfl, rfl, by decide +kernel, rfl, by decide +kernel, by decide +kernel⟩
theorem k_plain_form (T : Tx K mg) (D : Df K mg "plain_form" s_plain_form ["curve"]) (c_five : Kl P w K mg base 1 "five" (sp_five K)) (c_numbers_of : Kl P w K mg base 2 "numbers_of" (sp_numbers_of K)) (c_lowest : Kl P w K mg base 1 "lowest" (sp_lowest K)) : Kl P w K mg base 3 "plain_form" (sp_plain_form K) := by
  have nd := sc_plain_form.nd
  refine Kl.by_body D sc_plain_form (fun vs H Q E h => ?_) (fun f cdv A outer s H vs Q E hr h => ?_)
  · obtain ⟨_, _, rfl, _⟩ := h
    rfl
  · obtain ⟨p, c, rfl, hx, hm, q⟩ := h
    have hu1 := hu_of hr
    refine ⟨_, (pss_cons (ps_asg (pe_k c_five  hr (by decide) (by rfl) (pa_cons (pv 0) pa_nil)) (pg_tup rfl (pgs_cons (pg_name (i := 1) nd rfl (by first | exact Or.inl rfl | exact Or.inr rfl)) (pgs_cons (pg_name (i := 2) nd rfl (by first | exact Or.inl rfl | exact Or.inr rfl)) (pgs_cons (pg_name (i := 3) nd rfl (by first | exact Or.inl rfl | exact Or.inr rfl)) (pgs_cons (pg_name (i := 4) nd rfl (by first | exact Or.inl rfl | exact Or.inr rfl)) (pgs_cons (pg_name (i := 5) nd rfl (by first | exact Or.inl rfl | exact Or.inr rfl)) pgs_nil)))))))
      (C8.pss_cut (ps_if (PW.pt (pw_and (pt_cmpR op_eq (pe_op op_mod (pv 1) pe_int) pe_int (nomark _)) (pw_and1 (pt_cmpR op_eq (pe_op op_mod (pv 3) pe_int) pe_int (nomark _))))) (pss_cons (ps_par (i := 6) (j := 7) (by rfl) nd rfl rfl (by decide) rfl rfl (pa_cons (pe_op op_fdiv (pv 1) pe_int) (pa_cons (pe_op op_fdiv (pv 3) pe_int) pa_nil)) (by rfl))
      (pss_cons (ps_set (i := 8) nd rfl (by first | exact Or.inl rfl | exact Or.inr rfl) (pe_tup (pa_cons (pe_op op_add (pv 2) (pe_op op_mulW (pv 6) (pv 6))) (pa_cons (pe_op op_add (pv 4) (pe_op op_mulW (pv 6) (pv 3))) (pa_cons (pe_op op_add (pv 5) (pe_op op_mulW (pv 7) (pv 7))) pa_nil)))))
      (pss_one (ps_set (i := 9) nd rfl (by first | exact Or.inl rfl | exact Or.inr rfl) (pe_tup (pa_cons pe_int (pa_cons pe_int pa_nil))))))) (pss_cons (ps_asg (pe_k c_numbers_of  hr (by decide) (by rfl) (pa_cons (pv 0) pa_nil)) (pg_tup rfl (pgs_cons (pg_name (i := 10) nd rfl (by first | exact Or.inl rfl | exact Or.inr rfl)) (pgs_cons (pg_name (i := 11) nd rfl (by first | exact Or.inl rfl | exact Or.inr rfl)) (pgs_cons (pg_name (i := 12) nd rfl (by first | exact Or.inl rfl | exact Or.inr rfl)) (pgs_cons (pg_name (i := 13) nd rfl (by first | exact Or.inl rfl | exact Or.inr rfl)) (pgs_cons (pg_name (i := 13) nd rfl (by first | exact Or.inl rfl | exact Or.inr rfl)) (pgs_cons (pg_name (i := 13) nd rfl (by first | exact Or.inl rfl | exact Or.inr rfl)) (pgs_cons (pg_name (i := 13) nd rfl (by first | exact Or.inl rfl | exact Or.inr rfl)) pgs_nil)))))))))
      (pss_cons (ps_set (i := 8) nd rfl (by first | exact Or.inl rfl | exact Or.inr rfl) (pe_tup (pa_cons (pv 10) (pa_cons (pe_op op_mul pe_int (pv 11)) (pa_cons (pe_op op_mul pe_int (pv 12)) pa_nil)))))
      (pss_one (ps_set (i := 9) nd rfl (by first | exact Or.inl rfl | exact Or.inr rfl) (pe_tup (pa_cons pe_int (pa_cons pe_int pa_nil))))))))
      (pss_one (ps_ret (pe_tup (pa_cons (pv 8) (pa_cons (pe_tup (pa_cons (pv 9) (pa_cons (pe_tup (pa_cons pe_int (pa_cons pe_int pa_nil))) (pa_cons (pe_k c_lowest  hr (by decide) (by rfl) (pa_cons (pe_un un_neg (pv 1)) (pa_cons pe_int pa_nil))) (pa_cons (pe_k c_lowest  hr (by decide) (by rfl) (pa_cons (pe_un un_neg (pv 3)) (pa_cons pe_int pa_nil))) pa_nil))))) pa_nil))))))), ?_⟩
    refine ⟨.ref p, rfl, p, c, rfl, hx, p, _, rfl, hx, rfl, _, _, rfl, _, _, rfl, _, _, rfl, _, _, rfl, _, _, rfl, rfl, ?_⟩
    first | refine sigN [some (.ref p), some (.int (c.a1)), some (.int (c.a2)), some (.int (c.a3)), some (.int (c.a4)), some (.int (c.a6)), none, none, none, none, none, none, none, none] (by rfl) ?_ | refine sig [some (.ref p), some (.int (c.a1)), some (.int (c.a2)), some (.int (c.a3)), some (.int (c.a4)), some (.int (c.a6)), none, none, none, none, none, none, none, none] (by rfl) ?_
    refine ⟨fun σ H' => Same H H' ∧ ∃ (pp pu : Addr) (v6 v7 v10 v11 v12 v13 : Option V), H' pp = some (.tup (plT c)) ∧ H' pu = some (.tup (fq (uP c))) ∧ σ = [some (.ref p), some (.int c.a1), some (.int c.a2), some (.int c.a3), some (.int c.a4), some (.int c.a6), v6, v7, some (.ref pp), some (.ref pu), v10, v11, v12, v13], ?_, ?_⟩
    · have hm' := hm
      obtain ⟨h1, h2, h3, h4, h6⟩ := hm'
      have odd : ¬ Ev c → ∀ pp pu : Addr, True := fun _ _ _ => trivial
      refine ⟨_, rfl, _, _, rfl, rfl, (by show (0 : Int) < 2; decide), rfl, _, rfl, ?_⟩
      rw [dec_int]
      by_cases e1 : c.a1 % 2 = 0
      · refine iteY (beq_iff_eq.mpr e1) ?_
        refine ⟨_, rfl, _, _, rfl, rfl, (by show (0 : Int) < 2; decide), rfl, _, rfl, ?_⟩
        rw [dec_int]
        by_cases e3 : c.a3 % 2 = 0
        · refine iteY (beq_iff_eq.mpr e3) ?_
          have ev : Ev c := ⟨e1, e3⟩
          refine ⟨_, rfl, _, _, rfl, rfl, ⟨by decide, by decide⟩, _, rfl, _, _, rfl, rfl, ⟨by decide, by decide⟩, _, _, rfl, ?_⟩
          have b1 : B 12 (c.a1 / 2) := by
            unfold B at *
            omega
          have b3 : B 12 (c.a3 / 2) := by
            unfold B at *
            omega
          first | refine sigN [some (.ref p), some (.int (c.a1)), some (.int (c.a2)), some (.int (c.a3)), some (.int (c.a4)), some (.int (c.a6)), some (.int (c.a1 / 2)), some (.int (c.a3 / 2)), none, none, none, none, none, none] (by rfl) ?_ | refine sig [some (.ref p), some (.int (c.a1)), some (.int (c.a2)), some (.int (c.a3)), some (.int (c.a4)), some (.int (c.a6)), some (.int (c.a1 / 2)), some (.int (c.a3 / 2)), none, none, none, none, none, none] (by rfl) ?_
          refine ⟨_, rfl, _, rfl, _, rfl, _, _, rfl, rfl, (by walk_at "bnd"), _, _, rfl, rfl, _, rfl, _, rfl, _, rfl, _, _, rfl, rfl, (by walk_at "bnd"), _, _, rfl, rfl, _, rfl, _, rfl, _, rfl, _, _, rfl, rfl, (by walk_at "bnd"), _, _, rfl, rfl, (by show 3 ≤ sizeLine; decide), fun pp npp => ?_⟩
          have epl : plT c = [V.int (c.a2 + c.a1 / 2 * (c.a1 / 2)), V.int (c.a4 + c.a1 / 2 * c.a3), V.int (c.a6 + c.a3 / 2 * (c.a3 / 2))] := by
            unfold plT plA plB plC
            rw [if_pos ev, if_pos ev, if_pos ev]
          rw [← epl]
          have s1 := Same.new (H := H) (p := pp) (o := .tup (plT c)) npp
          have gpp : upd H pp (.tup (plT c)) pp = some (.tup (plT c)) := upd_same
          generalize upd H pp (.tup (plT c)) = H1 at s1 gpp ⊢
          refine ⟨(by show 2 ≤ sizeLine; decide), fun pu npu => ?_⟩
          rw [fq_1]
          have s2 := Same.new (o := .tup (fq 1)) npu
          exact ⟨s1.trans s2, pp, pu, _, _, _, _, _, _, s2 _ _ gpp, by rw [upd_same, uP, if_pos ev], rfl⟩
        · refine iteN (fun y => e3 (beq_iff_eq.mp y)) ?_
          have ev : ¬ Ev c := fun y => e3 y.2
          refine ⟨.ref p, rfl, p, c, rfl, hx, hm, fun nu nnu => ?_⟩
          have s1 := Same.new (H := H) (p := nu) (o := .tup c.nums) nnu
          have gnu : upd H nu (.tup c.nums) nu = some (.tup c.nums) := upd_same
          generalize upd H nu (.tup c.nums) = H1 at s1 gnu ⊢
          refine ⟨nu, _, rfl, tup_of gnu, rfl, _, _, rfl, _, _, rfl, _, _, rfl, _, _, rfl, _, _, rfl, _, _, rfl, _, _, rfl, rfl, ?_⟩
          refine ⟨_, rfl, _, rfl, _, _, rfl, rfl, (Or.inl ⟨by decide, by decide⟩), _, rfl, _, _, rfl, rfl, (Or.inl ⟨by decide, by decide⟩), (by show 3 ≤ sizeLine; decide), fun pp npp => ?_⟩
          have epl : plT c = [V.int c.b2, V.int (8 * c.b4), V.int (16 * c.b6)] := by
            unfold plT plA plB plC
            rw [if_neg ev, if_neg ev, if_neg ev]
          rw [← epl]
          have s2 := Same.new (H := H1) (p := pp) (o := .tup (plT c)) npp
          have gpp : upd H1 pp (.tup (plT c)) pp = some (.tup (plT c)) := upd_same
          generalize upd H1 pp (.tup (plT c)) = H2 at s2 gpp ⊢
          refine ⟨(by show 2 ≤ sizeLine; decide), fun pu npu => ?_⟩
          rw [fq_h]
          have s3 := Same.new (o := .tup (fq (Rat.divInt 1 2))) npu
          exact ⟨s1.trans (s2.trans s3), pp, pu, _, _, _, _, _, _, s3 _ _ gpp, by rw [upd_same, uP, if_neg ev], rfl⟩
      · refine iteN (fun y => e1 (beq_iff_eq.mp y)) ?_
        have ev : ¬ Ev c := fun y => e1 y.1
        refine ⟨.ref p, rfl, p, c, rfl, hx, hm, fun nu nnu => ?_⟩
        have s1 := Same.new (H := H) (p := nu) (o := .tup c.nums) nnu
        have gnu : upd H nu (.tup c.nums) nu = some (.tup c.nums) := upd_same
        generalize upd H nu (.tup c.nums) = H1 at s1 gnu ⊢
        refine ⟨nu, _, rfl, tup_of gnu, rfl, _, _, rfl, _, _, rfl, _, _, rfl, _, _, rfl, _, _, rfl, _, _, rfl, _, _, rfl, rfl, ?_⟩
        refine ⟨_, rfl, _, rfl, _, _, rfl, rfl, (Or.inl ⟨by decide, by decide⟩), _, rfl, _, _, rfl, rfl, (Or.inl ⟨by decide, by decide⟩), (by show 3 ≤ sizeLine; decide), fun pp npp => ?_⟩
        have epl : plT c = [V.int c.b2, V.int (8 * c.b4), V.int (16 * c.b6)] := by
          unfold plT plA plB plC
          rw [if_neg ev, if_neg ev, if_neg ev]
        rw [← epl]
        have s2 := Same.new (H := H1) (p := pp) (o := .tup (plT c)) npp
        have gpp : upd H1 pp (.tup (plT c)) pp = some (.tup (plT c)) := upd_same
        generalize upd H1 pp (.tup (plT c)) = H2 at s2 gpp ⊢
        refine ⟨(by show 2 ≤ sizeLine; decide), fun pu npu => ?_⟩
        rw [fq_h]
        have s3 := Same.new (o := .tup (fq (Rat.divInt 1 2))) npu
        exact ⟨s1.trans (s2.trans s3), pp, pu, _, _, _, _, _, _, s3 _ _ gpp, by rw [upd_same, uP, if_neg ev], rfl⟩
    rintro σ H1 ⟨s1, pp, pu, v6, v7, v10, v11, v12, v13, gpp, gpu, rfl⟩
    refine ⟨.ref pp, rfl, .ref pu, rfl, (by show 2 ≤ sizeLine; decide), fun p0 np0 => ?_⟩
    rw [fq_0]
    have s2 := Same.new (H := H1) (p := p0) (o := .tup (fq 0)) np0
    have gp0 : upd H1 p0 (.tup (fq 0)) p0 = some (.tup (fq 0)) := upd_same
    generalize upd H1 p0 (.tup (fq 0)) = H2 at s2 gp0 ⊢
    refine ⟨_, rfl, _, rfl, -c.a1, 2, rfl, by decide, (hm.h1.neg).up (by decide), B.lit (by decide), fun ps nps => ?_⟩
    have s3 := Same.new (H := H2) (p := ps) (o := .tup (fq (Rat.divInt (-c.a1) 2))) nps
    have gps : upd H2 ps (.tup (fq (Rat.divInt (-c.a1) 2))) ps = some (.tup (fq (Rat.divInt (-c.a1) 2))) := upd_same
    generalize upd H2 ps (.tup (fq (Rat.divInt (-c.a1) 2))) = H3 at s3 gps ⊢
    refine ⟨_, rfl, _, rfl, -c.a3, 2, rfl, by decide, (hm.h3.neg).up (by decide), B.lit (by decide), fun pt npt => ?_⟩
    have s4 := Same.new (H := H3) (p := pt) (o := .tup (fq (Rat.divInt (-c.a3) 2))) npt
    have gpt : upd H3 pt (.tup (fq (Rat.divInt (-c.a3) 2))) pt = some (.tup (fq (Rat.divInt (-c.a3) 2))) := upd_same
    generalize upd H3 pt (.tup (fq (Rat.divInt (-c.a3) 2))) = H4 at s4 gpt ⊢
    refine ⟨(by show 4 ≤ sizeLine; decide), fun pc npc => ?_⟩
    have s5 := Same.new (H := H4) (p := pc) (o := .tup [.ref pu, .ref p0, .ref ps, .ref pt]) npc
    have gpc : upd H4 pc (.tup [.ref pu, .ref p0, .ref ps, .ref pt]) pc = some (.tup [.ref pu, .ref p0, .ref ps, .ref pt]) := upd_same
    generalize upd H4 pc (.tup [.ref pu, .ref p0, .ref ps, .ref pt]) = H5 at s5 gpc ⊢
    refine ⟨(by show 2 ≤ sizeLine; decide), fun t nt => ?_⟩
    have s6 := Same.new (o := .tup [.ref pp, .ref pc]) nt
    have s56 := s5.trans s6
    have s46 := s4.trans s56
    have s36 := s3.trans s46
    have s26 := s2.trans s36
    exact q _ t pp pc (s1.trans s26) upd_same (s26 _ _ gpp) ⟨pu, p0, ps, pt, tup_of (s6 _ _ gpc), tup_of (s26 _ _ gpu), tup_of (s36 _ _ gp0), tup_of (s46 _ _ gps), tup_of (s56 _ _ gpt)⟩
end
end K08
set_option Elab.async false
set_option linter.all false
set_option maxRecDepth 100000
set_option maxHeartbeats 4000000
namespace K08
open PySem PySem.Spec PyProof.Rows L2 Gd QM
local macro_rules | `(tactic| walk_at "bd") => `(tactic| (repeat (first | assumption | apply B.add | apply B.sub | apply B.mul | apply B.neg | exact B.lit (n := 8) (by decide))))
local macro_rules | `(tactic| walk_at "bu") => `(tactic| (apply B.up; walk_at "bd"; decide))
local macro_rules | `(tactic| walk_at "bnd") => `(tactic| (apply B.mulW; walk_at "bd"; decide))
section
variable {P : Program} {w : World} {K : PySem.W.Frag} {mg : Str → Option Value} {base : Heap}
def sp_law_plain_due : PySem.W.Frag → Sp := spPlain
abbrev s__law_plain_due : Stmt := topS 71
theorem sc__law_plain_due : FnScope ["five_v", "a1", "a2", "a3", "a4", "a6", "half", "third", "b2", "b4", "b6"] ["five_v"] (defScope s__law_plain_due) := ⟨rfl, rfl, rfl, by decide +kernel, rfl, by decide +kernel, by decide +kernel⟩
theorem k_law_plain_due (T : Tx K mg) (D : Df K mg "_law_plain_due" s__law_plain_due ["five_v"]) (c_law_cut : Kl P w K mg base 2 "_law_cut" (sp_law_cut K)) (c_law_numbers : Kl P w K mg base 1 "_law_numbers" (sp_law_numbers K)) : Kl P w K mg base 3 "_law_plain_due" (sp_law_plain_due K) := by
  have nd := sc__law_plain_due.nd
  refine Kl.by_body D sc__law_plain_due (fun vs H Q E h => ?_) (fun f cdv A outer s H vs Q E hr h => ?_)
  · obtain ⟨_, _, rfl, _⟩ := h
    rfl
  · obtain ⟨p, c, rfl, hx, hm, q⟩ := h
    have hu1 := hu_of hr
    refine ⟨_, (pss_cons (ps_asg (pv 0) (pg_tup rfl (pgs_cons (pg_name (i := 1) nd rfl (by first | exact Or.inl rfl | exact Or.inr rfl)) (pgs_cons (pg_name (i := 2) nd rfl (by first | exact Or.inl rfl | exact Or.inr rfl)) (pgs_cons (pg_name (i := 3) nd rfl (by first | exact Or.inl rfl | exact Or.inr rfl)) (pgs_cons (pg_name (i := 4) nd rfl (by first | exact Or.inl rfl | exact Or.inr rfl)) (pgs_cons (pg_name (i := 5) nd rfl (by first | exact Or.inl rfl | exact Or.inr rfl)) pgs_nil)))))))
      (pss_cons (ps_par (i := 6) (j := 7) (by rfl) nd rfl rfl (by decide) rfl rfl (pa_cons (pe_k c_law_cut  hr (by decide) (by rfl) (pa_cons (pe_un un_neg (pv 1)) (pa_cons pe_int pa_nil))) (pa_cons (pe_k c_law_cut  hr (by decide) (by rfl) (pa_cons (pe_un un_neg (pv 3)) (pa_cons pe_int pa_nil))) pa_nil)) (by rfl))
      (pss_cons (ps_if (PW.pt (pw_and (pt_cmpR op_eq (pe_op op_mod (pe_callTy call_intI (by rfl) T.int (by decide +kernel) (pa_cons (pv 1) pa_nil)) pe_int) pe_int (nomark _)) (pw_and1 (pt_cmpR op_eq (pe_op op_mod (pe_callTy call_intI (by rfl) T.int (by decide +kernel) (pa_cons (pv 3) pa_nil)) pe_int) pe_int (nomark _))))) (pss_one (ps_ret (pe_tup (pa_cons (pe_tup (pa_cons (pe_op op_add (pv 2) (pe_op op_fdiv (pe_op op_mulW (pv 1) (pv 1)) pe_int)) (pa_cons (pe_op op_add (pv 4) (pe_op op_fdiv (pe_op op_mulW (pv 1) (pv 3)) pe_int)) (pa_cons (pe_op op_add (pv 5) (pe_op op_fdiv (pe_op op_mulW (pv 3) (pv 3)) pe_int)) pa_nil)))) (pa_cons (pe_tup (pa_cons (pe_tup (pa_cons pe_int (pa_cons pe_int pa_nil))) (pa_cons (pe_tup (pa_cons pe_int (pa_cons pe_int pa_nil))) (pa_cons (pv 6) (pa_cons (pv 7) pa_nil))))) pa_nil))))) pss_nil)
      (pss_cons (ps_asg (pe_slice sl_tup (pe_k c_law_numbers  hr (by decide) (by rfl) (pa_cons (pv 0) pa_nil)) po_none (po_some pe_int)) (pg_tup rfl (pgs_cons (pg_name (i := 8) nd rfl (by first | exact Or.inl rfl | exact Or.inr rfl)) (pgs_cons (pg_name (i := 9) nd rfl (by first | exact Or.inl rfl | exact Or.inr rfl)) (pgs_cons (pg_name (i := 10) nd rfl (by first | exact Or.inl rfl | exact Or.inr rfl)) pgs_nil)))))
      (pss_one (ps_ret (pe_tup (pa_cons (pe_tup (pa_cons (pv 8) (pa_cons (pe_op op_mul pe_int (pv 9)) (pa_cons (pe_op op_mul pe_int (pv 10)) pa_nil)))) (pa_cons (pe_tup (pa_cons (pe_tup (pa_cons pe_int (pa_cons pe_int pa_nil))) (pa_cons (pe_tup (pa_cons pe_int (pa_cons pe_int pa_nil))) (pa_cons (pv 6) (pa_cons (pv 7) pa_nil))))) pa_nil))))))))), ?_⟩
    refine ⟨.ref p, rfl, p, _, rfl, hx, rfl, _, _, rfl, _, _, rfl, _, _, rfl, _, _, rfl, _, _, rfl, rfl, ?_⟩
    have hm' := hm
    obtain ⟨h1, h2, h3, h4, h6⟩ := hm'
    first | refine sigN [some (.ref p), some (.int (c.a1)), some (.int (c.a2)), some (.int (c.a3)), some (.int (c.a4)), some (.int (c.a6)), none, none, none, none, none] (by rfl) ?_ | refine sig [some (.ref p), some (.int (c.a1)), some (.int (c.a2)), some (.int (c.a3)), some (.int (c.a4)), some (.int (c.a6)), none, none, none, none, none] (by rfl) ?_
    refine ⟨_, rfl, _, rfl, -c.a1, 2, rfl, by decide, h1.neg.up (by decide), B.lit (by decide), fun ps nps => ?_⟩
    have s1 := Same.new (H := H) (p := ps) (o := .tup (fq (Rat.divInt (-c.a1) 2))) nps
    have gps : upd H ps (.tup (fq (Rat.divInt (-c.a1) 2))) ps = some (.tup (fq (Rat.divInt (-c.a1) 2))) := upd_same
    generalize upd H ps (.tup (fq (Rat.divInt (-c.a1) 2))) = H1 at s1 gps ⊢
    refine ⟨_, rfl, _, rfl, -c.a3, 2, rfl, by decide, h3.neg.up (by decide), B.lit (by decide), fun pt npt => ?_⟩
    have s2 := Same.new (H := H1) (p := pt) (o := .tup (fq (Rat.divInt (-c.a3) 2))) npt
    have gpt : upd H1 pt (.tup (fq (Rat.divInt (-c.a3) 2))) pt = some (.tup (fq (Rat.divInt (-c.a3) 2))) := upd_same
    generalize upd H1 pt (.tup (fq (Rat.divInt (-c.a3) 2))) = H2 at s2 gpt ⊢
    refine ⟨_, _, rfl, ?_⟩
    first | refine sigN [some (.ref p), some (.int (c.a1)), some (.int (c.a2)), some (.int (c.a3)), some (.int (c.a4)), some (.int (c.a6)), some (.ref ps), some (.ref pt), none, none, none] (by rfl) ?_ | refine sig [some (.ref p), some (.int (c.a1)), some (.int (c.a2)), some (.int (c.a3)), some (.int (c.a4)), some (.int (c.a6)), some (.ref ps), some (.ref pt), none, none, none] (by rfl) ?_
    have sA := s1.trans s2
    have gps2 := s2 _ _ gps
    have hx2 := Same.tup sA hx
    clear s1 s2 gps
    refine ⟨_, rfl, _, rfl, _, _, rfl, rfl, (by show (0 : Int) < 2; decide), rfl, _, rfl, ?_⟩
    rw [dec_int]
    by_cases e1 : c.a1 % 2 = 0
    · refine iteY (beq_iff_eq.mpr e1) ?_
      refine ⟨_, rfl, _, rfl, _, _, rfl, rfl, (by show (0 : Int) < 2; decide), rfl, _, rfl, ?_⟩
      rw [dec_int]
      by_cases e3 : c.a3 % 2 = 0
      · refine iteY (beq_iff_eq.mpr e3) ?_
        have ev : Ev c := ⟨e1, e3⟩
        refine ⟨_, rfl, _, rfl, _, rfl, _, _, rfl, rfl, (by walk_at "bnd"), _, _, rfl, rfl, ⟨by decide, by decide⟩, _, _, rfl, rfl, _, rfl, _, rfl, _, rfl, _, _, rfl, rfl, (by walk_at "bnd"), _, _, rfl, rfl, ⟨by decide, by decide⟩, _, _, rfl, rfl, _, rfl, _, rfl, _, rfl, _, _, rfl, rfl, (by walk_at "bnd"), _, _, rfl, rfl, ⟨by decide, by decide⟩, _, _, rfl, rfl, (by show 3 ≤ sizeLine; decide), fun pp npp => ?_⟩
        have epl : plT c = [V.int (c.a2 + c.a1 * c.a1 / 4), V.int (c.a4 + c.a1 * c.a3 / 2), V.int (c.a6 + c.a3 * c.a3 / 4)] := by
          unfold plT plA plB plC
          rw [if_pos ev, if_pos ev, if_pos ev, ev_sq e1, ev_mul e1, ev_sq e3]
        rw [← epl]
        have s3 := Same.new (H := H2) (p := pp) (o := .tup (plT c)) npp
        have gpp : upd H2 pp (.tup (plT c)) pp = some (.tup (plT c)) := upd_same
        generalize upd H2 pp (.tup (plT c)) = H3 at s3 gpp ⊢
        refine ⟨(by show 2 ≤ sizeLine; decide), fun pu npu => ?_⟩
        rw [fq_1]
        have s4 := Same.new (H := H3) (p := pu) (o := .tup (fq 1)) npu
        have gpu : upd H3 pu (.tup (fq 1)) pu = some (.tup (fq 1)) := upd_same
        generalize upd H3 pu (.tup (fq 1)) = H4 at s4 gpu ⊢
        have hu : fq (1 : Rat) = fq (uP c) := by rw [uP, if_pos ev]
        rw [hu] at gpu
        refine ⟨(by show 2 ≤ sizeLine; decide), fun p0 np0 => ?_⟩
        rw [fq_0]
        have s5 := Same.new (H := H4) (p := p0) (o := .tup (fq 0)) np0
        have gp0 : upd H4 p0 (.tup (fq 0)) p0 = some (.tup (fq 0)) := upd_same
        generalize upd H4 p0 (.tup (fq 0)) = H5 at s5 gp0 ⊢
        refine ⟨.ref ps, rfl, .ref pt, rfl, (by show 4 ≤ sizeLine; decide), fun pc npc => ?_⟩
        have s6 := Same.new (H := H5) (p := pc) (o := .tup [.ref pu, .ref p0, .ref ps, .ref pt]) npc
        have gpc : upd H5 pc (.tup [.ref pu, .ref p0, .ref ps, .ref pt]) pc = some (.tup [.ref pu, .ref p0, .ref ps, .ref pt]) := upd_same
        generalize upd H5 pc (.tup [.ref pu, .ref p0, .ref ps, .ref pt]) = H6 at s6 gpc ⊢
        refine ⟨(by show 2 ≤ sizeLine; decide), fun t nt => ?_⟩
        have s7 := Same.new (o := .tup [.ref pp, .ref pc]) nt
        have s67 := s6.trans s7
        have s57 := s5.trans s67
        have s47 := s4.trans s57
        have s37 := s3.trans s47
        exact q _ t pp pc (sA.trans s37) upd_same (s47 _ _ gpp) ⟨pu, p0, ps, pt, tup_of (s7 _ _ gpc), tup_of (s57 _ _ gpu), tup_of (s67 _ _ gp0), tup_of (s37 _ _ gps2), tup_of (s37 _ _ gpt)⟩
      · refine iteN (fun y => e3 (beq_iff_eq.mp y)) ?_
        have ev : ¬ Ev c := fun y => e3 y.2
        refine ⟨.ref p, rfl, p, c, rfl, hx2, hm, fun nu nnu => ?_⟩
        have s2b := Same.new (H := H2) (p := nu) (o := .tup c.nums) nnu
        have gnu : upd H2 nu (.tup c.nums) nu = some (.tup c.nums) := upd_same
        generalize upd H2 nu (.tup c.nums) = H2b at s2b gnu ⊢
        replace sA := sA.trans s2b
        replace gps2 := s2b _ _ gps2
        replace gpt := s2b _ _ gpt
        refine ⟨_, rfl, nu, _, rfl, tup_of gnu, (by show ¬ (HT.sIx 7 0 none = 0 ∧ HT.sIx 7 7 (some 3) = 7); decide), fun t2 nt2 => ?_⟩
        have e2 : cutV c.nums none (some 3) = [.int c.b2, .int c.b4, .int c.b6] := rfl
        rw [e2]
        have s2c := Same.new (H := H2b) (p := t2) (o := .tup [.int c.b2, .int c.b4, .int c.b6]) nt2
        have gt2 : upd H2b t2 (.tup [.int c.b2, .int c.b4, .int c.b6]) t2 = some (.tup [.int c.b2, .int c.b4, .int c.b6]) := upd_same
        generalize upd H2b t2 (.tup [.int c.b2, .int c.b4, .int c.b6]) = H2c at s2c gt2 ⊢
        replace sA := sA.trans s2c
        replace gps2 := s2c _ _ gps2
        replace gpt := s2c _ _ gpt
        refine ⟨t2, _, rfl, tup_of gt2, rfl, _, _, rfl, _, _, rfl, _, _, rfl, rfl, ?_⟩
        first | refine sigN [some (.ref p), some (.int (c.a1)), some (.int (c.a2)), some (.int (c.a3)), some (.int (c.a4)), some (.int (c.a6)), some (.ref ps), some (.ref pt), some (.int (c.b2)), some (.int (c.b4)), some (.int (c.b6))] (by rfl) ?_ | refine sig [some (.ref p), some (.int (c.a1)), some (.int (c.a2)), some (.int (c.a3)), some (.int (c.a4)), some (.int (c.a6)), some (.ref ps), some (.ref pt), some (.int (c.b2)), some (.int (c.b4)), some (.int (c.b6))] (by rfl) ?_
        refine ⟨_, rfl, _, rfl, _, _, rfl, rfl, (Or.inl ⟨by decide, by decide⟩), _, rfl, _, _, rfl, rfl, (Or.inl ⟨by decide, by decide⟩), (by show 3 ≤ sizeLine; decide), fun pp npp => ?_⟩
        have epl : plT c = [V.int c.b2, V.int (8 * c.b4), V.int (16 * c.b6)] := by
          unfold plT plA plB plC
          rw [if_neg ev, if_neg ev, if_neg ev]
        rw [← epl]
        have s3 := Same.new (H := H2c) (p := pp) (o := .tup (plT c)) npp
        have gpp : upd H2c pp (.tup (plT c)) pp = some (.tup (plT c)) := upd_same
        generalize upd H2c pp (.tup (plT c)) = H3 at s3 gpp ⊢
        refine ⟨(by show 2 ≤ sizeLine; decide), fun pu npu => ?_⟩
        rw [fq_h]
        have s4 := Same.new (H := H3) (p := pu) (o := .tup (fq (Rat.divInt 1 2))) npu
        have gpu : upd H3 pu (.tup (fq (Rat.divInt 1 2))) pu = some (.tup (fq (Rat.divInt 1 2))) := upd_same
        generalize upd H3 pu (.tup (fq (Rat.divInt 1 2))) = H4 at s4 gpu ⊢
        have hu : fq (Rat.divInt 1 2) = fq (uP c) := by rw [uP, if_neg ev]
        rw [hu] at gpu
        refine ⟨(by show 2 ≤ sizeLine; decide), fun p0 np0 => ?_⟩
        rw [fq_0]
        have s5 := Same.new (H := H4) (p := p0) (o := .tup (fq 0)) np0
        have gp0 : upd H4 p0 (.tup (fq 0)) p0 = some (.tup (fq 0)) := upd_same
        generalize upd H4 p0 (.tup (fq 0)) = H5 at s5 gp0 ⊢
        refine ⟨.ref ps, rfl, .ref pt, rfl, (by show 4 ≤ sizeLine; decide), fun pc npc => ?_⟩
        have s6 := Same.new (H := H5) (p := pc) (o := .tup [.ref pu, .ref p0, .ref ps, .ref pt]) npc
        have gpc : upd H5 pc (.tup [.ref pu, .ref p0, .ref ps, .ref pt]) pc = some (.tup [.ref pu, .ref p0, .ref ps, .ref pt]) := upd_same
        generalize upd H5 pc (.tup [.ref pu, .ref p0, .ref ps, .ref pt]) = H6 at s6 gpc ⊢
        refine ⟨(by show 2 ≤ sizeLine; decide), fun t nt => ?_⟩
        have s7 := Same.new (o := .tup [.ref pp, .ref pc]) nt
        have s67 := s6.trans s7
        have s57 := s5.trans s67
        have s47 := s4.trans s57
        have s37 := s3.trans s47
        exact q _ t pp pc (sA.trans s37) upd_same (s47 _ _ gpp) ⟨pu, p0, ps, pt, tup_of (s7 _ _ gpc), tup_of (s57 _ _ gpu), tup_of (s67 _ _ gp0), tup_of (s37 _ _ gps2), tup_of (s37 _ _ gpt)⟩
    · refine iteN (fun y => e1 (beq_iff_eq.mp y)) ?_
      have ev : ¬ Ev c := fun y => e1 y.1
      refine ⟨.ref p, rfl, p, c, rfl, hx2, hm, fun nu nnu => ?_⟩
      have s2b := Same.new (H := H2) (p := nu) (o := .tup c.nums) nnu
      have gnu : upd H2 nu (.tup c.nums) nu = some (.tup c.nums) := upd_same
      generalize upd H2 nu (.tup c.nums) = H2b at s2b gnu ⊢
      replace sA := sA.trans s2b
      replace gps2 := s2b _ _ gps2
      replace gpt := s2b _ _ gpt
      refine ⟨_, rfl, nu, _, rfl, tup_of gnu, (by show ¬ (HT.sIx 7 0 none = 0 ∧ HT.sIx 7 7 (some 3) = 7); decide), fun t2 nt2 => ?_⟩
      have e2 : cutV c.nums none (some 3) = [.int c.b2, .int c.b4, .int c.b6] := rfl
      rw [e2]
      have s2c := Same.new (H := H2b) (p := t2) (o := .tup [.int c.b2, .int c.b4, .int c.b6]) nt2
      have gt2 : upd H2b t2 (.tup [.int c.b2, .int c.b4, .int c.b6]) t2 = some (.tup [.int c.b2, .int c.b4, .int c.b6]) := upd_same
      generalize upd H2b t2 (.tup [.int c.b2, .int c.b4, .int c.b6]) = H2c at s2c gt2 ⊢
      replace sA := sA.trans s2c
      replace gps2 := s2c _ _ gps2
      replace gpt := s2c _ _ gpt
      refine ⟨t2, _, rfl, tup_of gt2, rfl, _, _, rfl, _, _, rfl, _, _, rfl, rfl, ?_⟩
      first | refine sigN [some (.ref p), some (.int (c.a1)), some (.int (c.a2)), some (.int (c.a3)), some (.int (c.a4)), some (.int (c.a6)), some (.ref ps), some (.ref pt), some (.int (c.b2)), some (.int (c.b4)), some (.int (c.b6))] (by rfl) ?_ | refine sig [some (.ref p), some (.int (c.a1)), some (.int (c.a2)), some (.int (c.a3)), some (.int (c.a4)), some (.int (c.a6)), some (.ref ps), some (.ref pt), some (.int (c.b2)), some (.int (c.b4)), some (.int (c.b6))] (by rfl) ?_
      refine ⟨_, rfl, _, rfl, _, _, rfl, rfl, (Or.inl ⟨by decide, by decide⟩), _, rfl, _, _, rfl, rfl, (Or.inl ⟨by decide, by decide⟩), (by show 3 ≤ sizeLine; decide), fun pp npp => ?_⟩
      have epl : plT c = [V.int c.b2, V.int (8 * c.b4), V.int (16 * c.b6)] := by
        unfold plT plA plB plC
        rw [if_neg ev, if_neg ev, if_neg ev]
      rw [← epl]
      have s3 := Same.new (H := H2c) (p := pp) (o := .tup (plT c)) npp
      have gpp : upd H2c pp (.tup (plT c)) pp = some (.tup (plT c)) := upd_same
      generalize upd H2c pp (.tup (plT c)) = H3 at s3 gpp ⊢
      refine ⟨(by show 2 ≤ sizeLine; decide), fun pu npu => ?_⟩
      rw [fq_h]
      have s4 := Same.new (H := H3) (p := pu) (o := .tup (fq (Rat.divInt 1 2))) npu
      have gpu : upd H3 pu (.tup (fq (Rat.divInt 1 2))) pu = some (.tup (fq (Rat.divInt 1 2))) := upd_same
      generalize upd H3 pu (.tup (fq (Rat.divInt 1 2))) = H4 at s4 gpu ⊢
      have hu : fq (Rat.divInt 1 2) = fq (uP c) := by rw [uP, if_neg ev]
      rw [hu] at gpu
      refine ⟨(by show 2 ≤ sizeLine; decide), fun p0 np0 => ?_⟩
      rw [fq_0]
      have s5 := Same.new (H := H4) (p := p0) (o := .tup (fq 0)) np0
      have gp0 : upd H4 p0 (.tup (fq 0)) p0 = some (.tup (fq 0)) := upd_same
      generalize upd H4 p0 (.tup (fq 0)) = H5 at s5 gp0 ⊢
      refine ⟨.ref ps, rfl, .ref pt, rfl, (by show 4 ≤ sizeLine; decide), fun pc npc => ?_⟩
      have s6 := Same.new (H := H5) (p := pc) (o := .tup [.ref pu, .ref p0, .ref ps, .ref pt]) npc
      have gpc : upd H5 pc (.tup [.ref pu, .ref p0, .ref ps, .ref pt]) pc = some (.tup [.ref pu, .ref p0, .ref ps, .ref pt]) := upd_same
      generalize upd H5 pc (.tup [.ref pu, .ref p0, .ref ps, .ref pt]) = H6 at s6 gpc ⊢
      refine ⟨(by show 2 ≤ sizeLine; decide), fun t nt => ?_⟩
      have s7 := Same.new (o := .tup [.ref pp, .ref pc]) nt
      have s67 := s6.trans s7
      have s57 := s5.trans s67
      have s47 := s4.trans s57
      have s37 := s3.trans s47
      exact q _ t pp pc (sA.trans s37) upd_same (s47 _ _ gpp) ⟨pu, p0, ps, pt, tup_of (s7 _ _ gpc), tup_of (s57 _ _ gpu), tup_of (s67 _ _ gp0), tup_of (s37 _ _ gps2), tup_of (s37 _ _ gpt)⟩
/-! ### j -/
def sp_j_of (K : PySem.W.Frag) : Sp := fun vs H Q _ => ∃ (p : Addr) (c : Cv), vs = [.ref p] ∧ SqT K H p c.tup ∧ c.Sm ∧ c.disc ≠ 0 ∧ ∀ H' t, Same H H' → H' t = some (.tup (fq (Rat.divInt (c.c4 * c.c4 * c.c4) c.disc))) → Q (.ref t) H'
theorem Cv.Sm.disc {c : Cv} (h : c.Sm) : B 260 c.disc := by
  have e2 := h.b2
  have e4 := h.b4
  have e6 := h.b6
  have e8 := h.b8
  unfold Cv.disc
  walk_at "bu"
abbrev s_j_of : Stmt := topS 35
theorem sc_j_of : FnScope ["curve", "_", "c4", "d"] ["curve"] (defScope s_j_of) := ⟨rfl, rfl, rfl, by decide +kernel, rfl, by decide +kernel, by decide +kernel⟩
theorem k_j_of (T : Tx K mg) (D : Df K mg "j_of" s_j_of ["curve"]) (c_numbers_of : Kl P w K mg base 2 "numbers_of" (sp_numbers_of K)) (c_lowest : Kl P w K mg base 1 "lowest" (sp_lowest K)) : Kl P w K mg base 3 "j_of" (sp_j_of K) := by
  have nd := sc_j_of.nd
  refine Kl.by_body D sc_j_of (fun vs H Q E h => ?_) (fun f cdv A outer s H vs Q E hr h => ?_)
  · obtain ⟨_, _, rfl, _⟩ := h
    rfl
  · obtain ⟨p, c, rfl, hx, hm, hd, q⟩ := h
    have hu1 := hu_of hr
    refine ⟨_, (pss_cons (ps_asg (pe_k c_numbers_of  hr (by decide) (by rfl) (pa_cons (pv 0) pa_nil)) (pg_tup rfl (pgs_cons (pg_name (i := 1) nd rfl (by first | exact Or.inl rfl | exact Or.inr rfl)) (pgs_cons (pg_name (i := 1) nd rfl (by first | exact Or.inl rfl | exact Or.inr rfl)) (pgs_cons (pg_name (i := 1) nd rfl (by first | exact Or.inl rfl | exact Or.inr rfl)) (pgs_cons (pg_name (i := 1) nd rfl (by first | exact Or.inl rfl | exact Or.inr rfl)) (pgs_cons (pg_name (i := 2) nd rfl (by first | exact Or.inl rfl | exact Or.inr rfl)) (pgs_cons (pg_name (i := 1) nd rfl (by first | exact Or.inl rfl | exact Or.inr rfl)) (pgs_cons (pg_name (i := 3) nd rfl (by first | exact Or.inl rfl | exact Or.inr rfl)) pgs_nil)))))))))
      (pss_one (ps_ret (pe_k c_lowest  hr (by decide) (by rfl) (pa_cons (pe_op op_mulW (pe_op op_mulW (pv 2) (pv 2)) (pv 2)) (pa_cons (pv 3) pa_nil)))))), ?_⟩
    refine ⟨.ref p, rfl, p, c, rfl, hx, hm, fun nu nnu => ?_⟩
    have s1 := Same.new (H := H) (p := nu) (o := .tup c.nums) nnu
    have gnu : upd H nu (.tup c.nums) nu = some (.tup c.nums) := upd_same
    generalize upd H nu (.tup c.nums) = H1 at s1 gnu ⊢
    refine ⟨nu, _, rfl, tup_of gnu, rfl, _, _, rfl, _, _, rfl, _, _, rfl, _, _, rfl, _, _, rfl, _, _, rfl, _, _, rfl, rfl, ?_⟩
    have e4 := hm.c4
    refine ⟨_, rfl, _, rfl, _, _, rfl, rfl, e4.mulW e4 (by decide), _, rfl, _, _, rfl, rfl, (e4.mul e4).mulW e4 (by decide), _, rfl, _, _, rfl, hd, ((e4.mul e4).mul e4).up (by decide), hm.disc.up (by decide), fun t nt => ?_⟩
    exact q _ t (s1.trans (Same.new nt)) upd_same
/-! ### the number of a twist -/
def sp_law_between_due (K : PySem.W.Frag) : Sp := fun vs H Q _ => ∃ (p : Addr) (a b d : Int), vs = [.ref p, .int d] ∧ SqT K H p [.int a, .int b] ∧ d ≠ 0 ∧ d.natAbs ≤ 100000 ∧ ∀ f, Free d f → Q (.int (if b = 0 then (f.natAbs : Int) else f)) H
abbrev s__law_between_due : Stmt := topS 72
theorem sc__law_between_due : FnScope ["form", "d", "free"] ["form", "d"] (defScope s__law_between_due) := ⟨rfl, rfl, rfl, by decide +kernel, rfl, by decide +kernel, by decide +kernel⟩
theorem k_law_between_due (T : Tx K mg) (D : Df K mg "_law_between_due" s__law_between_due ["form", "d"]) (c_law_free : Kl P w K mg base 1 "_law_free" (sp_law_free K)) : Kl P w K mg base 2 "_law_between_due" (sp_law_between_due K) := by
  have nd := sc__law_between_due.nd
  refine Kl.by_body D sc__law_between_due (fun vs H Q E h => ?_) (fun f cdv A outer s H vs Q E hr h => ?_)
  · obtain ⟨_, _, _, _, rfl, _⟩ := h
    rfl
  · obtain ⟨p, a, b, d, rfl, hx, hd0, hd, q⟩ := h
    have hu1 := hu_of hr
    refine ⟨_, (pss_cons (ps_set (i := 2) nd rfl (by first | exact Or.inl rfl | exact Or.inr rfl) (pe_k c_law_free  hr (by decide) (by rfl) (pa_cons (pv 1) pa_nil)))
      (pss_one (ps_ret (pe_ifExp (pt_cmpR op_eq (pe_ix ix_tup (pv 0) pe_int (fun _ _ => rfl)) pe_int (nomark _)) (pe_callB call_abs (by rfl) T.abs (by decide +kernel) (pa_cons (pv 2) pa_nil)) (pv 2))))), ?_⟩
    refine ⟨_, rfl, d, rfl, hd0, hd, fun f hf => ?_⟩
    first | refine sigN [some (.ref p), some (.int (d)), some (.int (f))] (by rfl) ?_ | refine sig [some (.ref p), some (.int (d)), some (.int (f))] (by rfl) ?_
    refine ⟨.ref p, rfl, p, _, 1, .int b, rfl, rfl, hx, rfl, rfl, _, rfl, ?_⟩
    rw [dec_int]
    have := q f hf
    by_cases hb : b = 0
    · refine iteY (beq_iff_eq.mpr hb) ?_
      rw [if_pos hb] at this
      refine ⟨_, rfl, f, rfl, ?_⟩
      rw [abs_eq]
      exact this
    · refine iteN (fun y => hb (beq_iff_eq.mp y)) ?_
      rw [if_neg hb] at this
      exact ⟨_, rfl, this⟩
/-! ### a curve to begin with -/
structure Cv.Tn (c : Cv) : Prop where
  h1 : c.a1.natAbs ≤ 3
  h2 : c.a2.natAbs ≤ 3
  h3 : c.a3.natAbs ≤ 3
  h4 : c.a4.natAbs ≤ 30
  h6 : c.a6.natAbs ≤ 30
theorem Cv.Tn.sm {c : Cv} (h : c.Tn) : c.Sm := by
  obtain ⟨h1, h2, h3, h4, h6⟩ := h
  exact ⟨by unfold B; omega, by unfold B; omega, by unfold B; omega, by unfold B; omega, by unfold B; omega⟩
def sp_law_start (K : PySem.W.Frag) : Sp := fun vs H Q _ => ∃ (m cl : Addr) (n : Nat), vs = [.ref m] ∧ n ≤ 1000 ∧ MAt H m cl n ∧ ∀ H' t c, But m H H' → MAt H' m cl (n + 20) → SqT K H' t (Cv.tup c) → c.Tn → c.disc ≠ 0 → Q (.ref t) H'
abbrev s__law_start : Stmt := topS 70
theorem sc__law_start : FnScope ["m", "n", "size", "five_v", "k"] ["m"] (defScope s__law_start) := ⟨rfl, rfl, rfl, by decide +kernel, rfl, by decide +kernel, by decide +kernel⟩
theorem k_law_start (T : Tx K mg) (D : Df K mg "_law_start" s__law_start ["m"]) (c_law_of : Kl P w K mg base 2 "_law_of" (sp_law_of K)) (c_law_draw : Kl P w K mg base 1 "_law_draw" (sp_law_draw K)) (c_law_between : Kl P w K mg base 2 "_law_between" (sp_law_between K)) (c_law_numbers : Kl P w K mg base 1 "_law_numbers" (sp_law_numbers K)) : Kl P w K mg base 3 "_law_start" (sp_law_start K) := by
  have nd := sc__law_start.nd
  refine Kl.by_body D sc__law_start (fun vs H Q E h => ?_) (fun f cdv A outer s H vs Q E hr h => ?_)
  · obtain ⟨_, _, _, rfl, _⟩ := h
    rfl
  · obtain ⟨m, cl, n, rfl, hn, hM, q⟩ := h
    have hu1 := hu_of hr
    refine ⟨_, (pss_cons (ps_par (i := 1) (j := 2) (by rfl) nd rfl rfl (by decide) rfl rfl (pa_cons (pe_op op_add pe_int (pe_k c_law_draw  hr (by decide) (by rfl) (pa_cons (pv 0) (pa_cons pe_int pa_nil)))) (pa_cons (pe_k c_law_of  hr (by decide) (by rfl) (pa_cons (pv 0) (pa_cons (pe_lst (pa_cons pe_int (pa_cons pe_int pa_nil))) pa_nil))) pa_nil)) (by rfl))
      (pss_cons (ps_set (i := 3) nd rfl (by first | exact Or.inl rfl | exact Or.inr rfl) (pe_callTy call_tuple_of (by rfl) T.tuple (by decide +kernel) (pa_cons (pe_op op_cat (pe_lc (own := [("k", 4)]) (g := gName 4) rfl nd (pi_range1 (by rfl) T.range (pa_cons pe_int pa_nil)) (blkOk_by (N := ["m", "n", "size", "five_v", "k"]) (sc := defScope s__law_start) (by decide +kernel)) (fun _ _ _ _ _ => (pg_name (i := 4) nd rfl (by first | exact Or.inl rfl | exact Or.inr rfl))) (fun _ _ _ _ _ => pts_nil) (fun _ _ _ _ _ => (pe_k c_law_between  hr (by decide) (by rfl) (pa_cons (pv 0) (pa_cons pe_int pa_nil))))) (pe_lst (pa_cons (pe_k c_law_between  hr (by decide) (by rfl) (pa_cons (pv 0) (pa_cons (pv 2) pa_nil))) (pa_cons (pe_k c_law_between  hr (by decide) (by rfl) (pa_cons (pv 0) (pa_cons (pv 2) pa_nil))) pa_nil)))) pa_nil)))
      (pss_cons (ps_set (i := 3) nd rfl (by first | exact Or.inl rfl | exact Or.inr rfl) (pe_k c_law_of  hr (by decide) (by rfl) (pa_cons (pv 0) (pa_cons (pe_lst (pa_cons (pv 3) (pa_cons (pv 3) (pa_cons (pe_tup (pa_cons pe_int (pa_cons pe_int (pa_cons pe_int (pa_cons pe_int (pa_cons (pv 1) pa_nil)))))) (pa_cons (pe_tup (pa_cons pe_int (pa_cons pe_int (pa_cons pe_int (pa_cons (pv 1) (pa_cons pe_int pa_nil)))))) (pa_cons (pe_tup (pa_cons pe_int (pa_cons pe_int (pa_cons pe_int (pa_cons (pe_un un_neg (pv 1)) (pa_cons pe_int pa_nil)))))) (pa_cons (pe_tup (pa_cons pe_int (pa_cons pe_int (pa_cons pe_int (pa_cons pe_int (pa_cons (pv 1) pa_nil)))))) pa_nil))))))) pa_nil))))
      (pss_one (ps_ret (pe_ifExp (pt_cmpR op_ne (pe_ix ix_tup (pe_k c_law_numbers  hr (by decide) (by rfl) (pa_cons (pv 3) pa_nil)) pe_int (fun _ _ => rfl)) pe_int (nomark _)) (pv 3) (pe_tup (pa_cons pe_int (pa_cons pe_int (pa_cons pe_int (pa_cons (pe_un un_neg pe_int) (pa_cons pe_int pa_nil)))))))))))), ?_⟩
    refine ⟨.ref m, rfl, m, cl, 9, n, rfl, by decide, by decide, by omega, hM, fun H1 r b1 m1 r0 r1 => ?_⟩
    refine ⟨_, _, rfl, rfl, .ref m, rfl, (by show 2 ≤ sizeLine; decide), fun l1 n1 => ?_⟩
    have s2 := Same.new (H := H1) (p := l1) (o := .lst [.int 4, .int 30]) n1
    have g2 : upd H1 l1 (.lst [.int 4, .int 30]) l1 = some (.lst [.int 4, .int 30]) := upd_same
    generalize upd H1 l1 (.lst [.int 4, .int 30]) = H2 at s2 g2 ⊢
    refine ⟨m, cl, l1, _, n + 1, rfl, lst_of g2, by decide, by decide, by omega, m1.same s2, fun H3 x1 b3 m3 hx1 => ?_⟩
    obtain ⟨z, rfl, z0, z1⟩ : ∃ z : Int, x1 = .int z ∧ 0 ≤ z ∧ z ≤ 30 := by
      simp only [List.mem_cons, List.not_mem_nil, or_false] at hx1
      rcases hx1 with rfl | rfl <;> exact ⟨_, rfl, by decide, by decide⟩
    refine ⟨_, _, rfl, ?_⟩
    have bA : But m H H3 := b1.trans ((But.of s2).trans b3)
    clear b1 m1 s2 g2 b3 hx1
    have hr1 : 1 ≤ 1 + r ∧ 1 + r ≤ 9 := by omega
    first | refine sigN [some (.ref m), some (.int (1 + r)), some (.int (z)), none, none] (by rfl) ?_ | refine sig [some (.ref m), some (.int (1 + r)), some (.int (z)), none, none] (by rfl) ?_
    generalize 1 + r = e at hr1 ⊢
    obtain ⟨e0, e1⟩ := hr1
    refine ⟨3, rfl, by decide, by decide, fun D hD => ?_⟩
    have hmD := m3.ne hD
    refine lc_range (lo := 0) (n := 3) (fun j H4 => ∃ L : List Int, H4 D = some (.lst (L.map V.int)) ∧ L.length = j ∧ (∀ x ∈ L, x.natAbs ≤ 3) ∧ But m H3 H4 ∧ MAt H4 m cl (n + 2 + j)) ⟨[], upd_same, rfl, (by intro x hx; cases hx), But.of (Same.new hD), m3.same (Same.new hD)⟩ (fun j H4 hj z => ?_) (fun H4 z => ?_)
    · obtain ⟨L, hL, el, hB, b4, m4⟩ := z
      refine ⟨rfl, _, rfl, m, cl, 3, n + 2 + j, rfl, by decide, by decide, by omega, m4, fun H5 r b5 m5 r0 r1 => ?_⟩
      refine ⟨_, b5.lst m4 hL, by rw [List.length_map]; exact small1000 (by omega), L ++ [r], ?_, by rw [List.length_append, el]; rfl, ?_, fun c o e nc => ?_, ?_⟩
      · rw [upd_same, List.map_append]
        rfl
      · intro x hx
        rcases List.mem_append.mp hx with hx | hx
        · exact hB x hx
        · rw [List.mem_singleton.mp hx]
          omega
      · rw [upd_ne (ne_of_none e hD)]
        exact (b4.trans b5) c o e nc
      · exact m5.put hmD
    obtain ⟨L, hL, el, hB, b4, m4⟩ := z
    refine ⟨.ref m, rfl, _, rfl, m, cl, z, n + 5, rfl, z0, by omega, by omega, m4, fun H5 r4 b5 m5 r40 r41 => ?_⟩
    refine ⟨.ref m, rfl, _, rfl, m, cl, z, n + 6, rfl, z0, by omega, by omega, m5, fun H6 r6 b6 m6 r60 r61 => ?_⟩
    have hL6 := b6.lst m5 (b5.lst m4 hL)
    refine ⟨(by show 2 ≤ sizeLine; decide), fun l2 n2 => ?_⟩
    have s7 := Same.new (H := H6) (p := l2) (o := .lst [.int r4, .int r6]) n2
    have g7 : upd H6 l2 (.lst [.int r4, .int r6]) l2 = some (.lst [.int r4, .int r6]) := upd_same
    generalize upd H6 l2 (.lst [.int r4, .int r6]) = H7 at s7 g7 ⊢
    refine ⟨D, l2, _, _, rfl, rfl, s7 _ _ hL6, g7, ?_, fun p3 n3 => ?_⟩
    · rw [List.length_map]
      exact small (by rw [el]; show 3 + 2 ≤ 1000; decide)
    obtain ⟨c, hc, ht⟩ : ∃ c : Cv, L.map V.int ++ [V.int r4, V.int r6] = c.tup ∧ c.Tn := by
      match L, el, hB with
      | [x1, x2, x3], _, hB => exact ⟨⟨x1, x2, x3, r4, r6⟩, rfl, hB _ (by simp), hB _ (by simp), hB _ (by simp), by dsimp only; omega, by dsimp only; omega⟩
    rw [hc]
    have s8 := Same.new (H := H7) (p := p3) (o := .lst c.tup) n3
    have g8 : upd H7 p3 (.lst c.tup) p3 = some (.lst c.tup) := upd_same
    generalize upd H7 p3 (.lst c.tup) = H8 at s8 g8 ⊢
    refine ⟨p3, c.tup, rfl, .inl ⟨lst_of g8, fun f nf => ?_⟩⟩
    have s9 := Same.new (H := H8) (p := f) (o := .tup c.tup) nf
    have g9 : upd H8 f (.tup c.tup) f = some (.tup c.tup) := upd_same
    generalize upd H8 f (.tup c.tup) = H9 at s9 g9 ⊢
    have bB : But m H H9 := bA.trans (b4.trans (b5.trans (b6.trans (But.of (s7.trans (s8.trans s9))))))
    have m9 := m6.same (s7.trans (s8.trans s9))
    clear bA m3 b4 m4 b5 m5 b6 m6 s7 s8 s9 g7 g8 hL hL6 hB hmD hc hD
    first | refine sigN [some (.ref m), some (.int (e)), some (.int (z)), some (.ref f), none] (by rfl) ?_ | refine sig [some (.ref m), some (.int (e)), some (.int (z)), some (.ref f), none] (by rfl) ?_
    refine ⟨.ref m, rfl, .ref f, rfl, .ref f, rfl, _, rfl, (by show 5 ≤ sizeLine; decide), fun t1 nt1 => ?_⟩
    have sa := Same.new (H := H9) (p := t1) (o := .tup [.int 0, .int 0, .int 0, .int 0, .int e]) nt1
    have ga : upd H9 t1 (.tup [.int 0, .int 0, .int 0, .int 0, .int e]) t1 = some (.tup [.int 0, .int 0, .int 0, .int 0, .int e]) := upd_same
    generalize upd H9 t1 (.tup [.int 0, .int 0, .int 0, .int 0, .int e]) = Ha at sa ga ⊢
    refine ⟨_, rfl, (by show 5 ≤ sizeLine; decide), fun t2 nt2 => ?_⟩
    have sb := Same.new (H := Ha) (p := t2) (o := .tup [.int 0, .int 0, .int 0, .int e, .int 0]) nt2
    have gb : upd Ha t2 (.tup [.int 0, .int 0, .int 0, .int e, .int 0]) t2 = some (.tup [.int 0, .int 0, .int 0, .int e, .int 0]) := upd_same
    generalize upd Ha t2 (.tup [.int 0, .int 0, .int 0, .int e, .int 0]) = Hb at sb gb ⊢
    refine ⟨_, rfl, _, rfl, (by show 5 ≤ sizeLine; decide), fun t3 nt3 => ?_⟩
    rw [show upd Hb t3 (.tup [.int 0, .int 0, .int 0, (fun i : Int => V.int (-i)) e, .int 0]) = upd Hb t3 (.tup [.int 0, .int 0, .int 0, .int (-e), .int 0]) from rfl]
    have sc := Same.new (H := Hb) (p := t3) (o := .tup [.int 0, .int 0, .int 0, .int (-e), .int 0]) nt3
    have gc : upd Hb t3 (.tup [.int 0, .int 0, .int 0, .int (-e), .int 0]) t3 = some (.tup [.int 0, .int 0, .int 0, .int (-e), .int 0]) := upd_same
    generalize upd Hb t3 (.tup [.int 0, .int 0, .int 0, .int (-e), .int 0]) = Hc at sc gc ⊢
    refine ⟨_, rfl, (by show 5 ≤ sizeLine; decide), fun t4 nt4 => ?_⟩
    have sd := Same.new (H := Hc) (p := t4) (o := .tup [.int 0, .int 0, .int 1, .int 0, .int e]) nt4
    have gd : upd Hc t4 (.tup [.int 0, .int 0, .int 1, .int 0, .int e]) t4 = some (.tup [.int 0, .int 0, .int 1, .int 0, .int e]) := upd_same
    generalize upd Hc t4 (.tup [.int 0, .int 0, .int 1, .int 0, .int e]) = Hd at sd gd ⊢
    refine ⟨(by show 6 ≤ sizeLine; decide), fun l3 nl3 => ?_⟩
    have se := Same.new (H := Hd) (p := l3) (o := .lst [.ref f, .ref f, .ref t1, .ref t2, .ref t3, .ref t4]) nl3
    have ge : upd Hd l3 (.lst [.ref f, .ref f, .ref t1, .ref t2, .ref t3, .ref t4]) l3 = some (.lst [.ref f, .ref f, .ref t1, .ref t2, .ref t3, .ref t4]) := upd_same
    generalize upd Hd l3 (.lst [.ref f, .ref f, .ref t1, .ref t2, .ref t3, .ref t4]) = He at se ge ⊢
    refine ⟨m, cl, l3, _, n + 7, rfl, lst_of ge, by show 0 < 6; decide, by show 6 ≤ 1000; decide, by omega, m9.same (sa.trans (sb.trans (sc.trans (sd.trans se)))), fun Hf x2 bf mf hx2 => ?_⟩
    have mE := m9.same (sa.trans (sb.trans (sc.trans (sd.trans se))))
    obtain ⟨g, c2, rfl, hg, ht2⟩ : ∃ (g : Addr) (c2 : Cv), x2 = .ref g ∧ SqT K Hf g c2.tup ∧ c2.Tn := by
      simp only [List.mem_cons, List.not_mem_nil, or_false] at hx2
      rcases hx2 with rfl | rfl | rfl | rfl | rfl | rfl
      · exact ⟨f, c, rfl, bf.seqT mE (tup_of ((sa.trans (sb.trans (sc.trans (sd.trans se)))) _ _ g9)), ht⟩
      · exact ⟨f, c, rfl, bf.seqT mE (tup_of ((sa.trans (sb.trans (sc.trans (sd.trans se)))) _ _ g9)), ht⟩
      · exact ⟨t1, ⟨0, 0, 0, 0, e⟩, rfl, bf.seqT mE (tup_of ((sb.trans (sc.trans (sd.trans se))) _ _ ga)), by dsimp only; omega, by dsimp only; omega, by dsimp only; omega, by dsimp only; omega, by dsimp only; omega⟩
      · exact ⟨t2, ⟨0, 0, 0, e, 0⟩, rfl, bf.seqT mE (tup_of ((sc.trans (sd.trans se)) _ _ gb)), by dsimp only; omega, by dsimp only; omega, by dsimp only; omega, by dsimp only; omega, by dsimp only; omega⟩
      · exact ⟨t3, ⟨0, 0, 0, -e, 0⟩, rfl, bf.seqT mE (tup_of ((sd.trans se) _ _ gc)), by dsimp only; omega, by dsimp only; omega, by dsimp only; omega, by dsimp only; omega, by dsimp only; omega⟩
      · exact ⟨t4, ⟨0, 0, 1, 0, e⟩, rfl, bf.seqT mE (tup_of (se _ _ gd)), by dsimp only; omega, by dsimp only; omega, by dsimp only; omega, by dsimp only; omega, by dsimp only; omega⟩
    have bC : But m H Hf := bB.trans ((But.of (sa.trans (sb.trans (sc.trans (sd.trans se))))).trans bf)
    clear bB bf mE sa sb sc sd se ga gb gc gd ge g9 hx2
    first | refine sigN [some (.ref m), some (.int (e)), some (.int (z)), some (.ref g), none] (by rfl) ?_ | refine sig [some (.ref m), some (.int (e)), some (.int (z)), some (.ref g), none] (by rfl) ?_
    refine ⟨.ref g, rfl, g, c2, rfl, hg, ht2.sm, fun u nu => ?_⟩
    have sg := Same.new (H := Hf) (p := u) (o := .tup c2.nums) nu
    have gu : upd Hf u (.tup c2.nums) u = some (.tup c2.nums) := upd_same
    generalize upd Hf u (.tup c2.nums) = Hg at sg gu ⊢
    refine ⟨u, _, 6, .int c2.disc, rfl, rfl, tup_of gu, rfl, rfl, _, rfl, ?_⟩
    rw [dec_int]
    by_cases hd : c2.disc = 0
    · refine iteN (by simp [hd]) ?_
      refine ⟨_, rfl, (by show 5 ≤ sizeLine; decide), fun tz ntz => ?_⟩
      rw [show upd Hg tz (.tup [.int 0, .int 0, .int 1, (fun i : Int => V.int (-i)) 1, .int 0]) = upd Hg tz (.tup (Cv.tup ⟨0, 0, 1, -1, 0⟩)) from rfl]
      have sz := Same.new (o := .tup (Cv.tup ⟨0, 0, 1, -1, 0⟩)) ntz
      exact q _ tz ⟨0, 0, 1, -1, 0⟩ (bC.trans (But.of (sg.trans sz))) ((mf.same (sg.trans sz)).up (by omega)) (tup_of upd_same) ⟨by decide, by decide, by decide, by decide, by decide⟩ (by decide)
    · refine iteY (by simp [hd]) ?_
      exact ⟨.ref g, rfl, q _ g c2 (bC.trans (But.of sg)) ((mf.same sg).up (by omega)) (Same.tup sg hg) ht2 hd⟩
end
end K08
set_option linter.all false
set_option maxRecDepth 100000
/-! numbers without square factors: plain Lean -/
namespace K08
open QM K08M
def Sqf (x : Nat) : Prop := ∀ q, Irr q → ¬ q * q ∣ x
theorem Free.sqf {d f : Int} (h : Free d f) : Sqf f.natAbs := fun q hq => h.2 q hq.1
theorem irr_has {n : Nat} (h : 2 ≤ n) : ∃ q, Irr q ∧ q ∣ n := by
  obtain ⟨d, d2, dn, hd⟩ := least_div h
  exact ⟨d, ⟨d2, hd⟩, dn⟩
theorem irr_cop2 {p q : Nat} (hp : Irr p) (hq : Irr q) (h : p ≠ q) : Nat.Coprime p q := by
  rcases Nat.lt_or_gt_of_ne h with z | z
  · exact (irr_cop hq.2 hq.1 (by have := hp.1; omega) z).symm
  · exact irr_cop hp.2 hp.1 (by have := hq.1; omega) z
theorem sqf_sq {x : Nat} (hx : Sqf x) {p : Nat} (h2 : 2 ≤ p) : ¬ p * p ∣ x := fun h => by
  obtain ⟨q, hq, qp⟩ := irr_has h2
  exact hx q hq (Nat.dvd_trans (Nat.mul_dvd_mul qp qp) h)
/-- from x x f = y y g with f and g without square factors: f = g -/
theorem sqf_one {x y f g : Nat} (hx : 0 < x) (hy : 0 < y) (hf : Sqf f) (hg : Sqf g) (e : x * x * f = y * y * g) : f = g := by
  obtain ⟨k, a, b, hk, hc, rfl, rfl⟩ : ∃ k a b : Nat, 0 < k ∧ Nat.Coprime a b ∧ x = a * k ∧ y = b * k := by
    have hk : 0 < Nat.gcd x y := Nat.gcd_pos_of_pos_left _ hx
    exact ⟨Nat.gcd x y, x / Nat.gcd x y, y / Nat.gcd x y, hk, Nat.coprime_div_gcd_div_gcd hk, (Nat.div_mul_cancel (Nat.gcd_dvd_left x y)).symm, (Nat.div_mul_cancel (Nat.gcd_dvd_right x y)).symm⟩
  have e2 : a * a * f = b * b * g := by
    refine Nat.eq_of_mul_eq_mul_left (Nat.mul_pos hk hk) ?_
    calc k * k * (a * a * f) = a * k * (a * k) * f := by ac_rfl
      _ = b * k * (b * k) * g := e
      _ = _ := by ac_rfl
  have hc2 : Nat.Coprime (a * a) (b * b) := by
    have := Nat.Coprime.pow 2 2 hc
    rwa [Nat.pow_two, Nat.pow_two] at this
  have h1 : b * b ∣ f := Nat.Coprime.dvd_of_dvd_mul_left hc2.symm ⟨g, e2⟩
  have h2 : a * a ∣ g := Nat.Coprime.dvd_of_dvd_mul_left hc2 ⟨f, e2.symm⟩
  have ha : 0 < a := Nat.pos_of_ne_zero (fun z => by rw [z, Nat.zero_mul] at hx; exact absurd hx (Nat.lt_irrefl _))
  have hb : 0 < b := Nat.pos_of_ne_zero (fun z => by rw [z, Nat.zero_mul] at hy; exact absurd hy (Nat.lt_irrefl _))
  have b1 : b = 1 := by
    rcases Nat.lt_or_ge b 2 with z | z
    · omega
    · exact absurd h1 (sqf_sq hf z)
  have a1 : a = 1 := by
    rcases Nat.lt_or_ge a 2 with z | z
    · omega
    · exact absurd h2 (sqf_sq hg z)
  subst a1 b1
  omega
/-- numbers that differ by squares have one class -/
theorem free_one {N M x y f g : Int} (hx : x ≠ 0) (hy : y ≠ 0) (e : x * x * N = y * y * M) (hf : Free N f) (hg : Free M g) : f = g := by
  have sf := hf.sqf
  have sg := hg.sqf
  obtain ⟨⟨s, s0, rfl⟩, _⟩ := hf
  obtain ⟨⟨t, t0, rfl⟩, _⟩ := hg
  have hs : 0 < s * x.natAbs := Nat.mul_pos s0 (by omega)
  have ht : 0 < t * y.natAbs := Nat.mul_pos t0 (by omega)
  have e1 := congrArg Int.natAbs e
  simp only [Int.natAbs_mul, Int.natAbs_natCast] at e1
  have e2 := sqf_one hs ht sf sg (by
    calc s * x.natAbs * (s * x.natAbs) * f.natAbs = x.natAbs * x.natAbs * (s * s * f.natAbs) := by ac_rfl
      _ = y.natAbs * y.natAbs * (t * t * g.natAbs) := e1
      _ = _ := by ac_rfl)
  have px : 0 < x * x := by
    rcases (show 0 < x ∨ x < 0 by omega) with z | z
    · exact Int.mul_pos z z
    · exact Int.mul_pos_of_neg_of_neg z z
  have py : 0 < y * y := by
    rcases (show 0 < y ∨ y < 0 by omega) with z | z
    · exact Int.mul_pos z z
    · exact Int.mul_pos_of_neg_of_neg z z
  have ps : 0 < (s : Int) * s := Int.mul_pos (by omega) (by omega)
  have pt : 0 < (t : Int) * t := Int.mul_pos (by omega) (by omega)
  rcases Int.natAbs_eq_natAbs_iff.mp e2 with z | z
  · exact z
  · by_cases g0 : g = 0
    · omega
    · exfalso
      subst z
      have h1 : 0 < x * x * ((s : Int) * s) := Int.mul_pos px ps
      have h2 : 0 < y * y * ((t : Int) * t) := Int.mul_pos py pt
      have h3 : (x * x * ((s : Int) * s) + y * y * ((t : Int) * t)) * g = 0 := by grind
      rcases Int.mul_eq_zero.mp h3 with w | w
      · omega
      · exact g0 w
theorem Free.refl {d : Int} (h : Sqf d.natAbs) : Free d d := ⟨⟨1, by decide, by simp⟩, fun p hp => sqf_sq h hp⟩
theorem Free.abs {d f : Int} (h : Free d f) : Free (d.natAbs : Int) (f.natAbs : Int) := by
  obtain ⟨⟨s, s0, rfl⟩, h2⟩ := h
  refine ⟨⟨s, s0, ?_⟩, ?_⟩
  · rw [Int.natAbs_mul, Int.natAbs_mul, Int.natAbs_natCast, Int.natCast_mul, Int.natCast_mul]
  · rw [Int.natAbs_natCast]
    exact h2
theorem Free.le {d f : Int} (h : Free d f) : f.natAbs ≤ d.natAbs := by
  obtain ⟨⟨s, s0, rfl⟩, _⟩ := h
  rw [Int.natAbs_mul, Int.natAbs_mul, Int.natAbs_natCast]
  have : 1 * 1 ≤ s * s := Nat.mul_le_mul s0 s0
  have := Nat.mul_le_mul_right f.natAbs this
  omega
/-! ### the steps of the program's search -/
theorem irr_of_least {p rest : Nat} (h2 : 2 ≤ p) (hd : p ∣ rest) (h : ∀ q, Irr q → q < p → ¬ q ∣ rest) : Irr p := by
  refine ⟨h2, fun e e2 ed => ?_⟩
  obtain ⟨q, hq, qe⟩ := irr_has e2
  have h1 : q ∣ rest := Nat.dvd_trans qe (Nat.dvd_trans ed hd)
  have h3 : e ≤ p := Nat.le_of_dvd (by omega) ed
  have h4 : q ≤ e := Nat.le_of_dvd (by omega) qe
  rcases Nat.lt_or_ge q p with z | z
  · exact absurd h1 (h q hq z)
  · omega
theorem sqf_mul {x p : Nat} (hx : Sqf x) (hp : Irr p) (h : ¬ p ∣ x) : Sqf (x * p) := fun q hq hd => by
  by_cases e : q = p
  · subst e
    have hq0 : 0 < q := by have := hq.1; omega
    exact h (Nat.dvd_of_mul_dvd_mul_right hq0 hd)
  · have hc : Nat.Coprime (q * q) p := by
      have := Nat.Coprime.pow 2 1 (irr_cop2 hq hp e)
      rwa [Nat.pow_two, Nat.pow_one] at this
    exact hx q hq (Nat.Coprime.dvd_of_dvd_mul_right hc hd)
theorem irr_dvd_mul {q a b : Nat} (hq : Irr q) (h : q ∣ a * b) : q ∣ a ∨ q ∣ b := by
  by_cases z : q ∣ a
  · exact .inl z
  · right
    have hg : Nat.gcd q a ∣ q := Nat.gcd_dvd_left q a
    have hc : Nat.Coprime q a := by
      unfold Nat.Coprime
      rcases Nat.lt_or_ge (Nat.gcd q a) 2 with y | y
      · have : Nat.gcd q a ≠ 0 := fun w => by
          have := (Nat.gcd_eq_zero_iff.mp w).1
          have := hq.1
          omega
        omega
      · have e := hq.2 _ y hg
        exact absurd (e ▸ Nat.gcd_dvd_right q a) z
    exact Nat.Coprime.dvd_of_dvd_mul_left hc h
/-- what is left at the end is 1 or cannot be divided -/
theorem rest_irr {p rest : Nat} (h0 : 0 < rest) (h : ∀ q, Irr q → q < p → ¬ q ∣ rest) (hp : rest < p * p) : rest = 1 ∨ Irr rest := by
  rcases Nat.lt_or_ge rest 2 with z | z
  · left
    omega
  · right
    obtain ⟨q, hq, qr⟩ := irr_has z
    rcases Nat.lt_or_ge q p with y | y
    · exact absurd qr (h q hq y)
    · obtain ⟨k, rfl⟩ := qr
      rcases Nat.lt_or_ge k 2 with w | w
      · have : k = 1 := by
          rcases Nat.lt_or_ge k 1 with v | v
          · have : k = 0 := by omega
            subst this
            omega
          · omega
        subst this
        rw [Nat.mul_one]
        exact hq
      · exfalso
        obtain ⟨q2, hq2, qk⟩ := irr_has w
        have h1 : q2 ∣ q * k := Nat.dvd_mul_left_of_dvd qk q
        rcases Nat.lt_or_ge q2 p with v | v
        · exact h q2 hq2 v h1
        · have h2 : q2 ≤ k := Nat.le_of_dvd (by omega) qk
          have : p * p ≤ q * k := Nat.mul_le_mul y (by omega)
          omega
theorem irr_no_sq {n : Nat} (h : Irr n) (r : Nat) : ¬ r * r = n := fun e => by
  have h2 := h.1
  rcases Nat.lt_or_ge r 2 with z | z
  · have : r = 0 ∨ r = 1 := by omega
    rcases this with rfl | rfl <;> omega
  · have e1 := h.2 r z ⟨r, e.symm⟩
    subst e1
    have : 2 * r ≤ r * r := Nat.mul_le_mul_right _ z
    omega
end K08
set_option Elab.async false
set_option linter.all false
set_option maxRecDepth 100000
set_option maxHeartbeats 4000000
namespace K08
open PySem PySem.Spec PyProof.Rows L2 Gd QM K08M
local macro_rules | `(tactic| walk_at "mo") => `(tactic| (repeat (first | with_reducible apply MoT.or | with_reducible apply MoT.and | with_reducible apply MoT.test | with_reducible apply MoE.op | with_reducible apply MoE.cb | with_reducible exact MoE.var | with_reducible exact MoE.c | with_reducible exact MoA.nil | with_reducible apply MoA.cons | exact MoR.eq | exact MoR.ne | exact MoR.i | exact MoR.i0 | exact MoB.i | exact MoB.i2 (g := fun i j => V.int (if j < i then j else i)) | exact MoB.i2 | exact MoB.gcd | with_reducible apply MoE.tup | with_reducible apply MoE.ifx)))
local macro_rules | `(tactic| walk_at "bd") => `(tactic| (repeat (first | assumption | apply B.add | apply B.sub | apply B.mul | apply B.neg | exact B.lit (n := 8) (by decide))))
local macro_rules | `(tactic| walk_at "bnd") => `(tactic| (apply B.mulW; walk_at "bd"; decide))
section
variable {P : Program} {w : World} {K : PySem.W.Frag} {mg : Str → Option Value} {base : Heap}
def sp_is_square (K : PySem.W.Frag) : Sp := fun vs H Q _ => ∃ n : Nat, vs = [.int (n : Int)] ∧ n < 2 ^ 100 ∧ (∀ r : Nat, r * r = n → Q (.bl true) H) ∧ ((∀ r : Nat, r * r ≠ n) → Q (.bl false) H)
abbrev s_is_square : Stmt := topS 4
theorem sc_is_square : FnScope ["n", "r"] ["n"] (defScope s_is_square) := ⟨rfl, rfl, rfl, by decide +kernel, rfl, by decide +kernel, by decide +kernel⟩
theorem k_is_square (T : Tx K mg) (D : Df K mg "is_square" s_is_square ["n"])  : Kl P w K mg base 1 "is_square" (sp_is_square K) := by
  have nd := sc_is_square.nd
  refine Kl.by_body D sc_is_square (fun vs H Q E h => ?_) (fun f cdv A outer s H vs Q E hr h => ?_)
  · obtain ⟨_, rfl, _⟩ := h
    rfl
  · obtain ⟨n, rfl, hn, q1, q2⟩ := h
    have hu1 := hu_of hr
    refine ⟨_, (pss_cons (ps_if (pt_cmpR op_lt (pv 0) pe_int (nomark _)) (pss_one (ps_ret pe_bl)) pss_nil)
      (pss_cons (ps_set (i := 1) nd rfl (by first | exact Or.inl rfl | exact Or.inr rfl) (pe_callBfun cr_isqrt (by rfl) T.isqrt (pa_cons (pv 0) pa_nil)))
      (pss_one (ps_ret (pe_cmpR op_eq (pe_op op_mulW (pv 1) (pv 1)) (pv 0) (nomark _)))))), ?_⟩
    refine ⟨_, rfl, _, _, rfl, rfl, _, rfl, iteN (by simp) ?_⟩
    obtain ⟨z1, z2⟩ := isqrt_is (n := (n : Int)) (by omega)
    have hB4 : ((n : Int)).natAbs < 2 ^ 4000 := by
      rw [Int.natAbs_natCast]
      exact Nat.lt_of_lt_of_le hn (Nat.pow_le_pow_right (by decide) (by decide))
    refine ⟨_, rfl, (n : Int), rfl, by omega, hB4, ?_⟩
    obtain ⟨y, hy⟩ : ∃ y : Nat, PySem.Float64.isqrt (n : Int).toNat = y := ⟨_, rfl⟩
    rw [hy] at z1 z2 ⊢
    have yn : y ≤ n := by
      rcases Nat.lt_or_ge y 1 with e | e
      · omega
      · have h1 : 1 * y ≤ y * y := Nat.mul_le_mul_right _ e
        have h2 : y * y ≤ n := by exact_mod_cast z1
        omega
    have yB : B 100 (y : Int) := by
      unfold B
      rw [Int.natAbs_natCast]
      omega
    refine ⟨_, rfl, _, rfl, _, _, rfl, rfl, yB.mulW yB (by decide), _, rfl, rfl, ?_⟩
    rw [dec_int]
    by_cases hs : y * y = n
    · have e : decide ((y : Int) * y = (n : Int)) = true := decide_eq_true (by exact_mod_cast hs)
      show Q (.bl ((y : Int) * y == (n : Int))) H
      rw [show ((y : Int) * y == (n : Int)) = true from e]
      exact q1 y hs
    · have e : decide ((y : Int) * y = (n : Int)) = false := decide_eq_false (fun z => hs (by exact_mod_cast z))
      show Q (.bl ((y : Int) * y == (n : Int))) H
      rw [show ((y : Int) * y == (n : Int)) = false from e]
      refine q2 (fun r hr' => hs ?_)
      have h1 : ((r : Int)) ≤ (y : Int) := z2 (r : Int) (by omega) (by exact_mod_cast Nat.le_of_eq hr')
      have h2 : r * r ≤ y * y := Nat.mul_le_mul (by omega) (by omega)
      have h3 : y * y ≤ n := by exact_mod_cast z1
      omega
def sp_small_class (K : PySem.W.Frag) : Sp := fun vs H Q _ => ∃ (f : Addr) (a : Rat) (g : Int), vs = [.ref f] ∧ SqT K H f (fq a) ∧ a ≠ 0 ∧ (a.num * (a.den : Int)).natAbs < 100000000 ∧ Free (a.num * (a.den : Int)) g ∧ g.natAbs ≤ 10000 ∧ Q (.int g) H
abbrev s_small_class : Stmt := topS 52
theorem sc_small_class : FnScope ["f", "n", "d", "rest", "result", "p", "odd"] ["f"] (defScope s_small_class) := ⟨rfl, rfl, rfl, by decide +kernel, rfl, by decide +kernel, by decide +kernel⟩
theorem k_small_class (T : Tx K mg) (D : Df K mg "small_class" s_small_class ["f"]) (c_is_square : Kl P w K mg base 1 "is_square" (sp_is_square K)) : Kl P w K mg base 2 "small_class" (sp_small_class K) := by
  have nd := sc_small_class.nd
  refine Kl.by_body D sc_small_class (fun vs H Q E h => ?_) (fun f cdv A outer s H vs Q E hr h => ?_)
  · obtain ⟨_, _, _, rfl, _⟩ := h
    rfl
  · obtain ⟨f, a, g, rfl, hf, ha, hN, hg, hg4, q⟩ := h
    have hu1 := hu_of hr
    refine ⟨_, (pss_cons (ps_asg (pv 0) (pg_tup rfl (pgs_cons (pg_name (i := 1) nd rfl (by first | exact Or.inl rfl | exact Or.inr rfl)) (pgs_cons (pg_name (i := 2) nd rfl (by first | exact Or.inl rfl | exact Or.inr rfl)) pgs_nil))))
      (pss_cons (ps_set (i := 3) nd rfl (by first | exact Or.inl rfl | exact Or.inr rfl) (pe_callB call_abs (by rfl) T.abs (by decide +kernel) (pa_cons (pe_op op_mulW (pv 1) (pv 2)) pa_nil)))
      (C8.pss_cut (ps_set (i := 4) nd rfl (by first | exact Or.inl rfl | exact Or.inr rfl) (pe_ifExp (pt_cmpR op_gt (pv 1) pe_int (nomark _)) pe_int (pe_un un_neg pe_int)))
      (pss_cons (ps_set (i := 5) nd rfl (by first | exact Or.inl rfl | exact Or.inr rfl) pe_int)
      (pss_cons (ps_while PassesOwn.never (PW.pt (pw_and (pt_cmpR op_le (pv 5) (pe_kon (by rfl) T.c_MOST) (nomark _)) (pw_and1 (pt_cmpR op_le (pe_op op_mulW (pv 5) (pv 5)) (pv 3) (nomark _))))) (pss_cons (ps_set (i := 6) nd rfl (by first | exact Or.inl rfl | exact Or.inr rfl) pe_bl)
      (pss_cons (ps_while PassesOwn.never (pt_cmpR op_eq (pe_op op_mod (pv 3) (pv 5)) pe_int (nomark _)) (pss_cons (ps_aug (i := 3) nd rfl (by first | exact Or.inl rfl | exact Or.inr rfl) (pv 5) ip_fdivAny)
      (pss_one (ps_set (i := 6) nd rfl (by first | exact Or.inl rfl | exact Or.inr rfl) (pe_not (pv 6))))))
      (pss_cons (ps_if (pt_val (pv 6)) (pss_one (ps_set (i := 4) nd rfl (by first | exact Or.inl rfl | exact Or.inr rfl) (pe_op op_mulW (pv 4) (pv 5)))) pss_nil)
      (pss_one (ps_aug (i := 5) nd rfl (by first | exact Or.inl rfl | exact Or.inr rfl) pe_int ip_add))))))
      (pss_cons (ps_if (pt_not (pt_val (pe_k c_is_square  hr (by decide) (by rfl) (pa_cons (pv 3) pa_nil)))) (pss_one (ps_set (i := 4) nd rfl (by first | exact Or.inl rfl | exact Or.inr rfl) (pe_op op_mulW (pv 4) (pv 3)))) pss_nil)
      (pss_one (ps_ret (pe_ifExp (pt_cmpR op_le (pe_callB call_abs (by rfl) T.abs (by decide +kernel) (pa_cons (pv 4) pa_nil)) (pe_kon (by rfl) T.c_MOST) (nomark _)) (pv 4) pe_non))))))))), ?_⟩
    refine ⟨.ref f, rfl, f, _, rfl, hf, rfl, _, _, rfl, _, _, rfl, rfl, ?_⟩
    have hn0 := num_ne ha
    have hd0 := den_ne a
    have hdp : (0 : Int) < (a.den : Int) := by omega
    obtain ⟨n, hn⟩ : ∃ n : Int, a.num = n := ⟨_, rfl⟩
    obtain ⟨d, hd⟩ : ∃ d : Nat, a.den = d := ⟨_, rfl⟩
    rw [hn] at hN hg hn0
    rw [hd] at hN hg hd0 hdp
    have hNN : n * (d : Int) ≠ 0 := Int.mul_ne_zero hn0 hd0
    have hna : n.natAbs < 100000000 := by
      rw [Int.natAbs_mul, Int.natAbs_natCast] at hN
      have : n.natAbs * 1 ≤ n.natAbs * d := Nat.mul_le_mul_left _ (by omega)
      omega
    have hda : d < 100000000 := by
      rw [Int.natAbs_mul, Int.natAbs_natCast] at hN
      have : 1 * d ≤ n.natAbs * d := Nat.mul_le_mul_right _ (by omega)
      omega
    have bn : B 30 n := by
      unfold B
      omega
    have bd : B 30 (d : Int) := by
      unfold B
      omega
    first | refine sigN [some (.ref f), some (.int n), some (.int (d : Int)), none, none, none, none] (by rw [← hn, ← hd]; rfl) ?_ | refine sig [some (.ref f), some (.int n), some (.int (d : Int)), none, none, none, none] (by rw [← hn, ← hd]; rfl) ?_
    refine ⟨_, rfl, _, rfl, _, _, rfl, rfl, bn.mulW bd (by decide), _, rfl, ?_⟩
    rw [abs_eq]
    obtain ⟨M, hM⟩ : ∃ M : Nat, (n * (d : Int)).natAbs = M := ⟨_, rfl⟩
    have hM0 : 0 < M := by omega
    rw [hM] at hN ⊢
    first | refine sigN [some (.ref f), some (.int (n)), some (.int ((d : Int))), some (.int ((M : Int))), none, none, none] (by rfl) ?_ | refine sig [some (.ref f), some (.int (n)), some (.int ((d : Int))), some (.int ((M : Int))), none, none, none] (by rfl) ?_
    obtain ⟨sg, hsg, hsgN⟩ : ∃ sg : Int, (sg = 1 ∨ sg = -1) ∧ n * (d : Int) = sg * M ∧ (0 < n ↔ sg = 1) := by
      rcases (show 0 < n ∨ n < 0 by omega) with z | z
      · have := Int.mul_pos z hdp
        exact ⟨1, .inl rfl, by omega, by simp [z]⟩
      · have := Int.mul_neg_of_neg_of_pos z hdp
        exact ⟨-1, .inr rfl, by omega, by simp; omega⟩
    obtain ⟨hsM, hs1⟩ := hsgN
    refine ⟨fun σ H' => H' = H ∧ σ = [some (.ref f), some (.int n), some (.int (d : Int)), some (.int (M : Int)), some (.int sg), none, none], ?_, ?_⟩
    · refine ⟨_, rfl, _, _, rfl, rfl, _, rfl, ite2 (fun e => ?_) (fun e => ?_)⟩
      · have e' : 0 < n := of_decide_eq_true e
        rw [hs1.mp e']
        exact ⟨rfl, rfl⟩
      · have e' : ¬ 0 < n := fun z => e (decide_eq_true z)
        have : sg = -1 := by
          rcases hsg with z | z
          · exact absurd (hs1.mpr z) e'
          · exact z
        rw [this]
        exact ⟨_, rfl, rfl, rfl⟩
    rintro σ H' ⟨rfl, rfl⟩
    have bsg : B 1 sg := by
      rcases hsg with rfl | rfl <;> exact B.lit (by decide)
    refine while_by (fun σ H2 => ∃ (rest s res p : Nat) (v : Option V), σ = [some (.ref f), some (.int n), some (.int (d : Int)), some (.int (rest : Int)), some (.int (sg * (res : Int))), some (.int (p : Int)), v] ∧ H2 = H' ∧ 0 < rest ∧ 0 < s ∧ 0 < res ∧ M = s * s * (res * rest) ∧ (∀ q, Irr q → q < p → ¬ q ∣ rest) ∧ Sqf res ∧ (∀ q, Irr q → q ∣ res → q < p) ∧ 2 ≤ p ∧ p ≤ 10000)
      (fun σ _ => match σ with | [_, _, _, _, _, some (.int p), _] => 20000 - p.toNat | _ => 0) ⟨M, 1, 1, 2, none, by rw [Int.natCast_one, Int.mul_one]; rfl, rfl, hM0, by decide, by decide, by omega, fun q hq h2 => absurd hq.1 (by omega), fun q hq h => by have := Nat.le_of_dvd (by decide) h; have h1 := hq.1; have : 2 * 2 ≤ q * q := Nat.mul_le_mul h1 h1; omega, fun q hq h => by have := Nat.le_of_dvd (by decide) h; have := hq.1; omega, by decide, by decide⟩ ?_ ?_
    · rintro σ H2 ⟨rest, s, res, p, v, rfl, rfl, r0, s0, e0, hMe, hlow, hsq, hdiv, h2, hp4⟩
      have hrestM : res * rest ≤ M := by
        have h1 : 1 * 1 ≤ s * s := Nat.mul_le_mul s0 s0
        have h2 := Nat.mul_le_mul_right (res * rest) h1
        omega
      have hrM : rest ≤ M := by
        have : 1 * rest ≤ res * rest := Nat.mul_le_mul_right _ e0
        omega
      have heM : res ≤ M := by
        have : res * 1 ≤ res * rest := Nat.mul_le_mul_left _ r0
        omega
      have bp : B 17 (p : Int) := by
        unfold B
        omega
      have be : B 30 (res : Int) := by
        unfold B
        omega
      have br : B 30 (rest : Int) := by
        unfold B
        omega
      refine ⟨_, rfl, (p : Int), 10000, rfl, rfl, _, rfl, iteY (decide_eq_true (by omega)) ?_⟩
      refine ⟨_, rfl, _, rfl, _, _, rfl, rfl, bp.mulW bp (by decide), _, rfl, _, _, rfl, rfl, _, rfl, ?_⟩
      by_cases hc : p * p ≤ rest
      · refine iteY (decide_eq_true (by rw [← Int.natCast_mul]; exact Int.ofNat_le.mpr hc)) ?_
        have p9 : p ≤ 9999 := by
          rcases Nat.lt_or_ge 9999 p with z | z
          · have : 10000 * 10000 ≤ p * p := Nat.mul_le_mul z z
            omega
          · exact z
        refine while_by (fun σ H4 => ∃ (m k : Nat), σ = [some (.ref f), some (.int n), some (.int (d : Int)), some (.int (m : Int)), some (.int (sg * (res : Int))), some (.int (p : Int)), some (.bl (k % 2 == 1))] ∧ H4 = H2 ∧ rest = p ^ k * m ∧ 0 < m)
          (fun σ _ => match σ with | [_, _, _, some (.int m), _, _, _] => m.toNat | _ => 0) ⟨rest, 0, rfl, rfl, by rw [Nat.pow_zero, Nat.one_mul], r0⟩ ?_ ?_
        · rintro σ H4 ⟨m, k, rfl, rfl, em, m0⟩
          refine ⟨_, rfl, _, rfl, _, _, rfl, rfl, (by show (0 : Int) < (p : Int); omega), rfl, _, rfl, ?_⟩
          rw [dec_int]
          by_cases hm : m % p = 0
          · refine iteY (beq_iff_eq.mpr (by rw [← Int.natCast_emod, hm]; rfl)) ?_
            have hd2 : m / p < m := Nat.div_lt_self m0 (by omega)
            have hp0 : 0 < m / p := Nat.div_pos (Nat.le_of_dvd m0 (Nat.dvd_of_mod_eq_zero hm)) (by omega)
            have ed : ((m : Int)).fdiv (p : Int) = ((m / p : Nat) : Int) := by
              rw [Int.fdiv_eq_ediv_of_nonneg _ (by omega)]
              exact (Int.natCast_ediv m p).symm
            have eo : (!(k % 2 == 1)) = ((k + 1) % 2 == 1) := by
              rcases Nat.mod_two_eq_zero_or_one k with z | z
              · rw [z, show (k + 1) % 2 = 1 by omega]
                rfl
              · rw [z, show (k + 1) % 2 = 0 by omega]
                rfl
            refine ⟨_, rfl, _, rfl, (m : Int), (p : Int), rfl, rfl, div_any (by omega) bp (by decide), ?_⟩
            refine ⟨_, rfl, _, rfl, ?_⟩
            refine ⟨⟨m / p, k + 1, by rw [← ed, ← eo]; rfl, rfl, ?_, hp0⟩, ?_⟩
            · rw [em, Nat.pow_succ, Nat.mul_assoc, Nat.mul_div_cancel' (Nat.dvd_of_mod_eq_zero hm)]
            · show ((m : Int).fdiv (p : Int)).toNat < m
              rw [ed]
              exact hd2
          · refine iteN (fun z => hm ?_) ?_
            · have := beq_iff_eq.mp z
              rw [← Int.natCast_emod] at this
              exact Int.ofNat_eq_zero.mp this
            have hmr : m ∣ rest := ⟨p ^ k, by rw [em, Nat.mul_comm]⟩
            have hlow2 : ∀ q, Irr q → q < p + 1 → ¬ q ∣ m := fun q hq lt dv => by
              rcases Nat.lt_or_ge q p with z | z
              · exact hlow q hq z (Nat.dvd_trans dv hmr)
              · have : q = p := by omega
                subst this
                exact hm (Nat.mod_eq_zero_of_dvd dv)
            by_cases ho : k % 2 = 1
            · have hpI : Irr p := irr_of_least h2 (by
                obtain ⟨j, rfl⟩ : ∃ j, k = j + 1 := ⟨k - 1, by omega⟩
                exact ⟨p ^ j * m, by rw [em, Nat.pow_succ]; ac_rfl⟩) hlow
              have hpn : ¬ p ∣ res := fun dv => absurd (hdiv p hpI dv) (Nat.lt_irrefl _)
              refine ⟨_, rfl, _, rfl, iteY (beq_iff_eq.mpr ho) ?_⟩
              refine ⟨_, rfl, _, rfl, _, _, rfl, rfl, (bsg.mul be).mulW bp (by decide), ?_⟩
              refine ⟨_, rfl, _, _, rfl, rfl, ?_⟩
              refine ⟨⟨m, s * p ^ (k / 2), res * p, p + 1, some (.bl (k % 2 == 1)), by rw [Int.natCast_mul, ← Int.mul_assoc]; rfl, rfl, m0, Nat.mul_pos s0 (Nat.pow_pos (by omega)), Nat.mul_pos e0 (by omega), ?_, hlow2, sqf_mul hsq hpI hpn, fun q hq dv => ?_, by omega, by omega⟩, ?_⟩
              · have ek : p ^ k = p ^ (k / 2) * p ^ (k / 2) * p := by
                  rw [← Nat.pow_add, ← Nat.pow_succ]
                  congr 1
                  omega
                rw [hMe, em, ek]
                ac_rfl
              · rcases irr_dvd_mul hq dv with z | z
                · have := hdiv q hq z
                  omega
                · have := Nat.le_of_dvd (by omega) z
                  omega
              · show 20000 - ((p : Int) + 1).toNat < 20000 - (p : Int).toNat
                omega
            · refine ⟨_, rfl, _, rfl, iteN (fun z => ho (beq_iff_eq.mp z)) ?_⟩
              refine ⟨_, rfl, _, _, rfl, rfl, ?_⟩
              refine ⟨⟨m, s * p ^ (k / 2), res, p + 1, some (.bl (k % 2 == 1)), rfl, rfl, m0, Nat.mul_pos s0 (Nat.pow_pos (by omega)), e0, ?_, hlow2, hsq, fun q hq dv => ?_, by omega, by omega⟩, ?_⟩
              · have ek : p ^ k = p ^ (k / 2) * p ^ (k / 2) := by
                  rw [← Nat.pow_add]
                  congr 1
                  omega
                rw [hMe, em, ek]
                ac_rfl
              · have := hdiv q hq dv
                omega
              · show 20000 - ((p : Int) + 1).toNat < 20000 - (p : Int).toNat
                omega
        · intro σ H Q Q' i z
          refine (?_ : MoT _) σ H Q Q' i z
          walk_at "mo"
      · refine iteN (fun z => hc ?_) ?_
        · have := of_decide_eq_true z
          rw [← Int.natCast_mul] at this
          exact Int.ofNat_le.mp this
        · have fin : ∀ x : Nat, 0 < x → Sqf x → (∃ t : Nat, 0 < t ∧ M = t * t * x) → sg * (x : Int) = g := fun x x0 hx ht => by
            obtain ⟨t, t0, et⟩ := ht
            refine free_one (N := n * (d : Int)) (M := n * (d : Int)) (x := 1) (y := 1) (by decide) (by decide) rfl ⟨⟨t, t0, ?_⟩, ?_⟩ hg
            · rw [hsM, et, Int.natCast_mul, Int.natCast_mul]
              grind
            · have ex : (sg * (x : Int)).natAbs = x := by
                rw [Int.natAbs_mul, Int.natAbs_natCast]
                rcases hsg with rfl | rfl <;> simp
              rw [ex]
              exact fun k hk => sqf_sq hx hk
          have hend := rest_irr r0 hlow (by omega)
          have out : ∀ y : Int, y = g → y.natAbs ≤ 10000 := fun y e => by rw [e]; exact hg4
          refine ⟨_, rfl, rest, rfl, by omega, fun r er => ⟨_, rfl, iteF ?_⟩, fun hno => ⟨_, rfl, iteT ?_⟩⟩
          · have h1 : rest = 1 := by
              rcases hend with z | z
              · exact z
              · exact absurd er (irr_no_sq z r)
            have eg := fin res e0 hsq ⟨s, s0, by rw [hMe, h1, Nat.mul_one]⟩
            have eg2 := out _ eg
            refine ⟨_, rfl, sg * (res : Int), rfl, _, _, rfl, rfl, _, rfl, iteY (decide_eq_true (by rw [abs_eq]; omega)) ?_⟩
            refine ⟨_, rfl, ?_⟩
            show Q (.int (sg * (res : Int))) _
            rw [eg]
            exact q
          · have h1 : Irr rest := by
              rcases hend with z | z
              · exact absurd (by rw [z]) (hno 1)
              · exact z
            have hnr : ¬ rest ∣ res := fun dv => hlow rest h1 (hdiv rest h1 dv) (Nat.dvd_refl _)
            have eg := fin (res * rest) (Nat.mul_pos e0 r0) (sqf_mul hsq h1 hnr) ⟨s, s0, hMe⟩
            rw [Int.natCast_mul, ← Int.mul_assoc] at eg
            have eg2 := out _ eg
            refine ⟨_, rfl, _, rfl, _, _, rfl, rfl, (bsg.mul be).mulW br (by decide), ?_⟩
            refine ⟨_, rfl, sg * (res : Int) * (rest : Int), rfl, _, _, rfl, rfl, _, rfl, iteY (decide_eq_true (by rw [abs_eq]; omega)) ?_⟩
            refine ⟨_, rfl, ?_⟩
            show Q (.int (sg * (res : Int) * (rest : Int))) _
            rw [eg]
            exact q
    · intro σ H Q Q' i z
      refine (?_ : MoT _) σ H Q Q' i z
      walk_at "mo"
end
end K08
set_option Elab.async false
set_option linter.all false
set_option maxRecDepth 100000
set_option maxHeartbeats 4000000
namespace K08
open PySem PySem.Spec PyProof.Rows L2 Gd QM K08M
/-- the one short form of a curve -/
def Sf (c : Cv) (A C : Int) : Prop := Up (-27 * c.c4) (-54 * c.c6) A C ∧ Sh A C
theorem Sf.one {c : Cv} {A C A2 C2 : Int} (h : Sf c A C) (k : Sf c A2 C2) : A = A2 ∧ C = C2 := Up.one_form h.1 k.1 h.2 k.2
/-- what the two forms of a curve and its twist tell -/
structure Tw (a b c d : Int) (r : Rat) (g : Int) : Prop where
  e : a * a * a * d * d = c * c * c * b * b
  r0 : r ≠ 0
  h1 : a = 0 → b ≠ 0 ∧ r ^ 3 * (b : Rat) = (d : Rat)
  h2 : a ≠ 0 → b = 0 → 0 ≤ r ∧ r ^ 2 * (a : Rat) = (c : Rat)
  h3 : a ≠ 0 → b ≠ 0 → c ≠ 0 ∧ r * ((c : Rat) * (b : Rat)) = (a : Rat) * (d : Rat)
  n : (r.num * (r.den : Int)).natAbs < 100000000
  f : Free (r.num * (r.den : Int)) g
  g4 : g.natAbs ≤ 10000
theorem rq_div {n d : Int} {q : Rat} (hd : d ≠ 0) (h : q * (d : Rat) = (n : Rat)) : Rat.divInt n d = q := by
  have hd' : (d : Rat) ≠ 0 := fun e => hd (by exact_mod_cast e)
  rw [Rat.divInt_eq_div, ← h]
  grind
section
variable {P : Program} {w : World} {K : PySem.W.Frag} {mg : Str → Option Value} {base : Heap}
def sp_twist_between (K : PySem.W.Frag) : Sp := fun vs H Q _ => ∃ (p o : Addr) (x y : Cv) (a b c d : Int), vs = [.ref p, .ref o] ∧ SqT K H p x.tup ∧ SqT K H o y.tup ∧ x.Sm ∧ y.Sm ∧ PB (-27 * x.c4) (-54 * x.c6) ∧ PB (-27 * y.c4) (-54 * y.c6) ∧ Sf x a b ∧ Sf y c d ∧
  ((a * a * a * d * d ≠ c * c * c * b * b ∧ ∀ H', Same H H' → Q .non H') ∨ ∃ r g, Tw a b c d r g ∧ ∀ H', Same H H' → Q (.int g) H')
abbrev s_twist_between : Stmt := topS 53
theorem sc_twist_between : FnScope ["curve", "other", "a", "b", "c", "d", "ratio"] ["curve", "other"] (defScope s_twist_between) := ⟨rfl, rfl, rfl, by decide +kernel, rfl, by decide +kernel, by decide +kernel⟩
theorem k_twist_between (T : Tx K mg) (D : Df K mg "twist_between" s_twist_between ["curve", "other"]) (c_short_form : Kl P w K mg base 8 "short_form" (sp_short_form K)) (c_root_of_fraction : Kl P w K mg base 5 "root_of_fraction" (sp_root_of_fraction K)) (c_small_class : Kl P w K mg base 2 "small_class" (sp_small_class K)) (c_lowest : Kl P w K mg base 1 "lowest" (sp_lowest K)) : Kl P w K mg base 9 "twist_between" (sp_twist_between K) := by
  have nd := sc_twist_between.nd
  refine Kl.by_body D sc_twist_between (fun vs H Q E h => ?_) (fun f cdv A outer s H vs Q E hr h => ?_)
  · obtain ⟨_, _, _, _, _, _, _, _, rfl, _⟩ := h
    rfl
  · obtain ⟨p, o, x, y, a, b, c, d, rfl, hp, ho, hx, hy, px, py, fx, fy, q⟩ := h
    have hu1 := hu_of hr
    refine ⟨_, (pss_cons (ps_asg (pe_k c_short_form  hr (by decide) (by rfl) (pa_cons (pv 0) pa_nil)) (pg_tup rfl (pgs_cons (pg_name (i := 2) nd rfl (by first | exact Or.inl rfl | exact Or.inr rfl)) (pgs_cons (pg_name (i := 3) nd rfl (by first | exact Or.inl rfl | exact Or.inr rfl)) pgs_nil))))
      (pss_cons (ps_asg (pe_k c_short_form  hr (by decide) (by rfl) (pa_cons (pv 1) pa_nil)) (pg_tup rfl (pgs_cons (pg_name (i := 4) nd rfl (by first | exact Or.inl rfl | exact Or.inr rfl)) (pgs_cons (pg_name (i := 5) nd rfl (by first | exact Or.inl rfl | exact Or.inr rfl)) pgs_nil))))
      (pss_cons (ps_if (pt_cmpR op_ne (pe_op op_mulW (pe_op op_mulW (pe_op op_mulW (pe_op op_mulW (pv 2) (pv 2)) (pv 2)) (pv 5)) (pv 5)) (pe_op op_mulW (pe_op op_mulW (pe_op op_mulW (pe_op op_mulW (pv 4) (pv 4)) (pv 4)) (pv 3)) (pv 3)) (nomark _)) (pss_one (ps_ret pe_non)) pss_nil)
      (C8.pss_cut (ps_if (pt_cmpR op_eq (pv 2) pe_int (nomark _)) (pss_one (ps_set (i := 6) nd rfl (by first | exact Or.inl rfl | exact Or.inr rfl) (pe_k c_root_of_fraction  hr (by decide) (by rfl) (pa_cons (pe_k c_lowest  hr (by decide) (by rfl) (pa_cons (pv 5) (pa_cons (pv 3) pa_nil))) (pa_cons pe_int pa_nil))))) (pss_one (ps_if (pt_cmpR op_eq (pv 3) pe_int (nomark _)) (pss_one (ps_set (i := 6) nd rfl (by first | exact Or.inl rfl | exact Or.inr rfl) (pe_k c_root_of_fraction  hr (by decide) (by rfl) (pa_cons (pe_k c_lowest  hr (by decide) (by rfl) (pa_cons (pv 4) (pa_cons (pv 2) pa_nil))) (pa_cons pe_int pa_nil))))) (pss_one (ps_set (i := 6) nd rfl (by first | exact Or.inl rfl | exact Or.inr rfl) (pe_k c_lowest  hr (by decide) (by rfl) (pa_cons (pe_op op_mulW (pv 2) (pv 5)) (pa_cons (pe_op op_mulW (pv 4) (pv 3)) pa_nil))))))))
      (pss_one (ps_ret (pe_ifExp (pt_cmpR op_isN (pv 6) pe_non (nomark _)) pe_non (pe_k c_small_class  hr (by decide) (by rfl) (pa_cons (pv 6) pa_nil))))))))), ?_⟩
    refine ⟨.ref p, rfl, p, x, rfl, hp, hx, px, fun a' b' t1 H1 u1 z1 s1 n1 g1 => ?_⟩
    obtain ⟨rfl, rfl⟩ := Sf.one fx ⟨u1, z1⟩
    refine ⟨t1, _, rfl, tup_of g1, rfl, _, _, rfl, _, _, rfl, rfl, ?_⟩
    refine ⟨.ref o, rfl, o, y, rfl, Same.tup s1 ho, hy, py, fun c' d' t2 H2 u2 z2 s2 n2 g2 => ?_⟩
    obtain ⟨rfl, rfl⟩ := Sf.one fy ⟨u2, z2⟩
    refine ⟨t2, _, rfl, tup_of g2, rfl, _, _, rfl, _, _, rfl, rfl, ?_⟩
    have PA := (px.up u1).1
    have PC := (py.up u2).1
    have ba := PA.a
    have bb := PA.b
    have bc := PC.a
    have bd := PC.b
    have s12 := s1.trans s2
    clear s1 s2 g1 g2 u1 z1 u2 z2 fx fy px py hp ho
    first | refine sigN [some (.ref p), some (.ref o), some (.int (a)), some (.int (b)), some (.int (c)), some (.int (d)), none] (by rfl) ?_ | refine sig [some (.ref p), some (.ref o), some (.int (a)), some (.int (b)), some (.int (c)), some (.int (d)), none] (by rfl) ?_
    refine ⟨_, rfl, _, rfl, _, _, rfl, rfl, ba.mulW ba (by decide), _, rfl, _, _, rfl, rfl, (ba.mul ba).mulW ba (by decide), _, rfl, _, _, rfl, rfl, ((ba.mul ba).mul ba).mulW bd (by decide), _, rfl, _, _, rfl, rfl, (((ba.mul ba).mul ba).mul bd).mulW bd (by decide), ?_⟩
    refine ⟨_, rfl, _, rfl, _, _, rfl, rfl, bc.mulW bc (by decide), _, rfl, _, _, rfl, rfl, (bc.mul bc).mulW bc (by decide), _, rfl, _, _, rfl, rfl, ((bc.mul bc).mul bc).mulW bb (by decide), _, rfl, _, _, rfl, rfl, (((bc.mul bc).mul bc).mul bb).mulW bb (by decide), rfl, _, rfl, ?_⟩
    rw [dec_int]
    rcases q with ⟨ne, q⟩ | ⟨r, g, tw, q⟩
    · refine iteY (by simp [ne]) ?_
      exact q _ s12
    · refine iteN (by simp [tw.e]) ?_
      refine ⟨fun σ H3 => Same H2 H3 ∧ ∃ t : Addr, H3 t = some (.tup (fq r)) ∧ σ = [some (.ref p), some (.ref o), some (.int a), some (.int b), some (.int c), some (.int d), some (.ref t)], ?_, ?_⟩
      · refine ⟨_, rfl, rfl, _, rfl, ?_⟩
        rw [dec_int]
        by_cases a0 : a = 0
        · refine iteY (beq_iff_eq.mpr a0) ?_
          obtain ⟨b0, e⟩ := tw.h1 a0
          have ed : Rat.divInt d b = r ^ 3 := rq_div b0 e
          have rb : RB 200 (r ^ 3) := by
            rw [← ed]
            exact RB.of b0 (bd.up (by decide)) (bb.up (by decide))
          refine ⟨_, rfl, _, rfl, d, b, rfl, b0, bd.up (by decide), bb.up (by decide), fun t nt => ?_⟩
          rw [ed]
          have s3 := Same.new (H := H2) (p := t) (o := .tup (fq (r ^ 3))) nt
          have g3 : upd H2 t (.tup (fq (r ^ 3))) t = some (.tup (fq (r ^ 3))) := upd_same
          generalize upd H2 t (.tup (fq (r ^ 3))) = H3 at s3 g3 ⊢
          refine ⟨t, r ^ 3, r, 2, rfl, tup_of g3, rb, .inr rfl, rfl, fun t3 n3 => ?_⟩
          exact ⟨s3.trans (Same.new n3), t3, upd_same, rfl⟩
        · refine iteN (fun z => a0 (beq_iff_eq.mp z)) ?_
          refine ⟨_, rfl, rfl, _, rfl, ?_⟩
          rw [dec_int]
          by_cases b0 : b = 0
          · refine iteY (beq_iff_eq.mpr b0) ?_
            obtain ⟨r1, e⟩ := tw.h2 a0 b0
            have ed : Rat.divInt c a = r ^ 2 := rq_div a0 e
            have rb : RB 200 (r ^ 2) := by
              rw [← ed]
              exact RB.of a0 (bc.up (by decide)) (ba.up (by decide))
            refine ⟨_, rfl, _, rfl, c, a, rfl, a0, bc.up (by decide), ba.up (by decide), fun t nt => ?_⟩
            rw [ed]
            have s3 := Same.new (H := H2) (p := t) (o := .tup (fq (r ^ 2))) nt
            have g3 : upd H2 t (.tup (fq (r ^ 2))) t = some (.tup (fq (r ^ 2))) := upd_same
            generalize upd H2 t (.tup (fq (r ^ 2))) = H3 at s3 g3 ⊢
            refine ⟨t, r ^ 2, r, 1, rfl, tup_of g3, rb, .inl ⟨rfl, r1⟩, rfl, fun t3 n3 => ?_⟩
            exact ⟨s3.trans (Same.new n3), t3, upd_same, rfl⟩
          · refine iteN (fun z => b0 (beq_iff_eq.mp z)) ?_
            obtain ⟨c0, e⟩ := tw.h3 a0 b0
            have hcb : c * b ≠ 0 := Int.mul_ne_zero c0 b0
            have ed : Rat.divInt (a * d) (c * b) = r := rq_div hcb (by rw [Rat.intCast_mul, Rat.intCast_mul]; exact e)
            refine ⟨_, rfl, _, rfl, _, _, rfl, rfl, ba.mulW bd (by decide), _, rfl, _, rfl, _, _, rfl, rfl, bc.mulW bb (by decide), a * d, c * b, rfl, hcb, (ba.mul bd).up (by decide), (bc.mul bb).up (by decide), fun t nt => ?_⟩
            rw [ed]
            exact ⟨Same.new nt, t, upd_same, rfl⟩
      rintro σ H3 ⟨s3, t, g3, rfl⟩
      refine ⟨_, rfl, rfl, _, rfl, iteF ?_⟩
      exact ⟨.ref t, rfl, t, r, g, rfl, tup_of g3, tw.r0, tw.n, tw.f, tw.g4, q _ (s12.trans s3)⟩
end
end K08
set_option linter.all false
set_option maxRecDepth 100000
/-! twists: plain Lean -/
namespace K08
open QM K08M
theorem free_ex : ∀ (k : Nat) {d : Int}, d.natAbs ≤ k → d ≠ 0 → ∃ f, Free d f
  | 0, d, h, h0 => by omega
  | k + 1, d, h, h0 => by
    by_cases z : ∃ p : Nat, 2 ≤ p ∧ p * p ∣ d.natAbs
    · obtain ⟨p, h2, hp⟩ := z
      have hd : ((p : Int) * p) ∣ d := by
        rw [← Int.natCast_mul]
        exact Int.ofNat_dvd_left.mpr hp
      obtain ⟨e, he⟩ := hd
      have e0 : e ≠ 0 := fun w => h0 (by rw [he, w, Int.mul_zero])
      have hlt : e.natAbs ≤ k := by
        have e1 : d.natAbs = p * p * e.natAbs := by rw [he, Int.natAbs_mul, Int.natAbs_mul, Int.natAbs_natCast]
        have h4 : 2 * 2 ≤ p * p := Nat.mul_le_mul h2 h2
        have h5 := Nat.mul_le_mul_right e.natAbs h4
        omega
      obtain ⟨f, ⟨s, s0, es⟩, hf⟩ := free_ex k hlt e0
      exact ⟨f, ⟨p * s, Nat.mul_pos (by omega) s0, by rw [he, es, Int.natCast_mul]; grind⟩, hf⟩
    · exact ⟨d, ⟨1, by decide, by simp⟩, fun p hp hd => z ⟨p, hp, hd⟩⟩
theorem free_of {N M x y g : Int} (hN : N ≠ 0) (hx : x ≠ 0) (hy : y ≠ 0) (e : x * x * N = y * y * M) (hg : Free M g) : Free N g := by
  obtain ⟨f, hf⟩ := free_ex N.natAbs (Nat.le_refl _) hN
  rw [← free_one hx hy e hf hg]
  exact hf
/-- the parts of a fraction that is told by two numbers -/
theorem parts_of {x y : Int} (hx : x ≠ 0) (hy : y ≠ 0) : (Rat.divInt x y) ≠ 0 ∧ (Rat.divInt x y).num.natAbs ≤ x.natAbs ∧ (Rat.divInt x y).den ≤ y.natAbs ∧ (Rat.divInt x y).num * y = x * ((Rat.divInt x y).den : Int) := by
  have hyR : (y : Rat) ≠ 0 := fun e => hy (by exact_mod_cast e)
  have hxR : (x : Rat) ≠ 0 := fun e => hx (by exact_mod_cast e)
  refine ⟨?_, ?_, ?_, ?_⟩
  · intro e
    rw [Rat.divInt_eq_div] at e
    have h : (x : Rat) = 0 := by
      have h1 : (x : Rat) = (x : Rat) / (y : Rat) * (y : Rat) := by grind
      rw [h1, e]
      grind
    exact hxR h
  · rw [← fr_num hy]
    exact dv_le (sg_ne hy) (sg_dvd x y)
  · have h := dv_le (sg_ne (n := x) hy) (sg_dvd2 x y)
    rw [fr_den hy, Int.natAbs_natCast] at h
    exact h
  · have h1 : Rat.divInt (Rat.divInt x y).num ((Rat.divInt x y).den : Int) = Rat.divInt x y := Rat.num_divInt_den _
    exact (Rat.divInt_eq_divInt_iff (den_ne _) hy).mp h1
/-- a form and its twist by d, made smaller by u -/
structure Tws (a b c d e : Int) (u : Nat) : Prop where
  u0 : 0 < u
  e0 : e ≠ 0
  nz : ¬ (a = 0 ∧ b = 0)
  h4 : e * e * a = (u : Int) ^ 4 * c
  h6 : e ^ 3 * b = (u : Int) ^ 6 * d
theorem Tws.ac {a b c d e : Int} {u : Nat} (h : Tws a b c d e u) : a = 0 ↔ c = 0 := by
  have hu : (u : Int) ≠ 0 := by have := h.u0; omega
  have p4 : (u : Int) ^ 4 ≠ 0 := Int.pow_ne_zero hu
  have ee : e * e ≠ 0 := Int.mul_ne_zero h.e0 h.e0
  have := h.h4
  constructor
  · rintro rfl
    rw [Int.mul_zero] at this
    rcases Int.mul_eq_zero.mp this.symm with z | z
    · exact absurd z p4
    · exact z
  · rintro rfl
    rw [Int.mul_zero] at this
    rcases Int.mul_eq_zero.mp this with z | z
    · exact absurd z ee
    · exact z
theorem Tws.bd {a b c d e : Int} {u : Nat} (h : Tws a b c d e u) : b = 0 ↔ d = 0 := by
  have hu : (u : Int) ≠ 0 := by have := h.u0; omega
  have p6 : (u : Int) ^ 6 ≠ 0 := Int.pow_ne_zero hu
  have ee : e ^ 3 ≠ 0 := Int.pow_ne_zero h.e0
  have := h.h6
  constructor
  · rintro rfl
    rw [Int.mul_zero] at this
    rcases Int.mul_eq_zero.mp this.symm with z | z
    · exact absurd z p6
    · exact z
  · rintro rfl
    rw [Int.mul_zero] at this
    rcases Int.mul_eq_zero.mp this with z | z
    · exact absurd z ee
    · exact z
theorem Tws.cube {a b c d e : Int} {u : Nat} (h : Tws a b c d e u) : a * a * a * d * d = c * c * c * b * b := by
  have hu : (u : Int) ≠ 0 := by have := h.u0; omega
  have p12 : (u : Int) ^ 12 ≠ 0 := Int.pow_ne_zero hu
  refine Int.eq_of_mul_eq_mul_left p12 ?_
  have h4 := h.h4
  have h6 := h.h6
  calc (u : Int) ^ 12 * (a * a * a * d * d) = a * a * a * ((u : Int) ^ 6 * d) * ((u : Int) ^ 6 * d) := by grind
    _ = a * a * a * (e ^ 3 * b) * (e ^ 3 * b) := by rw [h6]
    _ = (e * e * a) * (e * e * a) * (e * e * a) * b * b := by grind
    _ = ((u : Int) ^ 4 * c) * ((u : Int) ^ 4 * c) * ((u : Int) ^ 4 * c) * b * b := by rw [h4]
    _ = _ := by grind
/-- how great u can be -/
theorem Tws.u_le {a b c d e : Int} {u : Nat} (h : Tws a b c d e u) (ha : a.natAbs ≤ 60000) (hb : b.natAbs ≤ 5000000) (he : e.natAbs ≤ 101) : u < 160 := by
  rcases Nat.lt_or_ge u 160 with z | z
  · exact z
  · exfalso
    by_cases a0 : a = 0
    · have b0 : b ≠ 0 := fun y => h.nz ⟨a0, y⟩
      have d0 : d ≠ 0 := fun y => b0 (h.bd.mpr y)
      have e1 := congrArg Int.natAbs h.h6
      rw [Int.natAbs_mul, Int.natAbs_mul, Int.natAbs_pow, Int.natAbs_pow, Int.natAbs_natCast] at e1
      have h1 : e.natAbs ^ 3 ≤ 101 ^ 3 := Nat.pow_le_pow_left he 3
      have h2 : e.natAbs ^ 3 * b.natAbs ≤ 101 ^ 3 * 5000000 := Nat.mul_le_mul h1 hb
      have h3 : 160 ^ 6 ≤ u ^ 6 := Nat.pow_le_pow_left z 6
      have h4 : 160 ^ 6 * 1 ≤ u ^ 6 * d.natAbs := Nat.mul_le_mul h3 (by omega)
      omega
    · have c0 : c ≠ 0 := fun y => a0 (h.ac.mpr y)
      have e1 := congrArg Int.natAbs h.h4
      rw [Int.natAbs_mul, Int.natAbs_mul, Int.natAbs_mul, Int.natAbs_pow, Int.natAbs_natCast] at e1
      have h1 : e.natAbs * e.natAbs ≤ 101 * 101 := Nat.mul_le_mul he he
      have h2 : e.natAbs * e.natAbs * a.natAbs ≤ 101 * 101 * 60000 := Nat.mul_le_mul h1 ha
      have h3 : 160 ^ 4 ≤ u ^ 4 := Nat.pow_le_pow_left z 4
      have h4 : 160 ^ 4 * 1 ≤ u ^ 4 * c.natAbs := Nat.mul_le_mul h3 (by omega)
      omega
/-- d or its amount -/
def dl (b e : Int) : Int := if b = 0 then (e.natAbs : Int) else e
theorem dl_ne {b e : Int} (h : e ≠ 0) : dl b e ≠ 0 := by
  unfold dl
  split <;> omega
theorem dl_abs {b e : Int} : (dl b e).natAbs = e.natAbs := by
  unfold dl
  split
  · exact Int.natAbs_natCast _
  · rfl
theorem dl_free {b e f : Int} (h : Free e f) : Free (dl b e) (dl b f) := by
  unfold dl
  split
  · exact h.abs
  · exact h
theorem dl_sq {b e : Int} : dl b e * dl b e = e * e := by
  unfold dl
  split
  · exact Int.natAbs_mul_self' e
  · rfl
theorem Tws.tw {a b c d e f : Int} {u : Nat} (h : Tws a b c d e u) (ha : a.natAbs ≤ 60000) (hb : b.natAbs ≤ 5000000) (he : e.natAbs ≤ 101) (hf : Free e f) : Tw a b c d (Rat.divInt (dl b e) ((u : Int) * u)) (dl b f) := by
  have hul := h.u_le ha hb he
  have hu : (u : Int) ≠ 0 := by have := h.u0; omega
  have huu : (u : Int) * u ≠ 0 := Int.mul_ne_zero hu hu
  have hd0 := dl_ne (b := b) h.e0
  obtain ⟨r0, rn, rd, rx⟩ := parts_of hd0 huu
  have hU : (u : Rat) ≠ 0 := fun z => hu (by exact_mod_cast z)
  have hUI : (((u : Int)) : Rat) = (u : Rat) := Rat.intCast_natCast u
  have e4 : (e : Rat) * e * a = (u : Rat) ^ 4 * c := by
    have := congrArg (fun z : Int => (z : Rat)) h.h4
    simp only [Rat.intCast_mul, Rat.intCast_pow, hUI] at this
    exact this
  have e6 : (e : Rat) ^ 3 * b = (u : Rat) ^ 6 * d := by
    have := congrArg (fun z : Int => (z : Rat)) h.h6
    simp only [Rat.intCast_mul, Rat.intCast_pow, hUI] at this
    exact this
  have rq : Rat.divInt (dl b e) ((u : Int) * u) = ((dl b e : Int) : Rat) / ((u : Rat) * u) := by
    rw [Rat.divInt_eq_div, Rat.intCast_mul, hUI]
  have uul : u * u ≤ 160 * 160 := Nat.mul_le_mul (by omega) (by omega)
  refine ⟨h.cube, r0, fun a0 => ?_, fun a0 b0 => ?_, fun a0 b0 => ?_, ?_, ?_, ?_⟩
  · have b0 : b ≠ 0 := fun y => h.nz ⟨a0, y⟩
    refine ⟨b0, ?_⟩
    rw [rq, dl, if_neg b0]
    grind
  · refine ⟨?_, ?_⟩
    · rw [dl, if_pos b0]
      exact Rat.num_nonneg.mp (by
        have hd : (0 : Int) < (u : Int) * u := by have := h.u0; exact Int.mul_pos (by omega) (by omega)
        rw [Rat.num_divInt]
        refine Int.ediv_nonneg ?_ (Int.natCast_nonneg _)
        rw [Int.sign_eq_one_of_pos hd, Int.one_mul]
        omega)
    · have sq : ((dl b e : Int) : Rat) * ((dl b e : Int) : Rat) = (e : Rat) * e := by
        rw [← Rat.intCast_mul, ← Rat.intCast_mul, dl_sq]
      rw [rq]
      generalize ((dl b e : Int) : Rat) = x at sq
      grind
  · refine ⟨fun c0 => a0 (h.ac.mpr c0), ?_⟩
    rw [rq, dl, if_neg b0]
    grind
  · rw [Int.natAbs_mul, Int.natAbs_natCast]
    rw [dl_abs] at rn
    have e1 : ((u : Int) * u).natAbs = u * u := by rw [Int.natAbs_mul, Int.natAbs_natCast]
    rw [e1] at rd
    have := Nat.mul_le_mul (Nat.le_trans rn he) (Nat.le_trans rd uul)
    omega
  · refine free_of (x := (u : Int)) (y := ((Rat.divInt (dl b e) ((u : Int) * u)).den : Int)) (M := dl b e) (Int.mul_ne_zero (num_ne r0) (den_ne _)) hu (den_ne _) ?_ (dl_free hf)
    generalize (Rat.divInt (dl b e) ((u : Int) * u)).num = N at rx
    generalize ((Rat.divInt (dl b e) ((u : Int) * u)).den : Int) = E at rx
    grind
  · have := hf.le
    rw [dl_abs]
    omega
theorem Tws.tw2 {a b c d e f : Int} {u : Nat} (h : Tws a b c d e u) (ha : a.natAbs ≤ 60000) (hb : b.natAbs ≤ 5000000) (he : e.natAbs ≤ 101) (hf : Free e f) : Tw c d a b (Rat.divInt ((u : Int) * u) (dl b e)) (dl b f) := by
  have hul := h.u_le ha hb he
  have hu : (u : Int) ≠ 0 := by have := h.u0; omega
  have huu : (u : Int) * u ≠ 0 := Int.mul_ne_zero hu hu
  have hd0 := dl_ne (b := b) h.e0
  obtain ⟨r0, rn, rd, rx⟩ := parts_of huu hd0
  have hU : (u : Rat) ≠ 0 := fun z => hu (by exact_mod_cast z)
  have hE : (e : Rat) ≠ 0 := fun z => h.e0 (by exact_mod_cast z)
  have hUI : (((u : Int)) : Rat) = (u : Rat) := Rat.intCast_natCast u
  have e4 : (e : Rat) * e * a = (u : Rat) ^ 4 * c := by
    have := congrArg (fun z : Int => (z : Rat)) h.h4
    simp only [Rat.intCast_mul, Rat.intCast_pow, hUI] at this
    exact this
  have e6 : (e : Rat) ^ 3 * b = (u : Rat) ^ 6 * d := by
    have := congrArg (fun z : Int => (z : Rat)) h.h6
    simp only [Rat.intCast_mul, Rat.intCast_pow, hUI] at this
    exact this
  have rq : Rat.divInt ((u : Int) * u) (dl b e) = ((u : Rat) * u) / ((dl b e : Int) : Rat) := by
    rw [Rat.divInt_eq_div, Rat.intCast_mul, hUI]
  have uul : u * u ≤ 160 * 160 := Nat.mul_le_mul (by omega) (by omega)
  refine ⟨h.cube.symm, r0, fun c0 => ?_, fun c0 d0 => ?_, fun c0 d0 => ?_, ?_, ?_, ?_⟩
  · have a0 := h.ac.mpr c0
    have b0 : b ≠ 0 := fun y => h.nz ⟨a0, y⟩
    refine ⟨fun y => b0 (h.bd.mpr y), ?_⟩
    rw [rq, dl, if_neg b0]
    grind
  · have b0 := h.bd.mpr d0
    refine ⟨?_, ?_⟩
    · rw [dl, if_pos b0]
      exact Rat.num_nonneg.mp (by
        have hd : (0 : Int) < (e.natAbs : Int) := by have := h.e0; omega
        have h2 : (0 : Int) ≤ (u : Int) * u := Int.mul_nonneg (by omega) (by omega)
        rw [Rat.num_divInt]
        refine Int.ediv_nonneg ?_ (Int.natCast_nonneg _)
        rw [Int.sign_eq_one_of_pos hd, Int.one_mul]
        exact h2)
    · have sq : ((dl b e : Int) : Rat) * ((dl b e : Int) : Rat) = (e : Rat) * e := by
        rw [← Rat.intCast_mul, ← Rat.intCast_mul, dl_sq]
      have hx : ((dl b e : Int) : Rat) ≠ 0 := fun z => hd0 (by exact_mod_cast z)
      rw [rq]
      generalize ((dl b e : Int) : Rat) = x at sq hx
      grind
  · have b0 : b ≠ 0 := fun y => d0 (h.bd.mp y)
    refine ⟨fun a0 => c0 (h.ac.mp a0), ?_⟩
    rw [rq, dl, if_neg b0]
    grind
  · rw [Int.natAbs_mul, Int.natAbs_natCast]
    rw [dl_abs] at rd
    have e1 : ((u : Int) * u).natAbs = u * u := by rw [Int.natAbs_mul, Int.natAbs_natCast]
    rw [e1] at rn
    have := Nat.mul_le_mul (Nat.le_trans rn uul) (Nat.le_trans rd he)
    omega
  · refine free_of (x := dl b e) (y := (u : Int) * ((Rat.divInt ((u : Int) * u) (dl b e)).den : Int)) (M := dl b e) (Int.mul_ne_zero (num_ne r0) (den_ne _)) hd0 (Int.mul_ne_zero hu (den_ne _)) ?_ (dl_free hf)
    generalize (Rat.divInt ((u : Int) * u) (dl b e)).num = N at rx
    generalize ((Rat.divInt ((u : Int) * u) (dl b e)).den : Int) = E at rx
    generalize dl b e = D at rx
    grind
  · have := hf.le
    rw [dl_abs]
    omega
end K08
set_option Elab.async false
set_option linter.all false
set_option maxRecDepth 100000
set_option maxHeartbeats 4000000
/-! An own error class over another own class over ValueError, each with its own __init__: C0.__init__(self, text), then self.f = v. -/
namespace ErX
open PySem PySem.Spec PyProof.Rows L2 Gd
/-- the first def of a class's body -/
def cdInit (s : Stmt) : Stmt := match s with
  | .ClassDef _ _ _ b _ _ _ _ _ _ _ => b.getD 0 (.Pass ⟨0, 0, 0, 0⟩)
  | _ => .Pass ⟨0, 0, 0, 0⟩
section
variable {X : Cx} {C0 f0 : Addr} {k : Nat} {fd : FuncData} {ps : List Str} {sp : Sp} {x : Str} {e : Expr} {es : List Expr} {t : TA} {p1 p2 pos : Pos}
/-- C.__init__(e, ..), C an own class whose __init__ is the def at f0 -/
theorem pe_cinit {pl : Sem Bool} (hg : Gl X x) (hm : X.mg x = some (.ref C0)) (r : PySem.W.readsIn X.K C0 (.type "type") = true) (ga : PySem.W.specialIn X.K (.ref C0) "__getattribute__" = some (some (.builtin "type.__getattribute__")))
    (vV : PySem.W.findCls X.K (.ref C0) (.type "type") "__init__" = some (.val (.ref f0))) (kI : PySem.W.keepIn X.K (.ref f0) = true) (F : FnOk X.prog X.w X.K X.mg X.base CX0 k f0 fd ps sp) (b : Binds X.K fd ps []) (hr : Room k X.A) (ha : PA X (e :: es) t)
    (hdb : (x == ("__debug__" : Str)) = false := by decide)
    (hc : eval (.Call (.Attribute (.Name x p1) "__init__" p2) (e :: es) [] pos) X.env = (do
      let ov ← eval (.Name x p1) X.env
      standAt p2.atName
      let (f, first) ← holding [ov] (getMethod ov "__init__" pl)
      callWith pos f first (backTo pos (starEach (e :: es) X.env)) (backToKw pos (keywordEach [] X.env))) := by rfl)
    (he : starEach (e :: es) X.env = (false, eval e X.env) :: starEach es X.env := by rfl) (hpl : (backTo pos (starEach es X.env)).any (·.1) = false := by rfl) :
    PE X (.Call (.Attribute (.Name x p1) "__init__" p2) (e :: es) [] pos) (tKal sp t) := by
  refine ⟨fun pins s σ H Q I h => ?_⟩
  refine PySem.W.methodCall_KW (ld_glob I hg hm ?_ hdb) hc
  refine PySem.W.method_cls I.kIn ga (PySem.W.cls_value I.kIn r vV rfl ?_)
  show wpAny _ _ (callWith pos (Value.ref f0) [] (backTo pos (starEach (e :: es) X.env)) []) _ _ _
  refine PySem.W.callWith_K (h₀ := X.base) I.ok.mod.kin kI (thn (ha.run pos pins _ σ H _ (I.tok _) h) fun us s1 ⟨vs, H1, I1, r1, q⟩ => ⟨I1.kIn, ?_⟩) he hpl
  exact run_fn (dvs := []) (E := E0) F hr b .nil pass0 I1 r1 (by rw [List.append_nil]; exact q)
end
/-- __init__ of the first class: nothing is told -/
def spP (K : PySem.W.Frag) : Sp := fun vs H Q _ => ∃ (a C : Addr) (v : V), vs = [.ref a, v] ∧ OexC K C ∧ H a = some (exo a C none) ∧ Q .non H
/-- __init__ of the second class, its field f -/
def spF (K : PySem.W.Frag) (f : Str) : Sp := fun vs H Q _ => ∃ (a C : Addr) (v : V), vs = [.ref a, v] ∧ OexC K C ∧ PySem.W.findIn K (.ref C) f = some none ∧ H a = some (exo a C none) ∧
  ∀ dx, H dx = none → dx ≠ a → Q .non (upd (upd H dx (exd dx [(f, v)])) a (exo a C (some dx)))
/-- a def's record -/
def Rec (K : PySem.W.Frag) (qual : Str) (st : Stmt) (f : Addr) (fd : FuncData) : Prop :=
  ∃ (oc : Value) (od : Option Addr) (dV kV doc pm : Value) (an : Option Addr) (cdv ct : Value) (osl : Array (Option Value)), fd = PySem.W.fnOf "__init__" qual (defArgs st) (defBody st) (defScope st) dV kV doc pm an cdv ct ∧ K.lookup f = some ⟨oc, od, .func fd, osl⟩ ∧ PySem.W.codeIn K cdv qual = true
theorem Rec.ok {P : Program} {w : World} {K : PySem.W.Frag} {mg : Str → Option Value} {base : Heap} {qual : Str} {st : Stmt} {f : Addr} {fd : FuncData} {N ps : List Str} {k : Nat} {sp : Sp} (F : Rec K qual st f fd) (S : FnScope N ps (defScope st)) (len : ∀ vs H Q E, sp vs H Q E → vs.length = ps.length)
    (hbody : ∀ (cdv : Value) (A : Around) (outer : List Env) (s : Shared) (H : Hp) (vs : List V) (Q : VK) (E : XK), Room k (A.deeper (envOfC qual (defScope st) s.heap.objs.size f cdv)) → sp vs H Q E →
      ∃ t, PSs (cxOf CX0 P w K mg base N qual (defScope st) f cdv A outer s H E) (defBody st) t ∧ t { nx := fun _ H' => Q .non H', rt := Q } (start N vs) H) : FnOk P w K mg base CX0 (k + 1) f fd ps sp := by
  obtain ⟨oc, od, dV, kV, doc, pm, an, cdv, ct, osl, rfl, lk, hcd⟩ := F
  exact fn_of lk hcd S len fun A outer s H vs Q E hr hsp => hbody cdv A outer s H vs Q E hr hsp
/-- what the written part says of the two classes -/
structure Er (K : PySem.W.Frag) (mg : Str → Option Value) (s0 s1 : Stmt) (x0 x1 q0 q1 f : Str) (C0 C1 f0 f1 : Addr) : Prop where
  ve : mg "ValueError" = none
  vV : PySem.W.findCls K (.type "ValueError") (.type "type") "__init__" = some (.val (.builtin "ValueError.__init__"))
  g0 : mg x0 = some (.ref C0)
  r0 : PySem.W.readsIn K C0 (.type "type") = true
  a0 : PySem.W.specialIn K (.ref C0) "__getattribute__" = some (some (.builtin "type.__getattribute__"))
  i0 : PySem.W.findCls K (.ref C0) (.type "type") "__init__" = some (.val (.ref f0))
  k0 : PySem.W.keepIn K (.ref f0) = true
  l0 : ∃ fd, Rec K q0 s0 f0 fd ∧ Binds K fd ["self", "text"] []
  g1 : mg x1 = some (.ref C1)
  oex : OexC K C1
  no : PySem.W.findIn K (.ref C1) f = some none
  i1 : PySem.W.findIn K (.ref C1) "__init__" = some (some (.ref f1))
  t1 : PySem.W.typeIn K (.ref f1) = some (.type "function")
  l1 : ∃ fd, Rec K q1 s1 f1 fd ∧ Binds K fd ["self", f] []
  ga : PySem.W.findIn K (.ref C1) "__getattribute__" = some (some (.builtin "BaseException.__getattribute__"))
  gg : PySem.W.findIn K (.ref C1) "__getattr__" = some none
  hd : PySem.W.hasDictIn K C1 = true
  te : PySem.W.exmOne K (.ref C1) (.ref C1) = some true
theorem relO_one {f : Str} {v : V} {v' : Value} (r : RelV v v') (g : Str) : RelO (List.lookup g [(f, v)]) (if g = f then some v' else none) := relO_put (fs := []) (mA := fun _ => none) r (fun _ => True.intro) g
theorem look_one (f : Str) (v : V) : List.lookup f [(f, v)] = some v := by simp [List.lookup]
section
variable {X : Cx} {s0 s1 : Stmt} {x0 x1 q0 q1 f : Str} {C0 C1 f0 f1 : Addr}
/-- e.f, e the exception that the suite holds (at a; its class cls, its dict d) -/
def tByF (C : Addr) (f : Str) (a : Addr) (cls : Value) (d : Option Addr) (te : TE) : TE := fun σ H Q => te σ H fun x H1 => x = .ref a ∧ cls = .ref C ∧ ∃ (dd : Addr) (v : V), d = some dd ∧ H1 dd = some (.xd [(f, v)]) ∧ Q v H1
theorem pe_byF {a : Addr} {oe : Obj} {cls : Value} {d : Option Addr} {pn : List (Addr × Obj)} {e : Expr} {te : TE} {pos : Pos} (T : Er X.K X.mg s0 s1 x0 x1 q0 q1 f C0 C1 f0 f1) (hz : Zc cls d oe) (hf : ∃ vs, oe.data = .fields vs) (he : PE (X.suite a ((a, oe) :: pn)) e te)
    (hb : attributeBase e f X.env (eval e X.env) = eval e X.env := by rfl) :
    PE (X.suite a ((a, oe) :: pn)) (.Attribute e f pos) (tByF C1 f a cls d te) := by
  refine ⟨fun pins s σ H Q I h => ?_⟩
  refine attr_of hb (thn (he.run pins s σ H _ I h) fun u s1 hh => ?_)
  obtain ⟨x, H1, I1, rx, ex, ec, dd, v, ed, ea, q⟩ := hh
  subst ex
  obtain rfl : u = Value.ref a := rx
  subst ec
  subst ed
  obtain ⟨ha, _⟩ := I1.pin (a, oe) (List.mem_append_left _ List.mem_cons_self)
  obtain ⟨vs, hd⟩ := hf
  have hx : ObjOk X.prog X.w H1 s1.heap dd (.xd [(f, v)]) := I1.hok dd _ ea
  obtain ⟨mA, hns, hr⟩ := hx
  obtain ⟨od, ho, hl⟩ := lookIn_ns hns
  obtain ⟨u, hu, ru⟩ := RelO.some_of (v := v) (o := mA f) (by rw [← look_one f v]; exact hr f)
  have J : PySem.W.InstAt s1.heap a oe C1 (some od) := ⟨ha, hz.1, by unfold PySem.W.notCls; rw [hd] <;> rfl, by rw [hz.2]; exact ho⟩
  exact HandSPX.exc_get I1.kIn J T.ga T.gg T.oex.exC (PySem.W.findObj_own T.hd T.no rfl (by rw [hl, hu])) (handed_of ru) ⟨v, H1, I1.tok _, ru, q⟩
end
/-- a def that may raise, by its name -/
structure Kx (P : Program) (w : World) (K : PySem.W.Frag) (mg : Str → Option Value) (base : Heap) (k : Nat) (x : Str) (sp : Sp) : Prop where
  ex : ∃ (f : Addr) (fd : FuncData) (ps : List Str), FnOk P w K mg base (L2.CX P w) k f fd ps sp ∧ mg x = some (.ref f) ∧ PySem.W.keepIn K (.ref f) = true ∧ Binds K fd ps []
theorem Kx.by_body {P : Program} {w : World} {K : PySem.W.Frag} {mg : Str → Option Value} {base : Heap} {x : Str} {st : Stmt} {N ps : List Str} {k : Nat} {sp : Sp} (D : Df K mg x st ps) (S : FnScope N ps (defScope st)) (len : ∀ vs H Q E, sp vs H Q E → vs.length = ps.length)
    (hb : ∀ (f : Addr) (cdv : Value) (A : Around) (outer : List Env) (s : Shared) (H : Hp) (vs : List V) (Q : VK) (E : XK), Room k (A.deeper (envOfC x (defScope st) s.heap.objs.size f cdv)) → sp vs H Q E →
      ∃ t, PSs (cxOf (L2.CX P w) P w K mg base N x (defScope st) f cdv A outer s H E) (defBody st) t ∧ t { nx := fun _ H' => Q .non H', rt := Q } (start N vs) H) : Kx P w K mg base (k + 1) x sp := by
  obtain ⟨f, fd, F, hm, b⟩ := D.ex
  exact ⟨f, fd, ps, F.okX S len (hb f), hm, F.kp, b⟩
/-- such a def called where it does not raise -/
theorem pe_x {X : Cx} {j k : Nat} {sp : Sp} {x : Str} {p pos : Pos} {e : Expr} {es : List Expr} {t : TA} (c : Kx X.prog X.w X.K X.mg X.base k x sp) (hr : Room j X.A) (hk : k ≤ j) (hg : Gl X x) (ha : PA X (e :: es) t)
    (hdb : (x == ("__debug__" : Str)) = false := by decide) (he : starEach (e :: es) X.env = (false, eval e X.env) :: starEach es X.env := by rfl) (hpl : (backTo pos (starEach es X.env)).any (·.1) = false := by rfl) :
    PE X (.Call (.Name x p) (e :: es) [] pos) (tKal sp t) := by
  obtain ⟨f, fd, ps, F, hm, kp, b⟩ := c.ex
  have h := pe_call (sp := sp) (E := E0) (dvs := []) F (hr.mono hk) hg hm kp b .nil passL ha hdb he hpl (pos := pos) (p := p)
  constructor
  intro pins s σ H Q I q
  refine h.run pins s σ H Q I ?_
  have e2 : tCall sp [] E0 t = tKal sp t := by
    funext σ H Q
    show t σ H (fun vs H1 => sp (vs ++ []) H1 Q E0) = t σ H (fun vs H1 => sp vs H1 Q E0)
    congr 1
    funext vs H1
    rw [List.append_nil]
  rw [e2]
  exact q
/-- .. in a try's body -/
theorem pe_xS {X : Cx} {j k : Nat} {sp : Sp} {E : L2.St → XK} {x : Str} {p pos : Pos} {e : Expr} {es : List Expr} {t : TA} (c : Kx X.prog X.w X.K X.mg X.base k x sp) (hr : Room j X.A) (hk : k ≤ j) (hg : Gl X x) (hx : ∀ σ, PassesAt (L2.CX X.prog X.w) X σ (E σ)) (ha : PA X (e :: es) t)
    (hdb : (x == ("__debug__" : Str)) = false := by decide) (he : starEach (e :: es) X.env = (false, eval e X.env) :: starEach es X.env := by rfl) (hpl : (backTo pos (starEach es X.env)).any (·.1) = false := by rfl) :
    PE X (.Call (.Name x p) (e :: es) [] pos) (tCallS sp E t) := by
  obtain ⟨f, fd, ps, F, hm, kp, b⟩ := c.ex
  exact pe_callS F (hr.mono hk) hg hm kp b hx ha hdb he hpl
/-- an error of the class at S is what «except S» names -/
theorem exm_is {K : PySem.W.Frag} {S : Addr} (h1 : PySem.W.subIn K (.ref S) (.type "BaseException") = some true) (h2 : PySem.W.isClsIn K S = true) (h3 : PySem.W.typeIn K (.ref S) = some (.type "type")) (h4 : PySem.W.subIn K (.ref S) (.ref S) = some true) :
    PySem.W.exmOne K (.ref S) (.ref S) = some true := by
  have e1 : (PySem.W.subIn K (.ref S) (.type "BaseException") == some true) = true := by rw [h1] <;> rfl
  have e2 : ((PySem.W.clsIn K S).isSome && PySem.W.typeIn K (.ref S) == some (.type "type")) = true := by
    have h2' : (PySem.W.clsIn K S).isSome = true := h2
    rw [h2', h3] <;> rfl
  show (if (PySem.W.subIn K (.ref S) (.type "BaseException") == some true) = true then (if ((PySem.W.clsIn K S).isSome && PySem.W.typeIn K (.ref S) == some (.type "type")) = true then PySem.W.subIn K (.ref S) (.ref S) else none) else none) = some true
  rw [if_pos e1, if_pos e2]
  exact h4
theorem er_mk {K : PySem.W.Frag} {h : Heap} {mg : Str → Option Value} (X : K.In h) (G : h.Ns mainGlobals mg) {s0 s1 : Stmt} {x0 x1 q0 q1 f : Str} {C0 C1 e0 e1 T0 N : Addr} {nm q : Str} {bs : List Value} {sn : List Str} {sub : List Value} {ab : Bool} {col : Option Bool} {dd : Option Addr} {m0 m1 m2 m3 m5 : Option Value}
    {oc0 kV0 dc0 pm0 cd0 ct0 oc1 kV1 dc1 pm1 cd1 ct1 ocT : Value} {od0 an0 od1 an1 odT : Option Addr} {sl0 sl1 slT : Array (Option Value)} {its : Array Value} {nT : Nat}
    (zve : PySem.W.nsIn K mainGlobals "ValueError" = some none) (vV : PySem.W.findCls K (.type "ValueError") (.type "type") "__init__" = some (.val (.builtin "ValueError.__init__")))
    (g0 : PySem.W.nsIn K mainGlobals x0 = some (some (.ref C0))) (r0 : PySem.W.readsIn K C0 (.type "type") = true) (a0 : PySem.W.specialIn K (.ref C0) "__getattribute__" = some (some (.builtin "type.__getattribute__")))
    (i0 : PySem.W.findCls K (.ref C0) (.type "type") "__init__" = some (.val (.ref e0))) (k0 : PySem.W.keepIn K (.ref e0) = true)
    (l0 : K.lookup e0 = some ⟨oc0, od0, .func (PySem.W.fnOf "__init__" q0 (defArgs s0) (defBody s0) (defScope s0) (.ref T0) kV0 dc0 pm0 an0 cd0 ct0), sl0⟩) (c0 : PySem.W.codeIn K cd0 q0 = true)
    (t0 : K.lookup T0 = some ⟨ocT, odT, .seq its nT, slT⟩)
    (hb0 : ∀ us : List Value, us.length = 2 → ∃ k, bindArgs (PySem.W.fnOf "__init__" q0 (defArgs s0) (defBody s0) (defScope s0) (.ref T0) kV0 dc0 pm0 an0 cd0 ct0) ⟨us, []⟩ = seqItems? (.ref T0) >>= k ∧ k (some its) = pure ((["self", "text"] : List Str).zip us))
    (g1 : PySem.W.nsIn K mainGlobals x1 = some (some (.ref C1)))
    (xC : K.lookup C1 = some (excClassObj nm q C1 N bs [.ref C0, .type "ValueError", .type "Exception", .type "BaseException", .type "object"] true sn sub ab col dd m0 m1 m2 m3 m5 "ValueError.__new__"))
    (sa : PySem.W.findIn K (.ref C1) "__setattr__" = some (some (.builtin "object.__setattr__"))) (eC : PySem.W.subIn K (.ref C1) (.type "BaseException") = some true) (tC : PySem.W.typeIn K (.ref C1) = some (.type "type")) (kC : PySem.W.keepIn K (.ref C1) = true)
    (no : PySem.W.findIn K (.ref C1) f = some none) (i1 : PySem.W.findIn K (.ref C1) "__init__" = some (some (.ref e1))) (t1 : PySem.W.typeIn K (.ref e1) = some (.type "function"))
    (l1 : K.lookup e1 = some ⟨oc1, od1, .func (PySem.W.fnOf "__init__" q1 (defArgs s1) (defBody s1) (defScope s1) .none kV1 dc1 pm1 an1 cd1 ct1), sl1⟩) (c1 : PySem.W.codeIn K cd1 q1 = true)
    (hb1 : ∀ us : List Value, us.length = 2 → bindArgs (PySem.W.fnOf "__init__" q1 (defArgs s1) (defBody s1) (defScope s1) .none kV1 dc1 pm1 an1 cd1 ct1) ⟨us, []⟩ = pure ((["self", f] : List Str).zip us))
    (ga : PySem.W.findIn K (.ref C1) "__getattribute__" = some (some (.builtin "BaseException.__getattribute__"))) (gg : PySem.W.findIn K (.ref C1) "__getattr__" = some none) (hd : PySem.W.hasDictIn K C1 = true) (iC : PySem.W.isClsIn K C1 = true) (sC : PySem.W.subIn K (.ref C1) (.ref C1) = some true) :
    Er K mg s0 s1 x0 x1 q0 q1 f C0 C1 e0 e1 where
  ve := PySem.W.mg_none_of X G zve
  vV := vV
  g0 := PySem.W.mg_of X G g0
  r0 := r0
  a0 := a0
  i0 := i0
  k0 := k0
  l0 := ⟨_, ⟨oc0, od0, _, kV0, dc0, pm0, an0, cd0, ct0, sl0, rfl, l0, c0⟩, fun s us Y hl => by
    rw [List.append_nil] at hl ⊢
    obtain ⟨k, e, e2⟩ := hb0 us hl
    refine BindsTo.of_looks fun M => ?_
    rw [e]
    exact looks_items Y t0 rfl (.of_pure e2)⟩
  g1 := PySem.W.mg_of X G g1
  oex := ⟨⟨nm, q, N, bs, _, sn, sub, ab, col, dd, m0, m1, m2, m3, m5, xC, rfl⟩, sa, eC, tC, kC⟩
  no := no
  i1 := i1
  t1 := t1
  l1 := ⟨_, ⟨oc1, od1, _, kV1, dc1, pm1, an1, cd1, ct1, sl1, rfl, l1, c1⟩, .all hb1⟩
  ga := ga
  gg := gg
  hd := hd
  te := exm_is eC iC tC sC
end ErX
set_option Elab.async false
set_option linter.all false
set_option maxRecDepth 100000
set_option maxHeartbeats 4000000
/-! super().__init__(..) in the __init__ of own error classes over ValueError. -/
namespace ErX
open PySem PySem.Spec PyProof.Rows L2 Gd
abbrev envS (qual : Str) (scope : Scope) (L f cda cc : Addr) : Env := PySem.W.ksEnv qual scope L f (.ref cda) cc
/-- the context of a def that closes over its class alone -/
def cxS (P : Program) (w : World) (K : PySem.W.Frag) (mg : Str → Option Value) (base : Heap) (N : List Str) (qual : Str) (scope : Scope) (f cda cc : Addr) (A : Around) (outer : List Env) (s : Shared) (H : Hp) : Cx where
  prog := P
  w := w
  K := K
  mg := mg
  base := base
  A := A.deeper (envS qual scope s.heap.objs.size f cda cc)
  N := N
  s_0 := s
  H_0 := H
  env := envS qual scope s.heap.objs.size f cda cc
  outer := outer
  stack := envS qual scope s.heap.objs.size f cda cc :: outer
  ex := []
  calm := true
  fn := fun x => !(x == ("__class__" : Str))
  pn := []
  xe := fun _ _ => False
/-- what is known of a class's cell and of a def's code -/
structure SuOk (P : Program) (K : PySem.W.Frag) (mg : Str → Option Value) (D cc cda : Addr) : Prop where
  cell : ∃ c d s, K.lookup cc = some ⟨c, d, .cell (some (.ref D)), s⟩
  code : ∃ c d vs sl file tf, K.lookup cda = some ⟨c, d, .fields vs, sl⟩ ∧ vs[2]? = some (.str file tf) ∧ ((P.main.file : Str) == file) = true
  top : (P.main.scope.names.lookup ("super" : Str)).isSome = false
  sup : mg "super" = none
  any : PySem.W.nsIn K cStatics "thirdparty.any" = some none
  clsD : ∃ cd, PySem.W.clsIn K D = some cd
/-- the names of such a def -/
structure ScS (y : Str) (scope : Scope) : Prop where
  k : scope.kind = .function
  s0 : scope.names.lookup ("self" : Str) = some .local
  s1 : scope.names.lookup y = some .local
  n : ("self" : Str) ≠ y
  fr : ∀ x, scope.names.lookup x = some .cell ∨ scope.names.lookup x = some .free → x = "__class__"
  su : scope.names.lookup ("super" : Str) = some .globalImplicit
  cl : scope.names.lookup ("__class__" : Str) = some .free
  nc : ∀ x ∈ scope.names, x.2 ≠ .cell
  co : scope.isCoroutine = false
  gen : scope.isGenerator = false
section
variable {P : Program} {w : World} {K : PySem.W.Frag} {mg : Str → Option Value} {base : Heap} {qual : Str} {scope : Scope} {f cda cc D : Addr} {A : Around} {outer : List Env} {s s1 : Shared} {H : Hp} {E : XK} {y : Str}
theorem cell_one {x : Str} {c : Addr} (h : ([("__class__", cc)] : List (Str × Addr)).lookup x = some c) : x = "__class__" ∧ c = cc := by
  by_cases e : x = "__class__"
  · subst e
    refine ⟨rfl, ?_⟩
    simp [List.lookup] at h
    exact h.symm
  · have : (x == ("__class__" : Str)) = false := by simpa using e
    simp [List.lookup, this] at h
theorem inv_startS {u0 u1 : Value} {v0 v1 : V} {h₀ : Heap} {tk : Nat} (su : SuOk P K mg D cc cda) (sc : ScS y scope) (hd : A.handled = none) (e0 : Env0 P w K mg base A outer s H) (r0 : RelV v0 u0) (r1 : RelV v1 u1)
    (hns : h₀.Ns s.heap.objs.size (fun x => ((["self", y] : List Str).zip [u0, u1]).reverse.lookup x)) (hkp : ∀ b o, s.heap.get? b = some o → h₀.get? b = some o) :
    Inv (cxS P w K mg base ["self", y] qual scope f cda cc A outer s H) [] [some v0, some v1] H { s with heap := h₀, toks := tk } := by
  obtain ⟨c, d, sl, hcell⟩ := su.cell
  have hcb := e0.bs cc _ (e0.mod.kin _ _ hcell)
  have noA : ∀ b : Addr, b ∉ (cxS P w K mg base ["self", y] qual scope f cda cc A outer s H).ex := fun b z => absurd (show b ∈ ([] : List Addr) from z) (by simp)
  refine ⟨⟨e0.mod, sc.k, rfl, rfl, Nat.le_refl _, fun a b c h1 h2 => (cell_one h1).1.trans (cell_one h2).1.symm, fun x hx => ?_, fun x c h1 h2 => ?_, fun _ => hd, Around.frames_deeper e0.frames, .inr ⟨rfl, rfl⟩, fun b z => absurd z (noA b), e0.bs, e0.bsz, fun b _ _ => noA b, fun b z => absurd z (noA b), e0.funs, e0.frf⟩,
    rfl, e0.bare, Un.kept hkp, ⟨_, hns, fun i x v h1 h2 h3 => ?_⟩, fun x c h => ?_, e0.hok.fresh (Nat.le_refl _), fun x c h => ?_, fun p hp => absurd (show p ∈ ([] : List (Addr × Obj)) from hp) (by simp), e0.hok.kept hkp, rfl⟩
  · obtain rfl := sc.fr x hx
    exact ⟨cc, rfl⟩
  · obtain ⟨rfl, rfl⟩ := cell_one h2
    cases h1
  · have hn' : (("self" : Str) == y) = false := by simpa using sc.n
    match i, h1, h2 with
    | 0, h1, h2 =>
      obtain rfl := Option.some.inj h1
      obtain rfl := Option.some.inj (Option.some.inj h2)
      refine ⟨u0, r0, .inl ⟨sc.s0, ?_⟩⟩
      simp [List.lookup, hn']
    | 1, h1, h2 =>
      obtain rfl := Option.some.inj h1
      obtain rfl := Option.some.inj (Option.some.inj h2)
      refine ⟨u1, r1, .inl ⟨sc.s1, ?_⟩⟩
      simp [List.lookup]
    | i + 2, h1, h2 => simp at h2
  · obtain ⟨rfl, rfl⟩ := cell_one h
    exact ⟨_, _, hkp _ _ hcb.1, rfl⟩
  · obtain ⟨rfl, rfl⟩ := cell_one h
    exact hcb.2
/-- such a def, by its body -/
theorem fnS_of {k : Nat} {params : Arguments} {body : List Stmt} {dV kV doc pm ct oc : Value} {an od : Option Addr} {osl : Array (Option Value)} {sp : Sp}
    (lk : K.lookup f = some ⟨oc, od, .func (PySem.W.ksFn "__init__" qual params body scope dV kV doc pm an (.ref cda) ct cc), osl⟩) (hcd : PySem.W.codeIn K (.ref cda) qual = true) (su : SuOk P K mg D cc cda) (sc : ScS y scope)
    (len : ∀ vs H Q E, sp vs H Q E → vs.length = 2)
    (hbody : ∀ (A : Around) (outer : List Env) (s : Shared) (H : Hp) (v0 v1 : V) (Q : VK) (E : XK), Room k (A.deeper (envS qual scope s.heap.objs.size f cda cc)) → sp [v0, v1] H Q E → ∀ s1, Inv (cxS P w K mg base ["self", y] qual scope f cda cc A outer s H) [] [some v0, some v1] H s1 →
      PySem.wpAt (model P w) (A.deeper (envS qual scope s.heap.objs.size f cda cc)) (.func body (envS qual scope s.heap.objs.size f cda cc)) (execs body (envS qual scope s.heap.objs.size f cda cc))
        (fun fl s' => match fl with
          | .next => ∃ σ' H', Inv (cxS P w K mg base ["self", y] qual scope f cda cc A outer s H) [] σ' H' s' ∧ Q .non H'
          | _ => False) (fun _ _ => False) s1) :
    FnOk P w K mg base L2.CX0 (k + 1) f (PySem.W.ksFn "__init__" qual params body scope dV kV doc pm an (.ref cda) ct cc) ["self", y] sp := by
  refine ⟨fun vs H Q E h => (len vs H Q E h).trans rfl, fun A outer s H args us vs Q E hr e0 hb r hsp => ?_⟩
  have KX : K.In s.heap := e0.mod.kin.keeps fun b o e => (e0.bs b o e).1
  have lim : s.heap.NoLimit := e0.mod.nolimit.keeps fun b o e => (e0.bs b o e).1
  match vs, us, r, len _ _ _ _ hsp with
  | [v0, v1], [u0, u1], .cons r0 (.cons r1 .nil), _ =>
    refine PySem.ks_codeAny_call_defAt (fd := PySem.W.ksFn "__init__" qual params body scope dV kV doc pm an (.ref cda) ct cc) (body := body) (binds := (["self", y] : List Str).zip [u0, u1]) hr.depth (KX _ _ lk) rfl lim (PySem.W.codeRec_of KX hcd) rfl hb sc.nc (fun x hx => ?_) (fun h₀ hns hkp => ?_) sc.co sc.gen sc.k
    · simp only [List.zip_cons_cons, List.zip_nil_right, List.mem_cons, List.not_mem_nil, or_false] at hx
      rcases hx with rfl | rfl
      · exact sc.s0
      · exact sc.s1
    · refine PySem.ks_wpAt_mono (hbody A outer s H v0 v1 Q E (hr.deeper _) hsp _ (inv_startS su sc hr.hd e0 r0 r1 hns hkp)) (fun fl s' hs => ?_) fun _ _ z => z.elim
      cases fl with
      | next =>
        obtain ⟨σ', H', J, q⟩ := hs
        exact ⟨.non, H', J.os, J.bare, J.base, J.hok, rfl, q⟩
      | ret u => exact hs.elim
      | brk => exact hs.elim
      | cont => exact hs.elim
/-- super() -/
theorem super_ok {N : List Str} {pins : List (Addr × Obj)} {σ : L2.St} {H0 : Hp} {a C : Addr} {fd : FuncData} {ar : Arg} {oc : Value} {od : Option Addr} {osl : Array (Option Value)} {body : List Stmt} {p0 p1 : Pos} {whole : Sem Value} {Qa : Value → Shared → Prop} {Ee : Value → Shared → Prop}
    (I : Inv (cxS P w K mg base N qual scope f cda cc A outer s H0) pins σ H s1) (su : SuOk P K mg D cc cda) (sc : ScS y scope)
    (lk : K.lookup f = some ⟨oc, od, .func fd, osl⟩) (hp : (fd.params.posonlyargs ++ fd.params.args).head? = some ar) (har : ar.arg = "self")
    (hN : N[0]? = some ("self" : Str)) (hσ : σ[0]? = some (some (.ref a))) (ea : H a = some (exo a C none)) (hsub : PySem.W.mroIn K C (.ref D) = some true)
    (h : ∀ s2, Inv (cxS P w K mg base N qual scope f cda cc A outer s H0) pins σ H s2 → s2.heap.get? s1.heap.objs.size = some (PySem.W.ks_superObj D a C) → Qa (.ref s1.heap.objs.size) s2) :
    PySem.wpAt (model P w) (A.deeper (envS qual scope s.heap.objs.size f cda cc)) (.func body (envS qual scope s.heap.objs.size f cda cc)) (attributeBase (.Call (.Name "super" p0) [] [] p1) "__init__" (envS qual scope s.heap.objs.size f cda cc) whole) Qa Ee s1 := by
  have KX : K.In s1.heap := I.kIn
  obtain ⟨c1, d1, l1, hcell⟩ := su.cell
  obtain ⟨c2, d2, vs, l2, file, tf, hcode, hvs, hfile⟩ := su.code
  obtain ⟨cdD, hD⟩ := su.clsD
  obtain ⟨m, hns, hl⟩ := id I.loc
  have hm : m ("self" : Str) = some (.ref a) := by
    obtain ⟨u, ru, hu⟩ := hl 0 "self" _ hN hσ (.inl sc.s0)
    obtain rfl : u = Value.ref a := ru
    rcases hu with ⟨_, e⟩ | ⟨e | e, _⟩
    · exact e
    · have e' : scope.names.lookup ("self" : Str) = some .cell := e
      rw [sc.s0] at e'
      cases e'
    · have e' : scope.names.lookup ("self" : Str) = some .free := e
      rw [sc.s0] at e'
      cases e'
  obtain ⟨oD, hD1, hD2⟩ : ∃ oD, s1.heap.get? D = some oD ∧ oD.data = .cls cdD := by
    unfold PySem.W.clsIn at hD
    split at hD
    · rename_i c d cd' sl ho
      cases hD
      exact ⟨_, KX _ _ ho, rfl⟩
    · cases hD
  obtain ⟨t1, hx⟩ := exo_at I.hok ea
  obtain ⟨mb, hb1, hb2⟩ := I.mod.blt
  refine PySem.ks_wpAt_super_base (env := envS qual scope s.heap.objs.size f cda cc) sc.su sc.cl rfl rfl (KX _ _ lk) rfl hp rfl (KX _ _ hcode) rfl hvs hfile su.top ?_
  refine PySem.W.ks_loadName_global sc.k sc.su (Calls.loadGlobal_builtin (env := envS qual scope s.heap.objs.size f cda cc) (I.mod.glob.keeps I.bk) su.sup (hb1.keeps I.bk) ((hb2 "super" (by decide)).trans PyProof.Rows.Boot.«super») ⟨rfl, ?_⟩)
  refine wpAny_loadName_free sc.k sc.cl rfl ⟨_, KX _ _ hcell, rfl⟩ ?_
  rw [har]
  refine wpAny_loadName_local sc.k sc.s0 hns hm ?_
  refine PySem.ks_wpAny_isType_cls hD1 hD2 ⟨rfl, ?_⟩
  refine PySem.ks_wpAny_call_super hD1 hD2 hx rfl (fun c e => by cases e) (PySem.W.looks_mroIn KX hsub) (fun h' e k => ?_)
  exact h _ (I.kept k) e
/-- what is known of an error class that stands on the class at D, whose __init__ is ValueError's -/
structure CfB (K : PySem.W.Frag) (C D : Addr) : Prop where
  mro : PySem.W.mroIn K C (.ref D) = some true
  at_ : PySem.W.ks_superIn K C D "__init__" = some (some (.builtin "ValueError.__init__"))
  ve : PySem.W.subIn K (.ref C) (.type "ValueError") = some true
/-- .. where it is the def at f2 -/
structure CfF (K : PySem.W.Frag) (C D f2 : Addr) : Prop where
  mro : PySem.W.mroIn K C (.ref D) = some true
  at_ : PySem.W.ks_superIn K C D "__init__" = some (some (.ref f2))
  ty : PySem.W.typeIn K (.ref f2) = some (.type "function")
  fn : PySem.W.fnIn K f2 = true
section
variable {N : List Str} {pins : List (Addr × Obj)} {σ : L2.St} {H0 : Hp} {a C f2 : Addr} {fd fd2 : FuncData} {ar : Arg} {oc : Value} {od : Option Addr} {osl : Array (Option Value)} {body : List Stmt} {p0 p1 p2 p3 p4 : Pos} {pl : Sem Bool} {e : Expr} {es : List Expr} {ta : TA} {Q : Flow → Shared → Prop} {K1 : Hp → Prop}
/-- the wrapper of ValueError.__init__ called -/
theorem call_mw {X : Cx} {u : Addr} {us : List Value} {Qv : Value → Shared → Prop} {Ee : Value → Shared → Prop} (T : OexC X.K C) (I : Inv X pins σ H s1) (ea : H a = some (exo a C none)) (hu : s1.heap.get? u = some (PySem.W.kxs_mw "ValueError.__init__" a)) (hl : us.length ≤ sizeLine) (h : ∀ s', Inv X pins σ H s' → Qv .none s') :
    wpAny (model X.prog X.w) A (call (.ref u) us) Qv Ee s1 := by
  obtain ⟨nm, q, N, bs, bm, sn, sub, ab, col, dd, k0, k1, k2, k3, k5, hC, hbm⟩ := T.cls
  obtain ⟨t1, ho⟩ := exo_at I.hok ea
  have KX := I.kIn
  obtain ⟨hp, g, d, t, os⟩ := s1
  refine wpAny_call (codeAny_of_tree ?_)
  show wpAny _ A.in1 (callAny (.ref u) ⟨us, []⟩) _ _ _
  simp only [callAny]
  refine wpAny_bind (wpAny_load hu ?_)
  simp only [PySem.W.kxs_mw, show (Value.type "method-wrapper" == Value.type "method" || Value.type "method-wrapper" == Value.type "builtin_function_or_method" || Value.type "method-wrapper" == Value.type "method-wrapper") = true by decide, if_true]
  refine PySem.W.KFB.if_so (by decide) ?_
  refine wpAny_bind (PySem.W.check_bound_init F.excBase_ValueError.toExcCallFacts (KX _ _ hC) ho rfl ?_)
  refine wpAny_bind (wpAny_pure (wpAny_pure ?_))
  have fin : ∀ (h' : Heap) (t2 : Addr), (∀ b o, b ≠ a → hp.get? b = some o → h'.get? b = some o) → h'.get? a = some (PySem.HandSPX.excO C t2) → Qv .none ⟨h', g, d, t, os⟩ := fun h' t2 k hx => by
    have J := I.write (t' := t) (x := a) (e := a) (o := exo a C none) (by rw [ea]; exact True.intro) (.inl rfl) k ⟨_, hx⟩ (exo_ok hx)
    have eu : upd H a (exo a C none) = H := by
      funext b
      by_cases hb : b = a
      · rw [hb, upd_same, ea]
      · rw [upd_ne hb]
    rw [eu] at J
    exact h _ J
  refine ⟨plainId_quiet F.excBase_ValueError.init.plain _, codeAny_builtin F.excBase_ValueError.initEntry ?_⟩
  rw [Around.under_plainId F.excBase_ValueError.init.plain _]
  wp_walk
  refine fin _ hp.objs.size (fun b o hb ho => ?_) ?_
  · rw [Heap.get?_update_other _ _ (Ne.symm hb)]
    exact Heap.get?_push_of_some _ ho
  · rw [Heap.get?_update_self _ (Heap.get?_push_of_some _ ho) rfl]
    rfl
theorem st_ve (I : Inv (cxS P w K mg base N qual scope f cda cc A outer s H0) pins σ H s1) (su : SuOk P K mg D cc cda) (sc : ScS y scope)
    (lk : K.lookup f = some ⟨oc, od, .func fd, osl⟩) (hp : (fd.params.posonlyargs ++ fd.params.args).head? = some ar) (har : ar.arg = "self")
    (hN : N[0]? = some ("self" : Str)) (hσ : σ[0]? = some (some (.ref a))) (ea : H a = some (exo a C none)) (cf : CfB K C D) (T : OexC K C)
    (ha : PA (cxS P w K mg base N qual scope f cda cc A outer s H0) (e :: es) ta) (hta : ta σ H fun vs H1 => vs.length ≤ 1000 ∧ H1 a = some (exo a C none) ∧ K1 H1)
    (hk : ∀ H1 s', K1 H1 → H1 a = some (exo a C none) → Inv (cxS P w K mg base N qual scope f cda cc A outer s H0) pins σ H1 s' → Q .next s')
    (hc : eval (.Call (.Attribute (.Call (.Name "super" p0) [] [] p1) "__init__" p2) (e :: es) [] p3) (envS qual scope s.heap.objs.size f cda cc) = (do
      let ov ← attributeBase (.Call (.Name "super" p0) [] [] p1) "__init__" (envS qual scope s.heap.objs.size f cda cc) (eval (.Call (.Name "super" p0) [] [] p1) (envS qual scope s.heap.objs.size f cda cc))
      standAt p2.atName
      let (g, first) ← holding [ov] (getMethod ov "__init__" pl)
      callWith p3 g first (backTo p3 (starEach (e :: es) (envS qual scope s.heap.objs.size f cda cc))) []) := by rfl)
    (he : starEach (e :: es) (envS qual scope s.heap.objs.size f cda cc) = (false, eval e (envS qual scope s.heap.objs.size f cda cc)) :: starEach es (envS qual scope s.heap.objs.size f cda cc) := by rfl) (hpl : (backTo p3 (starEach es (envS qual scope s.heap.objs.size f cda cc))).any (·.1) = false := by rfl)
    (hi : interactive (envS qual scope s.heap.objs.size f cda cc) = false := by rfl) (hs : swapsWith (.Call (.Attribute (.Call (.Name "super" p0) [] [] p1) "__init__" p2) (e :: es) [] p3) none p4.line (envS qual scope s.heap.objs.size f cda cc) = pure false := by rfl) :
    PySem.wpAt (model P w) (A.deeper (envS qual scope s.heap.objs.size f cda cc)) (.func body (envS qual scope s.heap.objs.size f cda cc))
      (exec (.Expr (.Call (.Attribute (.Call (.Name "super" p0) [] [] p1) "__init__" p2) (e :: es) [] p3) p4) (envS qual scope s.heap.objs.size f cda cc)) Q (fun _ _ => False) s1 := by
  refine PySem.ks_wpAt_Expr_any (PySem.ks_wpAt_MethodCall (pl := pl) (super_ok I su sc lk hp har hN hσ ea cf.mro fun s2 I2 hso => ?_) hc) hi hs
  have KX : K.In s2.heap := I2.kIn
  obtain ⟨t1, ho⟩ := exo_at I2.hok ea
  have J : PySem.W.InstAt s2.heap a { cls := .ref C, dict := none, data := .fields #[.ref t1, .none, .none, .none, .bool false, .none] } C none := ⟨ho, rfl, rfl, trivial⟩
  have hI : PySem.W.Looks (model P w) s2.heap (isInstance (.ref a) (.type "ValueError")) true := J.type.andThen (PySem.W.looks_subIn KX cf.ve)
  obtain ⟨h2, g, d, t, os⟩ := s2
  have hm := cf.at_
  cases hcl : PySem.W.clsIn K C with
  | none =>
    unfold PySem.W.ks_superIn at hm
    rw [hcl] at hm
    cases hm
  | some cd =>
    unfold PySem.W.ks_superIn at hm
    rw [hcl] at hm
    refine PySem.W.kxs_getMethod PySem.W.kxs_ValueError hso (PySem.W.looks_opaque KX su.any) (l₀ := cd.mro) (fun A Q E s k q => wpAny_bind ((PySem.W.looks_clsIn KX hcl) A _ E s k (wpAny_pure q))) rfl KX hm hI (PySem.W.ks_ne KX J hcl) (by decide) ?_
    have I3 := ClX.pin_new (o := PySem.W.kxs_mw "ValueError.__init__" a) (h' := h2.push (PySem.W.kxs_mw "ValueError.__init__" a)) (t' := t + 1) I2 (fun _ _ z => Heap.get?_push_of_some _ z) (Nat.le_refl _) (Heap.get?_push_size h2 rfl) (fun v z => nomatch z)
    have hq := ClX.pin_at I3
    have hL : h2.objs.size ≠ (cxS P w K mg base N qual scope f cda cc A outer s H0).env.locals := (I3.pin _ (List.mem_append_right _ List.mem_cons_self)).2.2.1
    refine PySem.W.kxs_callWith1 (i := "ValueError.__init__") (x := a) (h₀ := base) (news_at hL (ClX.base_none I2 (Nat.le_refl _)) hq) List.mem_cons_self (thn (ha.run p3 _ _ σ H _ I3 hta) fun us s4 ⟨vs, H1, I4, r1, hlen, ea1, k1⟩ => ⟨ClX.pin_at I4, ?_⟩) he hpl
    have hlen2 : us.length ≤ sizeLine := by
      rw [← Paired.length r1, sizeLine_eq]
      omega
    exact call_mw T (ClX.unpin I4) ea1 (ClX.pin_at I4) hlen2 fun s' J' => hk H1 s' k1 ea1 J'
theorem st_fn {k : Nat} {ps : List Str} {sp : Sp} (I : Inv (cxS P w K mg base N qual scope f cda cc A outer s H0) pins σ H s1) (su : SuOk P K mg D cc cda) (sc : ScS y scope)
    (lk : K.lookup f = some ⟨oc, od, .func fd, osl⟩) (hp : (fd.params.posonlyargs ++ fd.params.args).head? = some ar) (har : ar.arg = "self")
    (hN : N[0]? = some ("self" : Str)) (hσ : σ[0]? = some (some (.ref a))) (ea : H a = some (exo a C none)) (cf : CfF K C D f2)
    (F2 : FnOk P w K mg base L2.CX0 k f2 fd2 ps sp) (hb : Binds K fd2 ps []) (hr : Room k (A.deeper (envS qual scope s.heap.objs.size f cda cc)))
    (ha : PA (cxS P w K mg base N qual scope f cda cc A outer s H0) (e :: es) ta) (hta : ta σ H fun vs H1 => sp (.ref a :: vs) H1 (fun v H2 => v = .non ∧ K1 H2) L2.E0)
    (hk : ∀ H1 s', K1 H1 → Inv (cxS P w K mg base N qual scope f cda cc A outer s H0) pins σ H1 s' → Q .next s')
    (hc : eval (.Call (.Attribute (.Call (.Name "super" p0) [] [] p1) "__init__" p2) (e :: es) [] p3) (envS qual scope s.heap.objs.size f cda cc) = (do
      let ov ← attributeBase (.Call (.Name "super" p0) [] [] p1) "__init__" (envS qual scope s.heap.objs.size f cda cc) (eval (.Call (.Name "super" p0) [] [] p1) (envS qual scope s.heap.objs.size f cda cc))
      standAt p2.atName
      let (g, first) ← holding [ov] (getMethod ov "__init__" pl)
      callWith p3 g first (backTo p3 (starEach (e :: es) (envS qual scope s.heap.objs.size f cda cc))) []) := by rfl)
    (he : starEach (e :: es) (envS qual scope s.heap.objs.size f cda cc) = (false, eval e (envS qual scope s.heap.objs.size f cda cc)) :: starEach es (envS qual scope s.heap.objs.size f cda cc) := by rfl) (hpl : (backTo p3 (starEach es (envS qual scope s.heap.objs.size f cda cc))).any (·.1) = false := by rfl)
    (hi : interactive (envS qual scope s.heap.objs.size f cda cc) = false := by rfl) (hs : swapsWith (.Call (.Attribute (.Call (.Name "super" p0) [] [] p1) "__init__" p2) (e :: es) [] p3) none p4.line (envS qual scope s.heap.objs.size f cda cc) = pure false := by rfl) :
    PySem.wpAt (model P w) (A.deeper (envS qual scope s.heap.objs.size f cda cc)) (.func body (envS qual scope s.heap.objs.size f cda cc))
      (exec (.Expr (.Call (.Attribute (.Call (.Name "super" p0) [] [] p1) "__init__" p2) (e :: es) [] p3) p4) (envS qual scope s.heap.objs.size f cda cc)) Q (fun _ _ => False) s1 := by
  refine PySem.ks_wpAt_Expr_any (PySem.ks_wpAt_MethodCall (pl := pl) (super_ok I su sc lk hp har hN hσ ea cf.mro fun s2 I2 hso => ?_) hc) hi hs
  have KX : K.In s2.heap := I2.kIn
  obtain ⟨t1, ho⟩ := exo_at I2.hok ea
  have J : PySem.W.InstAt s2.heap a { cls := .ref C, dict := none, data := .fields #[.ref t1, .none, .none, .none, .bool false, .none] } C none := ⟨ho, rfl, rfl, trivial⟩
  obtain ⟨h2, g, d, t, os⟩ := s2
  have hm := cf.at_
  obtain ⟨of, hof, hofc⟩ : ∃ of, h2.get? f2 = some of ∧ of.cls = .type "function" := by
    have ht' : (K.lookup f2).map (·.cls) = some (.type "function") := cf.ty
    cases z : K.lookup f2 with
    | none => rw [z] at ht'; cases ht'
    | some of => rw [z] at ht'; exact ⟨of, KX _ _ z, Option.some.inj ht'⟩
  cases hcl : PySem.W.clsIn K C with
  | none =>
    unfold PySem.W.ks_superIn at hm
    rw [hcl] at hm
    cases hm
  | some cd =>
    unfold PySem.W.ks_superIn at hm
    rw [hcl] at hm
    refine PySem.ks_wpAny_getMethod_super hso (PySem.W.looks_opaque KX su.any) (l₀ := cd.mro) (fun A Q E s k q => wpAny_bind ((PySem.W.looks_clsIn KX hcl) A _ E s k (wpAny_pure q))) rfl KX hm hof hofc (PySem.W.ks_ne KX J hcl) (by decide) ?_
    have I3 := ClX.pin_new (o := PySem.W.methodObj (.ref f2) (.ref a)) (h' := h2.push (PySem.W.methodObj (.ref f2) (.ref a))) (t' := t + 1) I2 (fun _ _ z => Heap.get?_push_of_some _ z) (Nat.le_refl _) (Heap.get?_push_size h2 rfl) (fun v z => nomatch z)
    have hq := ClX.pin_at I3
    have hL : h2.objs.size ≠ (cxS P w K mg base N qual scope f cda cc A outer s H0).env.locals := (I3.pin _ (List.mem_append_right _ List.mem_cons_self)).2.2.1
    refine PySem.W.callWith_M (K := K) (h₀ := base) (first := []) I2.ok.mod.kin (news_at hL (ClX.base_none I2 (Nat.le_refl _)) hq) List.mem_cons_self cf.fn (thn (ha.run p3 _ _ σ H _ I3 hta) fun us s4 ⟨vs, H1, I4, r1, hsp⟩ => ⟨⟨ClX.pin_at I4, I4.kIn⟩, ?_⟩) he hpl
    have r2 : Vals (V.ref a :: vs) (Value.ref a :: us) := .cons rfl r1
    have hl : (Value.ref a :: us).length = ps.length := r2.length.symm.trans (F2.len _ _ _ _ hsp)
    have hbb := hb s4 (Value.ref a :: us) I4.kIn (by rw [List.append_nil]; exact hl)
    rw [List.append_nil] at hbb
    refine wpAny_call (PySem.W.method_call (ClX.pin_at I4) (codeAny_mono (F2.run _ _ s4 H1 ⟨Value.ref a :: us, []⟩ (Value.ref a :: us) (V.ref a :: vs) _ L2.E0 hr I4.env0 hbb r2 hsp) fun r s' hq => ?_))
    match r, hq with
    | .ok (.ret u), hq =>
      obtain ⟨v, H2, I5, rv, rfl, k1⟩ := I4.after hq
      exact hk H2 s' k1 (ClX.unpin I5)
    | .error e, hq => exact (show False from hq).elim
end
end
/-- a def's record: it closes over the class at D -/
def RecS (P : Program) (K : PySem.W.Frag) (mg : Str → Option Value) (qual : Str) (st : Stmt) (D f : Addr) (fd : FuncData) : Prop :=
  ∃ (oc : Value) (od : Option Addr) (dV kV doc pm : Value) (an : Option Addr) (cda cc : Addr) (ct : Value) (osl : Array (Option Value)), fd = PySem.W.ksFn "__init__" qual (defArgs st) (defBody st) (defScope st) dV kV doc pm an (.ref cda) ct cc ∧ K.lookup f = some ⟨oc, od, .func fd, osl⟩ ∧ PySem.W.codeIn K (.ref cda) qual = true ∧ SuOk P K mg D cc cda
/-- __init__ of the first class: nothing is told -/
def spP2 (K : PySem.W.Frag) (D : Addr) : Sp := fun vs H Q _ => ∃ (a C : Addr) (v : V), vs = [.ref a, v] ∧ OexC K C ∧ CfB K C D ∧ H a = some (exo a C none) ∧ Q .non H
theorem execs0 {P : Program} {w : World} {A : Around} {c : Code} {env : Env} {Q : Flow → Shared → Prop} {E : Value → Shared → Prop} {s : Shared} (h : Q .next s) : PySem.wpAt (model P w) A c (execs [] env) Q E s := PySem.wpAt_of_wpAny (wpAny_execs_nil h)
def FlowN (X : Cx) (pins : List (Addr × Obj)) (Qn : L2.St → Hp → Prop) (fl : Flow) (s' : Shared) : Prop := match fl with
          | .next => ∃ σ' H', Inv X pins σ' H' s' ∧ Qn σ' H'
          | _ => False
theorem flow_end {X : Cx} {pins : List (Addr × Obj)} {Qn : L2.St → Hp → Prop} {fl : Flow} {s' : Shared} (h : SP X pins { nx := Qn, bk := fun _ _ => False, ct := fun _ _ => False, rt := fun _ _ => False } fl s') : FlowN X pins Qn fl s' := by
  cases fl with
  | next => exact h
  | brk =>
    obtain ⟨_, _, _, q⟩ := h
    exact q
  | cont =>
    obtain ⟨_, _, _, q⟩ := h
    exact q
  | ret u =>
    obtain ⟨_, _, _, _, _, q⟩ := h
    exact q
/-- what the written part says of two classes, the second one with a field -/
structure Er2 (P : Program) (K : PySem.W.Frag) (mg : Str → Option Value) (s0 s1 : Stmt) (x1 q0 q1 f : Str) (C0 C1 f0 f1 : Addr) : Prop where
  l0 : ∃ fd, RecS P K mg q0 s0 C0 f0 fd ∧ Binds K fd ["self", "text"] []
  cb : CfB K C1 C0
  cf : CfF K C1 C1 f0
  g1 : mg x1 = some (.ref C1)
  oex : OexC K C1
  no : PySem.W.findIn K (.ref C1) f = some none
  i1 : PySem.W.findIn K (.ref C1) "__init__" = some (some (.ref f1))
  t1 : PySem.W.typeIn K (.ref f1) = some (.type "function")
  l1 : ∃ fd, RecS P K mg q1 s1 C1 f1 fd ∧ Binds K fd ["self", f] []
  ga : PySem.W.findIn K (.ref C1) "__getattribute__" = some (some (.builtin "BaseException.__getattribute__"))
  gg : PySem.W.findIn K (.ref C1) "__getattr__" = some none
  hd : PySem.W.hasDictIn K C1 = true
  te : PySem.W.exmOne K (.ref C1) (.ref C1) = some true
section
variable {X : Cx} {P : Program} {s0 s1 : Stmt} {x1 q0 q1 f : Str} {C0 C1 f0 f1 : Addr}
theorem pe_byF2 {a : Addr} {oe : Obj} {cls : Value} {d : Option Addr} {pn : List (Addr × Obj)} {e : Expr} {te : TE} {pos : Pos} (T : Er2 P X.K X.mg s0 s1 x1 q0 q1 f C0 C1 f0 f1) (hz : Zc cls d oe) (hf : ∃ vs, oe.data = .fields vs) (he : PE (X.suite a ((a, oe) :: pn)) e te)
    (hb : attributeBase e f X.env (eval e X.env) = eval e X.env := by rfl) :
    PE (X.suite a ((a, oe) :: pn)) (.Attribute e f pos) (tByF C1 f a cls d te) := by
  refine ⟨fun pins s σ H Q I h => ?_⟩
  refine attr_of hb (thn (he.run pins s σ H _ I h) fun u s1 hh => ?_)
  obtain ⟨x, H1, I1, rx, ex, ec, dd, v, ed, ea, q⟩ := hh
  subst ex
  obtain rfl : u = Value.ref a := rx
  subst ec
  subst ed
  obtain ⟨ha, _⟩ := I1.pin (a, oe) (List.mem_append_left _ List.mem_cons_self)
  obtain ⟨vs, hd⟩ := hf
  have hx : ObjOk X.prog X.w H1 s1.heap dd (.xd [(f, v)]) := I1.hok dd _ ea
  obtain ⟨mA, hns, hr⟩ := hx
  obtain ⟨od, ho, hl⟩ := lookIn_ns hns
  obtain ⟨u, hu, ru⟩ := RelO.some_of (v := v) (o := mA f) (by rw [← look_one f v]; exact hr f)
  have J : PySem.W.InstAt s1.heap a oe C1 (some od) := ⟨ha, hz.1, by unfold PySem.W.notCls; rw [hd] <;> rfl, by rw [hz.2]; exact ho⟩
  exact HandSPX.exc_get I1.kIn J T.ga T.gg T.oex.exC (PySem.W.findObj_own T.hd T.no rfl (by rw [hl, hu])) (handed_of ru) ⟨v, H1, I1.tok _, ru, q⟩
end
theorem su_mk {P : Program} {K : PySem.W.Frag} {h : Heap} {mg : Str → Option Value} (X : K.In h) (G : h.Ns mainGlobals mg) {D cc cda : Addr} {c1 c2 : Value} {d1 d2 : Option Addr} {l1 l2 : Array (Option Value)} {vs : Array Value} {file : Str} {tf : Tok} {cd : ClassData}
    (hcell : K.lookup cc = some ⟨c1, d1, .cell (some (.ref D)), l1⟩) (hcode : K.lookup cda = some ⟨c2, d2, .fields vs, l2⟩) (hvs : vs[2]? = some (.str file tf)) (hfile : ((P.main.file : Str) == file) = true)
    (htop : (P.main.scope.names.lookup ("super" : Str)).isSome = false) (hsup : PySem.W.nsIn K mainGlobals "super" = some none) (hany : PySem.W.nsIn K cStatics "thirdparty.any" = some none) (hcls : PySem.W.clsIn K D = some cd) : SuOk P K mg D cc cda :=
  ⟨⟨_, _, _, hcell⟩, ⟨_, _, _, _, _, _, hcode, hvs, hfile⟩, htop, PySem.W.mg_none_of X G hsup, hany, ⟨_, hcls⟩⟩
theorem fn_in {K : PySem.W.Frag} {f : Addr} {oc : Value} {od : Option Addr} {fd : FuncData} {sl : Array (Option Value)} (l : K.lookup f = some ⟨oc, od, .func fd, sl⟩) : PySem.W.fnIn K f = true := by
  unfold PySem.W.fnIn
  rw [l]
theorem ty_in {K : PySem.W.Frag} {f : Addr} {od : Option Addr} {dt : Data} {sl : Array (Option Value)} {c : Value} (l : K.lookup f = some ⟨c, od, dt, sl⟩) : PySem.W.typeIn K (.ref f) = some c := by
  show (K.lookup f).map (·.cls) = some c
  rw [l]
  rfl
theorem fr_of {sc : Scope} (h : ∀ p ∈ sc.names, (p.2 = NameKind.cell ∨ p.2 = NameKind.free) → p.1 = ("__class__" : Str)) : ∀ x, sc.names.lookup x = some .cell ∨ sc.names.lookup x = some .free → x = ("__class__" : Str) := fun x hx => by
  rcases hx with hx | hx
  · exact h _ (PySem.mem_of_lookup hx) (.inl rfl)
  · exact h _ (PySem.mem_of_lookup hx) (.inr rfl)
/-- __init__ of the second class, its field f -/
def spF2 (C : Addr) (f : Str) : Sp := fun vs H Q _ => ∃ (a : Addr) (v : V), vs = [.ref a, v] ∧ H a = some (exo a C none) ∧ ∀ dx, H dx = none → dx ≠ a → Q .non (upd (upd H dx (exd dx [(f, v)])) a (exo a C (some dx)))
theorem f2_end {C a : Addr} {f : Str} {H1 : Hp} {v : V} {Q : XK} {E : XK} (ha : H1 a = none) (k : ∀ d, H1 d = none → Q (.ref C) (some d) (upd H1 d (.xd [(f, v)]))) :
    spF2 C f (.ref a :: ([v] ++ [])) (upd H1 a (exo a C none)) (fun u H2 => u = .non ∧ ∃ (d : Addr) (fs : List (Str × V)), H2 a = some (exo a C (some d)) ∧ H2 d = some (exd d fs) ∧ H1 d = none ∧ Q (.ref C) (some d) (upd (del H2 a) d (.xd fs))) E := by
  refine ⟨a, v, rfl, upd_same, fun dx nd ne => ?_⟩
  rw [upd_ne ne] at nd
  refine ⟨rfl, dx, [(f, v)], upd_same, by rw [upd_ne ne]; exact upd_same, nd, ?_⟩
  have e : upd (del (upd (upd (upd H1 a (exo a C none)) dx (exd dx [(f, v)])) a (exo a C (some dx))) a) dx (.xd [(f, v)]) = upd H1 dx (.xd [(f, v)]) := by
    funext b
    by_cases hb : b = dx
    · rw [hb, upd_same, upd_same]
    · rw [upd_ne hb, upd_ne hb]
      by_cases h2 : b = a
      · rw [h2, del_same, ha]
      · rw [del_ne h2, upd_ne h2, upd_ne hb, upd_ne h2]
  rw [e]
  exact k dx nd
theorem cls_in {K : PySem.W.Frag} {C : Addr} {oc : Value} {od : Option Addr} {cd : ClassData} {sl : Array (Option Value)} (l : K.lookup C = some ⟨oc, od, .cls cd, sl⟩) : PySem.W.clsIn K C = some cd := by
  unfold PySem.W.clsIn
  rw [l]
theorem er2_mk {P : Program} {K : PySem.W.Frag} {h : Heap} {mg : Str → Option Value} (X : K.In h) (G : h.Ns mainGlobals mg) {s0 s1 : Stmt} {x1 q0 q1 f : Str} {C0 C1 e0 e1 T0 N cc0 cda0 cc1 cda1 : Addr} {nm q : Str} {bs : List Value} {sn : List Str} {sub : List Value} {ab : Bool} {col : Option Bool} {dd : Option Addr} {m0 m1 m2 m3 m5 : Option Value}
    {kV0 dc0 pm0 ct0 kV1 dc1 pm1 ct1 ocT : Value} {od0 an0 od1 an1 odT : Option Addr} {sl0 sl1 slT : Array (Option Value)} {its : Array Value} {nT : Nat}
    (su0 : SuOk P K mg C0 cc0 cda0) (su1 : SuOk P K mg C1 cc1 cda1)
    (l0 : K.lookup e0 = some ⟨.type "function", od0, .func (PySem.W.ksFn "__init__" q0 (defArgs s0) (defBody s0) (defScope s0) (.ref T0) kV0 dc0 pm0 an0 (.ref cda0) ct0 cc0), sl0⟩) (c0 : PySem.W.codeIn K (.ref cda0) q0 = true)
    (t0 : K.lookup T0 = some ⟨ocT, odT, .seq its nT, slT⟩)
    (hb0 : ∀ us : List Value, us.length = 2 → ∃ k, bindArgs (PySem.W.ksFn "__init__" q0 (defArgs s0) (defBody s0) (defScope s0) (.ref T0) kV0 dc0 pm0 an0 (.ref cda0) ct0 cc0) ⟨us, []⟩ = seqItems? (.ref T0) >>= k ∧ k (some its) = pure ((["self", "text"] : List Str).zip us))
    (mr0 : PySem.W.mroIn K C1 (.ref C0) = some true) (sp0 : PySem.W.ks_superIn K C1 C0 "__init__" = some (some (.builtin "ValueError.__init__"))) (ve : PySem.W.subIn K (.ref C1) (.type "ValueError") = some true)
    (mr1 : PySem.W.mroIn K C1 (.ref C1) = some true) (sp1 : PySem.W.ks_superIn K C1 C1 "__init__" = some (some (.ref e0)))
    (g1 : PySem.W.nsIn K mainGlobals x1 = some (some (.ref C1)))
    (xC : K.lookup C1 = some (excClassObj nm q C1 N bs [.ref C0, .type "ValueError", .type "Exception", .type "BaseException", .type "object"] true sn sub ab col dd m0 m1 m2 m3 m5 "ValueError.__new__"))
    (sa : PySem.W.findIn K (.ref C1) "__setattr__" = some (some (.builtin "object.__setattr__"))) (eC : PySem.W.subIn K (.ref C1) (.type "BaseException") = some true) (tC : PySem.W.typeIn K (.ref C1) = some (.type "type")) (kC : PySem.W.keepIn K (.ref C1) = true)
    (no : PySem.W.findIn K (.ref C1) f = some none) (i1 : PySem.W.findIn K (.ref C1) "__init__" = some (some (.ref e1)))
    (l1 : K.lookup e1 = some ⟨.type "function", od1, .func (PySem.W.ksFn "__init__" q1 (defArgs s1) (defBody s1) (defScope s1) .none kV1 dc1 pm1 an1 (.ref cda1) ct1 cc1), sl1⟩) (c1 : PySem.W.codeIn K (.ref cda1) q1 = true)
    (hb1 : ∀ us : List Value, us.length = 2 → bindArgs (PySem.W.ksFn "__init__" q1 (defArgs s1) (defBody s1) (defScope s1) .none kV1 dc1 pm1 an1 (.ref cda1) ct1 cc1) ⟨us, []⟩ = pure ((["self", f] : List Str).zip us))
    (ga : PySem.W.findIn K (.ref C1) "__getattribute__" = some (some (.builtin "BaseException.__getattribute__"))) (gg : PySem.W.findIn K (.ref C1) "__getattr__" = some none) (hd : PySem.W.hasDictIn K C1 = true) (iC : PySem.W.isClsIn K C1 = true) (sC : PySem.W.subIn K (.ref C1) (.ref C1) = some true) :
    Er2 P K mg s0 s1 x1 q0 q1 f C0 C1 e0 e1 where
  l0 := ⟨_, ⟨_, od0, _, kV0, dc0, pm0, an0, cda0, cc0, ct0, sl0, rfl, l0, c0, su0⟩, fun s us Y hl => by
    rw [List.append_nil] at hl ⊢
    obtain ⟨k, e, e2⟩ := hb0 us hl
    refine BindsTo.of_looks fun M => ?_
    rw [e]
    exact looks_items Y t0 rfl (.of_pure e2)⟩
  cb := ⟨mr0, sp0, ve⟩
  cf := ⟨mr1, sp1, ty_in l0, fn_in l0⟩
  g1 := PySem.W.mg_of X G g1
  oex := ⟨⟨nm, q, N, bs, _, sn, sub, ab, col, dd, m0, m1, m2, m3, m5, xC, rfl⟩, sa, eC, tC, kC⟩
  no := no
  i1 := i1
  t1 := ty_in l1
  l1 := ⟨_, ⟨_, od1, _, kV1, dc1, pm1, an1, cda1, cc1, ct1, sl1, rfl, l1, c1, su1⟩, .all hb1⟩
  ga := ga
  gg := gg
  hd := hd
  te := exm_is eC iC tC sC
end ErX
set_option Elab.async false
set_option linter.all false
set_option maxRecDepth 100000
set_option maxHeartbeats 4000000
/-! BadNumber: how it is made -/
namespace K08
open PySem PySem.Spec PyProof.Rows L2 Gd QM ErX
abbrev s_pinit : Stmt := ErX.cdInit (topS 39)
abbrev s_binit : Stmt := ErX.cdInit (topS 40)
abbrev ErB (P : Program) (K : PySem.W.Frag) (mg : Str → Option Value) (C0 C1 e0 e1 : Addr) : Prop := Er2 P K mg s_pinit s_binit "BadNumber" "PointsumError.__init__" "BadNumber.__init__" "number" C0 C1 e0 e1
theorem scS_p : ScS "text" (defScope s_pinit) := ⟨rfl, rfl, rfl, by decide, fr_of (by decide +kernel), rfl, rfl, by decide +kernel, rfl, rfl⟩
theorem scS_b : ScS "number" (defScope s_binit) := ⟨rfl, rfl, rfl, by decide, fr_of (by decide +kernel), rfl, rfl, by decide +kernel, rfl, rfl⟩
section
variable {P : Program} {w : World} {K : PySem.W.Frag} {mg : Str → Option Value} {base : Heap} {C0 C1 e0 e1 : Addr}
theorem ok_pinit {fd : FuncData} (F : RecS P K mg "PointsumError.__init__" s_pinit C0 e0 fd) : FnOk P w K mg base L2.CX0 1 e0 fd ["self", "text"] (spP2 K C0) := by
  obtain ⟨oc, od, dV, kV, doc, pm, an, cda, cc, ct, osl, rfl, lk, hcd, su⟩ := F
  refine fnS_of lk hcd su scS_p (fun vs H Q E h => ?_) (fun A outer s H v0 v1 Q E hr hsp s1 I => ?_)
  · obtain ⟨a, C, v, rfl, _⟩ := h
    rfl
  · obtain ⟨a, C, v, e, T, cf, ea, q⟩ := hsp
    have e0 := List.cons.inj e
    have e1 := List.cons.inj e0.2
    obtain rfl : v0 = V.ref a := e0.1
    obtain rfl : v1 = v := e1.1
    clear e0 e1 e
    refine PySem.ks_wpAt_execs_cons (st_ve (K1 := fun H1 => H1 = H) I su scS_p lk rfl rfl rfl rfl ea cf T (pa_cons (pv 1) pa_nil) ⟨v1, rfl, (by show 1 ≤ 1000; decide), ea, rfl⟩ (fun H1 s' k1 _ J => execs0 ?_))
    subst k1
    exact ⟨_, _, J, q⟩
theorem ok_binit (T : ErB P K mg C0 C1 e0 e1) {fd : FuncData} (F : RecS P K mg "BadNumber.__init__" s_binit C1 e1 fd) : FnOk P w K mg base L2.CX0 2 e1 fd ["self", "number"] (spF2 C1 "number") := by
  obtain ⟨fd0, F0, b0⟩ := T.l0
  obtain ⟨oc, od, dV, kV, doc, pm, an, cda, cc, ct, osl, rfl, lk, hcd, su⟩ := F
  refine fnS_of lk hcd su scS_b (fun vs H Q E h => ?_) (fun A outer s H v0 v1 Q E hr hsp s1 I => ?_)
  · obtain ⟨a, v, rfl, _⟩ := h
    rfl
  · obtain ⟨a, v, e, ea, q⟩ := hsp
    have e0 := List.cons.inj e
    have e1 := List.cons.inj e0.2
    obtain rfl : v0 = V.ref a := e0.1
    obtain rfl : v1 = v := e1.1
    clear e0 e1 e
    refine PySem.ks_wpAt_execs_cons (st_fn (K1 := fun H1 => H1 = H) I su scS_b lk rfl rfl rfl rfl ea T.cf (ok_pinit (w := w) (base := base) F0) b0 hr (pa_cons pe_str pa_nil) ⟨a, C1, _, rfl, T.oex, T.cb, ea, rfl, rfl⟩ (fun H1 s' k1 J => ?_))
    subst k1
    exact PySem.wpAt_of_wpAny (wpAny_mono ((pss_one (ps_ost (pv 0) (pv 1))).run [] s' _ H1 { nx := fun _ H' => Q .non H', bk := fun _ _ => False, ct := fun _ _ => False, rt := fun _ _ => False } J ⟨v1, rfl, .ref a, rfl, a, C1, rfl, T.oex, T.no, .inl ⟨ea, q⟩⟩) (fun fl s2 hs => flow_end hs) (fun _ _ z => z))
end
section
variable {P : Program} {w : World} {K : PySem.W.Frag} {mg : Str → Option Value} {base : Heap} {C0 C1 e0 e1 : Addr}
/-- BadNumber(e) -/
theorem pmk_bad {X : Cx} (T : ErB X.prog X.K X.mg C0 C1 e0 e1) {e : Expr} {ta : TA} {p pos : Pos} (hr : Room 3 X.A) (hg : Gl X "BadNumber") (ha : PA X [e] ta)
    (he : starEach (e :: []) X.env = (false, eval e X.env) :: starEach [] X.env := by rfl) (hpl : (backTo pos (starEach [] X.env)).any (·.1) = false := by rfl) :
    PMk X (.Call (.Name "BadNumber" p) [e] [] pos) (tMkO C1 (spF2 C1 "number") [] ta) := by
  obtain ⟨fd1, F1, b1⟩ := T.l1
  exact pmk_oex T.oex T.i1 T.t1 (ok_binit (P := X.prog) (w := X.w) (base := X.base) T F1) hr b1 .nil pass0 hg T.g1 ha (by decide) he hpl
theorem bad_end {C a : Addr} {f : Str} {H1 : Hp} {v : V} {Q : XK} {E : XK} (ha : H1 a = none) (k : ∀ d, H1 d = none → Q (.ref C) (some d) (upd H1 d (.xd [(f, v)]))) :
    spF2 C f (.ref a :: ([v] ++ [])) (upd H1 a (exo a C none)) (fun u H2 => u = .non ∧ ∃ (d : Addr) (fs : List (Str × V)), H2 a = some (exo a C (some d)) ∧ H2 d = some (exd d fs) ∧ H1 d = none ∧ Q (.ref C) (some d) (upd (del H2 a) d (.xd fs))) E := f2_end ha k
end
end K08
set_option Elab.async false
set_option linter.all false
set_option maxRecDepth 100000
set_option maxHeartbeats 4000000
namespace K08
open PySem PySem.Spec PyProof.Rows L2 Gd QM K08M ErX
section
variable {P : Program} {w : World} {K : PySem.W.Frag} {mg : Str → Option Value} {base : Heap}
/-! ### twist -/
/-- numbers that are refused -/
def Ref (d : Int) : Prop := d = 0 ∨ clsI d ≠ d
def sp_twist (K : PySem.W.Frag) (C : Addr) : Sp := fun vs H Q E => ∃ (p : Addr) (c : Cv) (d : Int), vs = [.ref p, .int d] ∧ SqT K H p c.tup ∧ d.natAbs < 1600 ∧
  ((Ref d ∧ ∀ H' dd, Same H H' → H' dd = none → E (.ref C) (some dd) (upd H' dd (.xd [(("number" : Str), .int d)]))) ∨
    (¬ Ref d ∧ c.Sm ∧ PB (-27 * c.c4) (-54 * c.c6) ∧ ∃ a b, Sf c a b ∧ PB (d * d * a) (d * d * d * b) ∧ ∀ A C t H', Up (d * d * a) (d * d * d * b) A C → Sh A C → Same H H' → H t = none → H' t = some (.tup [.int A, .int C]) → Q (.ref t) H'))
abbrev s_twist : Stmt := topS 51
theorem sc_twist : FnScope ["curve", "d", "a", "b"] ["curve", "d"] (defScope s_twist) := ⟨rfl, rfl, rfl, by decide +kernel, rfl, by decide +kernel, by decide +kernel⟩
theorem k_twist (T : Tx K mg) (D : Df K mg "twist" s_twist ["curve", "d"]) {C0 C1 e0 e1 : Addr} (ER : ErB P K mg C0 C1 e0 e1) (c_short_form : Kl P w K mg base 8 "short_form" (sp_short_form K)) (c_without_powers : Kl P w K mg base 7 "without_powers" (sp_without_powers K)) (c_class_of : Kl P w K mg base 6 "class_of" (sp_class_of K)) : ErX.Kx P w K mg base 9 "twist" (sp_twist K C1) := by
  have nd := sc_twist.nd
  refine ErX.Kx.by_body D sc_twist (fun vs H Q E h => ?_) (fun f cdv A outer s H vs Q E hr h => ?_)
  · obtain ⟨_, _, _, rfl, _⟩ := h
    rfl
  · obtain ⟨p, c, d, rfl, hx, hd, q⟩ := h
    have bd : B 16 d := by unfold B; omega
    have hu1 := hu_of hr
    refine ⟨_, (pss_cons (ps_if (PW.pt (pw_or (pt_cmpR op_eq (pv 1) pe_int (nomark _)) (pw_or1 (pt_cmpR op_ne (pe_k c_class_of  hr (by decide) (by rfl) (pa_cons (pv 1) pa_nil)) (pv 1) (nomark _))))) (pss_one (ps_raise rfl (takes_of rfl rfl rfl rfl) (pmk_bad ER (hr.mono (by decide)) (by rfl) (pa_cons (pv 1) pa_nil)))) pss_nil)
      (pss_cons (ps_asg (pe_k c_short_form  hr (by decide) (by rfl) (pa_cons (pv 0) pa_nil)) (pg_tup rfl (pgs_cons (pg_name (i := 2) nd rfl (by first | exact Or.inl rfl | exact Or.inr rfl)) (pgs_cons (pg_name (i := 3) nd rfl (by first | exact Or.inl rfl | exact Or.inr rfl)) pgs_nil))))
      (pss_one (ps_ret (pe_k c_without_powers  hr (by decide) (by rfl) (pa_cons (pe_op op_mulW (pe_op op_mulW (pv 1) (pv 1)) (pv 2)) (pa_cons (pe_op op_mulW (pe_op op_mulW (pe_op op_mulW (pv 1) (pv 1)) (pv 1)) (pv 3)) pa_nil))))))), ?_⟩
    rcases q with ⟨hR, q⟩ | ⟨hN, hm, hp, a, b, hf, hpb, q⟩
    · refine ⟨_, rfl, rfl, _, rfl, ?_⟩
      rw [dec_int]
      by_cases d0 : d = 0
      · refine iteY (beq_iff_eq.mpr d0) (iteY rfl ?_)
        exact ⟨_, rfl, (by show 1 ≤ 1000; decide), fun a ha => bad_end ha (fun dd nd => q H dd (Same.refl H) nd)⟩
      · refine iteN (fun z => d0 (beq_iff_eq.mp z)) ?_
        refine ⟨_, rfl, d, rfl, d0, hd, fun H1 s1 => ?_⟩
        refine ⟨_, rfl, rfl, _, rfl, ?_⟩
        rw [dec_int]
        have ne : clsI d ≠ d := hR.resolve_left d0
        refine iteY (by simp [ne]) ?_
        exact ⟨_, rfl, (by show 1 ≤ 1000; decide), fun a ha => bad_end ha (fun dd nd => q H1 dd s1 nd)⟩
    · have d0 : d ≠ 0 := fun z => hN (.inl z)
      have ec : clsI d = d := Classical.byContradiction fun z => hN (.inr z)
      refine ⟨_, rfl, rfl, _, rfl, ?_⟩
      rw [dec_int]
      refine iteN (fun z => d0 (beq_iff_eq.mp z)) ?_
      refine ⟨_, rfl, d, rfl, d0, hd, fun H1 s1 => ?_⟩
      refine ⟨_, rfl, rfl, _, rfl, ?_⟩
      rw [dec_int]
      refine iteN (by simp [ec]) ?_
      refine ⟨.ref p, rfl, p, c, rfl, Same.tup s1 hx, hm, hp, fun a' b' t1 H2 u1 z1 s2 n1 g1 => ?_⟩
      obtain ⟨rfl, rfl⟩ := Sf.one hf ⟨u1, z1⟩
      refine ⟨t1, _, rfl, tup_of g1, rfl, _, _, rfl, _, _, rfl, rfl, ?_⟩
      have PA := (hp.up u1).1
      have ba := PA.a
      have bb := PA.b
      have s12 := s1.trans s2
      clear s1 s2 g1 n1
      first | refine sigN [some (.ref p), some (.int (d)), some (.int (a)), some (.int (b))] (by rfl) ?_ | refine sig [some (.ref p), some (.int (d)), some (.int (a)), some (.int (b))] (by rfl) ?_
      refine ⟨_, rfl, _, rfl, _, _, rfl, rfl, bd.mulW bd (by decide), _, rfl, _, _, rfl, rfl, (bd.mul bd).mulW ba (by decide), ?_⟩
      refine ⟨_, rfl, _, rfl, _, _, rfl, rfl, bd.mulW bd (by decide), _, rfl, _, _, rfl, rfl, (bd.mul bd).mulW bd (by decide), _, rfl, _, _, rfl, rfl, ((bd.mul bd).mul bd).mulW bb (by decide), ?_⟩
      exact ⟨_, _, rfl, hpb, fun A C t H3 u z s3 n3 g3 => q A C t H3 u z (s12.trans s3) (s12.free n3) g3⟩
/-! ### the law's look at it -/
def sp_law_told_twist (K : PySem.W.Frag) : Sp := fun vs H Q _ => ∃ (p : Addr) (c : Cv) (d : Int), vs = [.ref p, .int d] ∧ SqT K H p c.tup ∧ d.natAbs < 1600 ∧ Ref d ∧ ∀ H' t, Same H H' → H' t = some (.tup [.str "bad", .int d]) → Q (.ref t) H'
abbrev s__law_told_twist : Stmt := topS 69
theorem sc__law_told_twist : FnScope ["five_v", "d", "found", "e"] ["five_v", "d"] (defScope s__law_told_twist) := ⟨rfl, rfl, rfl, by decide +kernel, rfl, by decide +kernel, by decide +kernel⟩
theorem k_law_told_twist (T : Tx K mg) (D : Df K mg "_law_told_twist" s__law_told_twist ["five_v", "d"]) {C0 C1 e0 e1 : Addr} (ER : ErB P K mg C0 C1 e0 e1) (c_twist : ErX.Kx P w K mg base 9 "twist" (sp_twist K C1)) : Kl P w K mg base 10 "_law_told_twist" (sp_law_told_twist K) := by
  have nd := sc__law_told_twist.nd
  refine Kl.by_body D sc__law_told_twist (fun vs H Q E h => ?_) (fun f cdv A outer s H vs Q E hr h => ?_)
  · obtain ⟨_, _, _, rfl, _⟩ := h
    rfl
  · obtain ⟨p, c, d, rfl, hx, hd, hR, q⟩ := h
    have hu1 := hu_of hr
    refine ⟨_, (pss_cons (ps_try_as (i := 3) (Wout := fun _ _ _ _ => False) rfl rfl nd rfl rfl ⟨rfl, by decide, Or.inl ER.g1⟩ takes0
        (fun W pn xe tk _ => (pss_one (ps_set (i := 2) nd rfl (by first | exact Or.inl rfl | exact Or.inr rfl) (ErX.pe_xS c_twist hr (by decide) (by rfl) (fun σ => passAt tk σ) (pa_cons (pv 0) (pa_cons (pv 1) pa_nil))))))
        (fun a oe cls d pn hz hf => (pss_one (ps_set (i := 2) nd rfl (by first | exact Or.inl rfl | exact Or.inr rfl) (pe_tup (pa_cons pe_str (pa_cons (ErX.pe_byF2 ER hz hf (pv 3)) pa_nil)))))))
      (pss_one (ps_ret (pv 2)))), ?_⟩
    refine ⟨_, rfl, _, rfl, p, c, d, rfl, hx, hd, .inl ⟨hR, fun H1 dd s1 nd => ?_⟩⟩
    have s2 := s1.trans (Same.new (o := .xd [(("number" : Str), .int d)]) nd)
    refine ⟨true, ER.te, fun _ a0 _ => ?_, fun z => Bool.noConfusion z⟩
    refine ⟨_, rfl, rfl, rfl, dd, _, rfl, upd_same, (by show 2 ≤ sizeLine; decide), fun t nt => ?_⟩
    exact ⟨_, rfl, q _ t (s2.trans (Same.new nt)) upd_same⟩
end
end K08
set_option linter.all false
set_option maxRecDepth 100000
/-! twists: which numbers are refused; what the forms of twists have to do with one another. Plain Lean -/
namespace K08
open QM K08M
def sqB (n : Nat) : Bool := (List.range 40).all fun p => decide (p < 2) || decide (n % (p * p) ≠ 0)
def clsOk (n : Nat) : Bool := n == 0 || !(sqB n) || (decide (clsI (n : Int) = (n : Int)) && decide (clsI (-(n : Int)) = -(n : Int)))
theorem clsTab : ∀ n, n < 1600 → clsOk n = true := by decide +kernel
theorem cls_free {f : Int} (h0 : f ≠ 0) (h : ∀ p : Nat, 2 ≤ p → ¬ p * p ∣ f.natAbs) (hb : f.natAbs < 1600) : clsI f = f := by
  have := clsTab f.natAbs hb
  unfold clsOk at this
  rw [Bool.or_eq_true, Bool.or_eq_true, beq_iff_eq, Bool.and_eq_true, decide_eq_true_iff, decide_eq_true_iff] at this
  rcases this with (e | e) | ⟨e1, e2⟩
  · omega
  · exfalso
    have e3 : sqB f.natAbs = true := by
      unfold sqB
      rw [List.all_eq_true]
      intro p hp
      rw [Bool.or_eq_true, decide_eq_true_iff, decide_eq_true_iff]
      rcases Nat.lt_or_ge p 2 with z | z
      · exact .inl z
      · exact .inr fun y => h p z (Nat.dvd_of_mod_eq_zero y)
    rw [e3] at e
    cases e
  · rcases Int.natAbs_eq f with z | z
    · rw [← z] at e1
      exact e1
    · rw [← z] at e2
      exact e2
theorem not_ref {f : Int} (h0 : f ≠ 0) (h : ∀ p : Nat, 2 ≤ p → ¬ p * p ∣ f.natAbs) (hb : f.natAbs < 1600) : ¬ Ref f := fun z => by
  rcases z with z | z
  · exact h0 z
  · exact z (cls_free h0 h hb)
instance : DecidablePred Ref := fun d => by unfold Ref; infer_instance
theorem bads : ∀ d ∈ ([0, 4, -4, 8, 12, -18, 50, 9, 75] : List Int), Ref d ∧ d.natAbs < 1600 := by decide +kernel
def ds1 : List Int := [-1, 2, 3, -5, 6, 7, 30, -77, 1, 101]
def ds2 : List Int := [2, -3, 5, 15, -6]
theorem goods1 : ∀ d ∈ ds1, d ≠ 0 ∧ d.natAbs ≤ 101 ∧ ¬ Ref d := by decide +kernel
theorem goods2 : ∀ d ∈ ds2, d ≠ 0 ∧ d.natAbs ≤ 15 ∧ ¬ Ref d := by decide +kernel
/-- each pair has a short form -/
theorem sf_ex : ∀ (k : Nat) {a b : Int}, a.natAbs + b.natAbs ≤ k → ¬ (a = 0 ∧ b = 0) → ∃ A C, Up a b A C ∧ Sh A C
  | 0, a, b, h, hz => absurd ⟨by omega, by omega⟩ hz
  | k + 1, a, b, h, hz => by
    by_cases hs : Sh a b
    · exact ⟨a, b, Up.refl a b, hs⟩
    · obtain ⟨p, hp⟩ := Classical.not_forall.mp hs
      obtain ⟨p2, hp⟩ := Classical.not_imp.mp hp
      obtain ⟨p4, hp⟩ := Classical.not_imp.mp hp
      have p6 := Classical.not_not.mp hp
      obtain ⟨x, ex⟩ := Int.ofNat_dvd_left.mpr p4
      obtain ⟨y, ey⟩ := Int.ofNat_dvd_left.mpr p6
      rw [Int.natCast_pow] at ex ey
      have q4 : 2 ≤ p ^ 4 := Nat.le_trans p2 (Nat.le_self_pow (by decide) p)
      have q6 : 2 ≤ p ^ 6 := Nat.le_trans p2 (Nat.le_self_pow (by decide) p)
      have ax : a.natAbs = p ^ 4 * x.natAbs := by rw [ex, Int.natAbs_mul, Int.natAbs_pow, Int.natAbs_natCast]
      have ay : b.natAbs = p ^ 6 * y.natAbs := by rw [ey, Int.natAbs_mul, Int.natAbs_pow, Int.natAbs_natCast]
      have hx : 2 * x.natAbs ≤ a.natAbs := by rw [ax]; exact Nat.mul_le_mul_right _ q4
      have hy : 2 * y.natAbs ≤ b.natAbs := by rw [ay]; exact Nat.mul_le_mul_right _ q6
      have hz2 : ¬ (x = 0 ∧ y = 0) := by
        rintro ⟨rfl, rfl⟩
        exact hz ⟨by rw [ex, Int.mul_zero], by rw [ey, Int.mul_zero]⟩
      obtain ⟨A, C, u, s⟩ := sf_ex k (a := x) (b := y) (by omega) hz2
      exact ⟨A, C, Up.trans ⟨p, by omega, ex, ey⟩ u, s⟩
theorem sf_is {a b : Int} (hz : ¬ (a = 0 ∧ b = 0)) : ∃ A C, Up a b A C ∧ Sh A C := sf_ex _ (Nat.le_refl _) hz
/-- twisting by d, then by e, is twisting by f, where d e = s s f -/
theorem twice {a b F G X Y Z W d e f : Int} (hd : d ≠ 0) (he : e ≠ 0) (h1 : Up (d * d * a) (d ^ 3 * b) F G) (h2 : Up (e * e * F) (e ^ 3 * G) X Y) (h3 : Up (f * f * a) (f ^ 3 * b) Z W) (s1 : Sh X Y) (s2 : Sh Z W) (hf : Free (d * e) f) : X = Z ∧ Y = W := by
  obtain ⟨u, u0, e1, e2⟩ := h1
  obtain ⟨v, v0, e3, e4⟩ := h2
  obtain ⟨w, w0, e5, e6⟩ := h3
  obtain ⟨⟨s, s0, e7⟩, -⟩ := hf
  refine Up.one_form (a := (d * e) * (d * e) * a) (b := (d * e) ^ 3 * b) ⟨u * v, Nat.mul_pos u0 v0, ?_, ?_⟩ ⟨s * w, Nat.mul_pos s0 w0, ?_, ?_⟩ s1 s2
  · rw [Int.natCast_mul]
    generalize (u : Int) = u at *
    generalize (v : Int) = v at *
    have : d * e * (d * e) * a = e * e * (d * d * a) := by grind
    rw [this, e1]
    have : e * e * (u ^ 4 * F) = u ^ 4 * (e * e * F) := by grind
    rw [this, e3]
    grind
  · rw [Int.natCast_mul]
    generalize (u : Int) = u at *
    generalize (v : Int) = v at *
    have : (d * e) ^ 3 * b = e ^ 3 * (d ^ 3 * b) := by grind
    rw [this, e2]
    have : e ^ 3 * (u ^ 6 * G) = u ^ 6 * (e ^ 3 * G) := by grind
    rw [this, e4]
    grind
  · rw [Int.natCast_mul]
    generalize (s : Int) = s at *
    generalize (w : Int) = w at *
    have : d * e * (d * e) * a = s ^ 4 * (f * f * a) := by rw [e7]; grind
    rw [this, e5]
    grind
  · rw [Int.natCast_mul]
    generalize (s : Int) = s at *
    generalize (w : Int) = w at *
    have : (d * e) ^ 3 * b = s ^ 6 * (f ^ 3 * b) := by rw [e7]; grind
    rw [this, e6]
    grind
end K08
set_option linter.all false
set_option maxRecDepth 100000
/-! limits; the curve of a short form; curves near by. Plain Lean -/
namespace K08
open L2 Gd QM K08M
theorem mul_le {a b : Int} {x y : Nat} (ha : a.natAbs ≤ x) (hb : b.natAbs ≤ y) : (a * b).natAbs ≤ x * y := by
  rw [Int.natAbs_mul]
  exact Nat.mul_le_mul ha hb
theorem add_le {a b : Int} {x y : Nat} (ha : a.natAbs ≤ x) (hb : b.natAbs ≤ y) : (a + b).natAbs ≤ x + y := by omega
theorem Cv.Tn.lim {c : Cv} (h : c.Tn) : (-27 * c.c4).natAbs ≤ 60000 ∧ (-54 * c.c6).natAbs ≤ 5000000 := by
  obtain ⟨h1, h2, h3, h4, h6⟩ := h
  have e11 := mul_le h1 h1
  have e13 := mul_le h1 h3
  have e33 := mul_le h3 h3
  have b2 : c.b2.natAbs ≤ 21 := by unfold Cv.b2; omega
  have b4 : c.b4.natAbs ≤ 69 := by unfold Cv.b4; omega
  have b6 : c.b6.natAbs ≤ 129 := by unfold Cv.b6; omega
  have e22 := mul_le b2 b2
  have e222 := mul_le e22 b2
  have e24 := mul_le b2 b4
  constructor
  · unfold Cv.c4
    omega
  · have : 36 * c.b2 * c.b4 = 36 * (c.b2 * c.b4) := Int.mul_assoc _ _ _
    unfold Cv.c6
    omega
theorem disc_eq (c : Cv) : 1728 * c.disc = c.c4 * c.c4 * c.c4 - c.c6 * c.c6 := by
  obtain ⟨a1, a2, a3, a4, a6⟩ := c
  simp only [Cv.disc, Cv.c4, Cv.c6, Cv.b2, Cv.b4, Cv.b6, Cv.b8]
  grind
theorem nz_of {c : Cv} (h : c.disc ≠ 0) : ¬ (-27 * c.c4 = 0 ∧ -54 * c.c6 = 0) := by
  rintro ⟨e1, e2⟩
  have z1 : c.c4 = 0 := by omega
  have z2 : c.c6 = 0 := by omega
  have := disc_eq c
  rw [z1, z2] at this
  omega
theorem up_le {a b A C : Int} (u : Up a b A C) : A.natAbs ≤ a.natAbs ∧ C.natAbs ≤ b.natAbs := by
  obtain ⟨u, u0, rfl, rfl⟩ := u
  have h4 : 1 ≤ u ^ 4 := Nat.pow_pos u0
  have h6 : 1 ≤ u ^ 6 := Nat.pow_pos u0
  constructor
  · rw [Int.natAbs_mul, Int.natAbs_pow, Int.natAbs_natCast]
    exact Nat.le_mul_of_pos_left _ h4
  · rw [Int.natAbs_mul, Int.natAbs_pow, Int.natAbs_natCast]
    exact Nat.le_mul_of_pos_left _ h6
theorem up_nz {a b A C : Int} (u : Up a b A C) (h : ¬ (a = 0 ∧ b = 0)) : ¬ (A = 0 ∧ C = 0) := by
  obtain ⟨u, u0, rfl, rfl⟩ := u
  rintro ⟨rfl, rfl⟩
  exact h ⟨Int.mul_zero _, Int.mul_zero _⟩
theorem tw_nz {a b d : Int} (h : ¬ (a = 0 ∧ b = 0)) (hd : d ≠ 0) : ¬ (d * d * a = 0 ∧ d ^ 3 * b = 0) := by
  rintro ⟨e1, e2⟩
  refine h ⟨?_, ?_⟩
  · rcases Int.mul_eq_zero.mp e1 with z | z
    · exact absurd z (Int.mul_ne_zero hd hd)
    · exact z
  · rcases Int.mul_eq_zero.mp e2 with z | z
    · exact absurd z (Int.pow_ne_zero hd)
    · exact z
/-- limits of a pair that is multiplied by d -/
theorem tw_le {a b d : Int} {x y k : Nat} (ha : a.natAbs ≤ x) (hb : b.natAbs ≤ y) (hd : d.natAbs ≤ k) : (d * d * a).natAbs ≤ k * k * x ∧ (d ^ 3 * b).natAbs ≤ k * k * k * y := by
  have h2 := mul_le hd hd
  refine ⟨mul_le h2 ha, ?_⟩
  rw [show d ^ 3 * b = d * d * d * b by grind]
  exact mul_le (mul_le h2 hd) hb
theorem pb_of {a b : Int} {x y : Nat} (h : ¬ (a = 0 ∧ b = 0)) (ha : a.natAbs ≤ x) (hb : b.natAbs ≤ y) (hx : x < 10 ^ 16 := by decide) (hy : y < 10 ^ 24 := by decide) : PB a b := ⟨h, Nat.lt_of_le_of_lt ha hx, Nat.lt_of_le_of_lt hb hy⟩
/-- the curve of a short form -/
def cu (F G : Int) : Cv := ⟨0, 0, 0, F, G⟩
theorem cu4 (F G : Int) : -27 * (cu F G).c4 = 1296 * F := by
  simp only [cu, Cv.c4, Cv.b2, Cv.b4]
  grind
theorem cu6 (F G : Int) : -54 * (cu F G).c6 = 46656 * G := by
  simp only [cu, Cv.c6, Cv.b2, Cv.b4, Cv.b6]
  grind
theorem cu_nz {F G : Int} (h : ¬ (F = 0 ∧ G = 0)) : ¬ (-27 * (cu F G).c4 = 0 ∧ -54 * (cu F G).c6 = 0) := by
  rw [cu4, cu6]
  omega
theorem cu_up (F G : Int) : Up (-27 * (cu F G).c4) (-54 * (cu F G).c6) F G := ⟨6, by decide, by rw [cu4]; rfl, by rw [cu6]; rfl⟩
theorem cu_sf {F G : Int} (h : Sh F G) : Sf (cu F G) F G := ⟨cu_up F G, h⟩
theorem cu_sm {F G : Int} (hF : F.natAbs ≤ 10 ^ 10) (hG : G.natAbs ≤ 10 ^ 14) : (cu F G).Sm := by
  refine ⟨by show (0 : Int).natAbs < 2 ^ 12; decide, by show (0 : Int).natAbs < 2 ^ 12; decide, by show (0 : Int).natAbs < 2 ^ 12; decide, ?_, ?_⟩
  · show F.natAbs < 2 ^ 36
    omega
  · show G.natAbs < 2 ^ 60
    omega
theorem cu_pb {F G : Int} (h : ¬ (F = 0 ∧ G = 0)) (hF : F.natAbs ≤ 10 ^ 10) (hG : G.natAbs ≤ 10 ^ 14) : PB (-27 * (cu F G).c4) (-54 * (cu F G).c6) := by
  refine ⟨cu_nz h, ?_, ?_⟩
  · rw [cu4]
    omega
  · rw [cu6]
    omega
theorem start_sf {c : Cv} (h : c.Tn) (hd : c.disc ≠ 0) {A C : Int} (u : Up (-27 * c.c4) (-54 * c.c6) A C) : A.natAbs ≤ 60000 ∧ C.natAbs ≤ 5000000 ∧ ¬ (A = 0 ∧ C = 0) := by
  have := up_le u
  have h2 := h.lim
  exact ⟨by omega, by omega, up_nz u (nz_of hd)⟩
/-- curves of unlike j are no twists of one another -/
theorem near_ne {c n : Cv} {A B E F : Int} (hc : c.disc ≠ 0) (hn : n.disc ≠ 0) (u1 : Up (-27 * c.c4) (-54 * c.c6) A B) (u2 : Up (-27 * n.c4) (-54 * n.c6) E F) (hj : Rat.divInt (n.c4 * n.c4 * n.c4) n.disc ≠ Rat.divInt (c.c4 * c.c4 * c.c4) c.disc) : A * A * A * F * F ≠ E * E * E * B * B := by
  intro e
  refine hj ((Rat.divInt_eq_divInt_iff hn hc).mpr ?_)
  have d1 := disc_eq c
  have d2 := disc_eq n
  obtain ⟨u, u0, e1, e2⟩ := u1
  obtain ⟨v, v0, e3, e4⟩ := u2
  have k : c.c4 * c.c4 * c.c4 * n.c6 * n.c6 = n.c4 * n.c4 * n.c4 * c.c6 * c.c6 := by
    generalize (u : Int) = u at *
    generalize (v : Int) = v at *
    have h : (-27 * c.c4) * (-27 * c.c4) * (-27 * c.c4) * (-54 * n.c6) * (-54 * n.c6) = (-27 * n.c4) * (-27 * n.c4) * (-27 * n.c4) * (-54 * c.c6) * (-54 * c.c6) := by
      rw [e1, e2, e3, e4]
      have : u ^ 4 * A * (u ^ 4 * A) * (u ^ 4 * A) * (v ^ 6 * F) * (v ^ 6 * F) = u ^ 12 * v ^ 12 * (A * A * A * F * F) := by grind
      rw [this, e]
      grind
    have h2 : (-57395628 : Int) * (c.c4 * c.c4 * c.c4 * n.c6 * n.c6) = -57395628 * (n.c4 * n.c4 * n.c4 * c.c6 * c.c6) := by grind
    exact Int.eq_of_mul_eq_mul_left (by decide) h2
  have h3 : (1728 : Int) * (n.c4 * n.c4 * n.c4 * c.disc) = 1728 * (c.c4 * c.c4 * c.c4 * n.disc) := by grind
  exact Int.eq_of_mul_eq_mul_left (by decide) h3
end K08
set_option linter.all false
set_option maxRecDepth 100000
/-! a curve, its twist far, the twist of that: what is asked of their forms. And forms as data -/
namespace K08
open PySem PySem.Spec PyProof.Rows L2 Gd QM K08M
theorem cube_eq (d b : Int) : d * d * d * b = d ^ 3 * b := by grind
/-- a form and its twist by a drawn number -/
structure Far (A B F G d : Int) : Prop where
  a : A.natAbs ≤ 60000
  b : B.natAbs ≤ 5000000
  nz : ¬ (A = 0 ∧ B = 0)
  d0 : d ≠ 0
  d1 : d.natAbs ≤ 101
  up : Up (d * d * A) (d ^ 3 * B) F G
  sh : Sh F G
theorem pb_twist {A B d : Int} (a : A.natAbs ≤ 60000) (b : B.natAbs ≤ 5000000) (nz : ¬ (A = 0 ∧ B = 0)) (d0 : d ≠ 0) (hd : d.natAbs ≤ 1515) : PB (d * d * A) (d ^ 3 * B) := by
  obtain ⟨h1, h2⟩ := tw_le a b hd
  exact pb_of (tw_nz nz d0) h1 h2
section
variable {A B F G d e : Int}
theorem Far.f (h : Far A B F G d) : F.natAbs ≤ 10 ^ 10 ∧ G.natAbs ≤ 10 ^ 14 ∧ ¬ (F = 0 ∧ G = 0) := by
  obtain ⟨h1, h2⟩ := tw_le h.a h.b h.d1
  have := up_le h.up
  exact ⟨by omega, by omega, up_nz h.up (tw_nz h.nz h.d0)⟩
theorem Far.pb (h : Far A B F G d) : PB (d * d * A) (d ^ 3 * B) := pb_twist h.a h.b h.nz h.d0 (by have := h.d1; omega)
theorem Far.pb2 (h : Far A B F G d) (e0 : e ≠ 0) (he : e.natAbs ≤ 15) : PB (e * e * F) (e ^ 3 * G) := by
  obtain ⟨hF, hG, hn⟩ := h.f
  obtain ⟨h1, h2⟩ := tw_le hF hG he
  exact pb_of (tw_nz hn e0) h1 h2
theorem Far.sm (h : Far A B F G d) : (cu F G).Sm := cu_sm h.f.1 h.f.2.1
theorem Far.cpb (h : Far A B F G d) : PB (-27 * (cu F G).c4) (-54 * (cu F G).c6) := cu_pb h.f.2.2 h.f.1 h.f.2.1
theorem Far.b80 (h : Far A B F G d) : Gd.B 80 F ∧ Gd.B 80 G := ⟨by have := h.f.1; unfold Gd.B; omega, by have := h.f.2.1; unfold Gd.B; omega⟩
/-- both directions of twist_between -/
theorem Far.tw (h : Far A B F G d) {f : Int} (hf : Free d f) : ∃ r, Tw A B F G r (dl B f) := by
  obtain ⟨u, u0, e1, e2⟩ := h.up
  exact ⟨_, Tws.tw ⟨u0, h.d0, h.nz, e1, e2⟩ h.a h.b h.d1 hf⟩
theorem Far.tw2 (h : Far A B F G d) {f : Int} (hf : Free d f) : ∃ r, Tw F G A B r (dl B f) := by
  obtain ⟨u, u0, e1, e2⟩ := h.up
  exact ⟨_, Tws.tw2 ⟨u0, h.d0, h.nz, e1, e2⟩ h.a h.b h.d1 hf⟩
end
theorem Free.ex {d : Int} (h : d ≠ 0) : ∃ f, Free d f := free_ex d.natAbs (Nat.le_refl _) h
theorem Free.one {d f g : Int} (h : Free d f) (k : Free d g) : f = g := free_one (x := 1) (y := 1) (by decide) (by decide) rfl h k
theorem Free.f0 {d f : Int} (h : Free d f) (hd : d ≠ 0) : f ≠ 0 := fun z => by
  obtain ⟨⟨s, s0, e⟩, -⟩ := h
  rw [z, Int.mul_zero] at e
  exact hd e
/-- a pair of whole numbers as data -/
def dI2 (a b : Int) : PyData := .tuple [.int a, .int b]
theorem dp2 {K : PySem.W.Frag} {H : Hp} {p : Addr} {a b : Int} (h : SqT K H p [.int a, .int b]) : Dp K H (.ref p) (dI2 a b) := .tup h (.cons (.int _) (.cons (.int _) .nil))
theorem ok2 {a b : Int} (ha : Gd.B 80 a) (hb : Gd.B 80 b) : okD (dI2 a b) = true := by
  simp [okD, okAll, dI2, ha.log, hb.log]
theorem ok22 {a b c d : Int} (ha : Gd.B 80 a) (hb : Gd.B 80 b) (hc : Gd.B 80 c) (hd : Gd.B 80 d) : okD (.list [dI2 a b, dI2 c d]) = true := by
  simp [okD, okAll, ok2 ha hb, ok2 hc hd]
theorem dep22 (a b c d : Int) : (PyData.list [dI2 a b, dI2 c d]).depth ≤ 40 ∧ wt (PyData.list [dI2 a b, dI2 c d]) ≤ 1000000 ∧ (dI2 a b).depth ≤ 40 ∧ wt (dI2 a b) ≤ 1000000 := by
  simp [PyData.depth, PyData.depthAll, dI2, wt, wtAll]
theorem eqv_q (a b c d : Int) : PyData.eqv (.tuple [.int a, .int b]) (.tuple [.int c, .int d]) = (decide (a = c) && decide (b = d)) := by
  rw [Bool.eq_iff_iff]
  simp [PyData.eqv, PyData.eqvAll]
theorem eqv_dq (a b : Rat) : PyData.eqv (dq a) (dq b) = decide (a = b) := by
  unfold dq
  rw [eqv_q, Bool.eq_iff_iff, Bool.and_eq_true, decide_eq_true_iff, decide_eq_true_iff, decide_eq_true_iff]
  constructor
  · rintro ⟨h1, h2⟩
    exact Rat.ext h1 (by omega)
  · rintro rfl
    exact ⟨rfl, rfl⟩
/-- what is told of a refused number, as data -/
def dbad (d : Int) : PyData := .tuple [.str "bad", .int d]
theorem dp_bad {K : PySem.W.Frag} {H : Hp} {p : Addr} {d : Int} (h : SqT K H p [.str "bad", .int d]) : Dp K H (.ref p) (dbad d) := .tup h (.cons (.str _) (.cons (.int _) .nil))
theorem bad_ok : ∀ d ∈ ([0, 4, -4, 8, 12, -18, 50, 9, 75] : List Int), okD (dbad d) = true ∧ (dbad d).depth ≤ 40 ∧ wt (dbad d) ≤ 1000000 := by decide +kernel
theorem int2_ok {z : Int} (h : z.natAbs ≤ 1000000) : okD (.list [.int z, .int z]) = true ∧ (PyData.list [.int z, .int z]).depth ≤ 40 ∧ wt (PyData.list [.int z, .int z]) ≤ 1000000 := by
  have b : Gd.B 80 z := by unfold Gd.B; omega
  simp [okD, okAll, b.log, PyData.depth, PyData.depthAll, wt, wtAll]
theorem near_sm {A B k : Int} (a : A.natAbs ≤ 60000) (b : B.natAbs ≤ 5000000) (hk : k.natAbs ≤ 16) : (cu (A + k) B).Sm := cu_sm (by omega) (by omega)
theorem near_pb {A B k : Int} (a : A.natAbs ≤ 60000) (b : B.natAbs ≤ 5000000) (hk : k.natAbs ≤ 16) (hd : (cu (A + k) B).disc ≠ 0) : PB (-27 * (cu (A + k) B).c4) (-54 * (cu (A + k) B).c6) := by
  refine ⟨nz_of hd, ?_, ?_⟩
  · rw [cu4]
    omega
  · rw [cu6]
    omega
end K08
set_option Elab.async false
set_option linter.all false
set_option maxRecDepth 100000
set_option maxHeartbeats 4000000
namespace K08
open PySem PySem.Spec PyProof.Rows L2 Gd QM K08M ErX
theorem iteNS {z z' : Str} {A B : Prop} (e : z = z') (b : B) : if (!decide (V.str z = V.str z')) = true then A else B := by
  subst e
  rw [if_neg (by simp)]
  exact b
section
variable {P : Program} {w : World} {K : PySem.W.Frag} {mg : Str → Option Value} {base : Heap}
/-! ### twists of a curve -/
def sp_law_twists_right (K : PySem.W.Frag) : Sp := fun vs H Q _ => ∃ (m cl g : Addr) (c : Cv) (n : Nat), vs = [.ref m, .ref g] ∧ n ≤ 1000 ∧ MAt H m cl n ∧ SqT K H g c.tup ∧ c.Tn ∧ c.disc ≠ 0 ∧ ∀ H', But m H H' → Q (.bl true) H'
abbrev s__law_twists_right : Stmt := topS 73
theorem sc__law_twists_right : FnScope ["m", "five_v", "form", "d", "e", "far", "curve", "bad", "other", "near"] ["m", "five_v"] (defScope s__law_twists_right) := ⟨rfl, rfl, rfl, by decide +kernel, rfl, by decide +kernel, by decide +kernel⟩
theorem k_law_twists_right (T : Tx K mg) (D : Df K mg "_law_twists_right" s__law_twists_right ["m", "five_v"]) {C0 C1 e0 e1 : Addr} (ER : ErB P K mg C0 C1 e0 e1) (c_law_twist : Kl P w K mg base 2 "_law_twist" (sp_law_twist K)) (c_law_of : Kl P w K mg base 2 "_law_of" (sp_law_of K)) (c_law_short_of : Kl P w K mg base 2 "_law_short_of" (sp_law_short_of K)) (c_twist_between : Kl P w K mg base 9 "twist_between" (sp_twist_between K)) (c_twist : ErX.Kx P w K mg base 9 "twist" (sp_twist K C1)) (c_law_told_twist : Kl P w K mg base 10 "_law_told_twist" (sp_law_told_twist K)) (c_j_of : Kl P w K mg base 3 "j_of" (sp_j_of K)) (c_law_free : Kl P w K mg base 1 "_law_free" (sp_law_free K)) (c_law_numbers : Kl P w K mg base 1 "_law_numbers" (sp_law_numbers K)) (c_law_between_due : Kl P w K mg base 2 "_law_between_due" (sp_law_between_due K)) : Kg P w K mg base 11 "_law_twists_right" (sp_law_twists_right K) := by
  have nd := sc__law_twists_right.nd
  refine Kg.by_body D sc__law_twists_right (fun vs H Q E h => ?_) (fun f cdv A outer s H vs Q E hgd hr h => ?_)
  · obtain ⟨_, _, _, _, _, rfl, _⟩ := h
    rfl
  · obtain ⟨m, cl, g, c, n, rfl, hn, hM, hg, ht, hd0, q⟩ := h
    have hu1 := hu_of hr
    refine ⟨_, (pss_cons (ps_par3 (i := 2) (j := 3) (l := 4) (by rfl) nd rfl rfl rfl (by decide) (by decide) (by decide) rfl rfl rfl (pa_cons (pe_k c_law_short_of  hr (by decide) (by rfl) (pa_cons (pv 1) pa_nil)) (pa_cons (pe_k c_law_of  hr (by decide) (by rfl) (pa_cons (pv 0) (pa_cons (pe_lst (pa_cons (pe_un un_neg pe_int) (pa_cons pe_int (pa_cons pe_int (pa_cons (pe_un un_neg pe_int) (pa_cons pe_int (pa_cons pe_int (pa_cons pe_int (pa_cons (pe_un un_neg pe_int) (pa_cons pe_int (pa_cons pe_int pa_nil))))))))))) pa_nil))) (pa_cons (pe_k c_law_of  hr (by decide) (by rfl) (pa_cons (pv 0) (pa_cons (pe_lst (pa_cons pe_int (pa_cons (pe_un un_neg pe_int) (pa_cons pe_int (pa_cons pe_int (pa_cons (pe_un un_neg pe_int) pa_nil)))))) pa_nil))) pa_nil))) (by rfl))
      (pss_cons (ps_set (i := 5) nd rfl (by first | exact Or.inl rfl | exact Or.inr rfl) (pe_k c_law_twist  hr (by decide) (by rfl) (pa_cons (pv 2) (pa_cons (pv 3) pa_nil))))
      (pss_cons (ps_set (i := 6) nd rfl (by first | exact Or.inl rfl | exact Or.inr rfl) (pe_tup (pa_cons pe_int (pa_cons pe_int (pa_cons pe_int (pa_cons (pe_ix ix_tup (pv 5) pe_int (fun _ _ => rfl)) (pa_cons (pe_ix ix_tup (pv 5) pe_int (fun _ _ => rfl)) pa_nil)))))))
      (pss_cons (ps_if (pt_cmpR op_ne (pe_callB (call_reprD hgd hr.units) (by rfl) T.repr (by decide +kernel) (pa_cons (pe_lst (pa_cons (ErX.pe_x c_twist hr (by decide) (by rfl) (pa_cons (pv 1) (pa_cons (pv 3) pa_nil))) (pa_cons (ErX.pe_x c_twist hr (by decide) (by rfl) (pa_cons (pv 6) (pa_cons (pv 4) pa_nil))) pa_nil))) pa_nil)) (pe_callB (call_reprD hgd hr.units) (by rfl) T.repr (by decide +kernel) (pa_cons (pe_lst (pa_cons (pv 5) (pa_cons (pe_k c_law_twist  hr (by decide) (by rfl) (pa_cons (pv 5) (pa_cons (pv 4) pa_nil))) pa_nil))) pa_nil)) (nomark _)) (pss_one (ps_ret pe_bl)) pss_nil)
      (pss_cons (ps_if (pt_cmpR op_ne (pe_callB (call_reprD hgd hr.units) (by rfl) T.repr (by decide +kernel) (pa_cons (ErX.pe_x c_twist hr (by decide) (by rfl) (pa_cons (pv 6) (pa_cons (pv 4) pa_nil))) pa_nil)) (pe_callB (call_reprD hgd hr.units) (by rfl) T.repr (by decide +kernel) (pa_cons (ErX.pe_x c_twist hr (by decide) (by rfl) (pa_cons (pv 1) (pa_cons (pe_k c_law_free  hr (by decide) (by rfl) (pa_cons (pe_op op_mulW (pv 3) (pv 4)) pa_nil)) pa_nil))) pa_nil)) (nomark _)) (pss_one (ps_ret pe_bl)) pss_nil)
      (pss_cons (ps_set (i := 7) nd rfl (by first | exact Or.inl rfl | exact Or.inr rfl) (pe_k c_law_of  hr (by decide) (by rfl) (pa_cons (pv 0) (pa_cons (pe_lst (pa_cons pe_int (pa_cons pe_int (pa_cons (pe_un un_neg pe_int) (pa_cons pe_int (pa_cons pe_int (pa_cons (pe_un un_neg pe_int) (pa_cons pe_int (pa_cons pe_int (pa_cons pe_int pa_nil)))))))))) pa_nil))))
      (pss_cons (ps_if (pt_cmpR op_ne (pe_callB (call_reprD hgd hr.units) (by rfl) T.repr (by decide +kernel) (pa_cons (pe_k c_law_told_twist  hr (by decide) (by rfl) (pa_cons (pv 1) (pa_cons (pv 7) pa_nil))) pa_nil)) (pe_callB (call_reprD hgd hr.units) (by rfl) T.repr (by decide +kernel) (pa_cons (pe_tup (pa_cons pe_str (pa_cons (pv 7) pa_nil))) pa_nil)) (nomark _)) (pss_one (ps_ret pe_bl)) pss_nil)
      (pss_cons (ps_if (pt_cmpR op_ne (pe_callB (call_reprD hgd hr.units) (by rfl) T.repr (by decide +kernel) (pa_cons (pe_lst (pa_cons (pe_k c_twist_between  hr (by decide) (by rfl) (pa_cons (pv 1) (pa_cons (pv 6) pa_nil))) (pa_cons (pe_k c_twist_between  hr (by decide) (by rfl) (pa_cons (pv 6) (pa_cons (pv 1) pa_nil))) pa_nil))) pa_nil)) (pe_callB (call_reprD hgd hr.units) (by rfl) T.repr (by decide +kernel) (pa_cons (pe_op op_rep (pe_lst (pa_cons (pe_k c_law_between_due  hr (by decide) (by rfl) (pa_cons (pv 2) (pa_cons (pv 3) pa_nil))) pa_nil)) pe_int) pa_nil)) (nomark _)) (pss_one (ps_ret pe_bl)) pss_nil)
      (pss_cons (ps_set (i := 8) nd rfl (by first | exact Or.inl rfl | exact Or.inr rfl) (pe_tup (pa_cons (pe_op op_add (pe_ix ix_tup (pv 2) pe_int (fun _ _ => rfl)) (pe_k c_law_of  hr (by decide) (by rfl) (pa_cons (pv 0) (pa_cons (pe_lst (pa_cons pe_int (pa_cons (pe_un un_neg pe_int) (pa_cons pe_int pa_nil)))) pa_nil)))) (pa_cons (pe_ix ix_tup (pv 2) pe_int (fun _ _ => rfl)) pa_nil))))
      (pss_cons (ps_set (i := 9) nd rfl (by first | exact Or.inl rfl | exact Or.inr rfl) (pe_tup (pa_cons pe_int (pa_cons pe_int (pa_cons pe_int (pa_cons (pe_ix ix_tup (pv 8) pe_int (fun _ _ => rfl)) (pa_cons (pe_ix ix_tup (pv 8) pe_int (fun _ _ => rfl)) pa_nil)))))))
      (pss_cons (ps_if (PW.pt (pw_or (pt_cmpR op_eq (pe_ix ix_tup (pe_k c_law_numbers  hr (by decide) (by rfl) (pa_cons (pv 9) pa_nil)) pe_int (fun _ _ => rfl)) pe_int (nomark _)) (pw_or1 (pt_cmpR (op_eqD hr.units) (pe_k c_j_of  hr (by decide) (by rfl) (pa_cons (pv 9) pa_nil)) (pe_k c_j_of  hr (by decide) (by rfl) (pa_cons (pv 1) pa_nil)) (nomark _))))) (pss_one (ps_ret pe_bl)) pss_nil)
      (pss_one (ps_ret (pe_cmpR op_isN (pe_k c_twist_between  hr (by decide) (by rfl) (pa_cons (pv 1) (pa_cons (pv 9) pa_nil))) pe_non (nomark _))))))))))))))), ?_⟩
    have sm := ht.sm
    have pb : PB (-27 * c.c4) (-54 * c.c6) := pb_of (nz_of hd0) ht.lim.1 ht.lim.2
    refine ⟨.ref g, rfl, g, c, rfl, hg, sm, pb, fun A B1 tf H1 u1 z1 s1 n1 g1 => ?_⟩
    obtain ⟨lA, lB, nz⟩ := start_sf ht hd0 u1
    have sfc : Sf c A B1 := ⟨u1, z1⟩
    refine ⟨.ref m, rfl, _, rfl, _, rfl, _, rfl, (by show 10 ≤ sizeLine; decide), fun l1 nl1 => ?_⟩
    rw [show upd H1 l1 (.lst [(fun i : Int => V.int (-i)) 1, .int 2, .int 3, (fun i : Int => V.int (-i)) 5, .int 6, .int 7, .int 30, (fun i : Int => V.int (-i)) 77, .int 1, .int 101]) = upd H1 l1 (.lst (ds1.map V.int)) from rfl]
    have s2 := Same.new (H := H1) (p := l1) (o := .lst (ds1.map V.int)) nl1
    have gl1 : upd H1 l1 (.lst (ds1.map V.int)) l1 = some (.lst (ds1.map V.int)) := upd_same
    generalize upd H1 l1 (.lst (ds1.map V.int)) = H2 at s2 gl1 ⊢
    refine ⟨m, cl, l1, _, n, rfl, lst_of gl1, (by decide), (by decide), by omega, (hM.same s1).same s2, fun H3 x1 b3 m3 hx1 => ?_⟩
    obtain ⟨d, hd, rfl⟩ := List.mem_map.mp hx1
    obtain ⟨d0, d1, dr⟩ := goods1 d hd
    refine ⟨.ref m, rfl, _, rfl, _, rfl, (by show 5 ≤ sizeLine; decide), fun l2 nl2 => ?_⟩
    rw [show upd H3 l2 (.lst [.int 2, (fun i : Int => V.int (-i)) 3, .int 5, .int 15, (fun i : Int => V.int (-i)) 6]) = upd H3 l2 (.lst (ds2.map V.int)) from rfl]
    have s4 := Same.new (H := H3) (p := l2) (o := .lst (ds2.map V.int)) nl2
    have gl2 : upd H3 l2 (.lst (ds2.map V.int)) l2 = some (.lst (ds2.map V.int)) := upd_same
    generalize upd H3 l2 (.lst (ds2.map V.int)) = H4 at s4 gl2 ⊢
    refine ⟨m, cl, l2, _, n + 1, rfl, lst_of gl2, (by decide), (by decide), by omega, m3.same s4, fun H5 x2 b5 m5 hx2 => ?_⟩
    obtain ⟨e, he, rfl⟩ := List.mem_map.mp hx2
    obtain ⟨e0, e1, er⟩ := goods2 e he
    refine ⟨_, _, _, rfl, ?_⟩
    have bA : But m H H5 := (But.of (s1.trans s2)).trans (b3.trans ((But.of s4).trans b5))
    have hg5 : SqT K H5 g c.tup := bA.seqT hM hg
    have hf5 : SqT K H5 tf [.int A, .int B1] := ((But.of s2).trans (b3.trans ((But.of s4).trans b5))).seqT (hM.same s1) (tup_of g1)
    clear s1 s2 b3 s4 b5 g1 gl1 gl2 m3 hx1 hx2 n1 hg hM
    have hn5 : n + 1 + 1 ≤ 2000 := by omega
    generalize n + 1 + 1 = N5 at m5 hn5
    first | refine sigN [some (.ref m), some (.ref g), some (.ref tf), some (.int (d)), some (.int (e)), none, none, none, none, none] (by rfl) ?_ | refine sig [some (.ref m), some (.ref g), some (.ref tf), some (.int (d)), some (.int (e)), none, none, none, none, none] (by rfl) ?_
    have b16 : B 16 d := by unfold Gd.B; omega
    have e16 : B 16 e := by unfold Gd.B; omega
    have bA80 : B 80 A := by unfold Gd.B; omega
    have bB80 : B 80 B1 := by unfold Gd.B; omega
    refine ⟨.ref tf, rfl, _, rfl, tf, A, B1, d, rfl, hf5, bA80, bB80, b16, pb_twist lA lB nz d0 (by omega), fun F G tF u2 z2 n2 => ?_⟩
    have far : Far A B1 F G d := ⟨lA, lB, nz, d0, d1, u2, z2⟩
    have s6 := Same.new (H := H5) (p := tF) (o := .tup [.int F, .int G]) n2
    have gF : upd H5 tF (.tup [.int F, .int G]) tF = some (.tup [.int F, .int G]) := upd_same
    generalize upd H5 tF (.tup [.int F, .int G]) = H6 at s6 gF ⊢
    first | refine sigN [some (.ref m), some (.ref g), some (.ref tf), some (.int (d)), some (.int (e)), some (.ref tF), none, none, none, none] (by rfl) ?_ | refine sig [some (.ref m), some (.ref g), some (.ref tf), some (.int (d)), some (.int (e)), some (.ref tF), none, none, none, none] (by rfl) ?_
    refine ⟨.ref tF, rfl, tF, _, 0, .int F, rfl, rfl, tup_of gF, rfl, .ref tF, rfl, tF, _, 1, .int G, rfl, rfl, tup_of gF, rfl, (by show 5 ≤ sizeLine; decide), fun tc nc => ?_⟩
    rw [show upd H6 tc (.tup [.int 0, .int 0, .int 0, .int F, .int G]) = upd H6 tc (.tup (cu F G).tup) from rfl]
    have s7 := Same.new (H := H6) (p := tc) (o := .tup (cu F G).tup) nc
    have gC : upd H6 tc (.tup (cu F G).tup) tc = some (.tup (cu F G).tup) := upd_same
    generalize upd H6 tc (.tup (cu F G).tup) = H7 at s7 gC ⊢
    have bB : But m H H7 := bA.trans (But.of (s6.trans s7))
    have m7 := m5.same (s6.trans s7)
    have hg7 := Same.tup (s6.trans s7) hg5
    have hf7 := Same.tup (s6.trans s7) hf5
    have hF7 : SqT K H7 tF [.int F, .int G] := tup_of (s7 _ _ gF)
    have hC7 : SqT K H7 tc (cu F G).tup := tup_of gC
    clear bA m5 s6 s7 hg5 hf5 gF gC
    first | refine sigN [some (.ref m), some (.ref g), some (.ref tf), some (.int (d)), some (.int (e)), some (.ref tF), some (.ref tc), none, none, none] (by rfl) ?_ | refine sig [some (.ref m), some (.ref g), some (.ref tf), some (.int (d)), some (.int (e)), some (.ref tF), some (.ref tc), none, none, none] (by rfl) ?_
    have d16 : d.natAbs < 1600 := by omega
    have e16' : e.natAbs < 1600 := by omega
    have pbd : PB (d * d * A) (d * d * d * B1) := by rw [cube_eq]; exact far.pb
    have pbe : PB (e * e * F) (e * e * e * G) := by rw [cube_eq]; exact far.pb2 e0 e1
    refine ⟨.ref g, rfl, _, rfl, g, c, d, rfl, hg7, d16, .inr ⟨dr, sm, pb, A, B1, sfc, pbd, fun X Y tX H8 u3 z3 s8 n8 gX => ?_⟩⟩
    rw [cube_eq] at u3
    obtain ⟨rfl, rfl⟩ := Up.one_form far.up u3 far.sh z3
    refine ⟨.ref tc, rfl, _, rfl, tc, cu F G, e, rfl, Same.tup s8 hC7, e16', .inr ⟨er, far.sm, far.cpb, F, G, cu_sf far.sh, pbe, fun X Y tY H9 u4 z4 s9 n9 gY => ?_⟩⟩
    rw [cube_eq] at u4
    have pXY := ((far.pb2 e0 e1).up u4).1
    have bX : B 80 X := pXY.a.up (by decide)
    have bY : B 80 Y := pXY.b
    refine ⟨(by show 2 ≤ sizeLine; decide), fun l3 nl3 => ?_⟩
    have sa := Same.new (H := H9) (p := l3) (o := .lst [.ref tX, .ref tY]) nl3
    have gl3 : upd H9 l3 (.lst [.ref tX, .ref tY]) l3 = some (.lst [.ref tX, .ref tY]) := upd_same
    generalize upd H9 l3 (.lst [.ref tX, .ref tY]) = Ha at sa gl3 ⊢
    refine ⟨.ref l3, .list [dI2 F G, dI2 X Y], rfl, .lst (lst_of gl3) (.cons (dp2 (tup_of (sa _ _ (s9 _ _ gX)))) (.cons (dp2 (tup_of (sa _ _ gY))) .nil)), ok22 far.b80.1 far.b80.2 bX bY, (dep22 _ _ _ _).1, (dep22 _ _ _ _).2.1, ?_⟩
    have s7a := s8.trans (s9.trans sa)
    clear u3 z3 s8 s9 sa gX gY gl3 n8 n9
    refine ⟨.ref tF, rfl, .ref tF, rfl, _, rfl, tF, F, G, e, rfl, Same.tup s7a hF7, far.b80.1, far.b80.2, e16, far.pb2 e0 e1, fun X' Y' tZ u5 z5 n5 => ?_⟩
    obtain ⟨rfl, rfl⟩ := Up.one_form u4 u5 z4 z5
    have sb := Same.new (H := Ha) (p := tZ) (o := .tup [.int X, .int Y]) n5
    have gZ : upd Ha tZ (.tup [.int X, .int Y]) tZ = some (.tup [.int X, .int Y]) := upd_same
    generalize upd Ha tZ (.tup [.int X, .int Y]) = Hb at sb gZ ⊢
    refine ⟨(by show 2 ≤ sizeLine; decide), fun l4 nl4 => ?_⟩
    have sc := Same.new (H := Hb) (p := l4) (o := .lst [.ref tF, .ref tZ]) nl4
    have gl4 : upd Hb l4 (.lst [.ref tF, .ref tZ]) l4 = some (.lst [.ref tF, .ref tZ]) := upd_same
    generalize upd Hb l4 (.lst [.ref tF, .ref tZ]) = Hc at sc gl4 ⊢
    have s7c := s7a.trans (sb.trans sc)
    refine ⟨.ref l4, .list [dI2 F G, dI2 X Y], rfl, .lst (lst_of gl4) (.cons (dp2 (Same.tup s7c hF7)) (.cons (dp2 (tup_of (sc _ _ gZ))) .nil)), ok22 far.b80.1 far.b80.2 bX bY, (dep22 _ _ _ _).1, (dep22 _ _ _ _).2.1, rfl, _, rfl, ?_⟩
    generalize (PyData.list [dI2 F G, dI2 X Y]).shown = zz
    refine iteNS rfl ?_
    have bC : But m H Hc := bB.trans (But.of s7c)
    have mc := m7.same s7c
    have hgc := Same.tup s7c hg7
    have hfc := Same.tup s7c hf7
    have hCc := Same.tup s7c hC7
    clear u5 z5 sb sc gl4 gZ s7c s7a bB m7 hg7 hf7 hF7 hC7 zz
    first | refine sigN [some (.ref m), some (.ref g), some (.ref tf), some (.int (d)), some (.int (e)), some (.ref tF), some (.ref tc), none, none, none] (by rfl) ?_ | refine sig [some (.ref m), some (.ref g), some (.ref tf), some (.int (d)), some (.int (e)), some (.ref tF), some (.ref tc), none, none, none] (by rfl) ?_
    refine ⟨.ref tc, rfl, _, rfl, tc, cu F G, e, rfl, hCc, e16', .inr ⟨er, far.sm, far.cpb, F, G, cu_sf far.sh, pbe, fun X' Y' tY H9 u5 z5 s9 n9 gY => ?_⟩⟩
    rw [cube_eq] at u5
    obtain ⟨rfl, rfl⟩ := Up.one_form u4 u5 z4 z5
    refine ⟨.ref tY, dI2 X Y, rfl, dp2 (tup_of gY), ok2 bX bY, (dep22 X Y X Y).2.2.1, (dep22 X Y X Y).2.2.2, ?_⟩
    have hde : d * e ≠ 0 := Int.mul_ne_zero d0 e0
    have hdl : (d * e).natAbs ≤ 1515 := mul_le d1 e1
    refine ⟨.ref g, rfl, _, rfl, _, rfl, _, _, rfl, rfl, b16.mulW e16 (by decide), d * e, rfl, hde, by omega, fun f hf => ?_⟩
    have f0 := hf.f0 hde
    have fl : f.natAbs ≤ 1515 := Nat.le_trans hf.le hdl
    refine ⟨g, c, f, rfl, Same.tup s9 hgc, by omega, .inr ⟨not_ref f0 hf.2 (by omega), sm, pb, A, B1, sfc, (by rw [cube_eq]; exact pb_twist lA lB nz f0 fl), fun Z W tZ Hd u6 z6 sd n6 gZ => ?_⟩⟩
    rw [cube_eq] at u6
    obtain ⟨rfl, rfl⟩ := twice d0 e0 far.up u4 u6 z4 z6 hf
    refine ⟨.ref tZ, dI2 X Y, rfl, dp2 (tup_of gZ), ok2 bX bY, (dep22 X Y X Y).2.2.1, (dep22 X Y X Y).2.2.2, rfl, _, rfl, ?_⟩
    generalize (dI2 X Y).shown = zz
    refine iteNS rfl ?_
    have s9d := s9.trans sd
    have bD : But m H Hd := bC.trans (But.of s9d)
    have md := mc.same s9d
    have hgd' := Same.tup s9d hgc
    have hfd := Same.tup s9d hfc
    have hCd := Same.tup s9d hCc
    clear u5 z5 u6 z6 s9 sd gY gZ n9 n6 s9d bC mc hgc hfc hCc zz hf f0 fl f pbd pbe
    refine ⟨.ref m, rfl, _, rfl, _, rfl, (by show 9 ≤ sizeLine; decide), fun l5 nl5 => ?_⟩
    rw [show upd Hd l5 (.lst [.int 0, .int 4, (fun i : Int => V.int (-i)) 4, .int 8, .int 12, (fun i : Int => V.int (-i)) 18, .int 50, .int 9, .int 75]) = upd Hd l5 (.lst (([0, 4, -4, 8, 12, -18, 50, 9, 75] : List Int).map V.int)) from rfl]
    have sf := Same.new (H := Hd) (p := l5) (o := .lst (([0, 4, -4, 8, 12, -18, 50, 9, 75] : List Int).map V.int)) nl5
    have gl5 : upd Hd l5 (.lst (([0, 4, -4, 8, 12, -18, 50, 9, 75] : List Int).map V.int)) l5 = some (.lst (([0, 4, -4, 8, 12, -18, 50, 9, 75] : List Int).map V.int)) := upd_same
    generalize upd Hd l5 (.lst (([0, 4, -4, 8, 12, -18, 50, 9, 75] : List Int).map V.int)) = Hf at sf gl5 ⊢
    refine ⟨m, cl, l5, _, N5, rfl, lst_of gl5, (by decide), (by decide), by omega, md.same sf, fun Hg x3 bg mg' hx3 => ?_⟩
    obtain ⟨bad, hb, rfl⟩ := List.mem_map.mp hx3
    obtain ⟨hR, hbl⟩ := bads bad hb
    obtain ⟨ok1, ok2, ok3⟩ := bad_ok bad hb
    have bG : But m H Hg := bD.trans ((But.of sf).trans bg)
    have hgg : SqT K Hg g c.tup := ((But.of sf).trans bg).seqT md hgd'
    have hfg : SqT K Hg tf [.int A, .int B1] := ((But.of sf).trans bg).seqT md hfd
    have hCg : SqT K Hg tc (cu F G).tup := ((But.of sf).trans bg).seqT md hCd
    clear sf bg gl5 hx3 bD md hgd' hfd hCd
    first | refine sigN [some (.ref m), some (.ref g), some (.ref tf), some (.int (d)), some (.int (e)), some (.ref tF), some (.ref tc), some (.int (bad)), none, none] (by rfl) ?_ | refine sig [some (.ref m), some (.ref g), some (.ref tf), some (.int (d)), some (.int (e)), some (.ref tF), some (.ref tc), some (.int (bad)), none, none] (by rfl) ?_
    refine ⟨.ref g, rfl, _, rfl, g, c, bad, rfl, hgg, hbl, hR, fun Hh t1 sh1 gt1 => ?_⟩
    refine ⟨.ref t1, dbad bad, rfl, dp_bad (tup_of gt1), ok1, ok2, ok3, ?_⟩
    refine ⟨_, rfl, (by show 2 ≤ sizeLine; decide), fun t2 nt2 => ?_⟩
    have si := Same.new (H := Hh) (p := t2) (o := .tup [.str "bad", .int bad]) nt2
    have gt2 : upd Hh t2 (.tup [.str "bad", .int bad]) t2 = some (.tup [.str "bad", .int bad]) := upd_same
    generalize upd Hh t2 (.tup [.str "bad", .int bad]) = Hi at si gt2 ⊢
    refine ⟨.ref t2, dbad bad, rfl, dp_bad (tup_of gt2), ok1, ok2, ok3, rfl, _, rfl, ?_⟩
    generalize (dbad bad).shown = zz
    refine iteNS rfl ?_
    have sgi := sh1.trans si
    have bI : But m H Hi := bG.trans (But.of sgi)
    have mi := mg'.same sgi
    have hgi := Same.tup sgi hgg
    have hfi := Same.tup sgi hfg
    have hCi := Same.tup sgi hCg
    clear sh1 si gt1 gt2 sgi bG mg' hgg hfg hCg zz ok1 ok2 ok3 hR hbl hb
    first | refine sigN [some (.ref m), some (.ref g), some (.ref tf), some (.int (d)), some (.int (e)), some (.ref tF), some (.ref tc), some (.int (bad)), none, none] (by rfl) ?_ | refine sig [some (.ref m), some (.ref g), some (.ref tf), some (.int (d)), some (.int (e)), some (.ref tF), some (.ref tc), some (.int (bad)), none, none] (by rfl) ?_
    obtain ⟨f, hf⟩ := Free.ex d0
    obtain ⟨r, hr1⟩ := far.tw hf
    obtain ⟨r2, hr2⟩ := far.tw2 hf
    have fl : (dl B1 f).natAbs ≤ 1000000 := by
      rw [dl_abs]
      have := hf.le
      omega
    refine ⟨.ref g, rfl, .ref tc, rfl, g, tc, c, cu F G, A, B1, F, G, rfl, hgi, hCi, sm, far.sm, pb, far.cpb, sfc, cu_sf far.sh, .inr ⟨r, _, hr1, fun Hj sj => ?_⟩⟩
    refine ⟨.ref tc, rfl, .ref g, rfl, tc, g, cu F G, c, F, G, A, B1, rfl, Same.tup sj hCi, Same.tup sj hgi, far.sm, sm, far.cpb, pb, cu_sf far.sh, sfc, .inr ⟨r2, _, hr2, fun Hk sk => ?_⟩⟩
    refine ⟨(by show 2 ≤ sizeLine; decide), fun l6 nl6 => ?_⟩
    have sl := Same.new (H := Hk) (p := l6) (o := .lst [.int (dl B1 f), .int (dl B1 f)]) nl6
    have gl6 : upd Hk l6 (.lst [.int (dl B1 f), .int (dl B1 f)]) l6 = some (.lst [.int (dl B1 f), .int (dl B1 f)]) := upd_same
    generalize upd Hk l6 (.lst [.int (dl B1 f), .int (dl B1 f)]) = Hl at sl gl6 ⊢
    obtain ⟨ok1, ok2, ok3⟩ := int2_ok fl
    refine ⟨.ref l6, .list [.int (dl B1 f), .int (dl B1 f)], rfl, .lst (lst_of gl6) (.cons (.int _) (.cons (.int _) .nil)), ok1, ok2, ok3, ?_⟩
    have sil := sj.trans (sk.trans sl)
    refine ⟨.ref tf, rfl, _, rfl, tf, A, B1, d, rfl, Same.tup sil hfi, d0, (by omega), fun f' hf' => ?_⟩
    obtain rfl := Free.one hf hf'
    refine ⟨(by show 1 ≤ sizeLine; decide), fun l7 nl7 => ?_⟩
    rw [show upd Hl l7 (.lst [.int (if B1 = 0 then (f.natAbs : Int) else f)]) = upd Hl l7 (.lst [.int (dl B1 f)]) from rfl]
    have sm' := Same.new (H := Hl) (p := l7) (o := .lst [.int (dl B1 f)]) nl7
    have gl7 : upd Hl l7 (.lst [.int (dl B1 f)]) l7 = some (.lst [.int (dl B1 f)]) := upd_same
    generalize upd Hl l7 (.lst [.int (dl B1 f)]) = Hm at sm' gl7 ⊢
    refine ⟨l7, 2, _, rfl, rfl, gl7, by decide, by decide, (by show 1 * 2 ≤ sizeLine; decide), fun l8 nl8 => ?_⟩
    rw [show upd Hm l8 (.lst (List.replicate (2 : Int).toNat [V.int (dl B1 f)]).flatten) = upd Hm l8 (.lst [.int (dl B1 f), .int (dl B1 f)]) from rfl]
    have sn := Same.new (H := Hm) (p := l8) (o := .lst [.int (dl B1 f), .int (dl B1 f)]) nl8
    have gl8 : upd Hm l8 (.lst [.int (dl B1 f), .int (dl B1 f)]) l8 = some (.lst [.int (dl B1 f), .int (dl B1 f)]) := upd_same
    generalize upd Hm l8 (.lst [.int (dl B1 f), .int (dl B1 f)]) = Hn at sn gl8 ⊢
    refine ⟨.ref l8, .list [.int (dl B1 f), .int (dl B1 f)], rfl, .lst (lst_of gl8) (.cons (.int _) (.cons (.int _) .nil)), ok1, ok2, ok3, rfl, _, rfl, ?_⟩
    generalize (PyData.list [.int (dl B1 f), .int (dl B1 f)]).shown = zz
    refine iteNS rfl ?_
    have s_n := sil.trans (sm'.trans sn)
    have bN : But m H Hn := bI.trans (But.of s_n)
    have mn := mi.same s_n
    have hgn := Same.tup s_n hgi
    have hfn := Same.tup s_n hfi
    clear sj sk sl sil sm' sn s_n gl6 gl7 gl8 bI mi hgi hfi hCi zz ok1 ok2 ok3 hf hf' hr1 hr2 fl
    refine ⟨.ref tf, rfl, tf, _, 0, .int A, rfl, rfl, hfn, rfl, .ref m, rfl, _, rfl, (by show 3 ≤ sizeLine; decide), fun l9 nl9 => ?_⟩
    rw [show upd Hn l9 (.lst [.int 1, (fun i : Int => V.int (-i)) 1, .int 16]) = upd Hn l9 (.lst (([1, -1, 16] : List Int).map V.int)) from rfl]
    have so := Same.new (H := Hn) (p := l9) (o := .lst (([1, -1, 16] : List Int).map V.int)) nl9
    have gl9 : upd Hn l9 (.lst (([1, -1, 16] : List Int).map V.int)) l9 = some (.lst (([1, -1, 16] : List Int).map V.int)) := upd_same
    generalize upd Hn l9 (.lst (([1, -1, 16] : List Int).map V.int)) = Ho at so gl9 ⊢
    refine ⟨m, cl, l9, _, N5 + 1, rfl, lst_of gl9, (by decide), (by decide), by omega, mn.same so, fun Hp x4 bp mp hx4 => ?_⟩
    obtain ⟨k, hk, rfl⟩ := List.mem_map.mp hx4
    have hkl : k.natAbs ≤ 16 := by
      simp only [List.mem_cons, List.not_mem_nil, or_false] at hk
      omega
    have bP : But m H Hp := bN.trans ((But.of so).trans bp)
    have hgp : SqT K Hp g c.tup := ((But.of so).trans bp).seqT mn hgn
    have hfp : SqT K Hp tf [.int A, .int B1] := ((But.of so).trans bp).seqT mn hfn
    clear so bp gl9 hx4 bN mn hgn hfn hk
    refine ⟨_, _, rfl, rfl, .ref tf, rfl, tf, _, 1, .int B1, rfl, rfl, hfp, rfl, (by show 2 ≤ sizeLine; decide), fun to nto => ?_⟩
    have sq := Same.new (H := Hp) (p := to) (o := .tup [.int (A + k), .int B1]) nto
    have go : upd Hp to (.tup [.int (A + k), .int B1]) to = some (.tup [.int (A + k), .int B1]) := upd_same
    generalize upd Hp to (.tup [.int (A + k), .int B1]) = Hq at sq go ⊢
    first | refine sigN [some (.ref m), some (.ref g), some (.ref tf), some (.int (d)), some (.int (e)), some (.ref tF), some (.ref tc), some (.int (bad)), some (.ref to), none] (by rfl) ?_ | refine sig [some (.ref m), some (.ref g), some (.ref tf), some (.int (d)), some (.int (e)), some (.ref tF), some (.ref tc), some (.int (bad)), some (.ref to), none] (by rfl) ?_
    refine ⟨.ref to, rfl, to, _, 0, .int (A + k), rfl, rfl, tup_of go, rfl, .ref to, rfl, to, _, 1, .int B1, rfl, rfl, tup_of go, rfl, (by show 5 ≤ sizeLine; decide), fun tn ntn => ?_⟩
    rw [show upd Hq tn (.tup [.int 0, .int 0, .int 0, .int (A + k), .int B1]) = upd Hq tn (.tup (cu (A + k) B1).tup) from rfl]
    have sr := Same.new (H := Hq) (p := tn) (o := .tup (cu (A + k) B1).tup) ntn
    have gn : upd Hq tn (.tup (cu (A + k) B1).tup) tn = some (.tup (cu (A + k) B1).tup) := upd_same
    generalize upd Hq tn (.tup (cu (A + k) B1).tup) = Hr at sr gn ⊢
    have bR : But m H Hr := bP.trans (But.of (sq.trans sr))
    have hgr := Same.tup (sq.trans sr) hgp
    have hnr : SqT K Hr tn (cu (A + k) B1).tup := tup_of gn
    have smn := near_sm lA lB hkl
    clear bP sq sr go gn hgp hfp mp
    first | refine sigN [some (.ref m), some (.ref g), some (.ref tf), some (.int (d)), some (.int (e)), some (.ref tF), some (.ref tc), some (.int (bad)), some (.ref to), some (.ref tn)] (by rfl) ?_ | refine sig [some (.ref m), some (.ref g), some (.ref tf), some (.int (d)), some (.int (e)), some (.ref tF), some (.ref tc), some (.int (bad)), some (.ref to), some (.ref tn)] (by rfl) ?_
    refine ⟨.ref tn, rfl, tn, cu (A + k) B1, rfl, hnr, smn, fun u nu => ?_⟩
    have ss := Same.new (H := Hr) (p := u) (o := .tup (cu (A + k) B1).nums) nu
    have gu : upd Hr u (.tup (cu (A + k) B1).nums) u = some (.tup (cu (A + k) B1).nums) := upd_same
    generalize upd Hr u (.tup (cu (A + k) B1).nums) = Hs at ss gu ⊢
    have hgs := Same.tup ss hgr
    have hns := Same.tup ss hnr
    have bS : But m H Hs := bR.trans (But.of ss)
    refine ⟨u, _, 6, .int (cu (A + k) B1).disc, rfl, rfl, tup_of gu, rfl, rfl, _, rfl, ?_⟩
    rw [dec_int]
    by_cases hd : (cu (A + k) B1).disc = 0
    · refine iteY (beq_iff_eq.mpr hd) (iteY rfl ?_)
      exact q _ bS
    · refine iteN (fun z => hd (beq_iff_eq.mp z)) ?_
      refine ⟨.ref tn, rfl, tn, cu (A + k) B1, rfl, hns, smn, hd, fun Ht j1 st gj1 => ?_⟩
      refine ⟨.ref g, rfl, g, c, rfl, Same.tup st hgs, sm, hd0, fun Hu j2 su gj2 => ?_⟩
      refine ⟨_, _, dp_q (tup_of (su _ _ gj1)), dp_q (tup_of gj2), rfl, rfl, _, rfl, ?_⟩
      rw [eqv_dq]
      have bU : But m H Hu := bS.trans (But.of (st.trans su))
      by_cases hj : Rat.divInt ((cu (A + k) B1).c4 * (cu (A + k) B1).c4 * (cu (A + k) B1).c4) (cu (A + k) B1).disc = Rat.divInt (c.c4 * c.c4 * c.c4) c.disc
      · refine iteY (decide_eq_true hj) ?_
        exact q _ bU
      · refine iteN (by simp [hj]) ?_
        obtain ⟨E1, F1, u9, z9⟩ := sf_is (nz_of hd)
        refine ⟨.ref g, rfl, .ref tn, rfl, g, tn, c, cu (A + k) B1, A, B1, E1, F1, rfl, Same.tup (st.trans su) hgs, Same.tup (st.trans su) hns, sm, smn, pb, near_pb lA lB hkl hd, sfc, ⟨u9, z9⟩, .inl ⟨near_ne hd0 hd u1 u9 hj, fun Hv sv => ?_⟩⟩
        exact ⟨rfl, q _ (bU.trans (But.of sv))⟩
end
end K08
set_option linter.all false
set_option maxRecDepth 100000
/-! the plain form: where its change leads; plain forms as data -/
namespace K08
open PySem PySem.Spec PyProof.Rows L2 Gd QM K08M
theorem fq_z (n : Int) : [V.int n, V.int 1] = fq (n : Rat) := rfl
theorem divR (n d : Int) : Rat.divInt n d = (n : Rat) / (d : Rat) := Rat.divInt_eq_div n d
theorem half_ev {a : Int} (h : a % 2 = 0) : ((a / 2 : Int) : Rat) = (a : Rat) / 2 := by
  obtain ⟨k, rfl⟩ : ∃ k, a = 2 * k := ⟨a / 2, by omega⟩
  rw [Int.mul_ediv_cancel_left _ (by decide), Rat.intCast_mul]
  have e : ((2 : Int) : Rat) = 2 := rfl
  rw [e]
  grind
theorem led_plain (c : Cv) : l1 (chP c) c.a1 = 0 ∧ l2 (chP c) c.a1 c.a2 = (plA c : Rat) ∧ l3 (chP c) c.a1 c.a3 = 0 ∧ l4 (chP c) c.a1 c.a2 c.a3 c.a4 = (plB c : Rat) ∧ l6 (chP c) c.a1 c.a2 c.a3 c.a4 c.a6 = (plC c : Rat) := by
  have e2 : ((2 : Int) : Rat) = 2 := rfl
  have e1 : ((1 : Int) : Rat) = 1 := rfl
  have e4 : ((4 : Int) : Rat) = 4 := rfl
  have e8 : ((8 : Int) : Rat) = 8 := rfl
  have e16 : ((16 : Int) : Rat) = 16 := rfl
  unfold plA plB plC l1 l2 l3 l4 l6 chP uP
  simp only [divR]
  by_cases ev : Ev c
  · simp only [if_pos ev, Rat.intCast_add, Rat.intCast_mul, half_ev ev.1, half_ev ev.2, Rat.intCast_neg, e2]
    refine ⟨?_, ?_, ?_, ?_, ?_⟩ <;> grind
  · simp only [if_neg ev, Cv.b2, Cv.b4, Cv.b6, Rat.intCast_add, Rat.intCast_mul, Rat.intCast_neg, e1, e2, e4, e8, e16]
    refine ⟨?_, ?_, ?_, ?_, ?_⟩ <;> grind
theorem pl_lim {c : Cv} (h : c.Tn) : Gd.B 80 (plA c) ∧ Gd.B 80 (plB c) ∧ Gd.B 80 (plC c) := by
  obtain ⟨h1, h2, h3, h4, h6⟩ := h
  have e11 := mul_le h1 h1
  have e13 := mul_le h1 h3
  have e33 := mul_le h3 h3
  have g1 : (c.a1 / 2).natAbs ≤ 3 := by omega
  have g3 : (c.a3 / 2).natAbs ≤ 3 := by omega
  have f11 := mul_le g1 g1
  have f13 := mul_le g1 h3
  have f33 := mul_le g3 g3
  have k : (plA c).natAbs ≤ 10000 ∧ (plB c).natAbs ≤ 10000 ∧ (plC c).natAbs ≤ 10000 := by
    have n2 : (2 : Int).natAbs ≤ 2 := by decide
    have n4 : (4 : Int).natAbs ≤ 4 := by decide
    have n8 : (8 : Int).natAbs ≤ 8 := by decide
    have n16 : (16 : Int).natAbs ≤ 16 := by decide
    unfold plA plB plC Cv.b2 Cv.b4 Cv.b6
    by_cases ev : Ev c
    · simp only [if_pos ev]
      exact ⟨Nat.le_trans (add_le h2 f11) (by decide), Nat.le_trans (add_le h4 f13) (by decide), Nat.le_trans (add_le h6 f33) (by decide)⟩
    · simp only [if_neg ev]
      exact ⟨Nat.le_trans (add_le e11 (mul_le n4 h2)) (by decide), Nat.le_trans (mul_le n8 (add_le (mul_le n2 h4) e13)) (by decide), Nat.le_trans (mul_le n16 (add_le e33 (mul_le n4 h6))) (by decide)⟩
  have z : 10000 < 2 ^ 80 := by decide
  exact ⟨Nat.lt_of_le_of_lt k.1 z, Nat.lt_of_le_of_lt k.2.1 z, Nat.lt_of_le_of_lt k.2.2 z⟩
theorem chP_ok {c : Cv} (h : c.Tn) : ChB 29 (chP c) := by
  obtain ⟨h1, h2, h3, h4, h6⟩ := h
  have b2 : (2 : Int).natAbs < 2 ^ 29 := by decide
  refine ⟨?_, ?_, RB.zero.up (by decide), RB.of (by decide) (by omega) b2, RB.of (by decide) (by omega) b2⟩
  · show uP c ≠ 0
    unfold uP
    split <;> decide +kernel
  · show RB 29 (uP c)
    unfold uP
    split
    · exact RB.one.up (by decide)
    · exact RB.of (by decide) (by decide) b2
theorem tn_cvb {c : Cv} (h : c.Tn) : CvB 97 c := by
  obtain ⟨h1, h2, h3, h4, h6⟩ := h
  refine ⟨?_, ?_, ?_, ?_, ?_⟩ <;> (unfold Gd.B; omega)
def dpl (c : Cv) : PyData := .tuple [.int (plA c), .int (plB c), .int (plC c)]
def dcc (c : Ch) : PyData := .tuple [dq c.u, dq c.r, dq c.s, dq c.t]
theorem dp_cc {K : PySem.W.Frag} {H : Hp} {p : Addr} {c : Ch} (h : ChAt K H p c) : Dp K H (.ref p) (dcc c) := by
  obtain ⟨a, b, d, e, h1, h2, h3, h4, h5⟩ := h
  exact .tup h1 (.cons (dp_q h2) (.cons (dp_q h3) (.cons (dp_q h4) (.cons (dp_q h5) .nil))))
theorem dp_pl {K : PySem.W.Frag} {H : Hp} {p : Addr} {c : Cv} (h : SqT K H p (plT c)) : Dp K H (.ref p) (dpl c) := .tup h (.cons (.int _) (.cons (.int _) (.cons (.int _) .nil)))
/-- both forms of a curve -/
def dtwo (a b : Int) (c : Cv) : PyData := .list [dI2 a b, .tuple [dpl c, dcc (chP c)]]
theorem dtwo_ok {a b : Int} {c : Cv} (ha : Gd.B 80 a) (hb : Gd.B 80 b) (h : c.Tn) : okD (dtwo a b c) = true ∧ (dtwo a b c).depth ≤ 40 ∧ wt (dtwo a b c) ≤ 1000000 := by
  obtain ⟨p1, p2, p3⟩ := pl_lim h
  have q := chP_ok h
  have q1 := okq q.u (by decide)
  have q2 := okq q.r (by decide)
  have q3 := okq q.s (by decide)
  have q4 := okq q.t (by decide)
  refine ⟨?_, ?_, ?_⟩
  · simp [okD, okAll, dtwo, dpl, dcc, ok2 ha hb, p1.log, p2.log, p3.log, q1, q2, q3, q4]
  · simp [PyData.depth, PyData.depthAll, dtwo, dI2, dpl, dcc, dq]
  · simp [wt, wtAll, dtwo, dI2, dpl, dcc, dq]
/-- where the change leads -/
def dfi (c : Cv) : PyData := .tuple [dq 0, dq (plA c : Rat), dq 0, dq (plB c : Rat), dq (plC c : Rat)]
theorem dfi_ok {c : Cv} (h : c.Tn) : okD (dfi c) = true ∧ (dfi c).depth ≤ 40 ∧ wt (dfi c) ≤ 1000000 := by
  obtain ⟨p1, p2, p3⟩ := pl_lim h
  have q1 := okq (RB.int p1 (by decide)) (by decide)
  have q2 := okq (RB.int p2 (by decide)) (by decide)
  have q3 := okq (RB.int p3 (by decide)) (by decide)
  have q0 := okq (m := 1) RB.zero (by decide)
  refine ⟨?_, ?_, ?_⟩
  · simp [okD, okAll, dfi, q0, q1, q2, q3]
  · simp [PyData.depth, PyData.depthAll, dfi, dq]
  · simp [wt, wtAll, dfi, dq]
theorem dp_fi {K : PySem.W.Frag} {H : Hp} {t : Addr} {c : Cv} (h : LedAt K H t (chP c) c) : Dp K H (.ref t) (dfi c) := by
  obtain ⟨p1, p2, p3, p4, p6, h0, h1, h2, h3, h4, h6⟩ := h
  obtain ⟨e1, e2, e3, e4, e6⟩ := led_plain c
  rw [e1] at h1
  rw [e2] at h2
  rw [e3] at h3
  rw [e4] at h4
  rw [e6] at h6
  exact .tup (tup_of h0) (.cons (dp_q h1) (.cons (dp_q h2) (.cons (dp_q h3) (.cons (dp_q h4) (.cons (dp_q h6) .nil)))))
/-- the law's last comparison -/
def dlast : PyData := .list [dI2 (-16) 16, .tuple [.int 0, .int (-16), .int 16]]
end K08
set_option Elab.async false
set_option linter.all false
set_option maxRecDepth 100000
set_option maxHeartbeats 4000000
namespace K08
open PySem PySem.Spec PyProof.Rows L2 Gd QM K08M ErX
section
variable {P : Program} {w : World} {K : PySem.W.Frag} {mg : Str → Option Value} {base : Heap}
/-! ### one curve -/
def sp_law_right (K : PySem.W.Frag) : Sp := fun vs H Q _ => ∃ (m cl : Addr) (n : Nat), vs = [.ref m] ∧ n ≤ 900 ∧ MAt H m cl n ∧ ∀ H', But m H H' → Q (.bl true) H'
abbrev s__law_right : Stmt := topS 74
theorem sc__law_right : FnScope ["m", "five_v", "plain", "change"] ["m"] (defScope s__law_right) := ⟨rfl, rfl, rfl, by decide +kernel, rfl, by decide +kernel, by decide +kernel⟩
theorem k_law_right (T : Tx K mg) (D : Df K mg "_law_right" s__law_right ["m"]) (c_law_start : Kl P w K mg base 3 "_law_start" (sp_law_start K)) (c_law_plain_due : Kl P w K mg base 3 "_law_plain_due" (sp_law_plain_due K)) (c_law_twists_right : Kg P w K mg base 11 "_law_twists_right" (sp_law_twists_right K)) (c_led : Kl P w K mg base 4 "led" (sp_led K)) (c_short_form : Kl P w K mg base 8 "short_form" (sp_short_form K)) (c_plain_form : Kl P w K mg base 3 "plain_form" (sp_plain_form K)) (c_law_short_of : Kl P w K mg base 2 "_law_short_of" (sp_law_short_of K)) : Kg P w K mg base 12 "_law_right" (sp_law_right K) := by
  have nd := sc__law_right.nd
  refine Kg.by_body D sc__law_right (fun vs H Q E h => ?_) (fun f cdv A outer s H vs Q E hgd hr h => ?_)
  · obtain ⟨_, _, _, rfl, _⟩ := h
    rfl
  · obtain ⟨m, cl, n, rfl, hn, hM, q⟩ := h
    have hu1 := hu_of hr
    refine ⟨_, (pss_cons (ps_set (i := 1) nd rfl (by first | exact Or.inl rfl | exact Or.inr rfl) (pe_k c_law_start  hr (by decide) (by rfl) (pa_cons (pv 0) pa_nil)))
      (pss_cons (ps_asg (pe_k c_law_plain_due  hr (by decide) (by rfl) (pa_cons (pv 1) pa_nil)) (pg_tup rfl (pgs_cons (pg_name (i := 2) nd rfl (by first | exact Or.inl rfl | exact Or.inr rfl)) (pgs_cons (pg_name (i := 3) nd rfl (by first | exact Or.inl rfl | exact Or.inr rfl)) pgs_nil))))
      (pss_cons (ps_if (pt_cmpR op_ne (pe_callB (call_reprD hgd hr.units) (by rfl) T.repr (by decide +kernel) (pa_cons (pe_lst (pa_cons (pe_k c_short_form  hr (by decide) (by rfl) (pa_cons (pv 1) pa_nil)) (pa_cons (pe_k c_plain_form  hr (by decide) (by rfl) (pa_cons (pv 1) pa_nil)) pa_nil))) pa_nil)) (pe_callB (call_reprD hgd hr.units) (by rfl) T.repr (by decide +kernel) (pa_cons (pe_lst (pa_cons (pe_k c_law_short_of  hr (by decide) (by rfl) (pa_cons (pv 1) pa_nil)) (pa_cons (pe_tup (pa_cons (pv 2) (pa_cons (pv 3) pa_nil))) pa_nil))) pa_nil)) (nomark _)) (pss_one (ps_ret pe_bl)) pss_nil)
      (pss_cons (ps_if (pt_cmpR op_ne (pe_callB (call_reprD hgd hr.units) (by rfl) T.repr (by decide +kernel) (pa_cons (pe_k c_led  hr (by decide) (by rfl) (pa_cons (pv 1) (pa_cons (pv 3) pa_nil))) pa_nil)) (pe_callB (call_reprD hgd hr.units) (by rfl) T.repr (by decide +kernel) (pa_cons (pe_tup (pa_cons (pe_tup (pa_cons pe_int (pa_cons pe_int pa_nil))) (pa_cons (pe_tup (pa_cons (pe_ix ix_tup (pv 2) pe_int (fun _ _ => rfl)) (pa_cons pe_int pa_nil))) (pa_cons (pe_tup (pa_cons pe_int (pa_cons pe_int pa_nil))) (pa_cons (pe_tup (pa_cons (pe_ix ix_tup (pv 2) pe_int (fun _ _ => rfl)) (pa_cons pe_int pa_nil))) (pa_cons (pe_tup (pa_cons (pe_ix ix_tup (pv 2) pe_int (fun _ _ => rfl)) (pa_cons pe_int pa_nil))) pa_nil)))))) pa_nil)) (nomark _)) (pss_one (ps_ret pe_bl)) pss_nil)
      (pss_one (ps_ret (pe_g c_law_twists_right hgd hr (by decide) (by rfl) (pa_cons (pv 0) (pa_cons (pv 1) pa_nil))))))))), ?_⟩
    refine ⟨.ref m, rfl, m, cl, n, rfl, by omega, hM, fun H1 g c b1 m1 hg ht hd0 => ?_⟩
    first | refine sigN [some (.ref m), some (.ref g), none, none] (by rfl) ?_ | refine sig [some (.ref m), some (.ref g), none, none] (by rfl) ?_
    have sm := ht.sm
    have pb : PB (-27 * c.c4) (-54 * c.c6) := pb_of (nz_of hd0) ht.lim.1 ht.lim.2
    refine ⟨.ref g, rfl, g, c, rfl, hg, sm, fun H2 t pp pc s2 gt gpp hch => ?_⟩
    refine ⟨t, _, rfl, tup_of gt, rfl, _, _, rfl, _, _, rfl, rfl, ?_⟩
    first | refine sigN [some (.ref m), some (.ref g), some (.ref pp), some (.ref pc)] (by rfl) ?_ | refine sig [some (.ref m), some (.ref g), some (.ref pp), some (.ref pc)] (by rfl) ?_
    refine ⟨.ref g, rfl, g, c, rfl, Same.tup s2 hg, sm, pb, fun A B1 tf H3 u1 z1 s3 n3 g3 => ?_⟩
    obtain ⟨lA, lB, nz⟩ := start_sf ht hd0 u1
    have bA80 : Gd.B 80 A := by unfold Gd.B; omega
    have bB80 : Gd.B 80 B1 := by unfold Gd.B; omega
    refine ⟨.ref g, rfl, g, c, rfl, Same.tup (s2.trans s3) hg, sm, fun H4 t4 p4 c4 s4 gt4 gp4 hc4 => ?_⟩
    refine ⟨(by show 2 ≤ sizeLine; decide), fun l1 nl1 => ?_⟩
    have s5 := Same.new (H := H4) (p := l1) (o := .lst [.ref tf, .ref t4]) nl1
    have gl1 : upd H4 l1 (.lst [.ref tf, .ref t4]) l1 = some (.lst [.ref tf, .ref t4]) := upd_same
    generalize upd H4 l1 (.lst [.ref tf, .ref t4]) = H5 at s5 gl1 ⊢
    obtain ⟨ok1, ok2', ok3⟩ := dtwo_ok bA80 bB80 ht
    refine ⟨.ref l1, dtwo A B1 c, rfl, .lst (lst_of gl1) (.cons (dp2 (tup_of (s5 _ _ (s4 _ _ g3)))) (.cons (.tup (tup_of (s5 _ _ gt4)) (.cons (dp_pl (tup_of (s5 _ _ gp4))) (.cons (dp_cc (hc4.same s5)) .nil))) .nil)), ok1, ok2', ok3, ?_⟩
    have s25 := s3.trans (s4.trans s5)
    refine ⟨.ref g, rfl, g, c, rfl, Same.tup (s2.trans s25) hg, sm, pb, fun A' B' tf' H6 u6 z6 s6 n6 g6 => ?_⟩
    obtain ⟨rfl, rfl⟩ := Up.one_form u1 u6 z1 z6
    refine ⟨.ref pp, rfl, .ref pc, rfl, (by show 2 ≤ sizeLine; decide), fun t7 n7 => ?_⟩
    have s7 := Same.new (H := H6) (p := t7) (o := .tup [.ref pp, .ref pc]) n7
    have g7 : upd H6 t7 (.tup [.ref pp, .ref pc]) t7 = some (.tup [.ref pp, .ref pc]) := upd_same
    generalize upd H6 t7 (.tup [.ref pp, .ref pc]) = H7 at s7 g7 ⊢
    refine ⟨(by show 2 ≤ sizeLine; decide), fun l2 nl2 => ?_⟩
    have s8 := Same.new (H := H7) (p := l2) (o := .lst [.ref tf', .ref t7]) nl2
    have gl2 : upd H7 l2 (.lst [.ref tf', .ref t7]) l2 = some (.lst [.ref tf', .ref t7]) := upd_same
    generalize upd H7 l2 (.lst [.ref tf', .ref t7]) = H8 at s8 gl2 ⊢
    have s28 := s25.trans (s6.trans (s7.trans s8))
    refine ⟨.ref l2, dtwo A B1 c, rfl, .lst (lst_of gl2) (.cons (dp2 (tup_of (s8 _ _ (s7 _ _ g6)))) (.cons (.tup (tup_of (s8 _ _ g7)) (.cons (dp_pl (tup_of (s28 _ _ gpp))) (.cons (dp_cc (hch.same s28)) .nil))) .nil)), ok1, ok2', ok3, rfl, _, rfl, ?_⟩
    generalize (dtwo A B1 c).shown = zz
    refine iteNS rfl ?_
    have bA : But m H H8 := b1.trans (But.of (s2.trans s28))
    have m8 := m1.same (s2.trans s28)
    have hg8 := Same.tup (s2.trans s28) hg
    have hp8 : SqT K H8 pp (plT c) := tup_of (s28 _ _ gpp)
    have hc8 := hch.same s28
    clear s3 s4 s5 s6 s7 s8 s25 s28 s2 gt gpp hch g3 gt4 gp4 hc4 gl1 g6 g7 gl2 n3 n6 u6 z6 ok1 ok2' ok3 zz hg m1 b1
    first | refine sigN [some (.ref m), some (.ref g), some (.ref pp), some (.ref pc)] (by rfl) ?_ | refine sig [some (.ref m), some (.ref g), some (.ref pp), some (.ref pc)] (by rfl) ?_
    obtain ⟨ok1, ok2', ok3⟩ := dfi_ok ht
    refine ⟨.ref g, rfl, .ref pc, rfl, g, pc, c, chP c, rfl, hg8, tn_cvb ht, hc8, chP_ok ht, fun H9 tl s9 hl => ?_⟩
    refine ⟨.ref tl, dfi c, rfl, dp_fi hl, ok1, ok2', ok3, ?_⟩
    refine ⟨(by show 2 ≤ sizeLine; decide), fun x1 nx1 => ?_⟩
    rw [fq_0]
    have sa := Same.new (H := H9) (p := x1) (o := .tup (fq 0)) nx1
    have gx1 : upd H9 x1 (.tup (fq 0)) x1 = some (.tup (fq 0)) := upd_same
    generalize upd H9 x1 (.tup (fq 0)) = Ha at sa gx1 ⊢
    refine ⟨.ref pp, rfl, pp, _, 0, .int (plA c), rfl, rfl, Same.tup (s9.trans sa) hp8, rfl, (by show 2 ≤ sizeLine; decide), fun x2 nx2 => ?_⟩
    rw [fq_z]
    have sb := Same.new (H := Ha) (p := x2) (o := .tup (fq (plA c : Rat))) nx2
    have gx2 : upd Ha x2 (.tup (fq (plA c : Rat))) x2 = some (.tup (fq (plA c : Rat))) := upd_same
    generalize upd Ha x2 (.tup (fq (plA c : Rat))) = Hb at sb gx2 ⊢
    refine ⟨(by show 2 ≤ sizeLine; decide), fun x3 nx3 => ?_⟩
    rw [fq_0]
    have sc := Same.new (H := Hb) (p := x3) (o := .tup (fq 0)) nx3
    have gx3 : upd Hb x3 (.tup (fq 0)) x3 = some (.tup (fq 0)) := upd_same
    generalize upd Hb x3 (.tup (fq 0)) = Hc at sc gx3 ⊢
    refine ⟨.ref pp, rfl, pp, _, 1, .int (plB c), rfl, rfl, Same.tup (s9.trans (sa.trans (sb.trans sc))) hp8, rfl, (by show 2 ≤ sizeLine; decide), fun x4 nx4 => ?_⟩
    rw [fq_z]
    have sd := Same.new (H := Hc) (p := x4) (o := .tup (fq (plB c : Rat))) nx4
    have gx4 : upd Hc x4 (.tup (fq (plB c : Rat))) x4 = some (.tup (fq (plB c : Rat))) := upd_same
    generalize upd Hc x4 (.tup (fq (plB c : Rat))) = Hd at sd gx4 ⊢
    refine ⟨.ref pp, rfl, pp, _, 2, .int (plC c), rfl, rfl, Same.tup (s9.trans (sa.trans (sb.trans (sc.trans sd)))) hp8, rfl, (by show 2 ≤ sizeLine; decide), fun x6 nx6 => ?_⟩
    rw [fq_z]
    have se := Same.new (H := Hd) (p := x6) (o := .tup (fq (plC c : Rat))) nx6
    have gx6 : upd Hd x6 (.tup (fq (plC c : Rat))) x6 = some (.tup (fq (plC c : Rat))) := upd_same
    generalize upd Hd x6 (.tup (fq (plC c : Rat))) = He at se gx6 ⊢
    refine ⟨(by show 5 ≤ sizeLine; decide), fun x0 nx0 => ?_⟩
    have sf := Same.new (H := He) (p := x0) (o := .tup [.ref x1, .ref x2, .ref x3, .ref x4, .ref x6]) nx0
    have gx0 : upd He x0 (.tup [.ref x1, .ref x2, .ref x3, .ref x4, .ref x6]) x0 = some (.tup [.ref x1, .ref x2, .ref x3, .ref x4, .ref x6]) := upd_same
    generalize upd He x0 (.tup [.ref x1, .ref x2, .ref x3, .ref x4, .ref x6]) = Hf at sf gx0 ⊢
    have sef := se.trans sf
    have sdf := sd.trans sef
    have scf := sc.trans sdf
    have sbf := sb.trans scf
    refine ⟨.ref x0, dfi c, rfl, .tup (tup_of gx0) (.cons (dp_q (tup_of (sbf _ _ gx1))) (.cons (dp_q (tup_of (scf _ _ gx2))) (.cons (dp_q (tup_of (sdf _ _ gx3))) (.cons (dp_q (tup_of (sef _ _ gx4))) (.cons (dp_q (tup_of (sf _ _ gx6))) .nil))))), ok1, ok2', ok3, rfl, _, rfl, ?_⟩
    generalize (dfi c).shown = zz
    refine iteNS rfl ?_
    have s8f := s9.trans (sa.trans sbf)
    refine ⟨.ref m, rfl, .ref g, rfl, m, cl, g, c, n + 20, rfl, by omega, m8.same s8f, Same.tup s8f hg8, ht, hd0, fun Hz bz => ?_⟩
    exact q _ (bA.trans ((But.of s8f).trans bz))
end
end K08
set_option Elab.async false
set_option linter.all false
set_option maxRecDepth 100000
set_option maxHeartbeats 4000000
namespace K08
open PySem PySem.Spec PyProof.Rows L2 Gd QM K08M ErX
theorem iteF {A B : Prop} (b : B) : if false = true then A else B := by
  rw [if_neg Bool.false_ne_true]
  exact b
/-- the last curve -/
def c0 : Cv := ⟨0, 0, 1, -1, 0⟩
theorem c0_tn : c0.Tn := ⟨by decide, by decide, by decide, by decide, by decide⟩
theorem c0_disc : c0.disc ≠ 0 := by decide
theorem c0_up : Up (-27 * c0.c4) (-54 * c0.c6) (-16) 16 := ⟨3, by decide, by decide, by decide⟩
theorem c0_sh : Sh (-16) 16 := fun p h2 _ h => by
  have h1 : p ^ 6 ≤ 16 := Nat.le_of_dvd (by decide) h
  have h3 : 2 ^ 6 ≤ p ^ 6 := Nat.pow_le_pow_left h2 6
  omega
theorem c0_pl : plT c0 = [.int 0, .int (-16), .int 16] := rfl
theorem dlast_ok : okD dlast = true ∧ dlast.depth ≤ 40 ∧ wt dlast ≤ 1000000 := by decide +kernel
theorem dp3 {K : PySem.W.Frag} {H : Hp} {p : Addr} {a b c : Int} (h : SqT K H p [.int a, .int b, .int c]) : Dp K H (.ref p) (.tuple [.int a, .int b, .int c]) := .tup h (.cons (.int _) (.cons (.int _) (.cons (.int _) .nil)))
section
variable {P : Program} {w : World} {K : PySem.W.Frag} {mg : Str → Option Value} {base : Heap}
/-! ### the law -/
def sp_law (K : PySem.W.Frag) : Sp := fun vs H Q _ => ∃ (a : Addr) (ns : List Int), vs = [.ref a] ∧ SqL K H a (ns.map V.int) ∧ ns.length ≤ 63 ∧ ∀ H', Q (.bl true) H'
abbrev s_law : Stmt := topS 75
theorem sc_law : FnScope ["script", "k"] ["script"] (defScope s_law) := ⟨rfl, rfl, rfl, by decide +kernel, rfl, by decide +kernel, by decide +kernel⟩
theorem k_law {fl : Addr} {fdl : FuncData} (T : Tx K mg) (Fl : Fun K "law" "law" s_law fl fdl) (c_law_right : Kg P w K mg base 12 "_law_right" (sp_law_right K)) (c_law_begun : Kl P w K mg base 1 "_law_begun" (sp_law_begun K)) (c_short_form : Kl P w K mg base 8 "short_form" (sp_short_form K)) (c_plain_form : Kl P w K mg base 3 "plain_form" (sp_plain_form K)) : FnG P w K mg base 13 fl fdl ["script"] (sp_law K) := by
  have nd := sc_law.nd
  refine FnG.by_body Fl sc_law (fun vs H Q E h => ?_) (fun cdv A outer s H vs Q E hgd hr h => ?_)
  · obtain ⟨_, _, rfl, _⟩ := h
    rfl
  · obtain ⟨a, ns, rfl, hx, hl, q⟩ := h
    have hu1 := hu_of hr
    refine ⟨_, (pss_cons (ps_for PassesOwn.never rfl (pi_range1 (by rfl) T.range (pa_cons (pe_op op_add pe_int (pe_callB (call_min2 rfl) (by rfl) T.min (by decide +kernel) (pa_cons (pe_callB call_len_seq (by rfl) T.len (by decide +kernel) (pa_cons (pv 0) pa_nil)) (pa_cons pe_int pa_nil)))) pa_nil)) (pg_name (i := 1) nd rfl (by first | exact Or.inl rfl | exact Or.inr rfl)) (pss_one (ps_if (pt_not (pt_val (pe_g c_law_right hgd hr (by decide) (by rfl) (pa_cons (pe_k c_law_begun  hr (by decide) (by rfl) (pa_cons (pv 0) (pa_cons (pv 1) pa_nil))) pa_nil)))) (pss_one (ps_ret pe_bl)) pss_nil)))
      (pss_one (ps_ret (pe_cmpR op_eq (pe_callB (call_reprD hgd hr.units) (by rfl) T.repr (by decide +kernel) (pa_cons (pe_lst (pa_cons (pe_k c_short_form  hr (by decide) (by rfl) (pa_cons (pe_tup (pa_cons pe_int (pa_cons pe_int (pa_cons pe_int (pa_cons (pe_un un_neg pe_int) (pa_cons pe_int pa_nil)))))) pa_nil)) (pa_cons (pe_ix ix_tup (pe_k c_plain_form  hr (by decide) (by rfl) (pa_cons (pe_tup (pa_cons pe_int (pa_cons pe_int (pa_cons pe_int (pa_cons (pe_un un_neg pe_int) (pa_cons pe_int pa_nil)))))) pa_nil)) pe_int (fun _ _ => rfl)) pa_nil))) pa_nil)) (pe_callB (call_reprD hgd hr.units) (by rfl) T.repr (by decide +kernel) (pa_cons (pe_lst (pa_cons (pe_tup (pa_cons (pe_un un_neg pe_int) (pa_cons pe_int pa_nil))) (pa_cons (pe_tup (pa_cons pe_int (pa_cons (pe_un un_neg pe_int) (pa_cons pe_int pa_nil)))) pa_nil))) pa_nil)) (nomark _))))), ?_⟩
    obtain ⟨j, hj, j0, j1⟩ : ∃ j : Int, (3 : Int) + (if (2 : Int) < ((ns.map V.int).length : Int) then 2 else ((ns.map V.int).length : Int)) = j ∧ 0 ≤ j ∧ j ≤ 5 := ⟨_, rfl, by split <;> omega, by split <;> omega⟩
    refine ⟨.ref a, rfl, a, _, rfl, .inl hx, _, _, rfl, _, _, rfl, rfl, j, ?_, by omega, by omega, ?_⟩
    · rw [← hj]
    refine for_range (lo := 0) (n := j.toNat) (fun i σ H2 => Same H H2 ∧ ∃ v1 : Option V, σ = [some (.ref a), v1]) ⟨Same.refl _, none, rfl⟩ ?_ ?_
    · rintro i σ H2 hi ⟨s2, v1, rfl⟩
      refine ⟨.ref a, rfl, _, rfl, a, _, ns, rfl, s2.seq hx, hl, by omega, by omega, fun H3 m cl s3 nm ncl hM => ?_⟩
      refine ⟨m, cl, 0, rfl, by decide, hM, fun H4 b4 => ⟨_, rfl, ?_⟩⟩
      refine iteF ?_
      exact ⟨s2.trans (But.same s3 b4 nm), _, rfl⟩
    · rintro σ H2 ⟨s2, v1, rfl⟩
      have sm := c0_tn.sm
      have pb : PB (-27 * c0.c4) (-54 * c0.c6) := pb_of (nz_of c0_disc) c0_tn.lim.1 c0_tn.lim.2
      refine ⟨_, rfl, (by show 5 ≤ sizeLine; decide), fun k1 nk1 => ?_⟩
      rw [show upd H2 k1 (.tup [.int 0, .int 0, .int 1, (fun i : Int => V.int (-i)) 1, .int 0]) = upd H2 k1 (.tup c0.tup) from rfl]
      have s3 := Same.new (H := H2) (p := k1) (o := .tup c0.tup) nk1
      have g3 : upd H2 k1 (.tup c0.tup) k1 = some (.tup c0.tup) := upd_same
      generalize upd H2 k1 (.tup c0.tup) = H3 at s3 g3 ⊢
      refine ⟨k1, c0, rfl, tup_of g3, sm, pb, fun A C tf H4 u4 z4 s4 n4 g4 => ?_⟩
      obtain ⟨rfl, rfl⟩ := Up.one_form c0_up u4 c0_sh z4
      refine ⟨_, rfl, (by show 5 ≤ sizeLine; decide), fun k2 nk2 => ?_⟩
      rw [show upd H4 k2 (.tup [.int 0, .int 0, .int 1, (fun i : Int => V.int (-i)) 1, .int 0]) = upd H4 k2 (.tup c0.tup) from rfl]
      have s5 := Same.new (H := H4) (p := k2) (o := .tup c0.tup) nk2
      have g5 : upd H4 k2 (.tup c0.tup) k2 = some (.tup c0.tup) := upd_same
      generalize upd H4 k2 (.tup c0.tup) = H5 at s5 g5 ⊢
      refine ⟨k2, c0, rfl, tup_of g5, sm, fun H6 t pp pc s6 gt gpp hch => ?_⟩
      rw [c0_pl] at gpp
      refine ⟨t, _, 0, .ref pp, rfl, rfl, tup_of gt, rfl, (by show 2 ≤ sizeLine; decide), fun l1 nl1 => ?_⟩
      have s7 := Same.new (H := H6) (p := l1) (o := .lst [.ref tf, .ref pp]) nl1
      have gl1 : upd H6 l1 (.lst [.ref tf, .ref pp]) l1 = some (.lst [.ref tf, .ref pp]) := upd_same
      generalize upd H6 l1 (.lst [.ref tf, .ref pp]) = H7 at s7 gl1 ⊢
      obtain ⟨ok1, ok2', ok3⟩ := dlast_ok
      refine ⟨.ref l1, dlast, rfl, .lst (lst_of gl1) (.cons (dp2 (tup_of (s7 _ _ (s6 _ _ (s5 _ _ g4))))) (.cons (dp3 (tup_of (s7 _ _ gpp))) .nil)), ok1, ok2', ok3, ?_⟩
      refine ⟨_, rfl, (by show 2 ≤ sizeLine; decide), fun x1 nx1 => ?_⟩
      rw [show upd H7 x1 (.tup [(fun i : Int => V.int (-i)) 16, .int 16]) = upd H7 x1 (.tup [.int (-16), .int 16]) from rfl]
      have s8 := Same.new (H := H7) (p := x1) (o := .tup [.int (-16), .int 16]) nx1
      have g8 : upd H7 x1 (.tup [.int (-16), .int 16]) x1 = some (.tup [.int (-16), .int 16]) := upd_same
      generalize upd H7 x1 (.tup [.int (-16), .int 16]) = H8 at s8 g8 ⊢
      refine ⟨_, rfl, (by show 3 ≤ sizeLine; decide), fun x2 nx2 => ?_⟩
      rw [show upd H8 x2 (.tup [.int 0, (fun i : Int => V.int (-i)) 16, .int 16]) = upd H8 x2 (.tup [.int 0, .int (-16), .int 16]) from rfl]
      have s9 := Same.new (H := H8) (p := x2) (o := .tup [.int 0, .int (-16), .int 16]) nx2
      have g9 : upd H8 x2 (.tup [.int 0, .int (-16), .int 16]) x2 = some (.tup [.int 0, .int (-16), .int 16]) := upd_same
      generalize upd H8 x2 (.tup [.int 0, .int (-16), .int 16]) = H9 at s9 g9 ⊢
      refine ⟨(by show 2 ≤ sizeLine; decide), fun l2 nl2 => ?_⟩
      have sa := Same.new (H := H9) (p := l2) (o := .lst [.ref x1, .ref x2]) nl2
      have gl2 : upd H9 l2 (.lst [.ref x1, .ref x2]) l2 = some (.lst [.ref x1, .ref x2]) := upd_same
      generalize upd H9 l2 (.lst [.ref x1, .ref x2]) = Ha at sa gl2 ⊢
      refine ⟨.ref l2, dlast, rfl, .lst (lst_of gl2) (.cons (dp2 (tup_of (sa _ _ (s9 _ _ g8)))) (.cons (dp3 (tup_of (sa _ _ g9))) .nil)), ok1, ok2', ok3, rfl, ?_⟩
      generalize dlast.shown = zz
      rw [decide_eq_true (rfl : V.str zz = V.str zz)]
      exact q _
end
end K08
set_option Elab.async false
set_option linter.all false
set_option maxRecDepth 100000
set_option maxHeartbeats 4000000
namespace K08
open PySem PySem.Spec PyProof.Rows L2 Gd
theorem all_mk {P : Program} {w : World} {K : PySem.W.Frag} {h : Heap} {mg : Str → Option Value} {fa : Addr} (X : K.In h) (G : h.Ns mainGlobals mg) (hfa : mg "law" = some (.ref fa))
    {f4 : Addr} {od4 an4 : Option Addr} {sl4 : Array (Option Value)} {oc4 kV4 dc4 pm4 cd4 ct4 : Value}
    {f7 : Addr} {od7 an7 : Option Addr} {sl7 : Array (Option Value)} {oc7 kV7 dc7 pm7 cd7 ct7 : Value}
    {f8 : Addr} {od8 an8 : Option Addr} {sl8 : Array (Option Value)} {oc8 kV8 dc8 pm8 cd8 ct8 : Value}
    {f9 : Addr} {od9 an9 : Option Addr} {sl9 : Array (Option Value)} {oc9 kV9 dc9 pm9 cd9 ct9 : Value}
    {f10 : Addr} {od10 an10 : Option Addr} {sl10 : Array (Option Value)} {oc10 kV10 dc10 pm10 cd10 ct10 : Value}
    {f17 : Addr} {od17 an17 : Option Addr} {sl17 : Array (Option Value)} {oc17 kV17 dc17 pm17 cd17 ct17 : Value}
    {f20 : Addr} {od20 an20 : Option Addr} {sl20 : Array (Option Value)} {oc20 kV20 dc20 pm20 cd20 ct20 : Value}
    {f23 : Addr} {od23 an23 : Option Addr} {sl23 : Array (Option Value)} {oc23 kV23 dc23 pm23 cd23 ct23 : Value}
    {f24 : Addr} {od24 an24 : Option Addr} {sl24 : Array (Option Value)} {oc24 kV24 dc24 pm24 cd24 ct24 : Value}
    {f25 : Addr} {od25 an25 : Option Addr} {sl25 : Array (Option Value)} {oc25 kV25 dc25 pm25 cd25 ct25 : Value}
    {f28 : Addr} {od28 an28 : Option Addr} {sl28 : Array (Option Value)} {oc28 kV28 dc28 pm28 cd28 ct28 : Value}
    {f29 : Addr} {od29 an29 : Option Addr} {sl29 : Array (Option Value)} {oc29 kV29 dc29 pm29 cd29 ct29 : Value}
    {f31 : Addr} {od31 an31 : Option Addr} {sl31 : Array (Option Value)} {oc31 kV31 dc31 pm31 cd31 ct31 : Value}
    {f33 : Addr} {od33 an33 : Option Addr} {sl33 : Array (Option Value)} {oc33 kV33 dc33 pm33 cd33 ct33 : Value}
    {f34 : Addr} {od34 an34 : Option Addr} {sl34 : Array (Option Value)} {oc34 kV34 dc34 pm34 cd34 ct34 : Value}
    {f35 : Addr} {od35 an35 : Option Addr} {sl35 : Array (Option Value)} {oc35 kV35 dc35 pm35 cd35 ct35 : Value}
    {f36 : Addr} {od36 an36 : Option Addr} {sl36 : Array (Option Value)} {oc36 kV36 dc36 pm36 cd36 ct36 : Value}
    {f37 : Addr} {od37 an37 : Option Addr} {sl37 : Array (Option Value)} {oc37 kV37 dc37 pm37 cd37 ct37 : Value}
    {f42 : Addr} {od42 an42 : Option Addr} {sl42 : Array (Option Value)} {oc42 kV42 dc42 pm42 cd42 ct42 : Value}
    {f43 : Addr} {od43 an43 : Option Addr} {sl43 : Array (Option Value)} {oc43 kV43 dc43 pm43 cd43 ct43 : Value}
    {f44 : Addr} {od44 an44 : Option Addr} {sl44 : Array (Option Value)} {oc44 kV44 dc44 pm44 cd44 ct44 : Value}
    {f45 : Addr} {od45 an45 : Option Addr} {sl45 : Array (Option Value)} {oc45 kV45 dc45 pm45 cd45 ct45 : Value}
    {f46 : Addr} {od46 an46 : Option Addr} {sl46 : Array (Option Value)} {oc46 kV46 dc46 pm46 cd46 ct46 : Value}
    {f47 : Addr} {od47 an47 : Option Addr} {sl47 : Array (Option Value)} {oc47 kV47 dc47 pm47 cd47 ct47 : Value}
    {f48 : Addr} {od48 an48 : Option Addr} {sl48 : Array (Option Value)} {oc48 kV48 dc48 pm48 cd48 ct48 : Value}
    {f51 : Addr} {od51 an51 : Option Addr} {sl51 : Array (Option Value)} {oc51 kV51 dc51 pm51 cd51 ct51 : Value}
    {f52 : Addr} {od52 an52 : Option Addr} {sl52 : Array (Option Value)} {oc52 kV52 dc52 pm52 cd52 ct52 : Value}
    {f53 : Addr} {od53 an53 : Option Addr} {sl53 : Array (Option Value)} {oc53 kV53 dc53 pm53 cd53 ct53 : Value}
    {f55 : Addr} {od55 an55 : Option Addr} {sl55 : Array (Option Value)} {oc55 kV55 dc55 pm55 cd55 ct55 : Value}
    {f57 : Addr} {od57 an57 : Option Addr} {sl57 : Array (Option Value)} {oc57 kV57 dc57 pm57 cd57 ct57 : Value}
    {f58 : Addr} {od58 an58 : Option Addr} {sl58 : Array (Option Value)} {oc58 kV58 dc58 pm58 cd58 ct58 : Value}
    {f59 : Addr} {od59 an59 : Option Addr} {sl59 : Array (Option Value)} {oc59 kV59 dc59 pm59 cd59 ct59 : Value}
    {f60 : Addr} {od60 an60 : Option Addr} {sl60 : Array (Option Value)} {oc60 kV60 dc60 pm60 cd60 ct60 : Value}
    {f61 : Addr} {od61 an61 : Option Addr} {sl61 : Array (Option Value)} {oc61 kV61 dc61 pm61 cd61 ct61 : Value}
    {f62 : Addr} {od62 an62 : Option Addr} {sl62 : Array (Option Value)} {oc62 kV62 dc62 pm62 cd62 ct62 : Value}
    {f63 : Addr} {od63 an63 : Option Addr} {sl63 : Array (Option Value)} {oc63 kV63 dc63 pm63 cd63 ct63 : Value}
    {f65 : Addr} {od65 an65 : Option Addr} {sl65 : Array (Option Value)} {oc65 kV65 dc65 pm65 cd65 ct65 : Value}
    {f66 : Addr} {od66 an66 : Option Addr} {sl66 : Array (Option Value)} {oc66 kV66 dc66 pm66 cd66 ct66 : Value}
    {f67 : Addr} {od67 an67 : Option Addr} {sl67 : Array (Option Value)} {oc67 kV67 dc67 pm67 cd67 ct67 : Value}
    {f68 : Addr} {od68 an68 : Option Addr} {sl68 : Array (Option Value)} {oc68 kV68 dc68 pm68 cd68 ct68 : Value}
    {f69 : Addr} {od69 an69 : Option Addr} {sl69 : Array (Option Value)} {oc69 kV69 dc69 pm69 cd69 ct69 : Value}
    {f70 : Addr} {od70 an70 : Option Addr} {sl70 : Array (Option Value)} {oc70 kV70 dc70 pm70 cd70 ct70 : Value}
    {f71 : Addr} {od71 an71 : Option Addr} {sl71 : Array (Option Value)} {oc71 kV71 dc71 pm71 cd71 ct71 : Value}
    {f72 : Addr} {od72 an72 : Option Addr} {sl72 : Array (Option Value)} {oc72 kV72 dc72 pm72 cd72 ct72 : Value}
    {f73 : Addr} {od73 an73 : Option Addr} {sl73 : Array (Option Value)} {oc73 kV73 dc73 pm73 cd73 ct73 : Value}
    {f74 : Addr} {od74 an74 : Option Addr} {sl74 : Array (Option Value)} {oc74 kV74 dc74 pm74 cd74 ct74 : Value}
    {f75 : Addr} {od75 an75 : Option Addr} {sl75 : Array (Option Value)} {oc75 kV75 dc75 pm75 cd75 ct75 : Value}
    {C0 C1 e0 e1 T0 N xcc0 xcda0 xcc1 xcda1 : Addr} {nm q : Str} {bs : List Value} {sn : List Str} {sub : List Value} {ab : Bool} {col : Option Bool} {dd : Option Addr} {m0 m1 m2 m3 m5 : Option Value} {xkV0 xdc0 xpm0 xct0 xkV1 xdc1 xpm1 xct1 : Value} {xod0 xan0 xod1 xan1 xodT : Option Addr} {xsl0 xsl1 xslT : Array (Option Value)} {xuT : Tok} {xnT : Nat} {yc0 yc1 yd0 yd1 ye0 : Value} {yo0 yo1 yp0 yp1 yq0 : Option Addr} {ys0 ys1 yt0 yt1 yu0 : Array (Option Value)} {yv0 yv1 : Array Value} {yf0 yf1 : Str} {yk0 yk1 : Tok} {ycd : ClassData}
    (a4 : PySem.W.nsIn K mainGlobals "is_square" = some (some (.ref f4))) (l4 : K.lookup f4 = some ⟨oc4, od4, .func (PySem.W.fnOf "is_square" "is_square" (defArgs s_is_square) (defBody s_is_square) (defScope s_is_square) .none kV4 dc4 pm4 an4 cd4 ct4), sl4⟩) (c4 : PySem.W.codeIn K cd4 "is_square" = true) (k4 : PySem.W.keepIn K (.ref f4) = true)
    (a7 : PySem.W.nsIn K mainGlobals "power" = some (some (.ref f7))) (l7 : K.lookup f7 = some ⟨oc7, od7, .func (PySem.W.fnOf "power" "power" (defArgs s_power) (defBody s_power) (defScope s_power) .none kV7 dc7 pm7 an7 cd7 ct7), sl7⟩) (c7 : PySem.W.codeIn K cd7 "power" = true) (k7 : PySem.W.keepIn K (.ref f7) = true)
    (a8 : PySem.W.nsIn K mainGlobals "lowest" = some (some (.ref f8))) (l8 : K.lookup f8 = some ⟨oc8, od8, .func (PySem.W.fnOf "lowest" "lowest" (defArgs s_lowest) (defBody s_lowest) (defScope s_lowest) .none kV8 dc8 pm8 an8 cd8 ct8), sl8⟩) (c8 : PySem.W.codeIn K cd8 "lowest" = true) (k8 : PySem.W.keepIn K (.ref f8) = true)
    (a9 : PySem.W.nsIn K mainGlobals "root_of" = some (some (.ref f9))) (l9 : K.lookup f9 = some ⟨oc9, od9, .func (PySem.W.fnOf "root_of" "root_of" (defArgs s_root_of) (defBody s_root_of) (defScope s_root_of) .none kV9 dc9 pm9 an9 cd9 ct9), sl9⟩) (c9 : PySem.W.codeIn K cd9 "root_of" = true) (k9 : PySem.W.keepIn K (.ref f9) = true)
    (a10 : PySem.W.nsIn K mainGlobals "exact_root" = some (some (.ref f10))) (l10 : K.lookup f10 = some ⟨oc10, od10, .func (PySem.W.fnOf "exact_root" "exact_root" (defArgs s_exact_root) (defBody s_exact_root) (defScope s_exact_root) .none kV10 dc10 pm10 an10 cd10 ct10), sl10⟩) (c10 : PySem.W.codeIn K cd10 "exact_root" = true) (k10 : PySem.W.keepIn K (.ref f10) = true)
    (a17 : PySem.W.nsIn K mainGlobals "has_no_parts" = some (some (.ref f17))) (l17 : K.lookup f17 = some ⟨oc17, od17, .func (PySem.W.fnOf "has_no_parts" "has_no_parts" (defArgs s_has_no_parts) (defBody s_has_no_parts) (defScope s_has_no_parts) .none kV17 dc17 pm17 an17 cd17 ct17), sl17⟩) (c17 : PySem.W.codeIn K cd17 "has_no_parts" = true) (k17 : PySem.W.keepIn K (.ref f17) = true)
    (a20 : PySem.W.nsIn K mainGlobals "part_of" = some (some (.ref f20))) (l20 : K.lookup f20 = some ⟨oc20, od20, .func (PySem.W.fnOf "part_of" "part_of" (defArgs s_part_of) (defBody s_part_of) (defScope s_part_of) .none kV20 dc20 pm20 an20 cd20 ct20), sl20⟩) (c20 : PySem.W.codeIn K cd20 "part_of" = true) (k20 : PySem.W.keepIn K (.ref f20) = true)
    (a23 : PySem.W.nsIn K mainGlobals "small_factors" = some (some (.ref f23))) (l23 : K.lookup f23 = some ⟨oc23, od23, .func (PySem.W.fnOf "small_factors" "small_factors" (defArgs s_small_factors) (defBody s_small_factors) (defScope s_small_factors) .none kV23 dc23 pm23 an23 cd23 ct23), sl23⟩) (c23 : PySem.W.codeIn K cd23 "small_factors" = true) (k23 : PySem.W.keepIn K (.ref f23) = true)
    (a24 : PySem.W.nsIn K mainGlobals "factors" = some (some (.ref f24))) (l24 : K.lookup f24 = some ⟨oc24, od24, .func (PySem.W.fnOf "factors" "factors" (defArgs s_factors) (defBody s_factors) (defScope s_factors) .none kV24 dc24 pm24 an24 cd24 ct24), sl24⟩) (c24 : PySem.W.codeIn K cd24 "factors" = true) (k24 : PySem.W.keepIn K (.ref f24) = true)
    (a25 : PySem.W.nsIn K mainGlobals "class_of" = some (some (.ref f25))) (l25 : K.lookup f25 = some ⟨oc25, od25, .func (PySem.W.fnOf "class_of" "class_of" (defArgs s_class_of) (defBody s_class_of) (defScope s_class_of) .none kV25 dc25 pm25 an25 cd25 ct25), sl25⟩) (c25 : PySem.W.codeIn K cd25 "class_of" = true) (k25 : PySem.W.keepIn K (.ref f25) = true)
    (a28 : PySem.W.nsIn K mainGlobals "divided_by" = some (some (.ref f28))) (l28 : K.lookup f28 = some ⟨oc28, od28, .func (PySem.W.fnOf "divided_by" "divided_by" (defArgs s_divided_by) (defBody s_divided_by) (defScope s_divided_by) .none kV28 dc28 pm28 an28 cd28 ct28), sl28⟩) (c28 : PySem.W.codeIn K cd28 "divided_by" = true) (k28 : PySem.W.keepIn K (.ref f28) = true)
    (a29 : PySem.W.nsIn K mainGlobals "without_powers" = some (some (.ref f29))) (l29 : K.lookup f29 = some ⟨oc29, od29, .func (PySem.W.fnOf "without_powers" "without_powers" (defArgs s_without_powers) (defBody s_without_powers) (defScope s_without_powers) .none kV29 dc29 pm29 an29 cd29 ct29), sl29⟩) (c29 : PySem.W.codeIn K cd29 "without_powers" = true) (k29 : PySem.W.keepIn K (.ref f29) = true)
    (a31 : PySem.W.nsIn K mainGlobals "without_great_powers" = some (some (.ref f31))) (l31 : K.lookup f31 = some ⟨oc31, od31, .func (PySem.W.fnOf "without_great_powers" "without_great_powers" (defArgs s_without_great_powers) (defBody s_without_great_powers) (defScope s_without_great_powers) .none kV31 dc31 pm31 an31 cd31 ct31), sl31⟩) (c31 : PySem.W.codeIn K cd31 "without_great_powers" = true) (k31 : PySem.W.keepIn K (.ref f31) = true)
    (a33 : PySem.W.nsIn K mainGlobals "five" = some (some (.ref f33))) (l33 : K.lookup f33 = some ⟨oc33, od33, .func (PySem.W.fnOf "five" "five" (defArgs s_five) (defBody s_five) (defScope s_five) .none kV33 dc33 pm33 an33 cd33 ct33), sl33⟩) (c33 : PySem.W.codeIn K cd33 "five" = true) (k33 : PySem.W.keepIn K (.ref f33) = true)
    (a34 : PySem.W.nsIn K mainGlobals "numbers_of" = some (some (.ref f34))) (l34 : K.lookup f34 = some ⟨oc34, od34, .func (PySem.W.fnOf "numbers_of" "numbers_of" (defArgs s_numbers_of) (defBody s_numbers_of) (defScope s_numbers_of) .none kV34 dc34 pm34 an34 cd34 ct34), sl34⟩) (c34 : PySem.W.codeIn K cd34 "numbers_of" = true) (k34 : PySem.W.keepIn K (.ref f34) = true)
    (a35 : PySem.W.nsIn K mainGlobals "j_of" = some (some (.ref f35))) (l35 : K.lookup f35 = some ⟨oc35, od35, .func (PySem.W.fnOf "j_of" "j_of" (defArgs s_j_of) (defBody s_j_of) (defScope s_j_of) .none kV35 dc35 pm35 an35 cd35 ct35), sl35⟩) (c35 : PySem.W.codeIn K cd35 "j_of" = true) (k35 : PySem.W.keepIn K (.ref f35) = true)
    (a36 : PySem.W.nsIn K mainGlobals "short_form" = some (some (.ref f36))) (l36 : K.lookup f36 = some ⟨oc36, od36, .func (PySem.W.fnOf "short_form" "short_form" (defArgs s_short_form) (defBody s_short_form) (defScope s_short_form) .none kV36 dc36 pm36 an36 cd36 ct36), sl36⟩) (c36 : PySem.W.codeIn K cd36 "short_form" = true) (k36 : PySem.W.keepIn K (.ref f36) = true)
    (a37 : PySem.W.nsIn K mainGlobals "plain_form" = some (some (.ref f37))) (l37 : K.lookup f37 = some ⟨oc37, od37, .func (PySem.W.fnOf "plain_form" "plain_form" (defArgs s_plain_form) (defBody s_plain_form) (defScope s_plain_form) .none kV37 dc37 pm37 an37 cd37 ct37), sl37⟩) (c37 : PySem.W.codeIn K cd37 "plain_form" = true) (k37 : PySem.W.keepIn K (.ref f37) = true)
    (a42 : PySem.W.nsIn K mainGlobals "plus" = some (some (.ref f42))) (l42 : K.lookup f42 = some ⟨oc42, od42, .func (PySem.W.fnOf "plus" "plus" (defArgs s_plus) (defBody s_plus) (defScope s_plus) .none kV42 dc42 pm42 an42 cd42 ct42), sl42⟩) (c42 : PySem.W.codeIn K cd42 "plus" = true) (k42 : PySem.W.keepIn K (.ref f42) = true)
    (a43 : PySem.W.nsIn K mainGlobals "times" = some (some (.ref f43))) (l43 : K.lookup f43 = some ⟨oc43, od43, .func (PySem.W.fnOf "times" "times" (defArgs s_times) (defBody s_times) (defScope s_times) .none kV43 dc43 pm43 an43 cd43 ct43), sl43⟩) (c43 : PySem.W.codeIn K cd43 "times" = true) (k43 : PySem.W.keepIn K (.ref f43) = true)
    (a44 : PySem.W.nsIn K mainGlobals "over" = some (some (.ref f44))) (l44 : K.lookup f44 = some ⟨oc44, od44, .func (PySem.W.fnOf "over" "over" (defArgs s_over) (defBody s_over) (defScope s_over) .none kV44 dc44 pm44 an44 cd44 ct44), sl44⟩) (c44 : PySem.W.codeIn K cd44 "over" = true) (k44 : PySem.W.keepIn K (.ref f44) = true)
    (a45 : PySem.W.nsIn K mainGlobals "whole_fraction" = some (some (.ref f45))) (l45 : K.lookup f45 = some ⟨oc45, od45, .func (PySem.W.fnOf "whole_fraction" "whole_fraction" (defArgs s_whole_fraction) (defBody s_whole_fraction) (defScope s_whole_fraction) .none kV45 dc45 pm45 an45 cd45 ct45), sl45⟩) (c45 : PySem.W.codeIn K cd45 "whole_fraction" = true) (k45 : PySem.W.keepIn K (.ref f45) = true)
    (a46 : PySem.W.nsIn K mainGlobals "total" = some (some (.ref f46))) (l46 : K.lookup f46 = some ⟨oc46, od46, .func (PySem.W.fnOf "total" "total" (defArgs s_total) (defBody s_total) (defScope s_total) .none kV46 dc46 pm46 an46 cd46 ct46), sl46⟩) (c46 : PySem.W.codeIn K cd46 "total" = true) (k46 : PySem.W.keepIn K (.ref f46) = true)
    (a47 : PySem.W.nsIn K mainGlobals "product" = some (some (.ref f47))) (l47 : K.lookup f47 = some ⟨oc47, od47, .func (PySem.W.fnOf "product" "product" (defArgs s_product) (defBody s_product) (defScope s_product) .none kV47 dc47 pm47 an47 cd47 ct47), sl47⟩) (c47 : PySem.W.codeIn K cd47 "product" = true) (k47 : PySem.W.keepIn K (.ref f47) = true)
    (a48 : PySem.W.nsIn K mainGlobals "root_of_fraction" = some (some (.ref f48))) (l48 : K.lookup f48 = some ⟨oc48, od48, .func (PySem.W.fnOf "root_of_fraction" "root_of_fraction" (defArgs s_root_of_fraction) (defBody s_root_of_fraction) (defScope s_root_of_fraction) .none kV48 dc48 pm48 an48 cd48 ct48), sl48⟩) (c48 : PySem.W.codeIn K cd48 "root_of_fraction" = true) (k48 : PySem.W.keepIn K (.ref f48) = true)
    (a51 : PySem.W.nsIn K mainGlobals "twist" = some (some (.ref f51))) (l51 : K.lookup f51 = some ⟨oc51, od51, .func (PySem.W.fnOf "twist" "twist" (defArgs s_twist) (defBody s_twist) (defScope s_twist) .none kV51 dc51 pm51 an51 cd51 ct51), sl51⟩) (c51 : PySem.W.codeIn K cd51 "twist" = true) (k51 : PySem.W.keepIn K (.ref f51) = true)
    (a52 : PySem.W.nsIn K mainGlobals "small_class" = some (some (.ref f52))) (l52 : K.lookup f52 = some ⟨oc52, od52, .func (PySem.W.fnOf "small_class" "small_class" (defArgs s_small_class) (defBody s_small_class) (defScope s_small_class) .none kV52 dc52 pm52 an52 cd52 ct52), sl52⟩) (c52 : PySem.W.codeIn K cd52 "small_class" = true) (k52 : PySem.W.keepIn K (.ref f52) = true)
    (a53 : PySem.W.nsIn K mainGlobals "twist_between" = some (some (.ref f53))) (l53 : K.lookup f53 = some ⟨oc53, od53, .func (PySem.W.fnOf "twist_between" "twist_between" (defArgs s_twist_between) (defBody s_twist_between) (defScope s_twist_between) .none kV53 dc53 pm53 an53 cd53 ct53), sl53⟩) (c53 : PySem.W.codeIn K cd53 "twist_between" = true) (k53 : PySem.W.keepIn K (.ref f53) = true)
    (a55 : PySem.W.nsIn K mainGlobals "led" = some (some (.ref f55))) (l55 : K.lookup f55 = some ⟨oc55, od55, .func (PySem.W.fnOf "led" "led" (defArgs s_led) (defBody s_led) (defScope s_led) .none kV55 dc55 pm55 an55 cd55 ct55), sl55⟩) (c55 : PySem.W.codeIn K cd55 "led" = true) (k55 : PySem.W.keepIn K (.ref f55) = true)
    (a57 : PySem.W.nsIn K mainGlobals "_law_begun" = some (some (.ref f57))) (l57 : K.lookup f57 = some ⟨oc57, od57, .func (PySem.W.fnOf "_law_begun" "_law_begun" (defArgs s__law_begun) (defBody s__law_begun) (defScope s__law_begun) .none kV57 dc57 pm57 an57 cd57 ct57), sl57⟩) (c57 : PySem.W.codeIn K cd57 "_law_begun" = true) (k57 : PySem.W.keepIn K (.ref f57) = true)
    (a58 : PySem.W.nsIn K mainGlobals "_law_draw" = some (some (.ref f58))) (l58 : K.lookup f58 = some ⟨oc58, od58, .func (PySem.W.fnOf "_law_draw" "_law_draw" (defArgs s__law_draw) (defBody s__law_draw) (defScope s__law_draw) .none kV58 dc58 pm58 an58 cd58 ct58), sl58⟩) (c58 : PySem.W.codeIn K cd58 "_law_draw" = true) (k58 : PySem.W.keepIn K (.ref f58) = true)
    (a59 : PySem.W.nsIn K mainGlobals "_law_of" = some (some (.ref f59))) (l59 : K.lookup f59 = some ⟨oc59, od59, .func (PySem.W.fnOf "_law_of" "_law_of" (defArgs s__law_of) (defBody s__law_of) (defScope s__law_of) .none kV59 dc59 pm59 an59 cd59 ct59), sl59⟩) (c59 : PySem.W.codeIn K cd59 "_law_of" = true) (k59 : PySem.W.keepIn K (.ref f59) = true)
    (a60 : PySem.W.nsIn K mainGlobals "_law_between" = some (some (.ref f60))) (l60 : K.lookup f60 = some ⟨oc60, od60, .func (PySem.W.fnOf "_law_between" "_law_between" (defArgs s__law_between) (defBody s__law_between) (defScope s__law_between) .none kV60 dc60 pm60 an60 cd60 ct60), sl60⟩) (c60 : PySem.W.codeIn K cd60 "_law_between" = true) (k60 : PySem.W.keepIn K (.ref f60) = true)
    (a61 : PySem.W.nsIn K mainGlobals "_law_common" = some (some (.ref f61))) (l61 : K.lookup f61 = some ⟨oc61, od61, .func (PySem.W.fnOf "_law_common" "_law_common" (defArgs s__law_common) (defBody s__law_common) (defScope s__law_common) .none kV61 dc61 pm61 an61 cd61 ct61), sl61⟩) (c61 : PySem.W.codeIn K cd61 "_law_common" = true) (k61 : PySem.W.keepIn K (.ref f61) = true)
    (a62 : PySem.W.nsIn K mainGlobals "_law_cut" = some (some (.ref f62))) (l62 : K.lookup f62 = some ⟨oc62, od62, .func (PySem.W.fnOf "_law_cut" "_law_cut" (defArgs s__law_cut) (defBody s__law_cut) (defScope s__law_cut) .none kV62 dc62 pm62 an62 cd62 ct62), sl62⟩) (c62 : PySem.W.codeIn K cd62 "_law_cut" = true) (k62 : PySem.W.keepIn K (.ref f62) = true)
    (a63 : PySem.W.nsIn K mainGlobals "_law_numbers" = some (some (.ref f63))) (l63 : K.lookup f63 = some ⟨oc63, od63, .func (PySem.W.fnOf "_law_numbers" "_law_numbers" (defArgs s__law_numbers) (defBody s__law_numbers) (defScope s__law_numbers) .none kV63 dc63 pm63 an63 cd63 ct63), sl63⟩) (c63 : PySem.W.codeIn K cd63 "_law_numbers" = true) (k63 : PySem.W.keepIn K (.ref f63) = true)
    (a65 : PySem.W.nsIn K mainGlobals "_law_short" = some (some (.ref f65))) (l65 : K.lookup f65 = some ⟨oc65, od65, .func (PySem.W.fnOf "_law_short" "_law_short" (defArgs s__law_short) (defBody s__law_short) (defScope s__law_short) .none kV65 dc65 pm65 an65 cd65 ct65), sl65⟩) (c65 : PySem.W.codeIn K cd65 "_law_short" = true) (k65 : PySem.W.keepIn K (.ref f65) = true)
    (a66 : PySem.W.nsIn K mainGlobals "_law_short_of" = some (some (.ref f66))) (l66 : K.lookup f66 = some ⟨oc66, od66, .func (PySem.W.fnOf "_law_short_of" "_law_short_of" (defArgs s__law_short_of) (defBody s__law_short_of) (defScope s__law_short_of) .none kV66 dc66 pm66 an66 cd66 ct66), sl66⟩) (c66 : PySem.W.codeIn K cd66 "_law_short_of" = true) (k66 : PySem.W.keepIn K (.ref f66) = true)
    (a67 : PySem.W.nsIn K mainGlobals "_law_free" = some (some (.ref f67))) (l67 : K.lookup f67 = some ⟨oc67, od67, .func (PySem.W.fnOf "_law_free" "_law_free" (defArgs s__law_free) (defBody s__law_free) (defScope s__law_free) .none kV67 dc67 pm67 an67 cd67 ct67), sl67⟩) (c67 : PySem.W.codeIn K cd67 "_law_free" = true) (k67 : PySem.W.keepIn K (.ref f67) = true)
    (a68 : PySem.W.nsIn K mainGlobals "_law_twist" = some (some (.ref f68))) (l68 : K.lookup f68 = some ⟨oc68, od68, .func (PySem.W.fnOf "_law_twist" "_law_twist" (defArgs s__law_twist) (defBody s__law_twist) (defScope s__law_twist) .none kV68 dc68 pm68 an68 cd68 ct68), sl68⟩) (c68 : PySem.W.codeIn K cd68 "_law_twist" = true) (k68 : PySem.W.keepIn K (.ref f68) = true)
    (a69 : PySem.W.nsIn K mainGlobals "_law_told_twist" = some (some (.ref f69))) (l69 : K.lookup f69 = some ⟨oc69, od69, .func (PySem.W.fnOf "_law_told_twist" "_law_told_twist" (defArgs s__law_told_twist) (defBody s__law_told_twist) (defScope s__law_told_twist) .none kV69 dc69 pm69 an69 cd69 ct69), sl69⟩) (c69 : PySem.W.codeIn K cd69 "_law_told_twist" = true) (k69 : PySem.W.keepIn K (.ref f69) = true)
    (a70 : PySem.W.nsIn K mainGlobals "_law_start" = some (some (.ref f70))) (l70 : K.lookup f70 = some ⟨oc70, od70, .func (PySem.W.fnOf "_law_start" "_law_start" (defArgs s__law_start) (defBody s__law_start) (defScope s__law_start) .none kV70 dc70 pm70 an70 cd70 ct70), sl70⟩) (c70 : PySem.W.codeIn K cd70 "_law_start" = true) (k70 : PySem.W.keepIn K (.ref f70) = true)
    (a71 : PySem.W.nsIn K mainGlobals "_law_plain_due" = some (some (.ref f71))) (l71 : K.lookup f71 = some ⟨oc71, od71, .func (PySem.W.fnOf "_law_plain_due" "_law_plain_due" (defArgs s__law_plain_due) (defBody s__law_plain_due) (defScope s__law_plain_due) .none kV71 dc71 pm71 an71 cd71 ct71), sl71⟩) (c71 : PySem.W.codeIn K cd71 "_law_plain_due" = true) (k71 : PySem.W.keepIn K (.ref f71) = true)
    (a72 : PySem.W.nsIn K mainGlobals "_law_between_due" = some (some (.ref f72))) (l72 : K.lookup f72 = some ⟨oc72, od72, .func (PySem.W.fnOf "_law_between_due" "_law_between_due" (defArgs s__law_between_due) (defBody s__law_between_due) (defScope s__law_between_due) .none kV72 dc72 pm72 an72 cd72 ct72), sl72⟩) (c72 : PySem.W.codeIn K cd72 "_law_between_due" = true) (k72 : PySem.W.keepIn K (.ref f72) = true)
    (a73 : PySem.W.nsIn K mainGlobals "_law_twists_right" = some (some (.ref f73))) (l73 : K.lookup f73 = some ⟨oc73, od73, .func (PySem.W.fnOf "_law_twists_right" "_law_twists_right" (defArgs s__law_twists_right) (defBody s__law_twists_right) (defScope s__law_twists_right) .none kV73 dc73 pm73 an73 cd73 ct73), sl73⟩) (c73 : PySem.W.codeIn K cd73 "_law_twists_right" = true) (k73 : PySem.W.keepIn K (.ref f73) = true)
    (a74 : PySem.W.nsIn K mainGlobals "_law_right" = some (some (.ref f74))) (l74 : K.lookup f74 = some ⟨oc74, od74, .func (PySem.W.fnOf "_law_right" "_law_right" (defArgs s__law_right) (defBody s__law_right) (defScope s__law_right) .none kV74 dc74 pm74 an74 cd74 ct74), sl74⟩) (c74 : PySem.W.codeIn K cd74 "_law_right" = true) (k74 : PySem.W.keepIn K (.ref f74) = true)
    (a75 : PySem.W.nsIn K mainGlobals "law" = some (some (.ref f75))) (l75 : K.lookup f75 = some ⟨oc75, od75, .func (PySem.W.fnOf "law" "law" (defArgs s_law) (defBody s_law) (defScope s_law) .none kV75 dc75 pm75 an75 cd75 ct75), sl75⟩) (c75 : PySem.W.codeIn K cd75 "law" = true) (k75 : PySem.W.keepIn K (.ref f75) = true)
    (xsu : PySem.W.nsIn K mainGlobals "super" = some none) (xan : PySem.W.nsIn K cStatics "thirdparty.any" = some none) (xg1 : PySem.W.nsIn K mainGlobals "BadNumber" = some (some (.ref C1))) (xC : K.lookup C1 = some (excClassObj nm q C1 N bs [.ref C0, .type "ValueError", .type "Exception", .type "BaseException", .type "object"] true sn sub ab col dd m0 m1 m2 m3 m5 "ValueError.__new__")) (xC0 : K.lookup C0 = some ⟨ye0, yq0, .cls ycd, yu0⟩) (xi1 : PySem.W.findIn K (.ref C1) "__init__" = some (some (.ref e1))) (xsp1 : PySem.W.ks_superIn K C1 C1 "__init__" = some (some (.ref e0))) (l0x : K.lookup e0 = some ⟨.type "function", xod0, .func (PySem.W.ksFn "__init__" "PointsumError.__init__" (defArgs s_pinit) (defBody s_pinit) (defScope s_pinit) (.ref T0) xkV0 xdc0 xpm0 xan0 (.ref xcda0) xct0 xcc0), xsl0⟩) (c0x : PySem.W.codeIn K (.ref xcda0) "PointsumError.__init__" = true) (t0x : K.lookup T0 = some ⟨.type "tuple", xodT, .seq #[.str "this cannot be done" xuT] xnT, xslT⟩) (l1x : K.lookup e1 = some ⟨.type "function", xod1, .func (PySem.W.ksFn "__init__" "BadNumber.__init__" (defArgs s_binit) (defBody s_binit) (defScope s_binit) .none xkV1 xdc1 xpm1 xan1 (.ref xcda1) xct1 xcc1), xsl1⟩) (c1x : PySem.W.codeIn K (.ref xcda1) "BadNumber.__init__" = true) (xce0 : K.lookup xcc0 = some ⟨yc0, yo0, .cell (some (.ref C0)), ys0⟩) (xce1 : K.lookup xcc1 = some ⟨yc1, yo1, .cell (some (.ref C1)), ys1⟩) (xco0 : K.lookup xcda0 = some ⟨yd0, yp0, .fields yv0, yt0⟩) (xco1 : K.lookup xcda1 = some ⟨yd1, yp1, .fields yv1, yt1⟩) (xvs0 : yv0[2]? = some (.str yf0 yk0)) (xvs1 : yv1[2]? = some (.str yf1 yk1)) (xfi0 : ((P.main.file : Str) == yf0) = true) (xfi1 : ((P.main.file : Str) == yf1) = true) (xtp : (P.main.scope.names.lookup ("super" : Str)).isSome = false) (xmr0 : PySem.W.mroIn K C1 (.ref C0) = some true) (xmr1 : PySem.W.mroIn K C1 (.ref C1) = some true) (xsp0 : PySem.W.ks_superIn K C1 C0 "__init__" = some (some (.builtin "ValueError.__init__"))) (xve : PySem.W.subIn K (.ref C1) (.type "ValueError") = some true) (xsa : PySem.W.findIn K (.ref C1) "__setattr__" = some (some (.builtin "object.__setattr__"))) (xeC : PySem.W.subIn K (.ref C1) (.type "BaseException") = some true) (xtC : PySem.W.typeIn K (.ref C1) = some (.type "type")) (xkC : PySem.W.keepIn K (.ref C1) = true) (xno : PySem.W.findIn K (.ref C1) "number" = some none) (xga : PySem.W.findIn K (.ref C1) "__getattribute__" = some (some (.builtin "BaseException.__getattribute__"))) (xgg : PySem.W.findIn K (.ref C1) "__getattr__" = some none) (xhd : PySem.W.hasDictIn K C1 = true) (xiC : PySem.W.isClsIn K C1 = true) (xsC : PySem.W.subIn K (.ref C1) (.ref C1) = some true)
    (z_gcd : PySem.W.nsIn K mainGlobals "gcd" = some (some (.builtin "math.gcd")))
    (z_isqrt : PySem.W.nsIn K mainGlobals "isqrt" = some (some (.builtin "math.isqrt")))
    (z_int : PySem.W.nsIn K mainGlobals "int" = some none)
    (z_len : PySem.W.nsIn K mainGlobals "len" = some none)
    (z_tuple : PySem.W.nsIn K mainGlobals "tuple" = some none)
    (z_sorted : PySem.W.nsIn K mainGlobals "sorted" = some none)
    (z_min : PySem.W.nsIn K mainGlobals "min" = some none)
    (z_abs : PySem.W.nsIn K mainGlobals "abs" = some none)
    (z_range : PySem.W.nsIn K mainGlobals "range" = some none)
    (z_repr : PySem.W.nsIn K mainGlobals "repr" = some none)
    {tk_TRIED_primes : Tok} (z_TRIED_primes : PySem.W.nsIn K mainGlobals "TRIED_primes" = some (some (.int 1000 tk_TRIED_primes)))
    {tk_MOST : Tok} (z_MOST : PySem.W.nsIn K mainGlobals "MOST" = some (some (.int 10000 tk_MOST)))
    {tk_TRIED_shortening : Tok} (z_TRIED_shortening : PySem.W.nsIn K mainGlobals "TRIED_shortening" = some (some (.int 10000 tk_TRIED_shortening)))
    : ∃ fd : FuncData, (∀ (s : Shared) (v : Value), BindsTo s fd ⟨[v], []⟩ [("script", v)]) ∧ ∀ base : Heap, K.In base → base.Ns mainGlobals mg → FnG P w K mg base 13 fa fd ["script"] (sp_law K) := by
  have T : Tx K mg := ⟨PySem.W.mg_of X G z_gcd, PySem.W.mg_of X G z_isqrt, PySem.W.mg_none_of X G z_int, PySem.W.mg_none_of X G z_len, PySem.W.mg_none_of X G z_tuple, PySem.W.mg_none_of X G z_sorted, PySem.W.mg_none_of X G z_min, PySem.W.mg_none_of X G z_abs, PySem.W.mg_none_of X G z_range, PySem.W.mg_none_of X G z_repr, ⟨_, PySem.W.mg_of X G z_TRIED_primes, ⟨_, rfl⟩⟩, ⟨_, PySem.W.mg_of X G z_MOST, ⟨_, rfl⟩⟩, ⟨_, PySem.W.mg_of X G z_TRIED_shortening, ⟨_, rfl⟩⟩⟩
  have SU0 : ErX.SuOk P K mg C0 xcc0 xcda0 := ErX.su_mk X G xce0 xco0 xvs0 xfi0 xtp xsu xan (ErX.cls_in xC0)
  have SU1 : ErX.SuOk P K mg C1 xcc1 xcda1 := ErX.su_mk X G xce1 xco1 xvs1 xfi1 xtp xsu xan (ErX.cls_in xC)
  have ER : ErB P K mg C0 C1 e0 e1 := ErX.er2_mk X G SU0 SU1 l0x c0x t0x (fun us hl => match us, hl with | [_, _], _ => ⟨_, rfl, rfl⟩) xmr0 xsp0 xve xmr1 xsp1 xg1 xC xsa xeC xtC xkC xno xi1 l1x c1x (fun us hl => match us, hl with | [_, _], _ => rfl) xga xgg xhd xiC xsC
  have d4 : Df K mg "is_square" s_is_square ["n"] := df_mk X G a4 l4 c4 k4 (fun _ _ _ _ _ _ us hl => match us, hl with | [_], _ => rfl)
  have d7 : Df K mg "power" s_power ["a", "e"] := df_mk X G a7 l7 c7 k7 (fun _ _ _ _ _ _ us hl => match us, hl with | [_, _], _ => rfl)
  have d8 : Df K mg "lowest" s_lowest ["n", "d"] := df_mk X G a8 l8 c8 k8 (fun _ _ _ _ _ _ us hl => match us, hl with | [_, _], _ => rfl)
  have d9 : Df K mg "root_of" s_root_of ["n", "k"] := df_mk X G a9 l9 c9 k9 (fun _ _ _ _ _ _ us hl => match us, hl with | [_, _], _ => rfl)
  have d10 : Df K mg "exact_root" s_exact_root ["n", "k"] := df_mk X G a10 l10 c10 k10 (fun _ _ _ _ _ _ us hl => match us, hl with | [_, _], _ => rfl)
  have d17 : Df K mg "has_no_parts" s_has_no_parts ["n"] := df_mk X G a17 l17 c17 k17 (fun _ _ _ _ _ _ us hl => match us, hl with | [_], _ => rfl)
  have d20 : Df K mg "part_of" s_part_of ["n"] := df_mk X G a20 l20 c20 k20 (fun _ _ _ _ _ _ us hl => match us, hl with | [_], _ => rfl)
  have d23 : Df K mg "small_factors" s_small_factors ["n"] := df_mk X G a23 l23 c23 k23 (fun _ _ _ _ _ _ us hl => match us, hl with | [_], _ => rfl)
  have d24 : Df K mg "factors" s_factors ["n"] := df_mk X G a24 l24 c24 k24 (fun _ _ _ _ _ _ us hl => match us, hl with | [_], _ => rfl)
  have d25 : Df K mg "class_of" s_class_of ["n"] := df_mk X G a25 l25 c25 k25 (fun _ _ _ _ _ _ us hl => match us, hl with | [_], _ => rfl)
  have d28 : Df K mg "divided_by" s_divided_by ["a", "b", "u"] := df_mk X G a28 l28 c28 k28 (fun _ _ _ _ _ _ us hl => match us, hl with | [_, _, _], _ => rfl)
  have d29 : Df K mg "without_powers" s_without_powers ["a", "b"] := df_mk X G a29 l29 c29 k29 (fun _ _ _ _ _ _ us hl => match us, hl with | [_, _], _ => rfl)
  have d31 : Df K mg "without_great_powers" s_without_great_powers ["a", "b", "rest", "least"] := df_mk X G a31 l31 c31 k31 (fun _ _ _ _ _ _ us hl => match us, hl with | [_, _, _, _], _ => rfl)
  have d33 : Df K mg "five" s_five ["curve"] := df_mk X G a33 l33 c33 k33 (fun _ _ _ _ _ _ us hl => match us, hl with | [_], _ => rfl)
  have d34 : Df K mg "numbers_of" s_numbers_of ["curve"] := df_mk X G a34 l34 c34 k34 (fun _ _ _ _ _ _ us hl => match us, hl with | [_], _ => rfl)
  have d35 : Df K mg "j_of" s_j_of ["curve"] := df_mk X G a35 l35 c35 k35 (fun _ _ _ _ _ _ us hl => match us, hl with | [_], _ => rfl)
  have d36 : Df K mg "short_form" s_short_form ["curve"] := df_mk X G a36 l36 c36 k36 (fun _ _ _ _ _ _ us hl => match us, hl with | [_], _ => rfl)
  have d37 : Df K mg "plain_form" s_plain_form ["curve"] := df_mk X G a37 l37 c37 k37 (fun _ _ _ _ _ _ us hl => match us, hl with | [_], _ => rfl)
  have d42 : Df K mg "plus" s_plus ["f", "g"] := df_mk X G a42 l42 c42 k42 (fun _ _ _ _ _ _ us hl => match us, hl with | [_, _], _ => rfl)
  have d43 : Df K mg "times" s_times ["f", "g"] := df_mk X G a43 l43 c43 k43 (fun _ _ _ _ _ _ us hl => match us, hl with | [_, _], _ => rfl)
  have d44 : Df K mg "over" s_over ["f", "g"] := df_mk X G a44 l44 c44 k44 (fun _ _ _ _ _ _ us hl => match us, hl with | [_, _], _ => rfl)
  have d45 : Df K mg "whole_fraction" s_whole_fraction ["n"] := df_mk X G a45 l45 c45 k45 (fun _ _ _ _ _ _ us hl => match us, hl with | [_], _ => rfl)
  have d46 : Df K mg "total" s_total ["fractions"] := df_mk X G a46 l46 c46 k46 (fun _ _ _ _ _ _ us hl => match us, hl with | [_], _ => rfl)
  have d47 : Df K mg "product" s_product ["fractions"] := df_mk X G a47 l47 c47 k47 (fun _ _ _ _ _ _ us hl => match us, hl with | [_], _ => rfl)
  have d48 : Df K mg "root_of_fraction" s_root_of_fraction ["f", "k"] := df_mk X G a48 l48 c48 k48 (fun _ _ _ _ _ _ us hl => match us, hl with | [_, _], _ => rfl)
  have d51 : Df K mg "twist" s_twist ["curve", "d"] := df_mk X G a51 l51 c51 k51 (fun _ _ _ _ _ _ us hl => match us, hl with | [_, _], _ => rfl)
  have d52 : Df K mg "small_class" s_small_class ["f"] := df_mk X G a52 l52 c52 k52 (fun _ _ _ _ _ _ us hl => match us, hl with | [_], _ => rfl)
  have d53 : Df K mg "twist_between" s_twist_between ["curve", "other"] := df_mk X G a53 l53 c53 k53 (fun _ _ _ _ _ _ us hl => match us, hl with | [_, _], _ => rfl)
  have d55 : Df K mg "led" s_led ["curve", "change"] := df_mk X G a55 l55 c55 k55 (fun _ _ _ _ _ _ us hl => match us, hl with | [_, _], _ => rfl)
  have d57 : Df K mg "_law_begun" s__law_begun ["script", "k"] := df_mk X G a57 l57 c57 k57 (fun _ _ _ _ _ _ us hl => match us, hl with | [_, _], _ => rfl)
  have d58 : Df K mg "_law_draw" s__law_draw ["m", "below"] := df_mk X G a58 l58 c58 k58 (fun _ _ _ _ _ _ us hl => match us, hl with | [_, _], _ => rfl)
  have d59 : Df K mg "_law_of" s__law_of ["m", "some"] := df_mk X G a59 l59 c59 k59 (fun _ _ _ _ _ _ us hl => match us, hl with | [_, _], _ => rfl)
  have d60 : Df K mg "_law_between" s__law_between ["m", "size"] := df_mk X G a60 l60 c60 k60 (fun _ _ _ _ _ _ us hl => match us, hl with | [_, _], _ => rfl)
  have d61 : Df K mg "_law_common" s__law_common ["a", "b"] := df_mk X G a61 l61 c61 k61 (fun _ _ _ _ _ _ us hl => match us, hl with | [_, _], _ => rfl)
  have d62 : Df K mg "_law_cut" s__law_cut ["n", "d"] := df_mk X G a62 l62 c62 k62 (fun _ _ _ _ _ _ us hl => match us, hl with | [_, _], _ => rfl)
  have d63 : Df K mg "_law_numbers" s__law_numbers ["five_v"] := df_mk X G a63 l63 c63 k63 (fun _ _ _ _ _ _ us hl => match us, hl with | [_], _ => rfl)
  have d65 : Df K mg "_law_short" s__law_short ["a", "b"] := df_mk X G a65 l65 c65 k65 (fun _ _ _ _ _ _ us hl => match us, hl with | [_, _], _ => rfl)
  have d66 : Df K mg "_law_short_of" s__law_short_of ["five_v"] := df_mk X G a66 l66 c66 k66 (fun _ _ _ _ _ _ us hl => match us, hl with | [_], _ => rfl)
  have d67 : Df K mg "_law_free" s__law_free ["d"] := df_mk X G a67 l67 c67 k67 (fun _ _ _ _ _ _ us hl => match us, hl with | [_], _ => rfl)
  have d68 : Df K mg "_law_twist" s__law_twist ["form", "d"] := df_mk X G a68 l68 c68 k68 (fun _ _ _ _ _ _ us hl => match us, hl with | [_, _], _ => rfl)
  have d69 : Df K mg "_law_told_twist" s__law_told_twist ["five_v", "d"] := df_mk X G a69 l69 c69 k69 (fun _ _ _ _ _ _ us hl => match us, hl with | [_, _], _ => rfl)
  have d70 : Df K mg "_law_start" s__law_start ["m"] := df_mk X G a70 l70 c70 k70 (fun _ _ _ _ _ _ us hl => match us, hl with | [_], _ => rfl)
  have d71 : Df K mg "_law_plain_due" s__law_plain_due ["five_v"] := df_mk X G a71 l71 c71 k71 (fun _ _ _ _ _ _ us hl => match us, hl with | [_], _ => rfl)
  have d72 : Df K mg "_law_between_due" s__law_between_due ["form", "d"] := df_mk X G a72 l72 c72 k72 (fun _ _ _ _ _ _ us hl => match us, hl with | [_, _], _ => rfl)
  have d73 : Df K mg "_law_twists_right" s__law_twists_right ["m", "five_v"] := df_mk X G a73 l73 c73 k73 (fun _ _ _ _ _ _ us hl => match us, hl with | [_, _], _ => rfl)
  have d74 : Df K mg "_law_right" s__law_right ["m"] := df_mk X G a74 l74 c74 k74 (fun _ _ _ _ _ _ us hl => match us, hl with | [_], _ => rfl)
  refine law_fd X G hfa a75 l75 c75 k75 (fun _ _ _ _ _ _ us hl => match us, hl with | [_], _ => rfl) (fun fd F base => ?_)
  have c_is_square := k_is_square (P := P) (w := w) (base := base) T d4 
  have c_power := k_power (P := P) (w := w) (base := base) T d7 
  have c_lowest := k_lowest (P := P) (w := w) (base := base) T d8 
  have c_small_factors := k_small_factors (P := P) (w := w) (base := base) T d23 
  have c_divided_by := k_divided_by (P := P) (w := w) (base := base) T d28 
  have c_five := k_five (P := P) (w := w) (base := base) T d33 
  have c_whole_fraction := k_whole_fraction (P := P) (w := w) (base := base) T d45 
  have c_law_begun := k_law_begun (P := P) (w := w) (base := base) T d57 
  have c_law_draw := k_law_draw (P := P) (w := w) (base := base) T d58 
  have c_law_common := k_law_common (P := P) (w := w) (base := base) T d61 
  have c_law_numbers := k_law_numbers (P := P) (w := w) (base := base) T d63 
  have c_law_short := k_law_short (P := P) (w := w) (base := base) T d65 
  have c_law_free := k_law_free (P := P) (w := w) (base := base) T d67 
  have c_root_of := k_root_of (P := P) (w := w) (base := base) T d9 c_power
  have c_numbers_of := k_numbers_of (P := P) (w := w) (base := base) T d34 c_five
  have c_plus := k_plus (P := P) (w := w) (base := base) T d42 c_lowest
  have c_times := k_times (P := P) (w := w) (base := base) T d43 c_lowest
  have c_over := k_over (P := P) (w := w) (base := base) T d44 c_lowest
  have c_small_class := k_small_class (P := P) (w := w) (base := base) T d52 c_is_square
  have c_law_of := k_law_of (P := P) (w := w) (base := base) T d59 c_law_draw
  have c_law_between := k_law_between (P := P) (w := w) (base := base) T d60 c_law_draw
  have c_law_cut := k_law_cut (P := P) (w := w) (base := base) T d62 c_law_common
  have c_law_short_of := k_law_short_of (P := P) (w := w) (base := base) T d66 c_law_short c_law_numbers
  have c_law_twist := k_law_twist (P := P) (w := w) (base := base) T d68 c_law_short
  have c_law_between_due := k_law_between_due (P := P) (w := w) (base := base) T d72 c_law_free
  have c_part_of := k_part_of (P := P) (w := w) (base := base) d20
  have c_j_of := k_j_of (P := P) (w := w) (base := base) T d35 c_numbers_of c_lowest
  have c_plain_form := k_plain_form (P := P) (w := w) (base := base) T d37 c_five c_numbers_of c_lowest
  have c_total := k_total (P := P) (w := w) (base := base) T d46 c_plus
  have c_product := k_product (P := P) (w := w) (base := base) T d47 c_times
  have c_law_start := k_law_start (P := P) (w := w) (base := base) T d70 c_law_of c_law_draw c_law_between c_law_numbers
  have c_law_plain_due := k_law_plain_due (P := P) (w := w) (base := base) T d71 c_law_cut c_law_numbers
  have c_exact_root := k_exact_root (P := P) (w := w) (base := base) T d10 c_root_of c_power
  have c_has_no_parts := k_has_no_parts (P := P) (w := w) (base := base) d17
  have c_led := k_led (P := P) (w := w) (base := base) T d55 c_plus c_total c_times c_whole_fraction c_over c_five c_product
  have c_factors := k_factors (P := P) (w := w) (base := base) T d24 c_small_factors c_has_no_parts c_part_of
  have c_root_of_fraction := k_root_of_fraction (P := P) (w := w) (base := base) T d48 c_exact_root
  have c_class_of := k_class_of (P := P) (w := w) (base := base) T d25 c_factors
  have c_without_great_powers := k_without_great_powers (P := P) (w := w) (base := base) d31
  have c_without_powers := k_without_powers (P := P) (w := w) (base := base) T d29 c_root_of c_without_great_powers c_divided_by
  have c_short_form := k_short_form (P := P) (w := w) (base := base) T d36 c_numbers_of c_without_powers
  have c_twist := k_twist (P := P) (w := w) (base := base) T d51 ER c_short_form c_without_powers c_class_of
  have c_twist_between := k_twist_between (P := P) (w := w) (base := base) T d53 c_short_form c_root_of_fraction c_small_class c_lowest
  have c_law_told_twist := k_law_told_twist (P := P) (w := w) (base := base) T d69 ER c_twist
  have c_law_twists_right := k_law_twists_right (P := P) (w := w) (base := base) T d73 ER c_law_twist c_law_of c_law_short_of c_twist_between c_twist c_law_told_twist c_j_of c_law_free c_law_numbers c_law_between_due
  have c_law_right := k_law_right (P := P) (w := w) (base := base) T d74 c_law_start c_law_plain_due c_law_twists_right c_led c_short_form c_plain_form c_law_short_of
  exact k_law T F c_law_right c_law_begun c_short_form c_plain_form
end K08
open PySem PySem.W PyProof.Rows
set_option maxRecDepth 100000 in
set_option maxHeartbeats 0 in
theorem PySem.Challenge.cw_pointsum_k08_whole_short_plain_twists_holds : PySem.Challenge.rw_pointsum_k08_whole_short_plain_twists.Holds := by
  w_on; o_law; k_head; (case hw => w_witness2)
  k_fill
  refine Gd.walk_g (l := PySem.Challenge.rw_pointsum_k08_whole_short_plain_twists) (n := 63) (k := 13) (x := "script") (sp := fun K => K08.sp_law K) rfl (by decide) rfl ⟨rfl, by decide, by decide⟩ (fun w h Y => PySem.W.kIn_of Y) ?F (fun K H a ns hl hS => ⟨a, ns, rfl, hS, hl, fun _ => rfl⟩)
  case F =>
    intro w mg fa h KX G hmg
    refine' K08.all_mk KX G hmg ?a4 ?l4 ?c4 ?k4 ?a7 ?l7 ?c7 ?k7 ?a8 ?l8 ?c8 ?k8 ?a9 ?l9 ?c9 ?k9 ?a10 ?l10 ?c10 ?k10 ?a17 ?l17 ?c17 ?k17 ?a20 ?l20 ?c20 ?k20 ?a23 ?l23 ?c23 ?k23 ?a24 ?l24 ?c24 ?k24 ?a25 ?l25 ?c25 ?k25 ?a28 ?l28 ?c28 ?k28 ?a29 ?l29 ?c29 ?k29 ?a31 ?l31 ?c31 ?k31 ?a33 ?l33 ?c33 ?k33 ?a34 ?l34 ?c34 ?k34 ?a35 ?l35 ?c35 ?k35 ?a36 ?l36 ?c36 ?k36 ?a37 ?l37 ?c37 ?k37 ?a42 ?l42 ?c42 ?k42 ?a43 ?l43 ?c43 ?k43 ?a44 ?l44 ?c44 ?k44 ?a45 ?l45 ?c45 ?k45 ?a46 ?l46 ?c46 ?k46 ?a47 ?l47 ?c47 ?k47 ?a48 ?l48 ?c48 ?k48 ?a51 ?l51 ?c51 ?k51 ?a52 ?l52 ?c52 ?k52 ?a53 ?l53 ?c53 ?k53 ?a55 ?l55 ?c55 ?k55 ?a57 ?l57 ?c57 ?k57 ?a58 ?l58 ?c58 ?k58 ?a59 ?l59 ?c59 ?k59 ?a60 ?l60 ?c60 ?k60 ?a61 ?l61 ?c61 ?k61 ?a62 ?l62 ?c62 ?k62 ?a63 ?l63 ?c63 ?k63 ?a65 ?l65 ?c65 ?k65 ?a66 ?l66 ?c66 ?k66 ?a67 ?l67 ?c67 ?k67 ?a68 ?l68 ?c68 ?k68 ?a69 ?l69 ?c69 ?k69 ?a70 ?l70 ?c70 ?k70 ?a71 ?l71 ?c71 ?k71 ?a72 ?l72 ?c72 ?k72 ?a73 ?l73 ?c73 ?k73 ?a74 ?l74 ?c74 ?k74 ?a75 ?l75 ?c75 ?k75 ?xsu ?xan ?xg1 ?xC ?xC0 ?xi1 ?xsp1 ?l0x ?c0x ?t0x ?l1x ?c1x ?xce0 ?xce1 ?xco0 ?xco1 ?xvs0 ?xvs1 ?xfi0 ?xfi1 ?xtp ?xmr0 ?xmr1 ?xsp0 ?xve ?xsa ?xeC ?xtC ?xkC ?xno ?xga ?xgg ?xhd ?xiC ?xsC ?z_gcd ?z_isqrt ?z_int ?z_len ?z_tuple ?z_sorted ?z_min ?z_abs ?z_range ?z_repr ?z_TRIED_primes ?z_MOST ?z_TRIED_shortening
    (case a4 => k_is); (case l4 => k_is); (case c4 => k_is); (case k4 => k_is); (case a7 => k_is); (case l7 => k_is); (case c7 => k_is); (case k7 => k_is)
    (case a8 => k_is); (case l8 => k_is); (case c8 => k_is); (case k8 => k_is); (case a9 => k_is); (case l9 => k_is); (case c9 => k_is); (case k9 => k_is)
    (case a10 => k_is); (case l10 => k_is); (case c10 => k_is); (case k10 => k_is); (case a17 => k_is); (case l17 => k_is); (case c17 => k_is); (case k17 => k_is)
    (case a20 => k_is); (case l20 => k_is); (case c20 => k_is); (case k20 => k_is); (case a23 => k_is); (case l23 => k_is); (case c23 => k_is); (case k23 => k_is)
    (case a24 => k_is); (case l24 => k_is); (case c24 => k_is); (case k24 => k_is); (case a25 => k_is); (case l25 => k_is); (case c25 => k_is); (case k25 => k_is)
    (case a28 => k_is); (case l28 => k_is); (case c28 => k_is); (case k28 => k_is); (case a29 => k_is); (case l29 => k_is); (case c29 => k_is); (case k29 => k_is)
    (case a31 => k_is); (case l31 => k_is); (case c31 => k_is); (case k31 => k_is); (case a33 => k_is); (case l33 => k_is); (case c33 => k_is); (case k33 => k_is)
    (case a34 => k_is); (case l34 => k_is); (case c34 => k_is); (case k34 => k_is); (case a35 => k_is); (case l35 => k_is); (case c35 => k_is); (case k35 => k_is)
    (case a36 => k_is); (case l36 => k_is); (case c36 => k_is); (case k36 => k_is); (case a37 => k_is); (case l37 => k_is); (case c37 => k_is); (case k37 => k_is)
    (case a42 => k_is); (case l42 => k_is); (case c42 => k_is); (case k42 => k_is); (case a43 => k_is); (case l43 => k_is); (case c43 => k_is); (case k43 => k_is)
    (case a44 => k_is); (case l44 => k_is); (case c44 => k_is); (case k44 => k_is); (case a45 => k_is); (case l45 => k_is); (case c45 => k_is); (case k45 => k_is)
    (case a46 => k_is); (case l46 => k_is); (case c46 => k_is); (case k46 => k_is); (case a47 => k_is); (case l47 => k_is); (case c47 => k_is); (case k47 => k_is)
    (case a48 => k_is); (case l48 => k_is); (case c48 => k_is); (case k48 => k_is); (case a51 => k_is); (case l51 => k_is); (case c51 => k_is); (case k51 => k_is)
    (case a52 => k_is); (case l52 => k_is); (case c52 => k_is); (case k52 => k_is); (case a53 => k_is); (case l53 => k_is); (case c53 => k_is); (case k53 => k_is)
    (case a55 => k_is); (case l55 => k_is); (case c55 => k_is); (case k55 => k_is); (case a57 => k_is); (case l57 => k_is); (case c57 => k_is); (case k57 => k_is)
    (case a58 => k_is); (case l58 => k_is); (case c58 => k_is); (case k58 => k_is); (case a59 => k_is); (case l59 => k_is); (case c59 => k_is); (case k59 => k_is)
    (case a60 => k_is); (case l60 => k_is); (case c60 => k_is); (case k60 => k_is); (case a61 => k_is); (case l61 => k_is); (case c61 => k_is); (case k61 => k_is)
    (case a62 => k_is); (case l62 => k_is); (case c62 => k_is); (case k62 => k_is); (case a63 => k_is); (case l63 => k_is); (case c63 => k_is); (case k63 => k_is)
    (case a65 => k_is); (case l65 => k_is); (case c65 => k_is); (case k65 => k_is); (case a66 => k_is); (case l66 => k_is); (case c66 => k_is); (case k66 => k_is)
    (case a67 => k_is); (case l67 => k_is); (case c67 => k_is); (case k67 => k_is); (case a68 => k_is); (case l68 => k_is); (case c68 => k_is); (case k68 => k_is)
    (case a69 => k_is); (case l69 => k_is); (case c69 => k_is); (case k69 => k_is); (case a70 => k_is); (case l70 => k_is); (case c70 => k_is); (case k70 => k_is)
    (case a71 => k_is); (case l71 => k_is); (case c71 => k_is); (case k71 => k_is); (case a72 => k_is); (case l72 => k_is); (case c72 => k_is); (case k72 => k_is)
    (case a73 => k_is); (case l73 => k_is); (case c73 => k_is); (case k73 => k_is); (case a74 => k_is); (case l74 => k_is); (case c74 => k_is); (case k74 => k_is)
    (case a75 => k_is); (case l75 => k_is); (case c75 => k_is); (case k75 => k_is); (case xsu => k_is); (case xan => k_is); (case xg1 => k_is); (case xC => k_is)
    (case xC0 => k_is); (case xi1 => k_is); (case xsp1 => ks_is); (case l0x => k_is); (case c0x => k_is); (case t0x => k_is); (case l1x => k_is); (case c1x => k_is)
    (case xce0 => k_is); (case xce1 => k_is); (case xco0 => k_is); (case xco1 => k_is); (case xvs0 => exact rfl); (case xvs1 => exact rfl); (case xfi0 => decide +kernel); (case xfi1 => decide +kernel)
    (case xtp => decide +kernel); (case xmr0 => k_is); (case xmr1 => k_is); (case xsp0 => ks_is); (case xve => k_is); (case xsa => k_is); (case xeC => k_is); (case xtC => k_is)
    (case xkC => k_is); (case xno => k_is); (case xga => k_is); (case xgg => k_is); (case xhd => k_is); (case xiC => k_is); (case xsC => k_is); (case z_gcd => k_is)
    (case z_isqrt => k_is); (case z_int => k_is); (case z_len => k_is); (case z_tuple => k_is); (case z_sorted => k_is); (case z_min => k_is); (case z_abs => k_is); (case z_range => k_is)
    (case z_repr => k_is); (case z_TRIED_primes => k_is); (case z_MOST => k_is); (case z_TRIED_shortening => k_is)
