import PyProof.Rows.All
import Wide.All
import OpenK.AllK
import Wide.FinOn
import PyProof.ReprRoads
import HandS.ForMost
import HandS.Wide
import PyProof.StrLawsRepr
import PyProof.ReprLen
import HandS.TupAny
import HandS.Gcd
import HandS.More
import HandS.IsInst
import HandS.Style
import HandS.Defaults
import HandS.Iter
import HandS.Conv
import KE.KDictDisplayH
import KE.KDictCopyH
import KE.KDictOf
import HandS.Walk
import HandS.Codes
import HandS.TryOnly
import PySem.Challenge.RW_pointsum_k06_whole_changes
set_option Elab.async false
set_option linter.all false
set_option maxRecDepth 100000
/-! Promises that know that no repr is under way around the call; repr of plain data. -/
namespace Gd
open PySem PySem.Spec PyProof.Rows L2
/-- as the layer's FnOk, for calls around which nothing is being shown -/
structure FnG (P : Program) (w : World) (K : PySem.W.Frag) (mg : Str → Option Value) (base : Heap) (k : Nat) (f : Addr) (fd : FuncData) (ps : List Str) (sp : Sp) : Prop where
  many : ∀ vs H Q E, sp vs H Q E → vs.length = ps.length
  goes : ∀ (A : Around) (outer : List Env) (s : Shared) (H : Hp) (args : Args) (us : List Value) (vs : List V) (Q : VK) (E : XK), A.guards = some [] → Room k A → Env0 P w K mg base A outer s H →
    BindsTo s fd args (ps.zip us) → Vals vs us → sp vs H Q E → codeAny (model P w) A (.call (.ref f) args) (CR CX0 outer P w H s Q E) s
section
variable {P : Program} {w : World} {K : PySem.W.Frag} {mg : Str → Option Value} {base : Heap}
theorem FnG.of {k : Nat} {f : Addr} {fd : FuncData} {ps : List Str} {sp : Sp} (F : FnOk P w K mg base CX0 k f fd ps sp) : FnG P w K mg base k f fd ps sp :=
  ⟨F.len, fun A outer s H args us vs Q E _ => F.run A outer s H args us vs Q E⟩
theorem FnG.up {j k : Nat} {f : Addr} {fd : FuncData} {ps : List Str} {sp : Sp} (F : FnG P w K mg base j f fd ps sp) (h : j ≤ k) : FnG P w K mg base k f fd ps sp :=
  ⟨F.many, fun A outer s H args us vs Q E hg hr => F.goes A outer s H args us vs Q E hg (hr.mono h)⟩
/-- a def by its body -/
theorem FnG.by_body {x qual : Str} {st : Stmt} {f : Addr} {fd : FuncData} {N ps : List Str} {k : Nat} {sp : Sp} (F : Fun K x qual st f fd) (S : FnScope N ps (defScope st)) (len : ∀ vs H Q E, sp vs H Q E → vs.length = ps.length)
    (hb : ∀ (cdv : Value) (A : Around) (outer : List Env) (s : Shared) (H : Hp) (vs : List V) (Q : VK) (E : XK), A.guards = some [] → Room k (A.deeper (envOfC qual (defScope st) s.heap.objs.size f cdv)) → sp vs H Q E →
      ∃ t, PSs (cxOf CX0 P w K mg base N qual (defScope st) f cdv A outer s H E).nox (defBody st) t ∧ t { nx := fun _ H' => Q .non H', rt := Q } (start N vs) H) : FnG P w K mg base (k + 1) f fd ps sp := by
  obtain ⟨oc, od, kV, doc, pm, an, cdv, ct, osl, rfl, lk, hcd⟩ := F.ex
  constructor
  · exact len
  · intro A outer s H args us vs Q E hg hr e0 hbi rv hsp
    have hlen := len _ _ _ _ hsp
    have lim : s.heap.NoLimit := e0.mod.nolimit.keeps fun b o e => (e0.bs b o e).1
    have inK : K.In s.heap := e0.mod.kin.keeps fun b o e => (e0.bs b o e).1
    have kinds : ∀ y ∈ ps.zip us, (defScope st).names.lookup y.1 = some .local ∨ ((defScope st).names.lookup y.1 = some .cell ∧ ((cellsFrom (s.heap.objs.size + 1) (defScope st).names []).lookup y.1).isSome = true) := by
      rintro ⟨n, v⟩ hy
      have hp := S.par n (List.of_mem_zip hy).1
      cases hp with
      | inl q => exact Or.inl q
      | inr q => exact Or.inr ⟨q, PySem.W.cellsFrom_some _ _ _ (Or.inl q)⟩
    refine codeAny_call_function hr.depth (inK _ _ lk) rfl S.co S.gen rfl (PySem.W.codeRec_of inK hcd) (hbi _ _ _ _ ?_)
    refine wpAny_newFunctionEnv_cells S.kind kinds fun env he s1 x1 => ?_
    subst he
    refine ⟨lim.keeps x1.toInCall.keep, codeAny_func ?_⟩
    obtain ⟨t, ht, hq⟩ := hb cdv A outer s H vs Q E hg (hr.deeper _) hsp
    have I0 : Inv (cxOf CX0 P w K mg base N qual (defScope st) f cdv A outer s H E) [] (start N vs) H s1 := inv_start S hr.hd e0 hlen rv x1
    refine wpAny_mono (ht.nox.run [] s1 (start N vs) H _ I0 hq) (fun fl s' hs => ?_) fun e s' hs => hs
    match fl, hs with
    | .ret u, ⟨v, σ', H', J, r1, q1⟩ => exact ⟨v, H', J.os, J.bare, J.base, J.hok, r1, q1⟩
    | .next, ⟨σ', H', J, q1⟩ => exact ⟨V.non, H', J.os, J.bare, J.base, J.hok, rfl, q1⟩
    | .brk, ⟨_, _, _, q1⟩ => exact q1.elim
    | .cont, ⟨_, _, _, q1⟩ => exact q1.elim
end
/-- f(e, ..) where every parameter is given -/
def tKal (sp : Sp) (t : TA) : TE := fun σ H Q => t σ H fun vs H1 => sp vs H1 Q E0
/-- a def that may be called by its name -/
structure Kl (P : Program) (w : World) (K : PySem.W.Frag) (mg : Str → Option Value) (base : Heap) (k : Nat) (x : Str) (sp : Sp) : Prop where
  ex : ∃ (f : Addr) (fd : FuncData) (ps : List Str), FnOk P w K mg base CX0 k f fd ps sp ∧ mg x = some (.ref f) ∧ PySem.W.keepIn K (.ref f) = true ∧ Binds K fd ps []
structure Kg (P : Program) (w : World) (K : PySem.W.Frag) (mg : Str → Option Value) (base : Heap) (k : Nat) (x : Str) (sp : Sp) : Prop where
  ex : ∃ (f : Addr) (fd : FuncData) (ps : List Str), FnG P w K mg base k f fd ps sp ∧ mg x = some (.ref f) ∧ PySem.W.keepIn K (.ref f) = true ∧ Binds K fd ps []
section
variable {X : Cx} {j k : Nat} {f : Addr} {fd : FuncData} {ps : List Str} {sp : Sp} {x : Str} {p pos : Pos} {e : Expr} {es : List Expr} {t : TA}
theorem run_g {pins : List (Addr × Obj)} {σ : L2.St} {H : Hp} {s : Shared} {Q : VK} {us : List Value} {vs : List V} (F : FnG X.prog X.w X.K X.mg X.base k f fd ps sp) (hg : X.A.guards = some []) (hr : Room k X.A) (hb : Binds X.K fd ps [])
    (I : Inv X pins σ H s) (r : Vals vs us) (h : sp vs H Q E0) : wpAny (model X.prog X.w) X.A (call (.ref f) us) (EP X pins σ Q) X.xe s := by
  have hl : us.length = ps.length := r.length.symm.trans (F.many _ _ _ _ h)
  have hbb := hb s us I.kIn (by rw [List.append_nil]; exact hl)
  rw [List.append_nil] at hbb
  refine wpAny_call (codeAny_mono (F.goes X.A X.stack s H ⟨us, []⟩ us vs Q E0 hg hr I.env0 hbb r h) fun res s' hq => ?_)
  match res, hq with
  | .ok (.ret u), hq => exact I.after hq
  | .error e, hq => exact (show False from hq).elim
theorem pe_g (c : Kg X.prog X.w X.K X.mg X.base k x sp) (hgd : X.A.guards = some []) (hr : Room j X.A) (hk : k ≤ j) (hg : Gl X x) (ha : PA X (e :: es) t)
    (hdb : (x == ("__debug__" : Str)) = false := by decide) (he : starEach (e :: es) X.env = (false, eval e X.env) :: starEach es X.env := by rfl) (hpl : (backTo pos (starEach es X.env)).any (·.1) = false := by rfl) :
    PE X (.Call (.Name x p) (e :: es) [] pos) (tKal sp t) := by
  obtain ⟨f, fd, ps, F, hm, kp, b⟩ := c.ex
  constructor
  intro pins s σ H Q I h
  refine wpAny_Call_Name_kw (ld_glob I hg hm ?_ hdb)
  refine PySem.W.callWith_K (h₀ := X.base) I.ok.mod.kin kp (thn (ha.run pos pins s σ H _ I h) fun us s1 ⟨vs, H1, I1, r, q⟩ => ⟨I1.kIn, ?_⟩) he hpl
  exact run_g F hgd (hr.mono hk) b I1 r q
theorem pe_k (c : Kl X.prog X.w X.K X.mg X.base k x sp) (hr : Room j X.A) (hk : k ≤ j) (hg : Gl X x) (ha : PA X (e :: es) t)
    (hdb : (x == ("__debug__" : Str)) = false := by decide) (he : starEach (e :: es) X.env = (false, eval e X.env) :: starEach es X.env := by rfl) (hpl : (backTo pos (starEach es X.env)).any (·.1) = false := by rfl) :
    PE X (.Call (.Name x p) (e :: es) [] pos) (tKal sp t) := by
  obtain ⟨f, fd, ps, F, hm, kp, b⟩ := c.ex
  have h := pe_call (sp := sp) (E := E0) (dvs := []) F (hr.mono hk) hg hm kp b .nil pass0 ha hdb he hpl (pos := pos) (p := p)
  constructor
  intro pins s σ H Q I q
  refine h.run pins s σ H Q I ?_
  have e2 : tCall sp [] E0 t = tKal sp t := by
    funext σ H Q
    show t σ H (fun vs H1 => sp (vs ++ []) H1 Q E0) = t σ H (fun vs H1 => sp vs H1 Q E0)
    congr 1
    funext vs H1
    rw [List.append_nil]
  rw [e2]
  exact q
end
/-! ### repr of plain data -/
mutual
/-- at most so many signs -/
def wt : PyData → Nat
  | .none | .bool _ => 5
  | .int _ => 1921
  | .str x => 10 * x.length + 2
  | .list xs | .tuple xs => wtAll xs + 3
  | .dict _ => 0
def wtAll : List PyData → Nat
  | [] => 0
  | x :: xs => wt x + 2 + wtAll xs
end
mutual
/-- data that can be shown: its ints below 1920 bits -/
def okD : PyData → Bool
  | .none | .bool _ => true
  | .int i => decide (i.natAbs.log2 < 1920)
  | .str x => x.cps.toList.all fun c => decide (c < 16 ^ 8)
  | .list xs | .tuple xs => okAll xs
  | .dict _ => false
def okAll : List PyData → Bool
  | [] => true
  | x :: xs => okD x && okAll xs
end
theorem one_br : (("[" : Str)).length = 1 := rfl
theorem one_br2 : (("]" : Str)).length = 1 := rfl
theorem one_pa : (("(" : Str)).length = 1 := rfl
theorem tup_wt (ts : List Str) : (tupleText ts).length ≤ piled ts + 3 := by
  have e3 : (((if ts.length == 1 then ",)" else ")" : String) : Str)).length ≤ 2 := by split <;> decide +kernel
  unfold tupleText
  rw [strLen_append, strLen_append, one_pa]
  cases ts with
  | nil =>
    have : (Str.join ", " []).length = 0 := by decide +kernel
    omega
  | cons x r =>
    have := join_length_add (x :: r) (List.cons_ne_nil _ _)
    omega
theorem sum_piled : ∀ ts : List Str, (ts.map (·.length)).sum + 2 * ts.length = piled ts
  | [] => rfl
  | t :: ts => by
    have ih := sum_piled ts
    rw [piled_cons, ← ih, List.map_cons, List.sum_cons, List.length_cons]
    omega
theorem lst_wt (ts : List Str) : (listText ts).length ≤ piled ts + 3 := by
  have h := textFrom_len_le ts 0 "["
  have h2 := sum_piled ts
  unfold listText
  rw [strLen_append, one_br2]
  rw [one_br] at h
  omega
mutual
theorem shown_wt : ∀ d : PyData, okD d = true → d.shown.length ≤ wt d ∧ d.showable = true ∧ d.hasDict = false
  | .none, _ => by
    refine ⟨?_, rfl, rfl⟩
    show (("None" : Str)).length ≤ 5
    decide +kernel
  | .bool b, _ => by
    refine ⟨?_, rfl, rfl⟩
    cases b <;> (show _ ≤ 5; decide +kernel)
  | .int i, h => by
    have h1 : i.natAbs.log2 < 1920 := of_decide_eq_true (by simpa only [okD] using h)
    refine ⟨?_, by simpa only [PyData.showable] using decide_eq_true h1, rfl⟩
    have e := int_text_length_le (k := 1920) (by decide) h1
    show (Str.ofString (toString i)).length ≤ 1921
    rw [PySem.ofString_length]
    exact e
  | .str x, h => by
    refine ⟨?_, rfl, rfl⟩
    have h1 : ∀ c ∈ x.cps.toList, c < 16 ^ 8 := fun c hc => of_decide_eq_true (List.all_eq_true.mp (by simpa only [okD] using h) c hc)
    exact StrLaws.reprText_len x h1
  | .list xs, h => by
    obtain ⟨h1, h2, h3⟩ := shown_wtAll xs (by simpa only [okD] using h)
    refine ⟨?_, by simpa only [PyData.showable] using h2, by simpa only [PyData.hasDict] using h3⟩
    simp only [PyData.shown, wt]
    exact Nat.le_trans (lst_wt _) (Nat.add_le_add_right h1 3)
  | .tuple xs, h => by
    obtain ⟨h1, h2, h3⟩ := shown_wtAll xs (by simpa only [okD] using h)
    refine ⟨?_, by simpa only [PyData.showable] using h2, by simpa only [PyData.hasDict] using h3⟩
    simp only [PyData.shown, wt]
    exact Nat.le_trans (tup_wt _) (Nat.add_le_add_right h1 3)
  | .dict _, h => by simp only [okD, Bool.false_eq_true] at h
theorem shown_wtAll : ∀ xs : List PyData, okAll xs = true → piled (PyData.shownAll xs) ≤ wtAll xs ∧ PyData.showableAll xs = true ∧ PyData.hasDictAll xs = false
  | [], _ => ⟨Nat.le_refl _, rfl, rfl⟩
  | x :: xs, h => by
    have h0 : (okD x && okAll xs) = true := by simpa only [okAll] using h
    rw [Bool.and_eq_true] at h0
    obtain ⟨a1, a2, a3⟩ := shown_wt x h0.1
    obtain ⟨b1, b2, b3⟩ := shown_wtAll xs h0.2
    refine ⟨?_, by simp only [PyData.showableAll, a2, b2, Bool.and_self], by simp only [PyData.hasDictAll, a3, b3, Bool.or_self]⟩
    simp only [PyData.shownAll, wtAll]
    rw [piled_cons]
    omega
end
/-- the text of data -/
def rRepr (K : PySem.W.Frag) : List V → Hp → VK → Prop := fun xs H Q => ∃ x d, xs = [x] ∧ Dp K H x d ∧ okD d = true ∧ d.depth ≤ 40 ∧ wt d ≤ 1000000 ∧ Q (.str d.shown) H
section
variable {X : Cx}
theorem call_reprD (hg : X.A.guards = some []) (hu : X.A.units + 64 < cLine) : CallR X (.builtin "repr") (rRepr X.K) := by
  intro pins s σ H xs us Q I r h
  obtain ⟨x, d, rfl, hd, h0, h3, hw, q⟩ := h
  obtain ⟨hz, h1, h2⟩ := shown_wt d h0
  have h4 : d.shown.length ≤ sizeLine := Nat.le_trans hz (Nat.le_trans hw (by decide))
  obtain ⟨u, rfl, hx⟩ := vals1 r
  obtain ⟨as, rd⟩ := Dp.reads I d x u hd hx
  cases hd with
  | non =>
    obtain rfl : u = Value.none := hx
    exact PySem.P.repr_of_none ⟨.str _, H, I.tok _, ⟨_, rfl⟩, q⟩
  | bl b =>
    obtain rfl : u = Value.bool b := hx
    exact PySem.P.repr_of_bool ⟨.str _, H, I.tok _, ⟨_, rfl⟩, q⟩
  | int i =>
    obtain ⟨t, rfl⟩ := hx
    exact PySem.P.repr_of_int (of_decide_eq_true h1) ⟨.str _, H, I.tok _, ⟨_, rfl⟩, q⟩
  | str z =>
    obtain ⟨t, rfl⟩ := hx
    exact PySem.P.repr_of_str ⟨.str _, H, I.tok _, ⟨_, rfl⟩, q⟩ h4
  | lst hs ha =>
    obtain rfl : u = Value.ref _ := hx
    refine repr_of_reads' rd h1 (PyData.noDict_hsm h2) hg (by omega) (fun _ _ z => z) (fun h' u tk hk => ?_) h4
    exact ⟨.str _, H, I.kept (t' := tk) hk, ⟨_, rfl⟩, q⟩
  | tup hs ha =>
    obtain rfl : u = Value.ref _ := hx
    refine repr_of_reads' rd h1 (PyData.noDict_hsm h2) hg (by omega) (fun _ _ z => z) (fun h' u tk hk => ?_) h4
    exact ⟨.str _, H, I.kept (t' := tk) hk, ⟨_, rfl⟩, q⟩
end
/-! ### the law's end -/
section
variable {P : Program} {w : World} {K : PySem.W.Frag} {mg mb : Str → Option Value} {k : Nat} {fa a : Addr} {fd : FuncData} {x : Str} {sp : Sp} {s1 : Shared} {vs : List Value} {ns : List Int}
/-- from a heap H in which at most the script is tracked -/
theorem law_from {H : Hp} (KX : K.In s1.heap) (hns : s1.heap.Ns mainGlobals mg) (hb : s1.heap.Ns builtinsNs mb) (hbb : ∀ x : Str, x ≠ "__name__" → mb x = bootBuiltins x) (hlim : s1.heap.NoLimit) (hg : s1.gens = #[])
    (ha : s1.heap.get? a = some { cls := .type "list", data := .seq vs.toArray }) (hr : Room k callerA) (F : ∀ base : Heap, K.In base → base.Ns mainGlobals mg → FnG P w K mg base k fa fd [x] sp)
    (hbind : ∀ (s : Shared) (u : Value), BindsTo s fd ⟨[u], []⟩ [(x, u)]) (hO : Only H) (hok : HOk P w H s1.heap) (hA : ∀ b, H b ≠ none → b = a) (hK : H a ≠ none → K.lookup a = none)
    (hsp : sp [.ref a] H (fun v _ => v = .bl true) fun _ _ _ => False) :
    codeAny (model P w) callerA (.call (.ref fa) ⟨[.ref a], []⟩) (fun r s' => r = .ok (.ret (.bool true)) ∧ OldK s1.heap s'.heap ∧ s'.os = s1.os ∧ AllBare s'.gens) s1 := by
  have untr : ∀ {b : Addr} {o : Obj} {es : Array DictEntry} {ep : Nat}, s1.heap.get? b = some o → o.data = .dict es ep → H b = none := by
    intro b o es ep e d
    cases q : H b with
    | none => rfl
    | some u =>
      obtain rfl : b = a := hA b (by rw [q]; exact Option.some_ne_none u)
      rw [ha] at e
      cases e
      exact absurd (show Data.seq vs.toArray _ = Data.dict es ep from d) (by intro z; cases z)
  have nsH : ∀ {b : Addr} {m : Str → Option Value}, s1.heap.Ns b m → (hidT s1.heap H).Ns b m := by
    rintro b m ⟨o, es, ep, e, d, r⟩
    exact ⟨o, es, ep, hidT_get e (untr e d), d, r⟩
  have inH : K.In (hidT s1.heap H) := by
    intro b o e
    refine hidT_get (KX b o e) ?_
    cases q : H b with
    | none => rfl
    | some u =>
      have hne : H b ≠ none := by rw [q]; exact Option.some_ne_none u
      obtain rfl : b = a := hA b hne
      rw [hK hne] at e
      cases e
  obtain ⟨mc, l1, l2⟩ := hlim
  have md : Mod K mg (hidT s1.heap H) := ⟨inH, nsH hns, ⟨mb, nsH hb, hbb⟩, ⟨mc, nsH l1, l2⟩⟩
  have e0 : Env0 P w K mg (hidT s1.heap H) callerA [] s1 H := by
    refine ⟨rfl, md, fun b o e => of_hidT e, Nat.le_of_eq (hidT_size _ _), trivial, ?_, hok, .of_eq hg⟩
    intro b hb
    cases (show b ∈ ([] : List Addr) from hb)
  have run := (F _ inH (nsH hns)).goes callerA [] s1 H ⟨[.ref a], []⟩ [.ref a] [.ref a] _ _ rfl hr e0 (hbind s1 (.ref a)) (.cons rfl .nil) hsp
  refine codeAny_mono run fun r s' h => ?_
  match r, h with
  | .error e, h => exact (show False from h).elim
  | .ok (.ret u), ⟨v, H', os, bare, un, hok', r', q⟩ =>
    obtain rfl : v = .bl true := q
    obtain rfl : u = Value.bool true := r'
    refine ⟨rfl, OldK.of_keep ?_, os, bare⟩
    intro b o e
    cases q : H b with
    | none => exact un.keep b o e q (fun z => by cases (show b ∈ ([] : List Addr) from z)) (fun z => by cases z)
    | some u =>
      rcases hO b with z | ⟨ob, xs, z⟩
      · rw [q] at z
        cases z
      · have k1 := (hok b _ z).1
        have k2 := (hok' b _ (un.frzs b ob _ z)).1
        rw [e] at k1
        cases k1
        exact k2
theorem law_g (KX : K.In s1.heap) (hns : s1.heap.Ns mainGlobals mg) (hb : s1.heap.Ns builtinsNs mb) (hbb : ∀ x : Str, x ≠ "__name__" → mb x = bootBuiltins x) (hlim : s1.heap.NoLimit) (hg : s1.gens = #[])
    (ha : s1.heap.get? a = some { cls := .type "list", data := .seq vs.toArray }) (hi : IntsAre vs ns) (hl : ns.length ≤ sizeLine) (hr : Room k callerA) (F : ∀ base : Heap, K.In base → base.Ns mainGlobals mg → FnG P w K mg base k fa fd [x] sp)
    (hbind : ∀ (s : Shared) (u : Value), BindsTo s fd ⟨[u], []⟩ [(x, u)]) (hsp : ∀ H : Hp, Only H → SqL K H a (ns.map V.int) → sp [.ref a] H (fun v _ => v = .bl true) fun _ _ _ => False) :
    codeAny (model P w) callerA (.call (.ref fa) ⟨[.ref a], []⟩) (fun r s' => r = .ok (.ret (.bool true)) ∧ OldK s1.heap s'.heap ∧ s'.os = s1.os ∧ AllBare s'.gens) s1 := by
  have rv := vals_ints hi
  have lv := hi.length
  cases hk : K.lookup a with
  | some o =>
    have e := KX a o hk
    rw [ha] at e
    cases e
    refine law_from (H := fun _ => none) KX hns hb hbb hlim hg ha hr F hbind (fun _ => Or.inl rfl) (fun b u z => ?_) (fun b z => absurd rfl z) (fun z => absurd rfl z) (hsp _ (fun _ => Or.inl rfl) (Or.inr ?_))
    · cases (show (none : Option HO) = some u from z)
    · exact ⟨_, vs.toArray, _, hk, rfl, rfl, rfl, by rw [List.size_toArray, lv]; exact hl, by simpa using rv⟩
  | none =>
    let ob : Obj := { cls := .type "list", data := .seq vs.toArray }
    have one : ∀ b, (if b = a then some (HO.frz ob (.lst (ns.map V.int))) else none) ≠ none → b = a := fun b z => by
      by_cases hb : b = a
      · exact hb
      · exact absurd (if_neg hb) z
    have only : Only (fun b => if b = a then some (HO.frz ob (.lst (ns.map V.int))) else none) := fun b => by
      by_cases hb : b = a
      · exact Or.inr ⟨_, _, if_pos hb⟩
      · exact Or.inl (if_neg hb)
    refine law_from (H := fun b => if b = a then some (HO.frz ob (.lst (ns.map V.int))) else none) KX hns hb hbb hlim hg ha hr F hbind only (fun b u z => ?_) one (fun _ => hk) (hsp _ only (Or.inl (Or.inr ⟨ob, if_pos rfl⟩)))
    by_cases hb : b = a
    · obtain rfl := Option.some.inj ((if_pos hb).symm.trans z)
      subst hb
      exact ⟨ha, by rw [List.length_map]; exact hl, vs, _, rv, ha⟩
    · cases (if_neg hb).symm.trans z
end
theorem walk_g {l : PySem.W.OpenLaw} {n k : Nat} {q : Program} {loose : List Str} {XP : (Str → Option Value) → Heap → Prop} {YP : World → Heap → Prop} {d : DefRec} {K : Params → PySem.W.Frag} {sp : PySem.W.Frag → Sp} {x : Str}
    (hn : l.most = some n) (hn2 : n ≤ sizeLine) (hdf : d.params.defaults = []) (hr : Room k callerA) (hY : ∀ (w : World) (h : Heap), YP w h → (K w.params).In h)
    (F : ∀ (w : World) (mg : Str → Option Value) (fa : Addr) (h : Heap), (K w.params).In h → h.Ns mainGlobals mg → mg d.name = some (.ref fa) → ∃ fd : FuncData, (∀ (s : Shared) (u : Value), BindsTo s fd ⟨[u], []⟩ [(x, u)]) ∧
        ∀ base : Heap, (K w.params).In base → base.Ns mainGlobals mg → FnG l.prog w (K w.params) mg base k fa fd [x] (sp (K w.params)))
    (hsp : ∀ (K : PySem.W.Frag) (H : Hp) (a : Addr) (ns : List Int), ns.length ≤ n → SqL K H a (ns.map V.int) → sp K [.ref a] H (fun v _ => v = .bl true) fun _ _ _ => False) :
    PySem.W.WalkO q loose XP YP l.row.toRowW d [] (fun f vs => PySem.call f vs) := by
  refine Att.attach_call hn hdf fun w s0 s1 mg mb fa o pm cd doc a vs ns G Y ho hd hcd hmg hobj hints hlen hg => ?_
  obtain ⟨fd, hb, hF⟩ := F w mg fa _ (hY w _ Y) G.T.g hmg
  exact law_g (hY w _ Y) G.T.g G.T.b G.T.builtins G.T.nolimit hg hobj hints (Nat.le_trans hlen hn2) hr hF hb fun H _ hS => hsp (K w.params) H a ns hlen hS
end Gd
set_option Elab.async false
set_option linter.all false
set_option maxRecDepth 100000
/-! Common words: sizes of ints, heaps that grow, defs of the text by their names. -/
namespace Gd
open PySem PySem.Spec PyProof.Rows L2
/-! ### sizes -/
def B (n : Nat) (x : Int) : Prop := x.natAbs < 2 ^ n
theorem B.up {m n : Nat} {x : Int} (h : B m x) (k : m ≤ n) : B n x := Nat.lt_of_lt_of_le h (Nat.pow_le_pow_right (by decide) k)
theorem B.add {m n : Nat} {x y : Int} (hx : B m x) (hy : B n y) : B (max m n + 1) (x + y) := by
  have h1 : x.natAbs < 2 ^ max m n := hx.up (Nat.le_max_left m n)
  have h2 : y.natAbs < 2 ^ max m n := hy.up (Nat.le_max_right m n)
  unfold B
  rw [Nat.pow_succ]
  omega
theorem B.neg {n : Nat} {x : Int} (hx : B n x) : B n (-x) := by
  unfold B at *
  omega
theorem B.sub {m n : Nat} {x y : Int} (hx : B m x) (hy : B n y) : B (max m n + 1) (x - y) := by
  rw [Int.sub_eq_add_neg]
  exact hx.add hy.neg
theorem B.mul {m n : Nat} {x y : Int} (hx : B m x) (hy : B n y) : B (m + n) (x * y) := wide_lt hx hy
theorem B.pow {m : Nat} {x : Int} (hx : B m x) : ∀ k : Nat, B (m * k + 1) (x ^ k)
  | 0 => by
    rw [Int.pow_zero]
    exact Nat.one_lt_two_pow (by omega)
  | k + 1 => by
    rw [Int.pow_succ]
    exact ((B.pow hx k).mul hx).up (by rw [Nat.mul_succ]; omega)
theorem B.lit {n : Nat} {x : Int} (h : x.natAbs < 2 ^ n) : B n x := h
theorem B.mulW {m n : Nat} {x y : Int} (hx : B m x) (hy : B n y) (h : m + n ≤ 900000) : CMulW x y :=
  wide_mul (hx.up (Nat.le_add_right m 1)) (hy.up (Nat.le_add_right n 1)) (by omega) (by omega) (by omega)
theorem B.mulL {n : Nat} {x y : Int} (hx : B n x) (h : n ≤ 64) : CMul x y := by
  have h1 := hx.up h
  unfold B at h1
  exact Or.inl ⟨by omega, by omega⟩
theorem B.mulR {n : Nat} {x y : Int} (hy : B n y) (h : n ≤ 64) : CMul x y := by
  have h1 := hy.up h
  unfold B at h1
  exact Or.inr ⟨by omega, by omega⟩
theorem B.log {n : Nat} {x : Int} (hx : B n x) (h : n ≤ 1900) : x.natAbs.log2 < 1920 := by
  have h1 : x.natAbs < 2 ^ 1901 := hx.up (by omega)
  exact PySem.Flt.log2_lt_of (by decide) (Nat.lt_of_lt_of_le h1 (Nat.pow_le_pow_right (by decide) (by decide)))
theorem B.between {n : Nat} {x : Int} (m : Int) (h0 : -m ≤ x) (h1 : x ≤ m) (h : m.natAbs < 2 ^ n) : B n x := by
  unfold B
  omega
theorem small {n : Nat} (h : n ≤ 1000) : n ≤ sizeLine := Nat.le_trans h (by decide)
/-! ### heaps -/
theorem Same.new {H : Hp} {p : Addr} {o : HO} (h : H p = none) : Same H (upd H p o) := fun b x e => by
  rw [upd_ne (ne_of_none e h)]
  exact e
theorem Same.put {H H1 : Hp} {p : Addr} {o : HO} (s : Same H H1) (h : H p = none) : Same H (upd H1 p o) := fun b x e => by
  rw [upd_ne (ne_of_none e h)]
  exact s b x e
theorem Same.rd {H H' : Hp} {a : Addr} {u : HO} (e : Same H H') (h : Rd H a u) : Rd H' a u := by
  rcases h with h | ⟨o, h⟩
  · exact Or.inl (e _ _ h)
  · exact Or.inr ⟨o, e _ _ h⟩
theorem Same.tup {K : PySem.W.Frag} {H H' : Hp} {a : Addr} {xs : List V} (e : Same H H') (h : SqT K H a xs) : SqT K H' a xs := by
  rcases h with h | h
  · exact Or.inl (Same.rd e h)
  · exact Or.inr h
theorem tup_of {K : PySem.W.Frag} {H : Hp} {a : Addr} {xs : List V} (h : H a = some (.tup xs)) : SqT K H a xs := Or.inl (Or.inl h)
theorem lst_of {K : PySem.W.Frag} {H : Hp} {a : Addr} {xs : List V} (h : H a = some (.lst xs)) : SqL K H a xs := Or.inl (Or.inl h)
/-- all but what stands at m is as it was -/
def But (m : Addr) (H H' : Hp) : Prop := ∀ b o, H b = some o → b ≠ m → H' b = some o
theorem But.refl (m : Addr) (H : Hp) : But m H H := fun _ _ e _ => e
theorem But.trans {m : Addr} {H H1 H2 : Hp} (a : But m H H1) (b : But m H1 H2) : But m H H2 := fun c o e n => b c o (a c o e n) n
theorem But.of {m : Addr} {H H' : Hp} (a : Same H H') : But m H H' := fun c o e _ => a c o e
theorem But.upd {m : Addr} {H : Hp} {o : HO} : But m H (upd H m o) := fun c x e n => by
  rw [upd_ne n]
  exact e
/-- the same where m was not known -/
theorem But.same {m : Addr} {H H1 H2 : Hp} (s : Same H H1) (b : But m H1 H2) (h : H m = none) : Same H H2 := fun c o e => b c o (s c o e) (ne_of_none e h)
/-- the slots said anew -/
theorem sig {nx : L2.St → Hp → Prop} {σ : L2.St} {H : Hp} (σ' : L2.St) (e : σ = σ') (h : nx σ' H) : nx σ H := e ▸ h
theorem sigN {nx : L2.St → Hp → Prop} {i : Nat} {v : V} {σ : L2.St} {H : Hp} (σ' : L2.St) (e : σ.set i (some v) = σ') (h : nx σ' H) : gName i v σ H nx := by
  subst e
  exact h
/-- a number of the module -/
theorem pe_kon {X : Cx} {x : Str} {pos : Pos} {v : V} (hg : Gl X x) (h : ∃ u, X.mg x = some u ∧ RelV v u) (hd : (x == ("__debug__" : Str)) = false := by decide) : PE X (.Name x pos) (tC v) := by
  obtain ⟨u, hm, r⟩ := h
  exact pe_glob hg hm r hd
/-- int(n) of a number -/
theorem call_intI {X : Cx} : CallR X (.type "int") (fun xs H Q => ∃ i, xs = [.int i] ∧ Q (.int i) H) := fun pins s σ H xs us Q I r h => call_int1 pins s σ H xs us Q I r (Or.inl h)
/-! ### the state of the draws: four entries -/
def mk4 (L s : Int) (c : Addr) (n : Int) : List (Key × V) := [(Sum.inr "left", .int L), (Sum.inr "seed", .int s), (Sum.inr "cells", .ref c), (Sum.inr "spot", .int n)]
theorem kn12 : ¬ (("left" : Str) = "seed") := by decide +kernel
theorem kn13 : ¬ (("left" : Str) = "cells") := by decide +kernel
theorem kn14 : ¬ (("left" : Str) = "spot") := by decide +kernel
theorem kn23 : ¬ (("seed" : Str) = "cells") := by decide +kernel
theorem kn24 : ¬ (("seed" : Str) = "spot") := by decide +kernel
theorem kn34 : ¬ (("cells" : Str) = "spot") := by decide +kernel
theorem kn21 : ¬ (("seed" : Str) = "left") := by decide +kernel
theorem kn31 : ¬ (("cells" : Str) = "left") := by decide +kernel
theorem kn41 : ¬ (("spot" : Str) = "left") := by decide +kernel
theorem kn42 : ¬ (("spot" : Str) = "seed") := by decide +kernel
theorem kn43 : ¬ (("spot" : Str) = "cells") := by decide +kernel
theorem kn32 : ¬ (("cells" : Str) = "seed") := by decide +kernel
section
variable {L s n : Int} {c : Addr}
theorem m4_left : valV (mk4 L s c n) (Sum.inr "left") = some (.int L) := by simp [valV, mk4, List.find?_cons]
theorem m4_seed : valV (mk4 L s c n) (Sum.inr "seed") = some (.int s) := by simp [valV, mk4, List.find?_cons, kn12]
theorem m4_cells : valV (mk4 L s c n) (Sum.inr "cells") = some (.ref c) := by simp [valV, mk4, List.find?_cons, kn13, kn23]
theorem m4_spot : valV (mk4 L s c n) (Sum.inr "spot") = some (.int n) := by simp [valV, mk4, List.find?_cons, kn14, kn24, kn34]
theorem m4_putL (y : Int) : putK (mk4 L s c n) (Sum.inr "left") (.int y) = mk4 y s c n := by simp [putK, mk4, kn21, kn31, kn41]
theorem m4_merge : mergeK [] (mk4 L s c n) = mk4 L s c n := by simp [mergeK, putK, mk4, List.foldl, kn12, kn13, kn14, kn23, kn24, kn34]
theorem m4_putS (y : Int) : putK (mk4 L s c n) (Sum.inr "spot") (.int y) = mk4 L s c y := by simp [putK, mk4, kn14, kn24, kn34]
end
/-- the state stands at m, with at most n draws out of the cells behind it -/
def MAt (H : Hp) (m c : Addr) (n : Nat) : Prop := ∃ (L s : Int) (cs : List Int) (k : Nat), H m = some (.dK (mk4 L s c (k : Int))) ∧ k ≤ n ∧ H c = some (.lst (cs.map V.int)) ∧ 0 < cs.length
theorem MAt.up {H : Hp} {m cl : Addr} {n n' : Nat} (h : MAt H m cl n) (k : n ≤ n') : MAt H m cl n' := by
  obtain ⟨L, s, cs, j, h1, h2, h3, h4⟩ := h
  exact ⟨L, s, cs, j, h1, Nat.le_trans h2 k, h3, h4⟩
theorem MAt.same {H H' : Hp} {m cl : Addr} {n : Nat} (h : MAt H m cl n) (e : Same H H') : MAt H' m cl n := by
  obtain ⟨L, s, cs, j, h1, h2, h3, h4⟩ := h
  exact ⟨L, s, cs, j, e _ _ h1, h2, e _ _ h3, h4⟩
theorem MAt.some {H : Hp} {m cl : Addr} {n : Nat} (h : MAt H m cl n) : ∃ kvs, H m = some (.dK kvs) := by
  obtain ⟨L, s, cs, j, h1, _⟩ := h
  exact ⟨_, h1⟩
theorem MAt.ne {H : Hp} {m cl p : Addr} {n : Nat} (h : MAt H m cl n) (e : H p = none) : m ≠ p ∧ cl ≠ p := by
  obtain ⟨L, s, cs, j, h1, h2, h3, h4⟩ := h
  exact ⟨ne_of_none h1 e, ne_of_none h3 e⟩
theorem MAt.put {H : Hp} {m cl p : Addr} {n : Nat} {o : HO} (h : MAt H m cl n) (e : m ≠ p ∧ cl ≠ p) : MAt (upd H p o) m cl n := by
  obtain ⟨L, s, cs, j, h1, h2, h3, h4⟩ := h
  refine ⟨L, s, cs, j, ?_, h2, ?_, h4⟩
  · rw [upd_ne e.1]
    exact h1
  · rw [upd_ne e.2]
    exact h3
/-- what the draws leave: fresh stays fresh -/
theorem But.free {m p cl : Addr} {H H' : Hp} {n : Nat} (b : But m H H') (h : MAt H' m cl n) (e : H' p = none) : H p = none := by
  obtain ⟨kvs, hm⟩ := h.some
  cases q : H p with
  | none => rfl
  | some o =>
    by_cases hp : p = m
    · subst hp
      rw [hm] at e
      cases e
    · rw [b p o q hp] at e
      cases e
theorem But.tup {m p cl : Addr} {H H' : Hp} {n : Nat} {xs : List V} (b : But m H H') (h : MAt H m cl n) (e : H p = some (.tup xs)) : H' p = some (.tup xs) := by
  obtain ⟨kvs, hm⟩ := h.some
  exact b p _ e (ne_of e hm (by intro z; cases z))
theorem But.lst {m p cl : Addr} {H H' : Hp} {n : Nat} {xs : List V} (b : But m H H') (h : MAt H m cl n) (e : H p = some (.lst xs)) : H' p = some (.lst xs) := by
  obtain ⟨kvs, hm⟩ := h.some
  exact b p _ e (ne_of e hm (by intro z; cases z))
theorem But.seqL {K : PySem.W.Frag} {m p cl : Addr} {H H' : Hp} {n : Nat} {xs : List V} (b : But m H H') (h : MAt H m cl n) (e : SqL K H p xs) : SqL K H' p xs := by
  obtain ⟨kvs, hm⟩ := h.some
  rcases e with (e | ⟨o, e⟩) | e
  · exact Or.inl (Or.inl (b p _ e (ne_of e hm (by intro z; cases z))))
  · exact Or.inl (Or.inr ⟨o, b p _ e (ne_of e hm (by intro z; cases z))⟩)
  · exact Or.inr e
theorem But.seqT {K : PySem.W.Frag} {m p cl : Addr} {H H' : Hp} {n : Nat} {xs : List V} (b : But m H H') (h : MAt H m cl n) (e : SqT K H p xs) : SqT K H' p xs := by
  obtain ⟨kvs, hm⟩ := h.some
  rcases e with (e | ⟨o, e⟩) | e
  · exact Or.inl (Or.inl (b p _ e (ne_of e hm (by intro z; cases z))))
  · exact Or.inl (Or.inr ⟨o, b p _ e (ne_of e hm (by intro z; cases z))⟩)
  · exact Or.inr e
/-! ### tuples -/
theorem catA_any {K : PySem.W.Frag} {H : Hp} {Q : VK} {a b : Addr} {xs ys : List V} (ha : SqT K H a xs) (hb : SqT K H b ys) (hl : xs.length + ys.length ≤ 1000) (k : ∀ p H', Same H H' → SqT K H' p (xs ++ ys) → Q (.ref p) H') : rCatA K (.ref a) (.ref b) H Q := by
  refine ⟨a, b, xs, ys, rfl, rfl, ha, hb, small hl, fun e => ?_, fun _ e => ?_, fun _ _ p hp => k p _ (Same.new hp) (tup_of upd_same)⟩
  · subst e
    exact k b H (Same.refl H) hb
  · subst e
    exact k a H (Same.refl H) (by rw [List.append_nil]; exact ha)
theorem slA_any {K : PySem.W.Frag} {H : Hp} {Q : VK} {a : Addr} {xs : List V} {lo hi : Option Int} (ha : SqT K H a xs) (k : ∀ p H', Same H H' → SqT K H' p (cutV xs lo hi) → Q (.ref p) H') : rSlA K (.ref a) lo hi H Q := by
  refine ⟨a, xs, rfl, ha, fun e => ?_, fun _ p hp => k p _ (Same.new hp) (tup_of upd_same)⟩
  refine k a H (Same.refl H) ?_
  have e2 : cutV xs lo hi = xs := by
    unfold cutV
    rw [e.1, e.2, List.drop_zero, Nat.sub_zero, List.take_length]
  rw [e2]
  exact ha
/-! ### defs by their names -/
structure Df (K : PySem.W.Frag) (mg : Str → Option Value) (x : Str) (st : Stmt) (ps : List Str) : Prop where
  ex : ∃ (f : Addr) (fd : FuncData), Fun K x x st f fd ∧ mg x = some (.ref f) ∧ Binds K fd ps []
section
variable {P : Program} {w : World} {K : PySem.W.Frag} {mg : Str → Option Value} {base : Heap} {x : Str} {st : Stmt} {N ps : List Str} {k : Nat} {sp : Sp}
theorem Kl.by_body (D : Df K mg x st ps) (S : FnScope N ps (defScope st)) (len : ∀ vs H Q E, sp vs H Q E → vs.length = ps.length)
    (hb : ∀ (f : Addr) (cdv : Value) (A : Around) (outer : List Env) (s : Shared) (H : Hp) (vs : List V) (Q : VK) (E : XK), Room k (A.deeper (envOfC x (defScope st) s.heap.objs.size f cdv)) → sp vs H Q E →
      ∃ t, PSs (cxOf CX0 P w K mg base N x (defScope st) f cdv A outer s H E).nox (defBody st) t ∧ t { nx := fun _ H' => Q .non H', rt := Q } (start N vs) H) : Kl P w K mg base (k + 1) x sp := by
  obtain ⟨f, fd, F, hm, b⟩ := D.ex
  exact ⟨f, fd, ps, F.ok S len (hb f), hm, F.kp, b⟩
theorem Kg.by_body (D : Df K mg x st ps) (S : FnScope N ps (defScope st)) (len : ∀ vs H Q E, sp vs H Q E → vs.length = ps.length)
    (hb : ∀ (f : Addr) (cdv : Value) (A : Around) (outer : List Env) (s : Shared) (H : Hp) (vs : List V) (Q : VK) (E : XK), A.guards = some [] → Room k (A.deeper (envOfC x (defScope st) s.heap.objs.size f cdv)) → sp vs H Q E →
      ∃ t, PSs (cxOf CX0 P w K mg base N x (defScope st) f cdv A outer s H E).nox (defBody st) t ∧ t { nx := fun _ H' => Q .non H', rt := Q } (start N vs) H) : Kg P w K mg base (k + 1) x sp := by
  obtain ⟨f, fd, F, hm, b⟩ := D.ex
  exact ⟨f, fd, ps, FnG.by_body F S len (hb f), hm, F.kp, b⟩
theorem df_mk {h : Heap} {f : Addr} {oc : Value} {od an : Option Addr} {osl : Array (Option Value)} {kV doc pm cdv ct : Value} (X : K.In h) (G : h.Ns mainGlobals mg) (a : PySem.W.nsIn K mainGlobals x = some (some (.ref f)))
    (l : K.lookup f = some ⟨oc, od, .func (PySem.W.fnOf x x (defArgs st) (defBody st) (defScope st) .none kV doc pm an cdv ct), osl⟩) (c : PySem.W.codeIn K cdv x = true) (kp : PySem.W.keepIn K (.ref f) = true)
    (hb : ∀ (kV doc pm : Value) (an : Option Addr) (cdv ct : Value) (us : List Value), us.length = ps.length → bindArgs (PySem.W.fnOf x x (defArgs st) (defBody st) (defScope st) .none kV doc pm an cdv ct) ⟨us, []⟩ = pure (ps.zip us)) : Df K mg x st ps :=
  ⟨f, _, fun_mk l c kp, PySem.W.mg_of X G a, (fun_mk l c kp).binds hb⟩
theorem law_fd {h : Heap} {fa f : Addr} {j : Nat} {oc : Value} {od an : Option Addr} {osl : Array (Option Value)} {kV doc pm cdv ct : Value} (X : K.In h) (G : h.Ns mainGlobals mg) (hfa : mg "law" = some (.ref fa)) (a : PySem.W.nsIn K mainGlobals "law" = some (some (.ref f)))
    (l : K.lookup f = some ⟨oc, od, .func (PySem.W.fnOf "law" "law" (defArgs st) (defBody st) (defScope st) .none kV doc pm an cdv ct), osl⟩) (c : PySem.W.codeIn K cdv "law" = true) (kp : PySem.W.keepIn K (.ref f) = true)
    (hb : ∀ (kV doc pm : Value) (an : Option Addr) (cdv ct : Value) (us : List Value), us.length = 1 → bindArgs (PySem.W.fnOf "law" "law" (defArgs st) (defBody st) (defScope st) .none kV doc pm an cdv ct) ⟨us, []⟩ = pure ((["script"] : List Str).zip us))
    (go : ∀ fd, Fun K "law" "law" st fa fd → ∀ base : Heap, FnG P w K mg base j fa fd ["script"] sp) :
    ∃ fd : FuncData, (∀ (s : Shared) (u : Value), BindsTo s fd ⟨[u], []⟩ [("script", u)]) ∧ ∀ base : Heap, K.In base → base.Ns mainGlobals mg → FnG P w K mg base j fa fd ["script"] sp := by
  have e := hfa.symm.trans (PySem.W.mg_of X G a)
  cases e
  exact ⟨_, fun s u => .of_eq (hb kV doc pm an cdv ct [u] rfl), fun base _ _ => go _ (fun_mk l c kp) base⟩
end
end Gd
set_option linter.all false
/-! fractions: plain Lean -/
namespace QM
/-- n / d in lowest terms -/
def sg (n d : Int) : Int := if d < 0 then -((Nat.gcd n.natAbs d.natAbs : Nat) : Int) else ((Nat.gcd n.natAbs d.natAbs : Nat) : Int)
theorem sg_ne {n d : Int} (h : d ≠ 0) : sg n d ≠ 0 := by
  have hp : 0 < Nat.gcd n.natAbs d.natAbs := Nat.gcd_pos_of_pos_right _ (by omega)
  unfold sg
  split <;> omega
theorem fdiv_neg' (a b : Int) : (-a).fdiv (-b) = a.fdiv b := by
  exact Int.neg_fdiv_neg a b
theorem fr_num {n d : Int} (h : d ≠ 0) : n.fdiv (sg n d) = (Rat.divInt n d).num := by
  rw [Rat.num_divInt]
  unfold sg
  have g0 : ((Int.gcd d n : Nat) : Int) = ((Nat.gcd n.natAbs d.natAbs : Nat) : Int) := by rw [Int.gcd_comm]; rfl
  split
  · rename_i e
    rw [Int.sign_eq_neg_one_of_neg e, g0, Int.neg_mul, Int.one_mul]
    have e1 : n.fdiv (-((Nat.gcd n.natAbs d.natAbs : Nat) : Int)) = (-n).fdiv ((Nat.gcd n.natAbs d.natAbs : Nat) : Int) := by
      rw [← fdiv_neg' n, Int.neg_neg]
    rw [e1, Int.fdiv_eq_ediv_of_nonneg _ (by omega)]
  · rename_i e
    rw [Int.sign_eq_one_of_pos (by omega), g0, Int.one_mul, Int.fdiv_eq_ediv_of_nonneg _ (by omega)]
theorem fr_den {n d : Int} (h : d ≠ 0) : d.fdiv (sg n d) = ((Rat.divInt n d).den : Int) := by
  rw [Rat.den_divInt, if_neg h]
  have g0 : Int.gcd d n = Nat.gcd n.natAbs d.natAbs := by rw [Int.gcd_comm]; rfl
  rw [g0]
  unfold sg
  split
  · rename_i e
    have e1 : d.fdiv (-((Nat.gcd n.natAbs d.natAbs : Nat) : Int)) = (-d).fdiv ((Nat.gcd n.natAbs d.natAbs : Nat) : Int) := by
      rw [← fdiv_neg' d, Int.neg_neg]
    rw [e1, Int.fdiv_eq_ediv_of_nonneg _ (by omega), Int.natCast_ediv]
    congr 1
    omega
  · rename_i e
    rw [Int.fdiv_eq_ediv_of_nonneg _ (by omega), Int.natCast_ediv]
    congr 1
    omega
theorem den_ne (a : Rat) : (a.den : Int) ≠ 0 := by
  have := a.den_nz
  omega
theorem denR (a : Rat) : ((a.den : Int) : Rat) ≠ 0 := by
  intro h
  exact den_ne a (by exact_mod_cast h)
theorem as_div (a : Rat) : a = (a.num : Rat) / ((a.den : Int) : Rat) := by
  rw [← Rat.divInt_eq_div, Rat.num_divInt_den]
theorem fr_add (a b : Rat) : Rat.divInt (a.num * b.den + b.num * a.den) (a.den * b.den) = a + b := by
  have ha := denR a
  have hb := denR b
  have ea := as_div a
  have eb := as_div b
  rw [Rat.divInt_eq_div, Rat.intCast_add, Rat.intCast_mul, Rat.intCast_mul, Rat.intCast_mul]
  grind
theorem fr_sub (a b : Rat) : Rat.divInt (a.num * b.den - b.num * a.den) (a.den * b.den) = a - b := by
  have ha := denR a
  have hb := denR b
  have ea := as_div a
  have eb := as_div b
  rw [Rat.divInt_eq_div, Rat.intCast_sub, Rat.intCast_mul, Rat.intCast_mul, Rat.intCast_mul]
  grind
theorem fr_mul (a b : Rat) : Rat.divInt (a.num * b.num) (a.den * b.den) = a * b := by
  have ha := denR a
  have hb := denR b
  have ea := as_div a
  have eb := as_div b
  rw [Rat.divInt_eq_div, Rat.intCast_mul, Rat.intCast_mul]
  grind
theorem num_ne {a : Rat} (h : a ≠ 0) : a.num ≠ 0 := fun e => h (Rat.num_eq_zero.mp e)
theorem fr_div (a b : Rat) (h : b ≠ 0) : Rat.divInt (a.num * b.den) (a.den * b.num) = a / b := by
  have ha := denR a
  have hb := denR b
  have ea := as_div a
  have eb := as_div b
  have hn : (b.num : Rat) ≠ 0 := fun e => num_ne h (by exact_mod_cast e)
  rw [Rat.divInt_eq_div, Rat.intCast_mul, Rat.intCast_mul]
  grind
theorem mul_ne {a b : Int} (h : a ≠ 0) (k : b ≠ 0) : a * b ≠ 0 := Int.mul_ne_zero h k
/-! sizes -/
def RB (n : Nat) (q : Rat) : Prop := q.num.natAbs < 2 ^ n ∧ (q.den : Int).natAbs < 2 ^ n
theorem RB.up {m n : Nat} {q : Rat} (h : RB m q) (k : m ≤ n) : RB n q := ⟨Nat.lt_of_lt_of_le h.1 (Nat.pow_le_pow_right (by decide) k), Nat.lt_of_lt_of_le h.2 (Nat.pow_le_pow_right (by decide) k)⟩
theorem dv_le {x g : Int} (h : g ≠ 0) (d : g ∣ x) : (x.fdiv g).natAbs ≤ x.natAbs := by
  obtain ⟨k, rfl⟩ := d
  rw [Int.mul_fdiv_cancel_left k h, Int.natAbs_mul]
  have h1 : 1 ≤ g.natAbs := by omega
  have h2 : 1 * k.natAbs ≤ g.natAbs * k.natAbs := Nat.mul_le_mul_right _ h1
  omega
theorem sg_dvd (n d : Int) : sg n d ∣ n := by
  have h : ((Nat.gcd n.natAbs d.natAbs : Nat) : Int) ∣ n := Int.ofNat_dvd_left.mpr (Nat.gcd_dvd_left _ _)
  unfold sg
  split
  · exact Int.neg_dvd.mpr h
  · exact h
theorem sg_dvd2 (n d : Int) : sg n d ∣ d := by
  have h : ((Nat.gcd n.natAbs d.natAbs : Nat) : Int) ∣ d := Int.ofNat_dvd_left.mpr (Nat.gcd_dvd_right _ _)
  unfold sg
  split
  · exact Int.neg_dvd.mpr h
  · exact h
theorem RB.of {m : Nat} {n d : Int} (h : d ≠ 0) (hn : n.natAbs < 2 ^ m) (hd : d.natAbs < 2 ^ m) : RB m (Rat.divInt n d) := by
  unfold RB
  rw [← fr_num h, ← fr_den (n := n) h]
  exact ⟨Nat.lt_of_le_of_lt (dv_le (sg_ne h) (sg_dvd n d)) hn, Nat.lt_of_le_of_lt (dv_le (sg_ne h) (sg_dvd2 n d)) hd⟩
theorem pmul {m n a b : Nat} (ha : a < 2 ^ m) (hb : b < 2 ^ n) : a * b < 2 ^ (m + n) := by
  rw [Nat.pow_add]
  rcases Nat.eq_zero_or_pos b with h | h
  · subst h
    rw [Nat.mul_zero]
    exact Nat.mul_pos (Nat.two_pow_pos m) (Nat.two_pow_pos n)
  · exact Nat.mul_lt_mul_of_lt_of_le ha (Nat.le_of_lt hb) (Nat.two_pow_pos n)
theorem RB.add {m n : Nat} {a b : Rat} (ha : RB m a) (hb : RB n b) : RB (m + n + 1) (a + b) := by
  rw [← fr_add]
  have h1 := pmul ha.1 hb.2
  have h2 := pmul ha.2 hb.1
  have h3 := pmul ha.2 hb.2
  refine RB.of (mul_ne (den_ne a) (den_ne b)) ?_ ?_
  · rw [Nat.pow_succ]
    have h4 : (a.num * ↑b.den + b.num * ↑a.den).natAbs ≤ (a.num * ↑b.den).natAbs + (b.num * ↑a.den).natAbs := Int.natAbs_add_le _ _
    rw [Int.natAbs_mul, Int.natAbs_mul, Nat.mul_comm b.num.natAbs] at h4
    omega
  · rw [Nat.pow_succ, Int.natAbs_mul]
    omega
theorem RB.neg {m : Nat} {a : Rat} (ha : RB m a) : RB m (-a) := by
  unfold RB at *
  rw [Rat.neg_num, Rat.neg_den, Int.natAbs_neg]
  exact ha
theorem RB.sub {m n : Nat} {a b : Rat} (ha : RB m a) (hb : RB n b) : RB (m + n + 1) (a - b) := by
  rw [Rat.sub_eq_add_neg]
  exact ha.add hb.neg
theorem RB.mul {m n : Nat} {a b : Rat} (ha : RB m a) (hb : RB n b) : RB (m + n) (a * b) := by
  rw [← fr_mul]
  refine RB.of (mul_ne (den_ne a) (den_ne b)) ?_ ?_
  · rw [Int.natAbs_mul]
    exact pmul ha.1 hb.1
  · rw [Int.natAbs_mul]
    exact pmul ha.2 hb.2
theorem RB.div {m n : Nat} {a b : Rat} (h : b ≠ 0) (ha : RB m a) (hb : RB n b) : RB (m + n) (a / b) := by
  rw [← fr_div a b h]
  refine RB.of (mul_ne (den_ne a) (num_ne h)) ?_ ?_
  · rw [Int.natAbs_mul]
    exact pmul ha.1 hb.2
  · rw [Int.natAbs_mul]
    exact pmul ha.2 hb.1
theorem RB.int {m : Nat} {n : Int} (h : n.natAbs < 2 ^ m) (k : 1 ≤ m) : RB m (n : Rat) := by
  unfold RB
  rw [Rat.num_intCast, Rat.den_intCast]
  exact ⟨h, Nat.lt_of_lt_of_le (by decide : 1 < 2 ^ 1) (Nat.pow_le_pow_right (by decide) k)⟩
theorem RB.pow {m : Nat} {a : Rat} (ha : RB m a) : ∀ k : Nat, RB (m * k + 1) (a ^ k)
  | 0 => by
    rw [Rat.pow_zero]
    exact RB.int (n := 1) (by rw [Nat.mul_zero]; decide) (by omega)
  | k + 1 => by
    rw [Rat.pow_succ]
    exact (RB.mul (RB.pow ha k) ha).up (by rw [Nat.mul_succ]; omega)
/-! powers -/
theorem npow (a : Rat) (k : Nat) : (a ^ k).num = a.num ^ k := Rat.num_pow a k
theorem dpow (a : Rat) (k : Nat) : (a ^ k).den = a.den ^ k := Rat.den_pow a k
theorem le_npow (a : Nat) {k : Nat} (h : 1 ≤ k) : a ≤ a ^ k := by
  rcases Nat.eq_zero_or_pos a with e | e
  · omega
  · calc a = a ^ 1 := (Nat.pow_one a).symm
      _ ≤ a ^ k := Nat.pow_le_pow_right e h
theorem RB.root {m k : Nat} {a : Rat} (h : 1 ≤ k) (ha : RB m (a ^ k)) : RB m a := by
  unfold RB at *
  rw [npow, dpow, Int.natAbs_pow] at ha
  refine ⟨Nat.lt_of_le_of_lt (le_npow _ h) ha.1, ?_⟩
  have e : ((a.den ^ k : Nat) : Int).natAbs = a.den ^ k := Int.natAbs_natCast _
  rw [e] at ha
  rw [Int.natAbs_natCast]
  exact Nat.lt_of_le_of_lt (le_npow _ h) ha.2
theorem num_pos {a : Rat} (h : 0 < a) : 0 < a.num := by
  have h1 : 0 ≤ a.num := Rat.num_nonneg.mpr (Rat.le_of_lt h)
  have h2 : a.num ≠ 0 := num_ne (fun e => by rw [e] at h; exact absurd h (by decide))
  omega
end QM
set_option Elab.async false
set_option linter.all false
set_option maxRecDepth 100000
/-! fractions as pairs of ints; promises of the sums -/
namespace Gd
open PySem PySem.Spec PyProof.Rows L2 QM
/-- // by any divisor but 0, below 2 ^ 9000 -/
def CDivAny (_ j : Int) : Prop := j ≠ 0 ∧ j.natAbs.log2 < 9000
theorem op_fdivAny {X : Cx} : OpR X (binaryOp .FloorDiv) (rI CDivAny fun i j => .int (i.fdiv j)) := opI fun _ _ _ _ _ _ _ hc q => floordiv_int hc.1 q (.inl (PyProof.noPylong_of_log2 hc.2))
theorem B.log9 {n : Nat} {x : Int} (hx : B n x) (h : n ≤ 8900) : x.natAbs.log2 < 9000 := by
  have h1 : x.natAbs < 2 ^ 8901 := hx.up (by omega)
  exact PySem.Flt.log2_lt_of (by decide) (Nat.lt_of_lt_of_le h1 (Nat.pow_le_pow_right (by decide) (by decide)))
theorem div_any {m : Nat} {i j : Int} (h : j ≠ 0) (hb : B m j) (hm : m ≤ 8900) : CDivAny i j := ⟨h, hb.log9 hm⟩
theorem gcd_B {m : Nat} {n d : Int} (h : d ≠ 0) (hb : B m d) : B m ((Nat.gcd n.natAbs d.natAbs : Nat) : Int) := by
  unfold B at *
  have h1 : Nat.gcd n.natAbs d.natAbs ≤ d.natAbs := Nat.gcd_le_right _ (by omega)
  omega
theorem sg_B {m : Nat} {n d : Int} (h : d ≠ 0) (hb : B m d) : B m (sg n d) := by
  unfold sg
  split
  · exact (gcd_B h hb).neg
  · exact gcd_B h hb
/-- a fraction's pair -/
def fq (q : Rat) : List V := [.int q.num, .int (q.den : Int)]
theorem fq_div {n d : Int} (h : d ≠ 0) : [V.int (n.fdiv (sg n d)), V.int (d.fdiv (sg n d))] = fq (Rat.divInt n d) := by
  unfold fq
  rw [fr_num h, fr_den h]
theorem fq_int (n : Int) : fq (n : Rat) = [.int n, .int 1] := by
  unfold fq
  rw [Rat.num_intCast, Rat.den_intCast]
  rfl
theorem fq_inj {a b : Rat} (h : fq a = fq b) : a = b := by
  unfold fq at h
  simp only [List.cons.injEq, V.int.injEq, and_true] at h
  exact Rat.ext h.1 (by omega)
def dq (q : Rat) : PyData := .tuple [.int q.num, .int (q.den : Int)]
theorem dp_q {K : PySem.W.Frag} {H : Hp} {p : Addr} {q : Rat} (h : SqT K H p (fq q)) : Dp K H (.ref p) (dq q) := .tup h (.cons (.int _) (.cons (.int _) .nil))
theorem dq_inj {a b : Rat} : dq a = dq b ↔ a = b := by
  constructor
  · intro h
    unfold dq at h
    simp only [PyData.tuple.injEq, List.cons.injEq, PyData.int.injEq, and_true] at h
    exact Rat.ext h.1 (by omega)
  · rintro rfl
    rfl
theorem _root_.QM.RB.n {m : Nat} {q : Rat} (h : RB m q) : B m q.num := h.1
theorem _root_.QM.RB.d {m : Nat} {q : Rat} (h : RB m q) : B m (q.den : Int) := h.2
theorem okq {m : Nat} {q : Rat} (h : RB m q) (k : m ≤ 1900) : okD (dq q) = true := by
  have h1 := B.log (RB.n h) k
  have h2 := B.log (RB.d h) k
  unfold dq
  rw [okD, okAll, okAll, okAll, okD, okD]
  rw [decide_eq_true h1, decide_eq_true h2]
  rfl
def spCut (K : PySem.W.Frag) : Sp := fun vs H Q _ => ∃ n d : Int, vs = [.int n, .int d] ∧ d ≠ 0 ∧ B 8200 n ∧ B 8200 d ∧ ∀ t, H t = none → Q (.ref t) (upd H t (.tup (fq (Rat.divInt n d))))
def spBin (ok : Rat → Rat → Prop) (op : Rat → Rat → Rat) (K : PySem.W.Frag) : Sp := fun vs H Q _ => ∃ (f g : Addr) (a b : Rat), vs = [.ref f, .ref g] ∧ SqT K H f (fq a) ∧ SqT K H g (fq b) ∧ RB 4000 a ∧ RB 4000 b ∧ ok a b ∧ ∀ t, H t = none → Q (.ref t) (upd H t (.tup (fq (op a b))))
/-- a list of fractions -/
def FrL (K : PySem.W.Frag) (H : Hp) (m : Nat) (ps : List (Addr × Rat)) : Prop := ∀ p ∈ ps, SqT K H p.1 (fq p.2) ∧ RB m p.2
def spSum (op : Rat → Rat → Rat) (e : Rat) (K : PySem.W.Frag) : Sp := fun vs H Q _ => ∃ (l : Addr) (ps : List (Addr × Rat)) (m : Nat), vs = [.ref l] ∧ SqL K H l (ps.map fun p => .ref p.1) ∧ FrL K H m ps ∧ ps.length * (m + 1) ≤ 3900 ∧ ∀ H' t, Same H H' → H t = none → H' t = some (.tup (fq (ps.foldl (fun x p => op x p.2) e))) → RB (ps.length * (m + 1) + 1) (ps.foldl (fun x p => op x p.2) e) → Q (.ref t) H'
/-- a list that is being made of the fractions of ints -/
def FrD (H : Hp) (D : Addr) (ns : List Int) (i : Nat) : Prop := ∃ L : List Addr, H D = some (.lst (L.map V.ref)) ∧ L.length = i ∧ ∀ (j : Nat) (p : Addr), L[j]? = some p → ∃ n : Int, ns[j]? = some n ∧ H p = some (.tup (fq (n : Rat)))
theorem FrD.new {H : Hp} {D : Addr} {ns : List Int} : FrD (upd H D (.lst [])) D ns 0 := ⟨[], upd_same, rfl, fun j p h => by simp at h⟩
theorem FrD.push {H : Hp} {D t : Addr} {ns : List Int} {i : Nat} {n : Int} (h : FrD H D ns i) (hi : ns[i]? = some n) (nt : H t = none) (hl : i < 1000) :
    ∃ acc, (upd H t (.tup (fq (n : Rat)))) D = some (.lst acc) ∧ acc.length < sizeLine ∧ FrD (upd (upd H t (.tup (fq (n : Rat)))) D (.lst (acc ++ [.ref t]))) D ns (i + 1) := by
  obtain ⟨L, h1, h2, h3⟩ := h
  have hDt : D ≠ t := ne_of_none h1 nt
  refine ⟨L.map V.ref, by rw [upd_ne hDt]; exact h1, by rw [List.length_map]; exact small1000 (by omega), L ++ [t], ?_, by rw [List.length_append, h2]; rfl, fun j p hj => ?_⟩
  · rw [upd_same, List.map_append]
    rfl
  · rcases Nat.lt_or_ge j L.length with z | z
    · rw [List.getElem?_append_left z] at hj
      obtain ⟨m, hm, hp⟩ := h3 j p hj
      refine ⟨m, hm, ?_⟩
      have hpD : p ≠ D := ne_of hp h1 (by intro z; cases z)
      rw [upd_ne hpD, upd_ne (ne_of_none hp nt)]
      exact hp
    · rw [List.getElem?_append_right z] at hj
      have e : j - L.length = 0 := by
        rcases Nat.eq_zero_or_pos (j - L.length) with q | q
        · exact q
        · rw [List.getElem?_eq_none (by simp; omega)] at hj
          cases hj
      rw [e] at hj
      obtain rfl := Option.some.inj hj
      have ej : j = i := by omega
      refine ⟨n, by rw [ej]; exact hi, ?_⟩
      rw [upd_ne (fun q => hDt q.symm), upd_same]
theorem FrD.five {H : Hp} {D : Addr} {a b c d e : Int} (h : FrD H D [a, b, c, d, e] 5) : ∃ p1 p2 p3 p4 p5, H D = some (.lst [.ref p1, .ref p2, .ref p3, .ref p4, .ref p5]) ∧ H p1 = some (.tup (fq (a : Rat))) ∧ H p2 = some (.tup (fq (b : Rat))) ∧ H p3 = some (.tup (fq (c : Rat))) ∧ H p4 = some (.tup (fq (d : Rat))) ∧ H p5 = some (.tup (fq (e : Rat))) := by
  obtain ⟨L, h1, h2, h3⟩ := h
  match L, h2 with
  | [p1, p2, p3, p4, p5], _ =>
    have g : ∀ (j : Nat) (p : Addr) (n : Int), [p1, p2, p3, p4, p5][j]? = some p → [a, b, c, d, e][j]? = some n → H p = some (.tup (fq (n : Rat))) := fun j p n x y => by
      obtain ⟨m, hm, hp⟩ := h3 j p x
      rw [y] at hm
      obtain rfl := Option.some.inj hm
      exact hp
    exact ⟨p1, p2, p3, p4, p5, h1, g 0 _ _ rfl rfl, g 1 _ _ rfl rfl, g 2 _ _ rfl rfl, g 3 _ _ rfl rfl, g 4 _ _ rfl rfl⟩
/-! what stands of fractions in the heap -/
def FrE (K : PySem.W.Frag) (H : Hp) (es : List (Addr × Rat × Nat)) : Prop := ∀ x ∈ es, SqT K H x.1 (fq x.2.1) ∧ RB x.2.2 x.2.1
section
variable {K : PySem.W.Frag} {H H' : Hp} {es : List (Addr × Rat × Nat)} {p r : Addr} {a b : Rat} {m n : Nat} {Q : VK} {Z : XK}
theorem FrE.nil : FrE K H [] := fun x h => by cases h
theorem FrE.same (h : FrE K H es) (s : Same H H') : FrE K H' es := fun x k => ⟨Same.tup s (h x k).1, (h x k).2⟩
theorem FrE.get (h : FrE K H es) (k : (p, a, m) ∈ es) : SqT K H p (fq a) := (h _ k).1
theorem FrE.rb (h : FrE K H es) (k : (p, a, m) ∈ es) : RB m a := (h _ k).2
theorem FrE.add (h : FrE K H es) (k : SqT K H p (fq a)) (b : RB m a) : FrE K H ((p, a, m) :: es) := fun x z => by
  rcases List.mem_cons.mp z with rfl | z
  · exact ⟨k, b⟩
  · exact h x z
theorem FrE.re (h : FrE K H ((p, a, m) :: es)) (e : a = b) (k : RB n b) : FrE K H ((p, b, n) :: es) := fun x z => by
  subst e
  rcases List.mem_cons.mp z with rfl | z
  · exact ⟨(h _ List.mem_cons_self).1, k⟩
  · exact h x (List.mem_cons_of_mem _ z)
theorem FrE.sub {fs : List (Addr × Rat × Nat)} (h : FrE K H es) (k : ∀ x ∈ fs, x ∈ es) : FrE K H fs := fun x z => h x (k x z)
theorem stepE (E : FrE K H es) {t : Addr} (n : H t = none) {c : Rat} {k : Nat} (hb : RB k c) : ∃ H', upd H t (.tup (fq c)) = H' ∧ Same H H' ∧ FrE K H' ((t, c, k) :: es) :=
  ⟨_, rfl, Same.new n, (E.same (Same.new n)).add (tup_of upd_same) hb⟩
theorem litE (E : FrE K H es) {t : Addr} (n : H t = none) {vs : List V} {c : Rat} {k : Nat} (e : vs = fq c) (hb : RB k c) : ∃ H', upd H t (.tup vs) = H' ∧ Same H H' ∧ FrE K H' ((t, c, k) :: es) := by
  subst e
  exact stepE E n hb
theorem FrL.nil {M : Nat} : FrL K H M [] := fun x h => by cases h
theorem FrL.cons {M : Nat} {ps : List (Addr × Rat)} (E : FrE K H es) (k : (p, a, m) ∈ es) (hm : m ≤ M) (h : FrL K H M ps) : FrL K H M ((p, a) :: ps) := fun x z => by
  rcases List.mem_cons.mp z with rfl | z
  · exact ⟨E.get k, (E.rb k).up hm⟩
  · exact h x z
end
mutual
theorem dp_same {K : PySem.W.Frag} {H H' : Hp} (s : Same H H') : ∀ (d : PyData) (v : V), Dp K H v d → Dp K H' v d
  | .none, _, h => by
    cases h
    exact .non
  | .bool _, _, h => by
    cases h
    exact .bl _
  | .int _, _, h => by
    cases h
    exact .int _
  | .str _, _, h => by
    cases h
    exact .str _
  | .list ds, _, h => by
    cases h with
    | lst h1 h2 => exact .lst (s.seq h1) (dp_sameAll s ds _ h2)
  | .tuple ds, _, h => by
    cases h with
    | tup h1 h2 => exact .tup (Same.tup s h1) (dp_sameAll s ds _ h2)
  | .dict _, _, h => by cases h
theorem dp_sameAll {K : PySem.W.Frag} {H H' : Hp} (s : Same H H') : ∀ (ds : List PyData) (vs : List V), DpAll K H vs ds → DpAll K H' vs ds
  | [], _, h => by
    cases h
    exact .nil
  | d :: ds, _, h => by
    cases h with
    | cons h1 h2 => exact .cons (dp_same s d _ h1) (dp_sameAll s ds _ h2)
end
/-- a list's cell is no tuple's -/
theorem tup_put {K : PySem.W.Frag} {H : Hp} {D p : Addr} {L xs : List V} {o : HO} (hD : H D = some (.lst L)) (e : SqT K H p xs) : SqT K (upd H D o) p xs := by
  rcases e with (e | ⟨z, e⟩) | e
  · refine Or.inl (Or.inl ?_)
    rw [upd_ne (ne_of e hD (by intro z; cases z))]
    exact e
  · refine Or.inl (Or.inr ⟨z, ?_⟩)
    rw [upd_ne (ne_of e hD (by intro z; cases z))]
    exact e
  · exact Or.inr e
mutual
def noL : PyData → Bool
  | .list _ => false
  | .tuple ds => noLAll ds
  | .dict _ => false
  | _ => true
def noLAll : List PyData → Bool
  | [] => true
  | d :: ds => noL d && noLAll ds
end
mutual
theorem dp_put {K : PySem.W.Frag} {H : Hp} {D : Addr} {L : List V} {o : HO} (hD : H D = some (.lst L)) : ∀ (d : PyData) (v : V), noL d = true → Dp K H v d → Dp K (upd H D o) v d
  | .none, _, _, h => by
    cases h
    exact .non
  | .bool _, _, _, h => by
    cases h
    exact .bl _
  | .int _, _, _, h => by
    cases h
    exact .int _
  | .str _, _, _, h => by
    cases h
    exact .str _
  | .list ds, _, n, h => by
    rw [noL] at n
    cases n
  | .tuple ds, _, n, h => by
    rw [noL] at n
    cases h with
    | tup h1 h2 => exact .tup (tup_put hD h1) (dp_putAll hD ds _ n h2)
  | .dict _, _, _, h => by cases h
theorem dp_putAll {K : PySem.W.Frag} {H : Hp} {D : Addr} {L : List V} {o : HO} (hD : H D = some (.lst L)) : ∀ (ds : List PyData) (vs : List V), noLAll ds = true → DpAll K H vs ds → DpAll K (upd H D o) vs ds
  | [], _, _, h => by
    cases h
    exact .nil
  | d :: ds, _, n, h => by
    rw [noLAll, Bool.and_eq_true] at n
    cases h with
    | cons h1 h2 => exact .cons (dp_put hD d _ n.1 h1) (dp_putAll hD ds _ n.2 h2)
end
end Gd
set_option Elab.async false
set_option linter.all false
set_option maxRecDepth 100000
/-! Dicts whose keys are tuples: displays, copies. -/
namespace Gd
open PySem PySem.Spec PyProof.Rows L2
def mergeT (kvs more : List (List L2.Key × V)) : List (List L2.Key × V) := more.foldl (fun acc kv => putK acc kv.1 kv.2) kvs
theorem kt_merge {H : Hp} : ∀ {more : List (List L2.Key × V)} {rs : List (List L2.Key × Addr × Value)} {kvs : List (List L2.Key × V)} {xs : List (List L2.Key × Addr × Value)}, KT H more rs → KT H kvs xs → KT H (mergeT kvs more) (storedAllH xs rs)
  | [], _, kvs, xs, r, q => by
    cases r
    exact q
  | p :: more, _, kvs, xs, r, q => by
    cases r with
    | @cons p q' ps qs h t =>
      obtain ⟨h1, h2, h3⟩ := h
      have e : KT H (putK kvs p.1 p.2) (storedH xs q'.1 q'.2.1 q'.2.2) := by
        rw [← h1]
        exact q.put p.1 h2 h3
      exact kt_merge (kvs := putK kvs p.1 p.2) (xs := storedH xs q'.1 q'.2.1 q'.2.2) t e
theorem length_mergeT : ∀ (more kvs : List (List L2.Key × V)), (mergeT kvs more).length ≤ kvs.length + more.length
  | [], kvs => by show kvs.length ≤ kvs.length + 0; omega
  | p :: r, kvs => by
    have h1 := length_mergeT r (putK kvs p.1 p.2)
    have h2 := length_putK kvs p.1 p.2
    show (mergeT (putK kvs p.1 p.2) r).length ≤ _
    rw [List.length_cons]
    omega
/-- the pairs of a display: each key a tuple of ints and texts -/
abbrev PT2 (H : Hp) : List (V × V) → List (List L2.Key × V) → Prop := Paired fun p kv => (∃ b, p.1 = .ref b ∧ H b = some (.tup (kv.1.map kV))) ∧ p.2 = kv.2
theorem carriesT {P : Program} {w : World} {H : Hp} {h : Heap} (ok : HOk P w H h) : ∀ {ps : List (V × V)} {kvs : List (List L2.Key × V)} {ws : List (Value × Value)}, PT2 H ps kvs → VV ps ws → ∃ rs, CarriesH (tupleKind (mixKind P w)) h ws rs ∧ KT H kvs rs
  | [], _, _, c, r => by
    cases c
    cases r
    exact ⟨[], True.intro, .nil⟩
  | p :: ps, _, _, c, r => by
    cases c with
    | @cons p kv ps kvs hc tc =>
      cases r with
      | @cons p u ps us hr tr =>
        obtain ⟨⟨b, e1, e2⟩, e3⟩ := hc
        obtain ⟨r1, r2⟩ := hr
        obtain ⟨rs, c', k'⟩ := carriesT ok tc tr
        have e4 : u.1 = Value.ref b := by
          rw [e1] at r1
          exact r1
        refine ⟨(kv.1, b, u.2) :: rs, ⟨e4, rfl, key_of ok e2, c'⟩, .cons ⟨rfl, e2, ?_⟩ k'⟩
        rw [← e3]
        exact r2
def tDispT (trs : List (TE × TE)) : TE := fun σ H Q => ∀ p, H p = none → tPairs trs σ (upd H p (.dT [])) fun ps H2 => H2 p = some (.dT []) ∧ ∃ kvs : List (List L2.Key × V), PT2 H2 ps kvs ∧ kvs.length ≤ 15 ∧ Q (.ref p) (upd H2 p (.dT (mergeT [] kvs)))
theorem pe_dispT {X : Cx} {pos : Pos} {keys : List (Option Expr)} {values : List Expr} {trs : List (TE × TE)} (hu : X.A.units + 1 < cLine) (h : PPs X pos keys values trs) (hall : keys.all (·.isSome) = true) (hl : keys.length = values.length) (h0 : keys ≠ [])
    (h15 : keys.length ≤ 15) : PE X (.Dict keys values pos) (tDispT trs) := by
  refine ⟨fun pins s σ H Q I q => ?_⟩
  have hn := I.hok.fresh (Nat.le_refl s.heap.objs.size)
  have I1 := I.laid (a := s.heap.objs.size) (o := .dT []) (h' := s.heap.push { cls := .type "dict", data := .dict #[] }) (t' := s.toks) (fun _ _ q => Heap.get?_push_of_some _ q) (Nat.le_refl _) (dt_empty s.heap I.big)
  have hpl := pairTrees_length keys values X.env pos hall hl
  rw [arm_eval_Dict, zip_pairTrees keys values X.env pos hall hl, dictDisplay_pairs (pairTrees keys values X.env pos) (by
    intro he
    rw [he] at hpl
    exact h0 (List.length_eq_zero_iff.mp hpl.symm)) (by omega)]
  refine wpAny_bind (wpAny_standAt (wpAny_bind (wpAny_subDictH (knd := tupleKind (mixKind X.prog X.w)) (Q := fun d s' => wpAny (model X.prog X.w) X.A (pure (Value.ref d)) _ X.xe s') ?_ (by omega) (thn (h.run pins _ σ _ _ I1 (q _ hn)) fun ws s2 ⟨ps, H2, I2, rel, e, kvs, pt, lk, q2⟩ => ?_))))
  · exact Nat.lt_of_succ_lt hu
  obtain ⟨rs, c, rk⟩ := carriesT (P := X.prog) (w := X.w) I2.hok pt rel
  obtain ⟨z, hd, xs0, r0, dd⟩ := dt_of I2.hok e
  cases r0
  refine ⟨rs, c, dd, fun h' tk dd' hs => wpAny_pure ⟨.ref s.heap.objs.size, _, ?_, rfl, q2⟩⟩
  have hz : (mergeT [] kvs).length ≤ sizeLine := by
    have h1 := length_mergeT kvs []
    rw [List.length_nil] at h1
    rw [sizeLine_eq]
    omega
  obtain ⟨qo, es, ep, hq, d2, d3, d4, _, d5⟩ := dd'
  refine d_write I2 (by rw [e]; exact True.intro) hs ⟨qo, hq⟩ ⟨hz, hd, _, (kt_merge rk .nil).keeps fun c ys ec => ?_, qo, es, ep, hq, d2, d3, d4, d5⟩
  rw [upd_ne (ne_of ec e (fun z => nomatch z))]
  exact ec
/-- the keys of the text's dicts hash apart -/
def HApart (P : Program) (w : World) (ks : List (List L2.Key)) : Prop := (ks.map fun k => (tupleKind (mixKind P w)).hash k).Nodup
theorem dict_of_keyed {prog : Program} {w : World} {K : Type} [DecidableEq K] {knd : HeapKind prog w K} {A : Around} {E : Value → Shared → Prop} {s : Shared} {o : Addr} {more : List (K × Addr × Value)} {Q : Value → Shared → Prop} (hu : knd.room A.in1.in1) (hst : ∀ h', (∀ b ob, s.heap.get? b = some ob → h'.get? b = some ob) → ∀ x ∈ more, knd.is h' x.1 x.2.1)
    (hoS : (o == sysModules) = false) (ho : s.heap.DictOfH knd o more) (hty : ∀ x ∈ more, s.TypeIs (.ref x.2.1) "tuple") (hap : (more.map fun x => knd.hash x.1).Nodup) (hsz : more.length ≤ sizeLine)
    (h : ∀ h', h'.DictOfH knd s.heap.objs.size (storedAllH [] more) → Heap.SameBut s.heap.objs.size (s.heap.push { cls := .type "dict", data := .dict #[] }) h' → Q (.ref s.heap.objs.size) { s with heap := h' }) :
    wpAny (model prog w) A (call (.type "dict") [.ref o]) Q E s := by
  refine callType_codes (Q₁ := fun obj s₁ => obj = .ref s.heap.objs.size ∧ s₁ = { s with heap := s.heap.push { cls := .type "dict", data := .dict #[] } }) F.kt_called_dict (F.kt_typeCall_dict_1 _) F.entry_dict_init (kt_code_dict_new _ ⟨rfl, rfl⟩) ?_
  rintro obj s₁ ⟨rfl, rfl⟩
  have keep : ∀ b ob, s.heap.get? b = some ob → (s.heap.push { cls := .type "dict", data := .dict #[] }).get? b = some ob := fun b ob e => Heap.get?_push_of_some _ e
  have hnew : (s.heap.push { cls := .type "dict", data := .dict #[] }).DictOfH knd s.heap.objs.size [] := ⟨_, #[], 0, Heap.get?_push_size _ rfl, ⟨rfl, rfl, rfl⟩, rfl, rfl, (fun x hx => nomatch hx), List.nodup_nil⟩
  obtain ⟨oo, es, ep, hoo, hco, hdat, he, his, hn⟩ := id ho
  have ho' : (s.heap.push { cls := .type "dict", data := .dict #[] }).DictOfH knd o more := ⟨oo, es, ep, keep _ _ hoo, hco, hdat, he, hst _ keep, hn⟩
  have hdo : s.heap.objs.size ≠ o := fun e => absurd (Heap.lt_size hoo) (by rw [e]; exact Nat.lt_irrefl _)
  refine ⟨hnew.typeIs, F.args_dict_init_2 _ _, ?_⟩
  unfold Builtin.«dict.__init__»
  refine wpAny_bind ?_
  unfold Builtin.Dict.selfAndRest
  refine wpAny_bind (wpAny_notOrdered_dict hnew.typeIs ?_)
  show wpAny _ _ (pure (s.heap.objs.size, [Value.ref o])) _ _ _
  refine wpAny_pure ?_
  exact updateFrom_dictH (s := { s with heap := s.heap.push { cls := .type "dict", data := .dict #[] } }) (R := wants (fun r s1 => r = .none ∧ Q (.ref s.heap.objs.size) s1) E) (A := A.in1) .none hu hdo hoS hnew ho' (.inr ⟨fun x hx => (hty x hx).imp fun ob y => ⟨keep _ _ y.1, y.2⟩, hap⟩) (by simpa using hsz) fun h' hd' _ hs' => ⟨rfl, h h' hd' hs'⟩
theorem kt_fst {H : Hp} {kvs : List (List L2.Key × V)} {xs : List (List L2.Key × Addr × Value)} (r : KT H kvs xs) : xs.map (·.1) = kvs.map (·.1) := by
  induction r with
  | nil => rfl
  | @cons p q ps qs h t ih => rw [List.map_cons, List.map_cons, ih, h.1]
theorem kt_mem {H : Hp} {kvs : List (List L2.Key × V)} {xs : List (List L2.Key × Addr × Value)} (r : KT H kvs xs) : ∀ x ∈ xs, H x.2.1 = some (.tup (x.1.map kV)) := by
  induction r with
  | nil => intro x hx; exact nomatch hx
  | @cons p q ps qs h t ih =>
    intro x hx
    rcases List.mem_cons.mp hx with e | hx
    · subst e
      rw [← h.1]
      exact h.2.1
    · exact ih x hx
/-- dict(d): a copy -/
theorem call_dictT {X : Cx} (hu : X.A.units + 2 < cLine) : CallR X (.type "dict") (fun xs H Q => ∃ (a : Addr) (kvs : List (List L2.Key × V)), xs = [.ref a] ∧ Rd H a (.dT kvs) ∧ HApart X.prog X.w (kvs.map (·.1)) ∧ ∀ p, H p = none → Q (.ref p) (upd H p (.dT (mergeT [] kvs)))) := by
  intro pins s σ H xs us Q I r q
  obtain ⟨a, kvs, ex, hd, hap, q⟩ := q
  subst ex
  obtain ⟨u, eu, rx⟩ := vals1 r
  subst eu
  cases rx
  obtain ⟨z, lo, vs, rel, dd⟩ := dt_rd I.hok hd
  have hmem := kt_mem rel
  refine dict_of_keyed (knd := tupleKind (mixKind X.prog X.w)) hu (fun h' hk x hx => ?_) lo dd (fun x hx => ?_) ?_ (by rw [← Paired.length rel]; exact z) fun h' d' hs => ?_
  · obtain ⟨o, its, n, h1, h2, h3, h4⟩ := key_of I.hok (hmem x hx)
    exact ⟨o, its, n, hk _ _ h1, h2, h3, h4⟩
  · obtain ⟨o, its, n, h1, h2, h3, h4⟩ := key_of I.hok (hmem x hx)
    exact ⟨o, h1, h2⟩
  · have e : vs.map (fun x => (tupleKind (mixKind X.prog X.w)).hash x.1) = (vs.map (·.1)).map (fun k => (tupleKind (mixKind X.prog X.w)).hash k) := by
      rw [List.map_map]
      rfl
    rw [e, kt_fst rel]
    exact hap
  · have hm : (s.heap.objs.size == sysModules) = false := beq_eq_false_iff_ne.mpr (Nat.ne_of_gt I.big)
    have hz : (mergeT [] kvs).length ≤ sizeLine := by
      have h1 := length_mergeT kvs []
      rw [List.length_nil] at h1
      omega
    obtain ⟨qo, es, ep, hq, d2, d3, d4, _, d5⟩ := d'
    refine ⟨.ref s.heap.objs.size, upd H s.heap.objs.size (.dT (mergeT [] kvs)), I.laid (t' := s.toks) (fun b u e => (hs.2 b (Nat.ne_of_lt (Heap.lt_size e))).trans (Heap.get?_push_of_some _ e)) (Nat.le_refl _)
      ⟨hz, hm, _, (kt_merge rel .nil).keeps fun c ys ec => ?_, qo, es, ep, hq, d2, d3, d4, d5⟩, rfl, q _ (I.hok.fresh (Nat.le_refl _))⟩
    rw [upd_ne (ne_of_none ec (I.hok.fresh (Nat.le_refl _)))]
    exact ec
end Gd
set_option Elab.async false
set_option linter.all false
set_option maxRecDepth 100000
/-! polynomials in two letters as dicts -/
namespace Gd
open PySem PySem.Spec PyProof.Rows L2 QM
abbrev PL := List ((Int × Int) × Rat)
def kk (p : Int × Int) : List L2.Key := [.inl p.1, .inl p.2]
theorem kk_inj {p q : Int × Int} : kk p = kk q ↔ p = q := by
  constructor
  · intro h
    unfold kk at h
    simp only [List.cons.injEq, Sum.inl.injEq, and_true] at h
    exact Prod.ext h.1 h.2
  · rintro rfl
    rfl
theorem kk_tup (p : Int × Int) : (kk p).map kV = [.int p.1, .int p.2] := rfl
def plook (L : PL) (k : Int × Int) : Option Rat := (L.find? fun e => decide (e.1 = k)).map (·.2)
def pput (L : PL) (k : Int × Int) (v : Rat) : PL := if (L.any fun e => decide (e.1 = k)) = true then L.map (fun e => if e.1 = k then (e.1, v) else e) else L ++ [(k, v)]
abbrev PR (K : PySem.W.Frag) (H : Hp) (m : Nat) : List (List L2.Key × V) → PL → Prop := Paired fun kv e => kv.1 = kk e.1 ∧ ∃ a, kv.2 = .ref a ∧ SqT K H a (fq e.2) ∧ RB m e.2
section
variable {K : PySem.W.Frag} {H H' : Hp} {m n : Nat}
/-- what a look into it finds -/
def Fnd (K : PySem.W.Frag) (H : Hp) (m : Nat) : Option V → Option Rat → Prop
  | none, none => True
  | some v, some q => ∃ a, v = .ref a ∧ SqT K H a (fq q) ∧ RB m q
  | _, _ => False
theorem PR.val {kvs : List (List L2.Key × V)} {L : PL} (r : PR K H m kvs L) (k : Int × Int) : Fnd K H m (valV kvs (kk k)) (plook L k) := by
  induction r with
  | nil => exact True.intro
  | @cons p e ps es h t ih =>
    obtain ⟨h1, a, h2, h3, h4⟩ := h
    by_cases z : e.1 = k
    · have z1 : p.1 = kk k := by rw [h1, z]
      have e1 : valV (p :: ps) (kk k) = some p.2 := by simp [valV, List.find?_cons, z1]
      have e2 : plook (e :: es) k = some e.2 := by simp [plook, List.find?_cons, z]
      rw [e1, e2]
      exact ⟨a, h2, h3, h4⟩
    · have z1 : ¬ p.1 = kk k := fun y => z (kk_inj.mp (h1.symm.trans y))
      have e1 : valV (p :: ps) (kk k) = valV ps (kk k) := by simp [valV, List.find?_cons, z1]
      have e2 : plook (e :: es) k = plook es k := by simp [plook, List.find?_cons, z]
      rw [e1, e2]
      exact ih
theorem PR.any {kvs : List (List L2.Key × V)} {L : PL} (r : PR K H m kvs L) (k : Int × Int) : (kvs.any fun kv => decide (kv.1 = kk k)) = (L.any fun e => decide (e.1 = k)) := by
  induction r with
  | nil => rfl
  | @cons p e ps es h t ih =>
    rw [List.any_cons, List.any_cons, ih]
    congr 1
    rw [h.1]
    exact decide_eq_decide.mpr kk_inj
theorem PR.repl {kvs : List (List L2.Key × V)} {L : PL} (r : PR K H m kvs L) (k : Int × Int) {a : Addr} {v : Rat} (h1 : SqT K H a (fq v)) (h2 : RB m v) : PR K H m (kvs.map fun kv => if kv.1 = kk k then (kv.1, .ref a) else kv) (L.map fun e => if e.1 = k then (e.1, v) else e) := by
  induction r with
  | nil => exact .nil
  | @cons p e ps es h t ih =>
    rw [List.map_cons, List.map_cons]
    refine .cons ?_ ih
    obtain ⟨g1, g2⟩ := h
    by_cases z : e.1 = k
    · have z1 : p.1 = kk k := by rw [g1, z]
      rw [if_pos z1, if_pos z]
      exact ⟨g1, a, rfl, h1, h2⟩
    · have z1 : ¬ p.1 = kk k := fun y => z (kk_inj.mp (g1.symm.trans y))
      rw [if_neg z1, if_neg z]
      exact ⟨g1, g2⟩
theorem PR.put {kvs : List (List L2.Key × V)} {L : PL} (r : PR K H m kvs L) (k : Int × Int) {a : Addr} {v : Rat} (h1 : SqT K H a (fq v)) (h2 : RB m v) : PR K H m (putK kvs (kk k) (.ref a)) (pput L k v) := by
  unfold putK pput
  rw [r.any k]
  split
  · exact r.repl k h1 h2
  · exact Paired.snoc r ⟨rfl, a, rfl, h1, h2⟩
theorem PR.mono {kvs : List (List L2.Key × V)} {L : PL} (r : PR K H m kvs L) (ht : ∀ a xs, SqT K H a xs → SqT K H' a xs) (hm : m ≤ n) : PR K H' n kvs L :=
  Paired.mapP r fun _ _ z => ⟨z.1, z.2.imp fun a h => ⟨h.1, ht _ _ h.2.1, h.2.2.up hm⟩⟩
theorem PR.at {kvs : List (List L2.Key × V)} {L : PL} (r : PR K H m kvs L) {i : Nat} {k : List L2.Key} {v : V} (h : kvs[i]? = some (k, v)) : ∃ e, L[i]? = some e ∧ k = kk e.1 := by
  induction r generalizing i with
  | nil => simp at h
  | @cons p e ps es g t ih =>
    cases i with
    | zero =>
      simp only [List.getElem?_cons_zero, Option.some.injEq] at h
      subst h
      exact ⟨e, rfl, g.1⟩
    | succ j =>
      rw [List.getElem?_cons_succ] at h
      exact ih h
theorem plook_mem {L : PL} {e : (Int × Int) × Rat} (h : e ∈ L) : ∃ q, plook L e.1 = some q := by
  unfold plook
  cases z : L.find? fun x => decide (x.1 = e.1) with
  | some y => exact ⟨_, rfl⟩
  | none =>
    have := List.find?_eq_none.mp z e h
    simp at this
/-- the polynomial stands at p -/
def PAt (K : PySem.W.Frag) (H : Hp) (p : Addr) (L : PL) (m : Nat) : Prop := ∃ kvs, H p = some (.dT kvs) ∧ PR K H m kvs L
theorem PAt.same {p : Addr} {L : PL} (s : Same H H') (h : PAt K H p L m) : PAt K H' p L m := by
  obtain ⟨kvs, h1, h2⟩ := h
  exact ⟨kvs, s _ _ h1, h2.mono (fun _ _ => Same.tup s) (Nat.le_refl _)⟩
theorem PAt.up {p : Addr} {L : PL} (h : PAt K H p L m) (k : m ≤ n) : PAt K H p L n := by
  obtain ⟨kvs, h1, h2⟩ := h
  exact ⟨kvs, h1, h2.mono (fun _ _ z => z) k⟩
/-- a tuple is no dict -/
theorem tup_putD {D p : Addr} {kvs : List (List L2.Key × V)} {xs : List V} {o : HO} (hD : H D = some (.dT kvs)) (e : SqT K H p xs) : SqT K (upd H D o) p xs := by
  rcases e with (e | ⟨z, e⟩) | e
  · refine Or.inl (Or.inl ?_)
    rw [upd_ne (ne_of e hD (by intro z; cases z))]
    exact e
  · refine Or.inl (Or.inr ⟨z, ?_⟩)
    rw [upd_ne (ne_of e hD (by intro z; cases z))]
    exact e
  · exact Or.inr e
theorem tup_putF {D p : Addr} {od : Obj} {kvs : List (List L2.Key × V)} {xs : List V} {o : HO} (hD : H D = some (.frz od (.dT kvs))) (e : SqT K H p xs) : SqT K (upd H D o) p xs := by
  by_cases z : p = D
  · subst z
    rcases e with (e | ⟨z, e⟩) | e
    · rw [hD] at e
      cases e
    · rw [hD] at e
      cases e
    · exact Or.inr e
  · rcases e with (e | ⟨y, e⟩) | e
    · exact Or.inl (Or.inl (by rw [upd_ne z]; exact e))
    · exact Or.inl (Or.inr ⟨y, by rw [upd_ne z]; exact e⟩)
    · exact Or.inr e
/-- what was locked is as it was -/
theorem unlock_same {p : Addr} {od : Obj} {u : HO} (h : H p = some u) (s : Same (upd H p (.frz od u)) H') : Same H (upd H' p u) := fun c o e => by
  by_cases z : c = p
  · subst z
    rw [upd_same]
    rw [h] at e
    exact e
  · rw [upd_ne z]
    exact s _ _ (by rw [upd_ne z]; exact e)
end
/-! products and sums -/
def padd (L : PL) (k : Int × Int) (v : Rat) : PL := pput L k ((plook L k).getD 0 + v)
def pby1 (f g : PL) (e : Int × Int) (acc : PL) (L : PL) : PL := L.foldl (fun a d => padd a (e.1 + d.1.1, e.2 + d.1.2) ((plook f e).getD 0 * (plook g d.1).getD 0)) acc
def pby (f g : PL) : PL := f.foldl (fun a e => pby1 f g e.1 a g) []
def pcopy (f : PL) : PL := f.foldl (fun a e => pput a e.1 e.2) []
def pplus (f g : PL) (by_ : Rat) : PL := g.foldl (fun a e => pput a e.1 ((plook a e.1).getD 0 + by_ * (plook g e.1).getD 0)) (pcopy f)
theorem PR.copy {K : PySem.W.Frag} {H : Hp} {m : Nat} {kvs acc : List (List L2.Key × V)} {L A : PL} (r : PR K H m kvs L) (q : PR K H m acc A) : PR K H m (mergeT acc kvs) (L.foldl (fun a e => pput a e.1 e.2) A) := by
  induction r generalizing acc A with
  | nil => exact q
  | @cons p e ps es h t ih =>
    obtain ⟨h1, a, h2, h3, h4⟩ := h
    have z : PR K H m (putK acc p.1 p.2) (pput A e.1 e.2) := by
      rw [h1, h2]
      exact q.put e.1 h3 h4
    exact ih z
def hh (p : Int × Int) : Int := reduceHash (Builtin.Tuple.tupleHashOf [hashInt p.1, hashInt p.2])
theorem hap_of (P : Program) (w : World) {ks : List (List L2.Key)} (ps : List (Int × Int)) (e : ks = ps.map kk) (h : (ps.map hh).Nodup) : HApart P w ks := by
  subst e
  unfold HApart
  rw [List.map_map]
  exact h
theorem PR.keys {K : PySem.W.Frag} {H : Hp} {m : Nat} {kvs : List (List L2.Key × V)} {L : PL} (r : PR K H m kvs L) : kvs.map (·.1) = (L.map (·.1)).map kk := by
  induction r with
  | nil => rfl
  | @cons p e ps es h t ih => rw [List.map_cons, List.map_cons, List.map_cons, ih, h.1]
end Gd
set_option Elab.async false
set_option linter.all false
set_option maxRecDepth 100000
set_option maxHeartbeats 4000000
namespace K06
open PySem PySem.Spec PyProof.Rows L2 Gd QM
def topS (i : Nat) : Stmt := PySem.Challenge.pw_pointsum_k06_whole_changes.main.body.getD i (.Pass ⟨0, 0, 0, 0⟩)
/-- what the walk asks of the module's names -/
structure Tx (K : PySem.W.Frag) (mg : Str → Option Value) : Prop where
  gcd : mg "gcd" = some (.builtin "math.gcd")
  int : mg "int" = none
  len : mg "len" = none
  tuple : mg "tuple" = none
  any : mg "any" = none
  dict : mg "dict" = none
  min : mg "min" = none
  abs : mg "abs" = none
  range : mg "range" = none
  repr : mg "repr" = none
theorem iteN {c A B : Prop} [Decidable c] (h : ¬ c) (b : B) : if c then A else B := by
  rw [if_neg h]
  exact b
theorem iteY {c A B : Prop} [Decidable c] (h : c) (b : A) : if c then A else B := by
  rw [if_pos h]
  exact b
/-- the five numbers of a curve -/
structure Cv where
  a1 : Int
  a2 : Int
  a3 : Int
  a4 : Int
  a6 : Int
namespace Cv
variable (c : Cv)
def tup : List V := [.int c.a1, .int c.a2, .int c.a3, .int c.a4, .int c.a6]
def b2 : Int := c.a1 * c.a1 + 4 * c.a2
def b4 : Int := 2 * c.a4 + c.a1 * c.a3
def b6 : Int := c.a3 * c.a3 + 4 * c.a6
def b8 : Int := c.a1 * c.a1 * c.a6 + 4 * c.a2 * c.a6 - c.a1 * c.a3 * c.a4 + c.a2 * c.a3 * c.a3 - c.a4 * c.a4
def c4 : Int := c.b2 * c.b2 - 24 * c.b4
def c6 : Int := 36 * c.b2 * c.b4 - c.b2 * c.b2 * c.b2 - 216 * c.b6
def disc : Int := 9 * c.b2 * c.b4 * c.b6 - c.b2 * c.b2 * c.b8 - 8 * c.b4 * c.b4 * c.b4 - 27 * c.b6 * c.b6
def nums : List V := [.int c.b2, .int c.b4, .int c.b6, .int c.b8, .int c.c4, .int c.c6, .int c.disc]
/-- small numbers: two more than a curve that is passed -/
structure Sm : Prop where
  h1 : B 12 c.a1
  h2 : B 12 c.a2
  h3 : B 12 c.a3
  h4 : B 32 c.a4
  h6 : B 32 c.a6
end Cv
local macro_rules | `(tactic| walk_at "bd") => `(tactic| (repeat (first | assumption | apply B.add | apply B.sub | apply B.mul | apply B.neg | exact B.lit (n := 8) (by decide))))
local macro_rules | `(tactic| walk_at "bu") => `(tactic| (apply B.up; walk_at "bd"; decide))
local macro_rules | `(tactic| walk_at "bnd") => `(tactic| (apply B.mulW; walk_at "bd"; decide))
theorem Cv.Sm.b2 {c : Cv} (h : c.Sm) : B 25 c.b2 := by
  obtain ⟨h1, h2, h3, h4, h6⟩ := h
  unfold Cv.b2
  walk_at "bu"
theorem Cv.Sm.b4 {c : Cv} (h : c.Sm) : B 41 c.b4 := by
  obtain ⟨h1, h2, h3, h4, h6⟩ := h
  unfold Cv.b4
  walk_at "bu"
theorem Cv.Sm.b6 {c : Cv} (h : c.Sm) : B 41 c.b6 := by
  obtain ⟨h1, h2, h3, h4, h6⟩ := h
  unfold Cv.b6
  walk_at "bu"
theorem Cv.Sm.b8 {c : Cv} (h : c.Sm) : B 70 c.b8 := by
  obtain ⟨h1, h2, h3, h4, h6⟩ := h
  unfold Cv.b8
  walk_at "bu"
theorem Cv.Sm.c4 {c : Cv} (h : c.Sm) : B 58 c.c4 := by
  have e2 := h.b2
  have e4 := h.b4
  unfold Cv.c4
  walk_at "bu"
theorem Cv.Sm.c6 {c : Cv} (h : c.Sm) : B 80 c.c6 := by
  have e2 := h.b2
  have e4 := h.b4
  have e6 := h.b6
  unfold Cv.c6
  walk_at "bu"
section
variable {P : Program} {w : World} {K : PySem.W.Frag} {mg : Str → Option Value} {base : Heap}
/-! ### five -/
def sp_five (K : PySem.W.Frag) : Sp := fun vs H Q _ => ∃ (p : Addr) (c : Cv), vs = [.ref p] ∧ SqT K H p c.tup ∧ Q (.ref p) H
abbrev s_five : Stmt := topS 4
theorem sc_five : FnScope ["curve", "a", "b", "c"] ["curve"] (defScope s_five) := ⟨rfl, rfl, rfl, by decide +kernel, rfl, by decide +kernel, by decide +kernel⟩
theorem k_five (T : Tx K mg) (D : Df K mg "five" s_five ["curve"])  : Kl P w K mg base 1 "five" (sp_five K) := by
  have nd := sc_five.nd
  refine Kl.by_body D sc_five (fun vs H Q E h => ?_) (fun f cdv A outer s H vs Q E hr h => ?_)
  · obtain ⟨_, _, rfl, _⟩ := h
    rfl
  · obtain ⟨p, c, rfl, hx, q⟩ := h
    have hu1 := hu_of hr
    refine ⟨_, (pss_cons (ps_if (pt_cmpR op_eq (pe_callB call_len_seq (by rfl) T.len (by decide +kernel) (pa_cons (pv 0) pa_nil)) pe_int (nomark _)) (pss_cons (ps_asg (pv 0) (pg_tup rfl (pgs_cons (pg_name (i := 1) nd rfl (by first | exact Or.inl rfl | exact Or.inr rfl)) (pgs_cons (pg_name (i := 2) nd rfl (by first | exact Or.inl rfl | exact Or.inr rfl)) (pgs_cons (pg_name (i := 3) nd rfl (by first | exact Or.inl rfl | exact Or.inr rfl)) pgs_nil)))))
      (pss_one (ps_ret (pe_tup (pa_cons pe_int (pa_cons (pv 1) (pa_cons pe_int (pa_cons (pv 2) (pa_cons (pv 3) pa_nil))))))))) pss_nil)
      (pss_one (ps_ret (pv 0)))), ?_⟩
    refine ⟨.ref p, rfl, p, _, rfl, .inr hx, rfl, _, rfl, ?_⟩
    refine iteN (by simp [Cv.tup]) ?_
    exact ⟨.ref p, rfl, q⟩
/-! ### lowest -/
def sp_lowest : PySem.W.Frag → Sp := spCut
abbrev s_lowest : Stmt := topS 2
theorem sc_lowest : FnScope ["n", "d", "shared"] ["n", "d"] (defScope s_lowest) := ⟨rfl, rfl, rfl, by decide +kernel, rfl, by decide +kernel, by decide +kernel⟩
theorem k_lowest (T : Tx K mg) (D : Df K mg "lowest" s_lowest ["n", "d"])  : Kl P w K mg base 1 "lowest" (sp_lowest K) := by
  have nd := sc_lowest.nd
  refine Kl.by_body D sc_lowest (fun vs H Q E h => ?_) (fun f cdv A outer s H vs Q E hr h => ?_)
  · obtain ⟨_, _, rfl, _⟩ := h
    rfl
  · obtain ⟨n, d, rfl, hd, hn, hb, q⟩ := h
    have hu1 := hu_of hr
    refine ⟨_, (pss_cons (ps_set (i := 2) nd rfl (by first | exact Or.inl rfl | exact Or.inr rfl) (pe_callBfun cr_gcd (by rfl) T.gcd (pa_cons (pv 0) (pa_cons (pv 1) pa_nil))))
      (pss_cons (ps_if (pt_cmpR op_lt (pv 1) pe_int (nomark _)) (pss_one (ps_set (i := 2) nd rfl (by first | exact Or.inl rfl | exact Or.inr rfl) (pe_un un_neg (pv 2)))) pss_nil)
      (pss_one (ps_ret (pe_tup (pa_cons (pe_op op_fdivAny (pv 0) (pv 2)) (pa_cons (pe_op op_fdivAny (pv 1) (pv 2)) pa_nil))))))), ?_⟩
    refine ⟨_, rfl, _, rfl, n, d, rfl, ?_⟩
    have h1 : sg n d ≠ 0 := sg_ne hd
    have h2 : CDivAny n (sg n d) := div_any h1 (sg_B hd hb) (by decide)
    have h3 : CDivAny d (sg n d) := div_any h1 (sg_B hd hb) (by decide)
    refine ⟨_, rfl, d, 0, rfl, rfl, _, rfl, ite2 (fun e => ?_) (fun e => ?_)⟩
    · have e' : d < 0 := of_decide_eq_true e
      have es : sg n d = -((Nat.gcd n.natAbs d.natAbs : Nat) : Int) := if_pos e'
      refine ⟨_, rfl, _, rfl, ?_⟩
      refine ⟨_, rfl, _, rfl, n, _, rfl, rfl, es ▸ h2, _, rfl, _, rfl, d, _, rfl, rfl, es ▸ h3, (by show 2 ≤ sizeLine; decide), fun t nt => ?_⟩
      rw [← fq_div hd, es] at q
      exact q t nt
    · have e' : ¬ d < 0 := fun z => e (decide_eq_true z)
      have es : sg n d = ((Nat.gcd n.natAbs d.natAbs : Nat) : Int) := if_neg e'
      refine ⟨_, rfl, _, rfl, n, _, rfl, rfl, es ▸ h2, _, rfl, _, rfl, d, _, rfl, rfl, es ▸ h3, (by show 2 ≤ sizeLine; decide), fun t nt => ?_⟩
      rw [← fq_div hd, es] at q
      exact q t nt
/-! ### the sums -/
def sp_plus : PySem.W.Frag → Sp := spBin (fun a b => True) (fun a b => a + b)
abbrev s_plus : Stmt := topS 6
theorem sc_plus : FnScope ["f", "g"] ["f", "g"] (defScope s_plus) := ⟨rfl, rfl, rfl, by decide +kernel, rfl, by decide +kernel, by decide +kernel⟩
theorem k_plus (T : Tx K mg) (D : Df K mg "plus" s_plus ["f", "g"]) (c_lowest : Kl P w K mg base 1 "lowest" (sp_lowest K)) : Kl P w K mg base 2 "plus" (sp_plus K) := by
  have nd := sc_plus.nd
  refine Kl.by_body D sc_plus (fun vs H Q E h => ?_) (fun f cdv A outer s H vs Q E hr h => ?_)
  · obtain ⟨_, _, _, _, rfl, _⟩ := h
    rfl
  · obtain ⟨f, g, a, b, rfl, hf, hg, ha, hb, h0, q⟩ := h
    have hu1 := hu_of hr
    refine ⟨_, (pss_one (ps_ret (pe_k c_lowest  hr (by decide) (by rfl) (pa_cons (pe_op op_add (pe_op op_mulW (pe_ix ix_tup (pv 0) pe_int (fun _ _ => rfl)) (pe_ix ix_tup (pv 1) pe_int (fun _ _ => rfl))) (pe_op op_mulW (pe_ix ix_tup (pv 1) pe_int (fun _ _ => rfl)) (pe_ix ix_tup (pv 0) pe_int (fun _ _ => rfl)))) (pa_cons (pe_op op_mulW (pe_ix ix_tup (pv 0) pe_int (fun _ _ => rfl)) (pe_ix ix_tup (pv 1) pe_int (fun _ _ => rfl))) pa_nil))))), ?_⟩
    refine ⟨.ref f, rfl, f, _, 0, .int a.num, rfl, rfl, hf, rfl, .ref g, rfl, g, _, 1, .int b.den, rfl, rfl, hg, rfl, _, _, rfl, rfl, (B.mulW ha.n hb.d (by decide)), .ref g, rfl, g, _, 0, .int b.num, rfl, rfl, hg, rfl, .ref f, rfl, f, _, 1, .int a.den, rfl, rfl, hf, rfl, _, _, rfl, rfl, (B.mulW hb.n ha.d (by decide)), _, _, rfl, rfl, .ref f, rfl, f, _, 1, .int a.den, rfl, rfl, hf, rfl, .ref g, rfl, g, _, 1, .int b.den, rfl, rfl, hg, rfl, _, _, rfl, rfl, (B.mulW ha.d hb.d (by decide)), _, _, rfl, (mul_ne (den_ne a) (den_ne b)), ((B.mul ha.n hb.d).add (B.mul hb.n ha.d)).up (by decide), (B.mul ha.d hb.d).up (by decide), fun t nt => ?_⟩
    rw [fr_add a b]
    exact q t nt
def sp_less : PySem.W.Frag → Sp := spBin (fun a b => True) (fun a b => a - b)
abbrev s_less : Stmt := topS 7
theorem sc_less : FnScope ["f", "g"] ["f", "g"] (defScope s_less) := ⟨rfl, rfl, rfl, by decide +kernel, rfl, by decide +kernel, by decide +kernel⟩
theorem k_less (T : Tx K mg) (D : Df K mg "less" s_less ["f", "g"]) (c_lowest : Kl P w K mg base 1 "lowest" (sp_lowest K)) : Kl P w K mg base 2 "less" (sp_less K) := by
  have nd := sc_less.nd
  refine Kl.by_body D sc_less (fun vs H Q E h => ?_) (fun f cdv A outer s H vs Q E hr h => ?_)
  · obtain ⟨_, _, _, _, rfl, _⟩ := h
    rfl
  · obtain ⟨f, g, a, b, rfl, hf, hg, ha, hb, h0, q⟩ := h
    have hu1 := hu_of hr
    refine ⟨_, (pss_one (ps_ret (pe_k c_lowest  hr (by decide) (by rfl) (pa_cons (pe_op op_sub (pe_op op_mulW (pe_ix ix_tup (pv 0) pe_int (fun _ _ => rfl)) (pe_ix ix_tup (pv 1) pe_int (fun _ _ => rfl))) (pe_op op_mulW (pe_ix ix_tup (pv 1) pe_int (fun _ _ => rfl)) (pe_ix ix_tup (pv 0) pe_int (fun _ _ => rfl)))) (pa_cons (pe_op op_mulW (pe_ix ix_tup (pv 0) pe_int (fun _ _ => rfl)) (pe_ix ix_tup (pv 1) pe_int (fun _ _ => rfl))) pa_nil))))), ?_⟩
    refine ⟨.ref f, rfl, f, _, 0, .int a.num, rfl, rfl, hf, rfl, .ref g, rfl, g, _, 1, .int b.den, rfl, rfl, hg, rfl, _, _, rfl, rfl, (B.mulW ha.n hb.d (by decide)), .ref g, rfl, g, _, 0, .int b.num, rfl, rfl, hg, rfl, .ref f, rfl, f, _, 1, .int a.den, rfl, rfl, hf, rfl, _, _, rfl, rfl, (B.mulW hb.n ha.d (by decide)), _, _, rfl, rfl, .ref f, rfl, f, _, 1, .int a.den, rfl, rfl, hf, rfl, .ref g, rfl, g, _, 1, .int b.den, rfl, rfl, hg, rfl, _, _, rfl, rfl, (B.mulW ha.d hb.d (by decide)), _, _, rfl, (mul_ne (den_ne a) (den_ne b)), ((B.mul ha.n hb.d).sub (B.mul hb.n ha.d)).up (by decide), (B.mul ha.d hb.d).up (by decide), fun t nt => ?_⟩
    rw [fr_sub a b]
    exact q t nt
def sp_times : PySem.W.Frag → Sp := spBin (fun a b => True) (fun a b => a * b)
abbrev s_times : Stmt := topS 8
theorem sc_times : FnScope ["f", "g"] ["f", "g"] (defScope s_times) := ⟨rfl, rfl, rfl, by decide +kernel, rfl, by decide +kernel, by decide +kernel⟩
theorem k_times (T : Tx K mg) (D : Df K mg "times" s_times ["f", "g"]) (c_lowest : Kl P w K mg base 1 "lowest" (sp_lowest K)) : Kl P w K mg base 2 "times" (sp_times K) := by
  have nd := sc_times.nd
  refine Kl.by_body D sc_times (fun vs H Q E h => ?_) (fun f cdv A outer s H vs Q E hr h => ?_)
  · obtain ⟨_, _, _, _, rfl, _⟩ := h
    rfl
  · obtain ⟨f, g, a, b, rfl, hf, hg, ha, hb, h0, q⟩ := h
    have hu1 := hu_of hr
    refine ⟨_, (pss_one (ps_ret (pe_k c_lowest  hr (by decide) (by rfl) (pa_cons (pe_op op_mulW (pe_ix ix_tup (pv 0) pe_int (fun _ _ => rfl)) (pe_ix ix_tup (pv 1) pe_int (fun _ _ => rfl))) (pa_cons (pe_op op_mulW (pe_ix ix_tup (pv 0) pe_int (fun _ _ => rfl)) (pe_ix ix_tup (pv 1) pe_int (fun _ _ => rfl))) pa_nil))))), ?_⟩
    refine ⟨.ref f, rfl, f, _, 0, .int a.num, rfl, rfl, hf, rfl, .ref g, rfl, g, _, 0, .int b.num, rfl, rfl, hg, rfl, _, _, rfl, rfl, (B.mulW ha.n hb.n (by decide)), .ref f, rfl, f, _, 1, .int a.den, rfl, rfl, hf, rfl, .ref g, rfl, g, _, 1, .int b.den, rfl, rfl, hg, rfl, _, _, rfl, rfl, (B.mulW ha.d hb.d (by decide)), _, _, rfl, (mul_ne (den_ne a) (den_ne b)), (B.mul ha.n hb.n).up (by decide), (B.mul ha.d hb.d).up (by decide), fun t nt => ?_⟩
    rw [fr_mul a b]
    exact q t nt
def sp_over : PySem.W.Frag → Sp := spBin (fun a b => b ≠ 0) (fun a b => a / b)
abbrev s_over : Stmt := topS 9
theorem sc_over : FnScope ["f", "g"] ["f", "g"] (defScope s_over) := ⟨rfl, rfl, rfl, by decide +kernel, rfl, by decide +kernel, by decide +kernel⟩
theorem k_over (T : Tx K mg) (D : Df K mg "over" s_over ["f", "g"]) (c_lowest : Kl P w K mg base 1 "lowest" (sp_lowest K)) : Kl P w K mg base 2 "over" (sp_over K) := by
  have nd := sc_over.nd
  refine Kl.by_body D sc_over (fun vs H Q E h => ?_) (fun f cdv A outer s H vs Q E hr h => ?_)
  · obtain ⟨_, _, _, _, rfl, _⟩ := h
    rfl
  · obtain ⟨f, g, a, b, rfl, hf, hg, ha, hb, h0, q⟩ := h
    have hu1 := hu_of hr
    refine ⟨_, (pss_one (ps_ret (pe_k c_lowest  hr (by decide) (by rfl) (pa_cons (pe_op op_mulW (pe_ix ix_tup (pv 0) pe_int (fun _ _ => rfl)) (pe_ix ix_tup (pv 1) pe_int (fun _ _ => rfl))) (pa_cons (pe_op op_mulW (pe_ix ix_tup (pv 0) pe_int (fun _ _ => rfl)) (pe_ix ix_tup (pv 1) pe_int (fun _ _ => rfl))) pa_nil))))), ?_⟩
    refine ⟨.ref f, rfl, f, _, 0, .int a.num, rfl, rfl, hf, rfl, .ref g, rfl, g, _, 1, .int b.den, rfl, rfl, hg, rfl, _, _, rfl, rfl, (B.mulW ha.n hb.d (by decide)), .ref f, rfl, f, _, 1, .int a.den, rfl, rfl, hf, rfl, .ref g, rfl, g, _, 0, .int b.num, rfl, rfl, hg, rfl, _, _, rfl, rfl, (B.mulW ha.d hb.n (by decide)), _, _, rfl, (mul_ne (den_ne a) (num_ne h0)), (B.mul ha.n hb.d).up (by decide), (B.mul ha.d hb.n).up (by decide), fun t nt => ?_⟩
    rw [fr_div a b h0]
    exact q t nt
/-! ### whole_fraction -/
def sp_whole_fraction (K : PySem.W.Frag) : Sp := fun vs H Q _ => ∃ n : Int, vs = [.int n] ∧ ∀ t, H t = none → Q (.ref t) (upd H t (.tup (fq (n : Rat))))
abbrev s_whole_fraction : Stmt := topS 10
theorem sc_whole_fraction : FnScope ["n"] ["n"] (defScope s_whole_fraction) := ⟨rfl, rfl, rfl, by decide +kernel, rfl, by decide +kernel, by decide +kernel⟩
theorem k_whole_fraction (T : Tx K mg) (D : Df K mg "whole_fraction" s_whole_fraction ["n"])  : Kl P w K mg base 1 "whole_fraction" (sp_whole_fraction K) := by
  have nd := sc_whole_fraction.nd
  refine Kl.by_body D sc_whole_fraction (fun vs H Q E h => ?_) (fun f cdv A outer s H vs Q E hr h => ?_)
  · obtain ⟨_, rfl, _⟩ := h
    rfl
  · obtain ⟨n, rfl, q⟩ := h
    have hu1 := hu_of hr
    refine ⟨_, (pss_one (ps_ret (pe_tup (pa_cons (pv 0) (pa_cons pe_int pa_nil))))), ?_⟩
    refine ⟨_, rfl, (by show 2 ≤ sizeLine; decide), fun t nt => ?_⟩
    rw [fq_int] at q
    exact q t nt
/-! ### total, product -/
theorem foldl_take (op : Rat → Rat → Rat) (e : Rat) (ps : List (Addr × Rat)) {i : Nat} {p : Addr × Rat} (h : ps[i]? = some p) : (ps.take (i + 1)).foldl (fun x p => op x p.2) e = op ((ps.take i).foldl (fun x p => op x p.2) e) p.2 := by
  rw [List.take_succ, List.foldl_append, h]
  rfl
theorem map_get {ps : List (Addr × Rat)} {i : Nat} {x : V} (h : (ps.map fun p => V.ref p.1)[i]? = some x) : ∃ p, ps[i]? = some p ∧ x = .ref p.1 := by
  rw [List.getElem?_map] at h
  cases e : ps[i]? with
  | none =>
    rw [e] at h
    cases h
  | some p =>
    rw [e] at h
    exact ⟨p, rfl, (Option.some.inj h).symm⟩
def sp_total : PySem.W.Frag → Sp := spSum (· + ·) 0
theorem q0 : [V.int 0, V.int 1] = fq 0 := rfl
theorem q1 : [V.int 1, V.int 1] = fq 1 := rfl
theorem _root_.QM.RB.zero : RB 1 (0 : Rat) := ⟨by decide, by decide⟩
theorem _root_.QM.RB.one : RB 1 (1 : Rat) := ⟨by decide, by decide⟩
abbrev s_total : Stmt := topS 11
theorem sc_total : FnScope ["fractions", "result", "f"] ["fractions"] (defScope s_total) := ⟨rfl, rfl, rfl, by decide +kernel, rfl, by decide +kernel, by decide +kernel⟩
theorem k_total (T : Tx K mg) (D : Df K mg "total" s_total ["fractions"]) (c_plus : Kl P w K mg base 2 "plus" (sp_plus K)) : Kl P w K mg base 3 "total" (sp_total K) := by
  have nd := sc_total.nd
  refine Kl.by_body D sc_total (fun vs H Q E h => ?_) (fun f cdv A outer s H vs Q E hr h => ?_)
  · obtain ⟨_, _, _, rfl, _⟩ := h
    rfl
  · obtain ⟨l, ps, m, rfl, hx, hp, hl, q⟩ := h
    have hu1 := hu_of hr
    refine ⟨_, (pss_cons (ps_set (i := 1) nd rfl (by first | exact Or.inl rfl | exact Or.inr rfl) (pe_tup (pa_cons pe_int (pa_cons pe_int pa_nil))))
      (pss_cons (ps_for PassesOwn.never rfl (pi_list (pv 0)) (pg_name (i := 2) nd rfl (by first | exact Or.inl rfl | exact Or.inr rfl)) (pss_one (ps_set (i := 1) nd rfl (by first | exact Or.inl rfl | exact Or.inr rfl) (pe_k c_plus  hr (by decide) (by rfl) (pa_cons (pv 1) (pa_cons (pv 2) pa_nil))))))
      (pss_one (ps_ret (pv 1))))), ?_⟩
    refine ⟨(by show 2 ≤ sizeLine; decide), fun r nr => ?_⟩
    rw [q0]
    have s1 := Same.new (H := H) (p := r) (o := .tup (fq 0)) nr
    have g1 : upd H r (.tup (fq 0)) r = some (.tup (fq 0)) := upd_same
    generalize upd H r (.tup (fq 0)) = H1 at s1 g1 ⊢
    refine ⟨_, rfl, l, rfl, ⟨_, s1.seq hx⟩, for_list (K := K) (a := l) (xs := ps.map fun p => .ref p.1) (fun i σ H2 => Same H H2 ∧ ∃ (r : Addr) (v : Option V), σ = [some (.ref l), some (.ref r), v] ∧ H r = none ∧ H2 r = some (.tup (fq ((ps.take i).foldl (fun x p => x + p.2) 0))) ∧ RB (i * (m + 1) + 1) ((ps.take i).foldl (fun x p => x + p.2) 0)) ⟨s1, r, none, rfl, nr, g1, RB.zero.up (by omega)⟩ (fun i σ H2 _ z => z.1.seq hx) ?_ ?_⟩
    · rintro i x σ H2 hi ⟨s2, r2, v, rfl, n2, g2, b2⟩
      obtain ⟨p, hpi, rfl⟩ := map_get hi
      obtain ⟨h1, h2⟩ := hp p (List.mem_of_getElem? hpi)
      have hi2 : i < ps.length := (List.getElem?_eq_some_iff.mp hpi).1
      have hsz : (i + 1) * (m + 1) ≤ 3900 := Nat.le_trans (Nat.mul_le_mul_right _ hi2) hl
      rw [Nat.add_mul, Nat.one_mul] at hsz
      refine ⟨_, rfl, _, rfl, r2, p.1, _, _, rfl, tup_of g2, Same.tup s2 h1, b2.up (by omega), h2.up (by omega), trivial, fun t nt => ?_⟩
      refine ⟨Same.put s2 (s2.free nt), t, _, rfl, s2.free nt, ?_, ?_⟩
      · rw [upd_same, foldl_take _ _ _ hpi]
      · rw [foldl_take (fun a b => a + b) 0 _ hpi]
        exact (b2.add h2).up (by rw [Nat.add_mul]; omega)
    · rintro σ H2 ⟨s2, r2, v, rfl, n2, g2, b2⟩
      rw [List.length_map, List.take_length] at g2
      rw [List.length_map, List.take_length] at b2
      exact ⟨_, rfl, q _ r2 s2 n2 g2 b2⟩
def sp_product : PySem.W.Frag → Sp := spSum (· * ·) 1
abbrev s_product : Stmt := topS 12
theorem sc_product : FnScope ["fractions", "result", "f"] ["fractions"] (defScope s_product) := ⟨rfl, rfl, rfl, by decide +kernel, rfl, by decide +kernel, by decide +kernel⟩
theorem k_product (T : Tx K mg) (D : Df K mg "product" s_product ["fractions"]) (c_times : Kl P w K mg base 2 "times" (sp_times K)) : Kl P w K mg base 3 "product" (sp_product K) := by
  have nd := sc_product.nd
  refine Kl.by_body D sc_product (fun vs H Q E h => ?_) (fun f cdv A outer s H vs Q E hr h => ?_)
  · obtain ⟨_, _, _, rfl, _⟩ := h
    rfl
  · obtain ⟨l, ps, m, rfl, hx, hp, hl, q⟩ := h
    have hu1 := hu_of hr
    refine ⟨_, (pss_cons (ps_set (i := 1) nd rfl (by first | exact Or.inl rfl | exact Or.inr rfl) (pe_tup (pa_cons pe_int (pa_cons pe_int pa_nil))))
      (pss_cons (ps_for PassesOwn.never rfl (pi_list (pv 0)) (pg_name (i := 2) nd rfl (by first | exact Or.inl rfl | exact Or.inr rfl)) (pss_one (ps_set (i := 1) nd rfl (by first | exact Or.inl rfl | exact Or.inr rfl) (pe_k c_times  hr (by decide) (by rfl) (pa_cons (pv 1) (pa_cons (pv 2) pa_nil))))))
      (pss_one (ps_ret (pv 1))))), ?_⟩
    refine ⟨(by show 2 ≤ sizeLine; decide), fun r nr => ?_⟩
    rw [q1]
    have s1 := Same.new (H := H) (p := r) (o := .tup (fq 1)) nr
    have g1 : upd H r (.tup (fq 1)) r = some (.tup (fq 1)) := upd_same
    generalize upd H r (.tup (fq 1)) = H1 at s1 g1 ⊢
    refine ⟨_, rfl, l, rfl, ⟨_, s1.seq hx⟩, for_list (K := K) (a := l) (xs := ps.map fun p => .ref p.1) (fun i σ H2 => Same H H2 ∧ ∃ (r : Addr) (v : Option V), σ = [some (.ref l), some (.ref r), v] ∧ H r = none ∧ H2 r = some (.tup (fq ((ps.take i).foldl (fun x p => x * p.2) 1))) ∧ RB (i * (m + 1) + 1) ((ps.take i).foldl (fun x p => x * p.2) 1)) ⟨s1, r, none, rfl, nr, g1, RB.one.up (by omega)⟩ (fun i σ H2 _ z => z.1.seq hx) ?_ ?_⟩
    · rintro i x σ H2 hi ⟨s2, r2, v, rfl, n2, g2, b2⟩
      obtain ⟨p, hpi, rfl⟩ := map_get hi
      obtain ⟨h1, h2⟩ := hp p (List.mem_of_getElem? hpi)
      have hi2 : i < ps.length := (List.getElem?_eq_some_iff.mp hpi).1
      have hsz : (i + 1) * (m + 1) ≤ 3900 := Nat.le_trans (Nat.mul_le_mul_right _ hi2) hl
      rw [Nat.add_mul, Nat.one_mul] at hsz
      refine ⟨_, rfl, _, rfl, r2, p.1, _, _, rfl, tup_of g2, Same.tup s2 h1, b2.up (by omega), h2.up (by omega), trivial, fun t nt => ?_⟩
      refine ⟨Same.put s2 (s2.free nt), t, _, rfl, s2.free nt, ?_, ?_⟩
      · rw [upd_same, foldl_take _ _ _ hpi]
      · rw [foldl_take (fun a b => a * b) 1 _ hpi]
        exact (b2.mul h2).up (by rw [Nat.add_mul]; omega)
    · rintro σ H2 ⟨s2, r2, v, rfl, n2, g2, b2⟩
      rw [List.length_map, List.take_length] at g2
      rw [List.length_map, List.take_length] at b2
      exact ⟨_, rfl, q _ r2 s2 n2 g2 b2⟩
end
end K06
set_option Elab.async false
set_option linter.all false
set_option maxRecDepth 100000
set_option maxHeartbeats 4000000
namespace K06
open PySem PySem.Spec PyProof.Rows L2 Gd QM
local macro_rules | `(tactic| walk_at "bd") => `(tactic| (repeat (first | assumption | apply B.add | apply B.sub | apply B.mul | apply B.neg | exact B.lit (n := 8) (by decide))))
local macro_rules | `(tactic| walk_at "bu") => `(tactic| (apply B.up; walk_at "bd"; decide))
local macro_rules | `(tactic| walk_at "bnd") => `(tactic| (apply B.mulW; walk_at "bd"; decide))
local macro_rules | `(tactic| walk_at "pw") => `(tactic| exact B.up (n := 64) (by assumption) (by decide))
theorem abs_eq (i : Int) : (if i < 0 then -i else i) = (i.natAbs : Int) := by
  split <;> omega
section
variable {P : Program} {w : World} {K : PySem.W.Frag} {mg : Str → Option Value} {base : Heap}
/-! ### the law's common factor -/
def sp_law_common (K : PySem.W.Frag) : Sp := fun vs H Q _ => ∃ a b : Int, vs = [.int a, .int b] ∧ B 8200 a ∧ B 8200 b ∧ Q (.int ((Nat.gcd a.natAbs b.natAbs : Nat) : Int)) H
theorem gcd_turn {x y : Int} (h1 : 0 ≤ x) (h2 : 0 ≤ y) (h0 : y ≠ 0) : 0 ≤ x - x.fdiv y * y ∧ (x - x.fdiv y * y).natAbs < y.natAbs ∧ Nat.gcd y.natAbs (x - x.fdiv y * y).natAbs = Nat.gcd x.natAbs y.natAbs := by
  have e : x - x.fdiv y * y = x % y := by
    rw [Int.fdiv_eq_ediv_of_nonneg x h2, Int.emod_def, Int.mul_comm]
  have h3 : 0 ≤ x % y := Int.emod_nonneg x h0
  have h4 : x % y < y := Int.emod_lt_of_pos x (by omega)
  rw [e]
  refine ⟨h3, by omega, ?_⟩
  have e2 : (x % y).natAbs = x.natAbs % y.natAbs := by
    rw [Int.natAbs_emod_of_nonneg h1]
  rw [e2, Nat.gcd_comm y.natAbs, ← Nat.gcd_rec y.natAbs x.natAbs, Nat.gcd_comm]
abbrev s__law_common : Stmt := topS 24
theorem sc__law_common : FnScope ["a", "b"] ["a", "b"] (defScope s__law_common) := ⟨rfl, rfl, rfl, by decide +kernel, rfl, by decide +kernel, by decide +kernel⟩
theorem k_law_common (T : Tx K mg) (D : Df K mg "_law_common" s__law_common ["a", "b"])  : Kl P w K mg base 1 "_law_common" (sp_law_common K) := by
  have nd := sc__law_common.nd
  refine Kl.by_body D sc__law_common (fun vs H Q E h => ?_) (fun f cdv A outer s H vs Q E hr h => ?_)
  · obtain ⟨_, _, rfl, _⟩ := h
    rfl
  · obtain ⟨a, b, rfl, ha, hb, q⟩ := h
    have hu1 := hu_of hr
    refine ⟨_, (pss_cons (ps_par (i := 0) (j := 1) (by rfl) nd rfl rfl (by decide) rfl rfl (pa_cons (pe_callB call_abs (by rfl) T.abs (by decide +kernel) (pa_cons (pv 0) pa_nil)) (pa_cons (pe_callB call_abs (by rfl) T.abs (by decide +kernel) (pa_cons (pv 1) pa_nil)) pa_nil)) (by rfl))
      (pss_cons (ps_while PassesOwn.never (pt_cmpR op_ne (pv 1) pe_int (nomark _)) (pss_one (ps_par (i := 0) (j := 1) (by rfl) nd rfl rfl (by decide) rfl rfl (pa_cons (pv 1) (pa_cons (pe_op op_sub (pv 0) (pe_op op_mulW (pe_op op_fdivAny (pv 0) (pv 1)) (pv 1))) pa_nil)) (by rfl))))
      (pss_one (ps_ret (pv 0))))), ?_⟩
    refine ⟨_, rfl, a, rfl, _, rfl, b, rfl, _, _, rfl, ?_⟩
    rw [abs_eq, abs_eq]
    first | refine sigN [some (.int ((a.natAbs : Int))), some (.int ((b.natAbs : Int)))] (by rfl) ?_ | refine sig [some (.int ((a.natAbs : Int))), some (.int ((b.natAbs : Int)))] (by rfl) ?_
    have na : B 8200 (a.natAbs : Int) := by
      unfold B at *
      omega
    have nb : B 8200 (b.natAbs : Int) := by
      unfold B at *
      omega
    refine while_by (fun σ H2 => ∃ x y : Int, σ = [some (.int x), some (.int y)] ∧ H2 = H ∧ 0 ≤ x ∧ 0 ≤ y ∧ Nat.gcd x.natAbs y.natAbs = Nat.gcd a.natAbs b.natAbs ∧ B 8200 x ∧ B 8200 y)
      (fun σ _ => match σ with | [_, some (.int y)] => y.natAbs | _ => 0) ⟨_, _, rfl, rfl, by omega, by omega, by rw [Int.natAbs_natCast, Int.natAbs_natCast], na, nb⟩ ?_ ?_
    · rintro σ H2 ⟨x, y, rfl, rfl, h1, h2, h3, h4, h5⟩
      refine ⟨_, rfl, rfl, _, rfl, ?_⟩
      rw [dec_int]
      by_cases h0 : y = 0
      · subst h0
        refine iteN (by simp) ?_
        refine ⟨_, rfl, ?_⟩
        rw [← h3] at q
        have e : ((Nat.gcd x.natAbs (0 : Int).natAbs : Nat) : Int) = x := by
          rw [show (0 : Int).natAbs = 0 from rfl, Nat.gcd_zero_right]
          omega
        rw [e] at q
        exact q
      · refine iteY (by simp [h0]) ?_
        obtain ⟨g1, g2, g3⟩ := gcd_turn h1 h2 h0
        have d1 : B 8200 (x.fdiv y) := by
          rw [Int.fdiv_eq_ediv_of_nonneg x h2]
          have e1 : 0 ≤ x / y := Int.ediv_nonneg h1 h2
          have e2 : x / y ≤ x := Int.ediv_le_self y h1
          unfold B at *
          omega
        refine ⟨_, rfl, _, rfl, _, rfl, _, rfl, x, y, rfl, rfl, div_any h0 h5 (by decide), _, rfl, _, _, rfl, rfl, d1.mulW h5 (by decide), _, _, rfl, rfl, _, _, rfl, ?_⟩
        have g4 : B 8200 (x - x.fdiv y * y) := by
          unfold B at *
          omega
        exact ⟨⟨_, _, rfl, rfl, h2, g1, g3.trans h3, h5, g4⟩, g2⟩
    · rintro σ H2 Q1 Q2 i ⟨v, hv, hs, k, e, z⟩
      exact ⟨v, hv, hs, k, e, i _ _ z⟩
/-! ### cut -/
def sp_law_cut : PySem.W.Frag → Sp := spCut
abbrev s__law_cut : Stmt := topS 25
theorem sc__law_cut : FnScope ["n", "d", "part"] ["n", "d"] (defScope s__law_cut) := ⟨rfl, rfl, rfl, by decide +kernel, rfl, by decide +kernel, by decide +kernel⟩
theorem k_law_cut (T : Tx K mg) (D : Df K mg "_law_cut" s__law_cut ["n", "d"]) (c_law_common : Kl P w K mg base 1 "_law_common" (sp_law_common K)) : Kl P w K mg base 2 "_law_cut" (sp_law_cut K) := by
  have nd := sc__law_cut.nd
  refine Kl.by_body D sc__law_cut (fun vs H Q E h => ?_) (fun f cdv A outer s H vs Q E hr h => ?_)
  · obtain ⟨_, _, rfl, _⟩ := h
    rfl
  · obtain ⟨n, d, rfl, h0, hn, hd, q⟩ := h
    have hu1 := hu_of hr
    refine ⟨_, (pss_cons (ps_set (i := 2) nd rfl (by first | exact Or.inl rfl | exact Or.inr rfl) (pe_k c_law_common  hr (by decide) (by rfl) (pa_cons (pv 0) (pa_cons (pv 1) pa_nil))))
      (pss_cons (ps_set (i := 2) nd rfl (by first | exact Or.inl rfl | exact Or.inr rfl) (pe_ifExp (pt_cmpR op_gt (pv 1) pe_int (nomark _)) (pv 2) (pe_un un_neg (pv 2))))
      (pss_one (ps_ret (pe_tup (pa_cons (pe_op op_fdivAny (pv 0) (pv 2)) (pa_cons (pe_op op_fdivAny (pv 1) (pv 2)) pa_nil))))))), ?_⟩
    refine ⟨_, rfl, _, rfl, n, d, rfl, hn, hd, ?_⟩
    have hs : sg n d ≠ 0 := sg_ne h0
    have c1 : CDivAny n (sg n d) := div_any hs (sg_B h0 hd) (by decide)
    have c2 : CDivAny d (sg n d) := div_any hs (sg_B h0 hd) (by decide)
    rw [← fq_div h0] at q
    refine ⟨_, rfl, _, _, rfl, rfl, _, rfl, ite2 (fun e => ?_) (fun e => ?_)⟩
    · have e' : 0 < d := of_decide_eq_true e
      have es : sg n d = ((Nat.gcd n.natAbs d.natAbs : Nat) : Int) := if_neg (by omega)
      refine ⟨_, rfl, ?_⟩
      refine ⟨_, rfl, _, rfl, n, _, rfl, rfl, es ▸ c1, _, rfl, _, rfl, d, _, rfl, rfl, es ▸ c2, (by show 2 ≤ sizeLine; decide), fun t nt => ?_⟩
      rw [es] at q
      exact q t nt
    · have e' : ¬ 0 < d := fun z => e (decide_eq_true z)
      have es : sg n d = -((Nat.gcd n.natAbs d.natAbs : Nat) : Int) := if_pos (by omega)
      refine ⟨_, rfl, _, rfl, ?_⟩
      refine ⟨_, rfl, _, rfl, n, _, rfl, rfl, es ▸ c1, _, rfl, _, rfl, d, _, rfl, rfl, es ▸ c2, (by show 2 ≤ sizeLine; decide), fun t nt => ?_⟩
      rw [es] at q
      exact q t nt
/-! ### the law's sums -/
def sp_law_plus : PySem.W.Frag → Sp := spBin (fun a b => True) (fun a b => a + b)
abbrev s__law_plus : Stmt := topS 26
theorem sc__law_plus : FnScope ["f", "g"] ["f", "g"] (defScope s__law_plus) := ⟨rfl, rfl, rfl, by decide +kernel, rfl, by decide +kernel, by decide +kernel⟩
theorem k_law_plus (T : Tx K mg) (D : Df K mg "_law_plus" s__law_plus ["f", "g"]) (c_law_cut : Kl P w K mg base 2 "_law_cut" (sp_law_cut K)) : Kl P w K mg base 3 "_law_plus" (sp_law_plus K) := by
  have nd := sc__law_plus.nd
  refine Kl.by_body D sc__law_plus (fun vs H Q E h => ?_) (fun f cdv A outer s H vs Q E hr h => ?_)
  · obtain ⟨_, _, _, _, rfl, _⟩ := h
    rfl
  · obtain ⟨f, g, a, b, rfl, hf, hg, ha, hb, h0, q⟩ := h
    have hu1 := hu_of hr
    refine ⟨_, (pss_one (ps_ret (pe_k c_law_cut  hr (by decide) (by rfl) (pa_cons (pe_op op_add (pe_op op_mulW (pe_ix ix_tup (pv 0) pe_int (fun _ _ => rfl)) (pe_ix ix_tup (pv 1) pe_int (fun _ _ => rfl))) (pe_op op_mulW (pe_ix ix_tup (pv 1) pe_int (fun _ _ => rfl)) (pe_ix ix_tup (pv 0) pe_int (fun _ _ => rfl)))) (pa_cons (pe_op op_mulW (pe_ix ix_tup (pv 0) pe_int (fun _ _ => rfl)) (pe_ix ix_tup (pv 1) pe_int (fun _ _ => rfl))) pa_nil))))), ?_⟩
    refine ⟨.ref f, rfl, f, _, 0, .int a.num, rfl, rfl, hf, rfl, .ref g, rfl, g, _, 1, .int b.den, rfl, rfl, hg, rfl, _, _, rfl, rfl, (B.mulW ha.n hb.d (by decide)), .ref g, rfl, g, _, 0, .int b.num, rfl, rfl, hg, rfl, .ref f, rfl, f, _, 1, .int a.den, rfl, rfl, hf, rfl, _, _, rfl, rfl, (B.mulW hb.n ha.d (by decide)), _, _, rfl, rfl, .ref f, rfl, f, _, 1, .int a.den, rfl, rfl, hf, rfl, .ref g, rfl, g, _, 1, .int b.den, rfl, rfl, hg, rfl, _, _, rfl, rfl, (B.mulW ha.d hb.d (by decide)), _, _, rfl, (mul_ne (den_ne a) (den_ne b)), ((B.mul ha.n hb.d).add (B.mul hb.n ha.d)).up (by decide), (B.mul ha.d hb.d).up (by decide), fun t nt => ?_⟩
    rw [fr_add a b]
    exact q t nt
def sp_law_less : PySem.W.Frag → Sp := spBin (fun a b => True) (fun a b => a - b)
abbrev s__law_less : Stmt := topS 27
theorem sc__law_less : FnScope ["f", "g"] ["f", "g"] (defScope s__law_less) := ⟨rfl, rfl, rfl, by decide +kernel, rfl, by decide +kernel, by decide +kernel⟩
theorem k_law_less (T : Tx K mg) (D : Df K mg "_law_less" s__law_less ["f", "g"]) (c_law_cut : Kl P w K mg base 2 "_law_cut" (sp_law_cut K)) : Kl P w K mg base 3 "_law_less" (sp_law_less K) := by
  have nd := sc__law_less.nd
  refine Kl.by_body D sc__law_less (fun vs H Q E h => ?_) (fun f cdv A outer s H vs Q E hr h => ?_)
  · obtain ⟨_, _, _, _, rfl, _⟩ := h
    rfl
  · obtain ⟨f, g, a, b, rfl, hf, hg, ha, hb, h0, q⟩ := h
    have hu1 := hu_of hr
    refine ⟨_, (pss_one (ps_ret (pe_k c_law_cut  hr (by decide) (by rfl) (pa_cons (pe_op op_sub (pe_op op_mulW (pe_ix ix_tup (pv 0) pe_int (fun _ _ => rfl)) (pe_ix ix_tup (pv 1) pe_int (fun _ _ => rfl))) (pe_op op_mulW (pe_ix ix_tup (pv 1) pe_int (fun _ _ => rfl)) (pe_ix ix_tup (pv 0) pe_int (fun _ _ => rfl)))) (pa_cons (pe_op op_mulW (pe_ix ix_tup (pv 0) pe_int (fun _ _ => rfl)) (pe_ix ix_tup (pv 1) pe_int (fun _ _ => rfl))) pa_nil))))), ?_⟩
    refine ⟨.ref f, rfl, f, _, 0, .int a.num, rfl, rfl, hf, rfl, .ref g, rfl, g, _, 1, .int b.den, rfl, rfl, hg, rfl, _, _, rfl, rfl, (B.mulW ha.n hb.d (by decide)), .ref g, rfl, g, _, 0, .int b.num, rfl, rfl, hg, rfl, .ref f, rfl, f, _, 1, .int a.den, rfl, rfl, hf, rfl, _, _, rfl, rfl, (B.mulW hb.n ha.d (by decide)), _, _, rfl, rfl, .ref f, rfl, f, _, 1, .int a.den, rfl, rfl, hf, rfl, .ref g, rfl, g, _, 1, .int b.den, rfl, rfl, hg, rfl, _, _, rfl, rfl, (B.mulW ha.d hb.d (by decide)), _, _, rfl, (mul_ne (den_ne a) (den_ne b)), ((B.mul ha.n hb.d).sub (B.mul hb.n ha.d)).up (by decide), (B.mul ha.d hb.d).up (by decide), fun t nt => ?_⟩
    rw [fr_sub a b]
    exact q t nt
def sp_law_by : PySem.W.Frag → Sp := spBin (fun a b => True) (fun a b => a * b)
abbrev s__law_by : Stmt := topS 28
theorem sc__law_by : FnScope ["f", "g"] ["f", "g"] (defScope s__law_by) := ⟨rfl, rfl, rfl, by decide +kernel, rfl, by decide +kernel, by decide +kernel⟩
theorem k_law_by (T : Tx K mg) (D : Df K mg "_law_by" s__law_by ["f", "g"]) (c_law_cut : Kl P w K mg base 2 "_law_cut" (sp_law_cut K)) : Kl P w K mg base 3 "_law_by" (sp_law_by K) := by
  have nd := sc__law_by.nd
  refine Kl.by_body D sc__law_by (fun vs H Q E h => ?_) (fun f cdv A outer s H vs Q E hr h => ?_)
  · obtain ⟨_, _, _, _, rfl, _⟩ := h
    rfl
  · obtain ⟨f, g, a, b, rfl, hf, hg, ha, hb, h0, q⟩ := h
    have hu1 := hu_of hr
    refine ⟨_, (pss_one (ps_ret (pe_k c_law_cut  hr (by decide) (by rfl) (pa_cons (pe_op op_mulW (pe_ix ix_tup (pv 0) pe_int (fun _ _ => rfl)) (pe_ix ix_tup (pv 1) pe_int (fun _ _ => rfl))) (pa_cons (pe_op op_mulW (pe_ix ix_tup (pv 0) pe_int (fun _ _ => rfl)) (pe_ix ix_tup (pv 1) pe_int (fun _ _ => rfl))) pa_nil))))), ?_⟩
    refine ⟨.ref f, rfl, f, _, 0, .int a.num, rfl, rfl, hf, rfl, .ref g, rfl, g, _, 0, .int b.num, rfl, rfl, hg, rfl, _, _, rfl, rfl, (B.mulW ha.n hb.n (by decide)), .ref f, rfl, f, _, 1, .int a.den, rfl, rfl, hf, rfl, .ref g, rfl, g, _, 1, .int b.den, rfl, rfl, hg, rfl, _, _, rfl, rfl, (B.mulW ha.d hb.d (by decide)), _, _, rfl, (mul_ne (den_ne a) (den_ne b)), (B.mul ha.n hb.n).up (by decide), (B.mul ha.d hb.d).up (by decide), fun t nt => ?_⟩
    rw [fr_mul a b]
    exact q t nt
def sp_law_over : PySem.W.Frag → Sp := spBin (fun a b => b ≠ 0) (fun a b => a / b)
abbrev s__law_over : Stmt := topS 29
theorem sc__law_over : FnScope ["f", "g"] ["f", "g"] (defScope s__law_over) := ⟨rfl, rfl, rfl, by decide +kernel, rfl, by decide +kernel, by decide +kernel⟩
theorem k_law_over (T : Tx K mg) (D : Df K mg "_law_over" s__law_over ["f", "g"]) (c_law_cut : Kl P w K mg base 2 "_law_cut" (sp_law_cut K)) : Kl P w K mg base 3 "_law_over" (sp_law_over K) := by
  have nd := sc__law_over.nd
  refine Kl.by_body D sc__law_over (fun vs H Q E h => ?_) (fun f cdv A outer s H vs Q E hr h => ?_)
  · obtain ⟨_, _, _, _, rfl, _⟩ := h
    rfl
  · obtain ⟨f, g, a, b, rfl, hf, hg, ha, hb, h0, q⟩ := h
    have hu1 := hu_of hr
    refine ⟨_, (pss_one (ps_ret (pe_k c_law_cut  hr (by decide) (by rfl) (pa_cons (pe_op op_mulW (pe_ix ix_tup (pv 0) pe_int (fun _ _ => rfl)) (pe_ix ix_tup (pv 1) pe_int (fun _ _ => rfl))) (pa_cons (pe_op op_mulW (pe_ix ix_tup (pv 0) pe_int (fun _ _ => rfl)) (pe_ix ix_tup (pv 1) pe_int (fun _ _ => rfl))) pa_nil))))), ?_⟩
    refine ⟨.ref f, rfl, f, _, 0, .int a.num, rfl, rfl, hf, rfl, .ref g, rfl, g, _, 1, .int b.den, rfl, rfl, hg, rfl, _, _, rfl, rfl, (B.mulW ha.n hb.d (by decide)), .ref f, rfl, f, _, 1, .int a.den, rfl, rfl, hf, rfl, .ref g, rfl, g, _, 0, .int b.num, rfl, rfl, hg, rfl, _, _, rfl, rfl, (B.mulW ha.d hb.n (by decide)), _, _, rfl, (mul_ne (den_ne a) (num_ne h0)), (B.mul ha.n hb.d).up (by decide), (B.mul ha.d hb.n).up (by decide), fun t nt => ?_⟩
    rw [fr_div a b h0]
    exact q t nt
/-! ### the law's power -/
def sp_law_power (K : PySem.W.Frag) : Sp := fun vs H Q _ => ∃ (p : Addr) (a : Rat) (m n : Nat), vs = [.ref p, .int (n : Int)] ∧ SqT K H p (fq a) ∧ RB m a ∧ m * n ≤ 3900 ∧ n ≤ 60 ∧ ∀ H' t, Same H H' → H t = none → H' t = some (.tup (fq (a ^ n))) → Q (.ref t) H'
abbrev s__law_power : Stmt := topS 37
theorem sc__law_power : FnScope ["f", "n", "found", "k"] ["f", "n"] (defScope s__law_power) := ⟨rfl, rfl, rfl, by decide +kernel, rfl, by decide +kernel, by decide +kernel⟩
theorem k_law_power (T : Tx K mg) (D : Df K mg "_law_power" s__law_power ["f", "n"]) (c_law_by : Kl P w K mg base 3 "_law_by" (sp_law_by K)) : Kl P w K mg base 4 "_law_power" (sp_law_power K) := by
  have nd := sc__law_power.nd
  refine Kl.by_body D sc__law_power (fun vs H Q E h => ?_) (fun f cdv A outer s H vs Q E hr h => ?_)
  · obtain ⟨_, _, _, _, rfl, _⟩ := h
    rfl
  · obtain ⟨p, a, m, n, rfl, hp, hm, hl, hn60, q⟩ := h
    have hu1 := hu_of hr
    refine ⟨_, (pss_cons (ps_set (i := 2) nd rfl (by first | exact Or.inl rfl | exact Or.inr rfl) (pe_tup (pa_cons pe_int (pa_cons pe_int pa_nil))))
      (pss_cons (ps_for PassesOwn.never rfl (pi_range1 (by rfl) T.range (pa_cons (pv 1) pa_nil)) (pg_name (i := 3) nd rfl (by first | exact Or.inl rfl | exact Or.inr rfl)) (pss_one (ps_set (i := 2) nd rfl (by first | exact Or.inl rfl | exact Or.inr rfl) (pe_k c_law_by  hr (by decide) (by rfl) (pa_cons (pv 2) (pa_cons (pv 0) pa_nil))))))
      (pss_one (ps_ret (pv 2))))), ?_⟩
    refine ⟨(by show 2 ≤ sizeLine; decide), fun r nr => ?_⟩
    rw [q1]
    have s1 := Same.new (H := H) (p := r) (o := .tup (fq 1)) nr
    have g1 : upd H r (.tup (fq 1)) r = some (.tup (fq 1)) := upd_same
    generalize upd H r (.tup (fq 1)) = H1 at s1 g1 ⊢
    refine ⟨_, rfl, (n : Int), rfl, by omega, by omega, ?_⟩
    refine for_range (lo := 0) (n := n) (fun i σ H2 => Same H H2 ∧ ∃ (r : Addr) (v : Option V), σ = [some (.ref p), some (.int (n : Int)), some (.ref r), v] ∧ H r = none ∧ H2 r = some (.tup (fq (a ^ i)))) ⟨s1, r, none, rfl, nr, by rw [Rat.pow_zero]; exact g1⟩ ?_ ?_
    · rintro i σ H2 hi ⟨s2, r2, v, rfl, n2, g2⟩
      have hsz : m * i ≤ 3900 := Nat.le_trans (Nat.mul_le_mul_left m (Nat.le_of_lt hi)) hl
      have hm1 : m * 1 ≤ m * n := Nat.mul_le_mul_left m (by omega)
      refine ⟨_, rfl, _, rfl, r2, p, _, _, rfl, tup_of g2, Same.tup s2 hp, (hm.pow i).up (by omega), hm.up (by omega), trivial, fun t nt => ?_⟩
      refine ⟨Same.put s2 (s2.free nt), t, _, rfl, s2.free nt, ?_⟩
      rw [upd_same, Rat.pow_succ]
    · rintro σ H2 ⟨s2, r2, v, rfl, n2, g2⟩
      exact ⟨_, rfl, q _ r2 s2 n2 g2⟩
/-! ### the law's numbers -/
theorem Cv.nums_b8 (c : Cv) : (c.b2 * c.b6 - c.b4 * c.b4) / 4 = c.b8 := by
  have e : c.b2 * c.b6 - c.b4 * c.b4 = 4 * c.b8 := by
    unfold Cv.b2 Cv.b4 Cv.b6 Cv.b8
    grind
  rw [e]
  exact Int.mul_ediv_cancel_left _ (by decide)
theorem Cv.nums_c6 (c : Cv) : 36 * c.b2 * c.b4 - c.b2 ^ 3 - 216 * c.b6 = c.c6 := by
  unfold Cv.c6
  grind
theorem Cv.nums_d (c : Cv) : 9 * c.b2 * c.b4 * c.b6 - c.b2 * c.b2 * c.b8 - 8 * c.b4 ^ 3 - 27 * c.b6 * c.b6 = c.disc := by
  unfold Cv.disc
  grind
def sp_law_numbers (K : PySem.W.Frag) : Sp := fun vs H Q _ => ∃ (p : Addr) (c : Cv), vs = [.ref p] ∧ SqT K H p c.tup ∧ c.Sm ∧ ∀ t, H t = none → Q (.ref t) (upd H t (.tup c.nums))
abbrev s__law_numbers : Stmt := topS 35
theorem sc__law_numbers : FnScope ["five_v", "a", "b", "c", "d", "e", "b2", "b4", "b6", "b8", "c4", "c6", "disc"] ["five_v"] (defScope s__law_numbers) := ⟨rfl, rfl, rfl, by decide +kernel, rfl, by decide +kernel, by decide +kernel⟩
theorem k_law_numbers (T : Tx K mg) (D : Df K mg "_law_numbers" s__law_numbers ["five_v"])  : Kl P w K mg base 1 "_law_numbers" (sp_law_numbers K) := by
  have nd := sc__law_numbers.nd
  refine Kl.by_body D sc__law_numbers (fun vs H Q E h => ?_) (fun f cdv A outer s H vs Q E hr h => ?_)
  · obtain ⟨_, _, rfl, _⟩ := h
    rfl
  · obtain ⟨p, c, rfl, hx, hm, q⟩ := h
    have hu1 := hu_of hr
    refine ⟨_, (pss_cons (ps_asg (pv 0) (pg_tup rfl (pgs_cons (pg_name (i := 1) nd rfl (by first | exact Or.inl rfl | exact Or.inr rfl)) (pgs_cons (pg_name (i := 2) nd rfl (by first | exact Or.inl rfl | exact Or.inr rfl)) (pgs_cons (pg_name (i := 3) nd rfl (by first | exact Or.inl rfl | exact Or.inr rfl)) (pgs_cons (pg_name (i := 4) nd rfl (by first | exact Or.inl rfl | exact Or.inr rfl)) (pgs_cons (pg_name (i := 5) nd rfl (by first | exact Or.inl rfl | exact Or.inr rfl)) pgs_nil)))))))
      (pss_cons (ps_par3 (i := 6) (j := 7) (l := 8) (by rfl) nd rfl rfl rfl (by decide) (by decide) (by decide) rfl rfl rfl (pa_cons (pe_op op_add (pe_op op_mulW (pv 1) (pv 1)) (pe_op op_mul pe_int (pv 2))) (pa_cons (pe_op op_add (pe_op op_mul pe_int (pv 4)) (pe_op op_mulW (pv 1) (pv 3))) (pa_cons (pe_op op_add (pe_op op_mulW (pv 3) (pv 3)) (pe_op op_mul pe_int (pv 5))) pa_nil))) (by rfl))
      (pss_cons (ps_set (i := 9) nd rfl (by first | exact Or.inl rfl | exact Or.inr rfl) (pe_op op_fdiv (pe_op op_sub (pe_op op_mulW (pv 6) (pv 8)) (pe_op op_mulW (pv 7) (pv 7))) pe_int))
      (pss_cons (ps_par (i := 10) (j := 11) (by rfl) nd rfl rfl (by decide) rfl rfl (pa_cons (pe_op op_sub (pe_op op_mulW (pv 6) (pv 6)) (pe_op op_mul pe_int (pv 7))) (pa_cons (pe_op op_sub (pe_op op_sub (pe_op op_mulW (pe_op op_mul pe_int (pv 6)) (pv 7)) (pe_op op_pow (pv 6) pe_int)) (pe_op op_mul pe_int (pv 8))) pa_nil)) (by rfl))
      (pss_cons (ps_set (i := 12) nd rfl (by first | exact Or.inl rfl | exact Or.inr rfl) (pe_op op_sub (pe_op op_mulW (pe_op op_mulW (pe_op op_mul pe_int (pv 6)) (pv 7)) (pv 8)) (pe_op op_mulW (pe_op op_mulW (pv 6) (pv 6)) (pv 9))))
      (pss_one (ps_ret (pe_tup (pa_cons (pv 6) (pa_cons (pv 7) (pa_cons (pv 8) (pa_cons (pv 9) (pa_cons (pv 10) (pa_cons (pv 11) (pa_cons (pe_op op_sub (pe_op op_sub (pv 12) (pe_op op_mul pe_int (pe_op op_pow (pv 7) pe_int))) (pe_op op_mulW (pe_op op_mul pe_int (pv 8)) (pv 8))) pa_nil))))))))))))))), ?_⟩
    have e2 := hm.b2
    have e4 := hm.b4
    have e6 := hm.b6
    have e8 := hm.b8
    obtain ⟨h1, h2, h3, h4, h6⟩ := hm
    have p3 : B 133 (c.b2 ^ (3 : Int).toNat) := (e2.pow 3).up (by decide)
    have p4 : B 133 (c.b4 ^ (3 : Int).toNat) := (e4.pow 3).up (by decide)
    refine ⟨.ref p, rfl, p, _, rfl, hx, rfl, _, _, rfl, _, _, rfl, _, _, rfl, _, _, rfl, _, _, rfl, rfl, ?_⟩
    first | refine sigN [some (.ref p), some (.int (c.a1)), some (.int (c.a2)), some (.int (c.a3)), some (.int (c.a4)), some (.int (c.a6)), none, none, none, none, none, none, none] (by rfl) ?_ | refine sig [some (.ref p), some (.int (c.a1)), some (.int (c.a2)), some (.int (c.a3)), some (.int (c.a4)), some (.int (c.a6)), none, none, none, none, none, none, none] (by rfl) ?_
    refine ⟨_, rfl, _, rfl, _, _, rfl, rfl, (by walk_at "bnd"), _, rfl, _, _, rfl, rfl, (Or.inl ⟨by decide, by decide⟩), _, _, rfl, rfl, _, rfl, _, _, rfl, rfl, (Or.inl ⟨by decide, by decide⟩), _, rfl, _, rfl, _, _, rfl, rfl, (by walk_at "bnd"), _, _, rfl, rfl, _, rfl, _, rfl, _, _, rfl, rfl, (by walk_at "bnd"), _, rfl, _, _, rfl, rfl, (Or.inl ⟨by decide, by decide⟩), _, _, rfl, rfl, _, _, _, rfl, ?_⟩
    first | refine sigN [some (.ref p), some (.int (c.a1)), some (.int (c.a2)), some (.int (c.a3)), some (.int (c.a4)), some (.int (c.a6)), some (.int (c.b2)), some (.int (c.b4)), some (.int (c.b6)), none, none, none, none] (by rfl) ?_ | refine sig [some (.ref p), some (.int (c.a1)), some (.int (c.a2)), some (.int (c.a3)), some (.int (c.a4)), some (.int (c.a6)), some (.int (c.b2)), some (.int (c.b4)), some (.int (c.b6)), none, none, none, none] (by rfl) ?_
    refine ⟨_, rfl, _, rfl, _, _, rfl, rfl, (by walk_at "bnd"), _, rfl, _, rfl, _, _, rfl, rfl, (by walk_at "bnd"), _, _, rfl, rfl, _, _, rfl, rfl, ⟨by decide, by decide⟩, ?_⟩
    first | refine sigN [some (.ref p), some (.int c.a1), some (.int c.a2), some (.int c.a3), some (.int c.a4), some (.int c.a6), some (.int c.b2), some (.int c.b4), some (.int c.b6), some (.int c.b8), none, none, none] (by rw [← Cv.nums_b8]; rfl) ?_ | refine sig [some (.ref p), some (.int c.a1), some (.int c.a2), some (.int c.a3), some (.int c.a4), some (.int c.a6), some (.int c.b2), some (.int c.b4), some (.int c.b6), some (.int c.b8), none, none, none] (by rw [← Cv.nums_b8]; rfl) ?_
    refine ⟨_, rfl, _, rfl, _, _, rfl, rfl, (by walk_at "bnd"), _, rfl, _, _, rfl, rfl, (Or.inl ⟨by decide, by decide⟩), _, _, rfl, rfl, _, rfl, _, _, rfl, rfl, (Or.inl ⟨by decide, by decide⟩), _, rfl, _, _, rfl, rfl, (by walk_at "bnd"), _, rfl, _, _, rfl, rfl, ⟨by decide, by decide, by walk_at "pw"⟩, _, _, rfl, rfl, _, rfl, _, _, rfl, rfl, (Or.inl ⟨by decide, by decide⟩), _, _, rfl, rfl, _, _, rfl, ?_⟩
    first | refine sigN [some (.ref p), some (.int (c.a1)), some (.int (c.a2)), some (.int (c.a3)), some (.int (c.a4)), some (.int (c.a6)), some (.int (c.b2)), some (.int (c.b4)), some (.int (c.b6)), some (.int (c.b8)), some (.int (c.c4)), some (.int (36 * c.b2 * c.b4 - c.b2 ^ 3 - 216 * c.b6)), none] (by rfl) ?_ | refine sig [some (.ref p), some (.int (c.a1)), some (.int (c.a2)), some (.int (c.a3)), some (.int (c.a4)), some (.int (c.a6)), some (.int (c.b2)), some (.int (c.b4)), some (.int (c.b6)), some (.int (c.b8)), some (.int (c.c4)), some (.int (36 * c.b2 * c.b4 - c.b2 ^ 3 - 216 * c.b6)), none] (by rfl) ?_
    refine ⟨_, rfl, _, _, rfl, rfl, (Or.inl ⟨by decide, by decide⟩), _, rfl, _, _, rfl, rfl, (by walk_at "bnd"), _, rfl, _, _, rfl, rfl, (by walk_at "bnd"), _, rfl, _, rfl, _, _, rfl, rfl, (by walk_at "bnd"), _, rfl, _, _, rfl, rfl, (by walk_at "bnd"), _, _, rfl, rfl, ?_⟩
    first | refine sigN [some (.ref p), some (.int (c.a1)), some (.int (c.a2)), some (.int (c.a3)), some (.int (c.a4)), some (.int (c.a6)), some (.int (c.b2)), some (.int (c.b4)), some (.int (c.b6)), some (.int (c.b8)), some (.int (c.c4)), some (.int (36 * c.b2 * c.b4 - c.b2 ^ 3 - 216 * c.b6)), some (.int (9 * c.b2 * c.b4 * c.b6 - c.b2 * c.b2 * c.b8))] (by rfl) ?_ | refine sig [some (.ref p), some (.int (c.a1)), some (.int (c.a2)), some (.int (c.a3)), some (.int (c.a4)), some (.int (c.a6)), some (.int (c.b2)), some (.int (c.b4)), some (.int (c.b6)), some (.int (c.b8)), some (.int (c.c4)), some (.int (36 * c.b2 * c.b4 - c.b2 ^ 3 - 216 * c.b6)), some (.int (9 * c.b2 * c.b4 * c.b6 - c.b2 * c.b2 * c.b8))] (by rfl) ?_
    refine ⟨_, rfl, _, rfl, _, rfl, _, rfl, _, rfl, _, rfl, _, rfl, _, rfl, _, _, rfl, rfl, ⟨by decide, by decide, by walk_at "pw"⟩, _, _, rfl, rfl, (Or.inl ⟨by decide, by decide⟩), _, _, rfl, rfl, _, rfl, _, _, rfl, rfl, (Or.inl ⟨by decide, by decide⟩), _, rfl, _, _, rfl, rfl, (by walk_at "bnd"), _, _, rfl, rfl, (by show 7 ≤ sizeLine; decide), fun t nt => ?_⟩
    have e : c.nums = [V.int c.b2, V.int c.b4, V.int c.b6, V.int c.b8, V.int c.c4, V.int (36 * c.b2 * c.b4 - c.b2 ^ 3 - 216 * c.b6), V.int (9 * c.b2 * c.b4 * c.b6 - c.b2 * c.b2 * c.b8 - 8 * c.b4 ^ 3 - 27 * c.b6 * c.b6)] := by
      rw [Cv.nums_c6, Cv.nums_d]
      rfl
    rw [e] at q
    exact q t nt
end
end K06
set_option Elab.async false
set_option linter.all false
set_option maxRecDepth 100000
set_option maxHeartbeats 4000000
namespace K06
open PySem PySem.Spec PyProof.Rows L2 Gd QM
section
variable {P : Program} {w : World} {K : PySem.W.Frag} {mg : Str → Option Value} {base : Heap}
/-! ### one draw -/
def sp_law_draw (K : PySem.W.Frag) : Sp := fun vs H Q _ => ∃ (m cl : Addr) (b : Int) (n : Nat), vs = [.ref m, .int b] ∧ 0 < b ∧ b < 1073741824 ∧ n ≤ 1000000 ∧ MAt H m cl n ∧ ∀ H' r, But m H H' → MAt H' m cl (n + 1) → 0 ≤ r → r < b → Q (.int r) H'
abbrev s__law_draw : Stmt := topS 21
theorem sc__law_draw : FnScope ["m", "below", "found", "spot", "cells", "extra", "cell", "blend"] ["m", "below"] (defScope s__law_draw) := ⟨rfl, rfl, rfl, by decide +kernel, rfl, by decide +kernel, by decide +kernel⟩
theorem k_law_draw (T : Tx K mg) (D : Df K mg "_law_draw" s__law_draw ["m", "below"])  : Kl P w K mg base 1 "_law_draw" (sp_law_draw K) := by
  have nd := sc__law_draw.nd
  refine Kl.by_body D sc__law_draw (fun vs H Q E h => ?_) (fun f cdv A outer s H vs Q E hr h => ?_)
  · obtain ⟨_, _, _, _, rfl, _⟩ := h
    rfl
  · obtain ⟨m, c, b, n, rfl, hb0, hb1, hn, ⟨L, s0, cs, k, hm, hk, hc, hl⟩, q⟩ := h
    have hu1 := hu_of hr
    refine ⟨_, (pss_cons (ps_if (pt_cmpR op_gt (pe_dget hu1 (pv 0) pe_str (fun _ _ => rfl)) pe_int (nomark _)) (pss_cons (ps_set (i := 2) nd rfl (by first | exact Or.inl rfl | exact Or.inr rfl) (pe_op op_mod (pe_callTy call_intI (by rfl) T.int (by decide +kernel) (pa_cons (pe_dget hu1 (pv 0) pe_str (fun _ _ => rfl)) pa_nil)) (pv 1)))
      (pss_cons (ps_dput hu1 (pv 0) pe_str (pe_op op_fdivN (pe_dget hu1 (pv 0) pe_str (fun _ _ => rfl)) (pv 1)) rfl)
      (pss_one (ps_ret (pv 2))))) pss_nil)
      (pss_cons (ps_set (i := 3) nd rfl (by first | exact Or.inl rfl | exact Or.inr rfl) (pe_dget hu1 (pv 0) pe_str (fun _ _ => rfl)))
      (pss_cons (ps_dput hu1 (pv 0) pe_str (pe_op op_add (pv 3) pe_int) rfl)
      (pss_cons (ps_par (i := 4) (j := 5) (by rfl) nd rfl rfl (by decide) rfl rfl (pa_cons (pe_dget hu1 (pv 0) pe_str (fun _ _ => rfl)) (pa_cons (pe_op op_add (pe_dget hu1 (pv 0) pe_str (fun _ _ => rfl)) (pe_op op_mulW (pe_op op_mul pe_int (pv 3)) (pv 3))) pa_nil)) (by rfl))
      (pss_cons (ps_set (i := 6) nd rfl (by first | exact Or.inl rfl | exact Or.inr rfl) (pe_ix ix_list (pv 4) (pe_op op_mod (pe_callTy call_intI (by rfl) T.int (by decide +kernel) (pa_cons (pv 3) pa_nil)) (pe_callB call_len_seq (by rfl) T.len (by decide +kernel) (pa_cons (pv 4) pa_nil))) (fun _ _ => rfl)))
      (pss_cons (ps_set (i := 7) nd rfl (by first | exact Or.inl rfl | exact Or.inr rfl) (pe_op op_mod (pe_callTy call_intI (by rfl) T.int (by decide +kernel) (pa_cons (pe_op op_add (pe_op op_mul (pv 6) (pe_op op_add (pe_op op_mul pe_int (pv 3)) pe_int)) (pv 5)) pa_nil)) pe_int))
      (pss_cons (ps_set (i := 7) nd rfl (by first | exact Or.inl rfl | exact Or.inr rfl) (pe_op op_mod (pe_callTy call_intI (by rfl) T.int (by decide +kernel) (pa_cons (pe_op op_add (pe_op op_add (pe_op op_mul (pv 7) (pv 7)) (pe_op op_mul pe_int (pv 3))) (pe_dget hu1 (pv 0) pe_str (fun _ _ => rfl))) pa_nil)) pe_int))
      (pss_one (ps_ret (pe_op op_mod (pe_op op_fdiv (pe_op op_mod (pe_callTy call_intI (by rfl) T.int (by decide +kernel) (pa_cons (pe_op op_add (pe_op op_mul (pv 7) pe_int) (pv 3)) pa_nil)) pe_int) pe_int) (pv 1))))))))))), ?_⟩
    have gL : DGet H m (.str "left") (some (.int L)) := m4_left (L := L) ▸ DGet.k (k := Sum.inr "left") hm
    have ncm : c ≠ m := ne_of hc hm (by intro z; cases z)
    refine ⟨_, rfl, m, _, rfl, gL, _, _, rfl, rfl, _, rfl, ite2 (fun e => ?_) (fun e => ?_)⟩
    · refine ⟨_, rfl, m, _, rfl, gL, _, rfl, _, rfl, _, _, rfl, rfl, hb0, ?_⟩
      refine ⟨_, rfl, m, _, rfl, gL, _, rfl, _, _, rfl, rfl, ⟨by omega, by omega⟩, _, rfl, m, _, rfl, DPut.k (k := Sum.inr "left") hm (small1000 (by show 4 ≤ 1000; decide)), ?_⟩
      rw [m4_putL]
      refine ⟨_, rfl, ?_⟩
      refine q _ _ But.upd ⟨_, s0, cs, k, upd_same, by omega, ?_, hl⟩ (Int.emod_nonneg _ (by omega)) (Int.emod_lt_of_pos _ hb0)
      rw [upd_ne ncm]
      exact hc
    · have gS : DGet H m (.str "spot") (some (.int k)) := m4_spot (n := k) ▸ DGet.k (k := Sum.inr "spot") hm
      refine ⟨_, rfl, m, _, rfl, gS, ?_⟩
      refine ⟨_, rfl, _, _, rfl, rfl, _, rfl, m, _, rfl, DPut.k (k := Sum.inr "spot") hm (small1000 (by show 4 ≤ 1000; decide)), ?_⟩
      rw [m4_putS]
      have hm2 : (upd H m (HO.dK (mk4 L s0 c (k + 1)))) m = some (.dK (mk4 L s0 c (k + 1))) := upd_same
      have hc2 : (upd H m (HO.dK (mk4 L s0 c (k + 1)))) c = some (.lst (cs.map V.int)) := by
        rw [upd_ne ncm]
        exact hc
      have bt : But m H (upd H m (HO.dK (mk4 L s0 c (k + 1)))) := But.upd
      generalize upd H m (HO.dK (mk4 L s0 c (k + 1))) = H2 at hm2 hc2 bt ⊢
      have gC : DGet H2 m (.str "cells") (some (.ref c)) := m4_cells (c := c) ▸ DGet.k (k := Sum.inr "cells") hm2
      have gE : DGet H2 m (.str "seed") (some (.int s0)) := m4_seed (s := s0) ▸ DGet.k (k := Sum.inr "seed") hm2
      have bk : B 20 (k : Int) := by
        unfold B
        omega
      refine ⟨_, rfl, m, _, rfl, gC, _, rfl, m, _, rfl, gE, _, rfl, _, _, rfl, rfl, (Or.inl ⟨by decide, by decide⟩), _, rfl, _, _, rfl, rfl, ((B.lit (n := 20) (by decide)).mul bk).mulW bk (by decide), _, _, rfl, rfl, _, _, rfl, ?_⟩
      have hlz : (0 : Int) < ((cs.map V.int).length : Int) := by
        rw [List.length_map]
        omega
      have hix : ∃ z : Int, atI (cs.map V.int) ((k : Int) % ((cs.map V.int).length : Int)) = some (.int z) := by
        rw [List.length_map]
        have h1 : k % cs.length < cs.length := Nat.mod_lt _ hl
        refine ⟨cs[k % cs.length], ?_⟩
        rw [← Int.natCast_emod]
        refine atI_nat ?_
        rw [List.getElem?_map, List.getElem?_eq_getElem h1]
        rfl
      obtain ⟨z, hz⟩ := hix
      refine ⟨_, rfl, _, rfl, _, rfl, _, rfl, c, _, rfl, .inl (.inl (.inl hc2)), _, _, rfl, rfl, hlz, c, _, _, _, rfl, rfl, .inl (.inl hc2), hz, ?_⟩
      have bk2 : B 30 (2 * (k : Int) + 3) := by
        unfold B
        omega
      refine ⟨_, rfl, _, rfl, _, _, rfl, rfl, (Or.inl ⟨by decide, by decide⟩), _, _, rfl, rfl, _, _, rfl, rfl, bk2.mulR (by decide), _, rfl, _, _, rfl, rfl, _, rfl, _, _, rfl, rfl, (by show (0 : Int) < 2147483647; decide), ?_⟩
      have be : ∀ y : Int, B 32 (y % 2147483647) := fun y => by
        have h1 := Int.emod_nonneg y (show (2147483647 : Int) ≠ 0 by decide)
        have h2 := Int.emod_lt_of_pos y (show (0 : Int) < 2147483647 by decide)
        unfold B
        omega
      refine ⟨_, rfl, _, rfl, _, _, rfl, rfl, (be _).mulR (by decide), _, rfl, _, _, rfl, rfl, (Or.inl ⟨by decide, by decide⟩), _, _, rfl, rfl, _, rfl, m, _, rfl, gE, _, _, rfl, rfl, _, rfl, _, _, rfl, rfl, (by show (0 : Int) < 2147483629; decide), ?_⟩
      refine ⟨_, rfl, _, _, rfl, rfl, (Or.inr ⟨by decide, by decide⟩), _, rfl, _, _, rfl, rfl, _, rfl, _, _, rfl, rfl, (by show (0 : Int) < 2147483647; decide), _, _, rfl, rfl, ⟨by decide, by decide⟩, _, rfl, _, _, rfl, rfl, hb0, ?_⟩
      exact q _ _ bt ⟨L, s0, cs, k + 1, hm2, by omega, hc2, hl⟩ (Int.emod_nonneg _ (by omega)) (Int.emod_lt_of_pos _ hb0)
/-! ### one of some -/
def sp_law_of (K : PySem.W.Frag) : Sp := fun vs H Q _ => ∃ (m cl a : Addr) (xs : List V) (n : Nat), vs = [.ref m, .ref a] ∧ SqL K H a xs ∧ 0 < xs.length ∧ xs.length ≤ 1000 ∧ n ≤ 1000000 ∧ MAt H m cl n ∧ ∀ H' x, But m H H' → MAt H' m cl (n + 1) → x ∈ xs → Q x H'
abbrev s__law_of : Stmt := topS 22
theorem sc__law_of : FnScope ["m", "some"] ["m", "some"] (defScope s__law_of) := ⟨rfl, rfl, rfl, by decide +kernel, rfl, by decide +kernel, by decide +kernel⟩
theorem k_law_of (T : Tx K mg) (D : Df K mg "_law_of" s__law_of ["m", "some"]) (c_law_draw : Kl P w K mg base 1 "_law_draw" (sp_law_draw K)) : Kl P w K mg base 2 "_law_of" (sp_law_of K) := by
  have nd := sc__law_of.nd
  refine Kl.by_body D sc__law_of (fun vs H Q E h => ?_) (fun f cdv A outer s H vs Q E hr h => ?_)
  · obtain ⟨_, _, _, _, _, rfl, _⟩ := h
    rfl
  · obtain ⟨m, cl, a, xs, n, rfl, hx, h0, h1, hn, hM, q⟩ := h
    have hu1 := hu_of hr
    refine ⟨_, (pss_one (ps_ret (pe_ix ix_list (pv 1) (pe_k c_law_draw  hr (by decide) (by rfl) (pa_cons (pv 0) (pa_cons (pe_callB call_len_seq (by rfl) T.len (by decide +kernel) (pa_cons (pv 1) pa_nil)) pa_nil))) (fun _ _ => rfl)))), ?_⟩
    refine ⟨.ref a, rfl, _, rfl, .ref a, rfl, a, xs, rfl, .inl hx, m, cl, _, n, rfl, by omega, by omega, hn, hM, fun H1 r b1 m1 r0 r1 => ?_⟩
    have hr1 : r.toNat < xs.length := by omega
    refine ⟨a, xs, r, xs[r.toNat], rfl, rfl, b1.seqL hM hx, ?_, q _ _ b1 m1 (List.getElem_mem hr1)⟩
    have key : atI xs ((r.toNat : Nat) : Int) = some xs[r.toNat] := atI_nat (List.getElem?_eq_getElem hr1)
    rw [show ((r.toNat : Nat) : Int) = r by omega] at key
    exact key
/-! ### between -/
def sp_law_between (K : PySem.W.Frag) : Sp := fun vs H Q _ => ∃ (m cl : Addr) (z : Int) (n : Nat), vs = [.ref m, .int z] ∧ 0 ≤ z ∧ z ≤ 100000 ∧ n ≤ 1000000 ∧ MAt H m cl n ∧ ∀ H' r, But m H H' → MAt H' m cl (n + 1) → -z ≤ r → r ≤ z → Q (.int r) H'
abbrev s__law_between : Stmt := topS 23
theorem sc__law_between : FnScope ["m", "size"] ["m", "size"] (defScope s__law_between) := ⟨rfl, rfl, rfl, by decide +kernel, rfl, by decide +kernel, by decide +kernel⟩
theorem k_law_between (T : Tx K mg) (D : Df K mg "_law_between" s__law_between ["m", "size"]) (c_law_draw : Kl P w K mg base 1 "_law_draw" (sp_law_draw K)) : Kl P w K mg base 2 "_law_between" (sp_law_between K) := by
  have nd := sc__law_between.nd
  refine Kl.by_body D sc__law_between (fun vs H Q E h => ?_) (fun f cdv A outer s H vs Q E hr h => ?_)
  · obtain ⟨_, _, _, _, rfl, _⟩ := h
    rfl
  · obtain ⟨m, cl, z, n, rfl, h0, h1, hn, hM, q⟩ := h
    have hu1 := hu_of hr
    refine ⟨_, (pss_one (ps_ret (pe_op op_sub (pe_k c_law_draw  hr (by decide) (by rfl) (pa_cons (pv 0) (pa_cons (pe_op op_add (pe_op op_mul pe_int (pv 1)) pe_int) pa_nil))) (pv 1)))), ?_⟩
    refine ⟨_, rfl, _, rfl, _, _, rfl, rfl, (Or.inl ⟨by decide, by decide⟩), _, _, rfl, rfl, m, cl, _, n, rfl, by omega, by omega, hn, hM, fun H1 r b1 m1 r0 r1 => ?_⟩
    refine ⟨_, rfl, _, _, rfl, rfl, ?_⟩
    exact q _ _ b1 m1 (by omega) (by omega)
/-! ### the state of a turn -/
def sp_law_begun (K : PySem.W.Frag) : Sp := fun vs H Q _ => ∃ (a : Addr) (k : Int) (ns : List Int), vs = [.ref a, .int k] ∧ SqL K H a (ns.map V.int) ∧ ns.length ≤ 63 ∧ 0 ≤ k ∧ k ≤ 100 ∧ ∀ H' m cl, Same H H' → H m = none → H cl = none → MAt H' m cl 0 → Q (.ref m) H'
theorem cut_int {ns : List Int} (lo hi : Option Int) : ∃ ms : List Int, cutV (ns.map V.int) lo hi = ms.map V.int ∧ ms.length ≤ ns.length := by
  unfold cutV
  refine ⟨(ns.drop (HT.sIx (ns.map V.int).length 0 lo)).take (HT.sIx (ns.map V.int).length (ns.map V.int).length hi - HT.sIx (ns.map V.int).length 0 lo), ?_, ?_⟩
  · rw [List.map_take, List.map_drop]
  · rw [List.length_take, List.length_drop]
    omega
abbrev s__law_begun : Stmt := topS 20
theorem sc__law_begun : FnScope ["script", "k", "cells", "great", "cell", "begun", "left"] ["script", "k"] (defScope s__law_begun) := ⟨rfl, rfl, rfl, by decide +kernel, rfl, by decide +kernel, by decide +kernel⟩
theorem k_law_begun (T : Tx K mg) (D : Df K mg "_law_begun" s__law_begun ["script", "k"])  : Kl P w K mg base 1 "_law_begun" (sp_law_begun K) := by
  have nd := sc__law_begun.nd
  refine Kl.by_body D sc__law_begun (fun vs H Q E h => ?_) (fun f cdv A outer s H vs Q E hr h => ?_)
  · obtain ⟨_, _, _, rfl, _⟩ := h
    rfl
  · obtain ⟨a, k, ns, rfl, hx, hl, hk0, hk1, q⟩ := h
    have hu1 := hu_of hr
    refine ⟨_, (pss_cons (ps_set (i := 2) nd rfl (by first | exact Or.inl rfl | exact Or.inr rfl) (pe_op op_cat (pe_slice sl_list (pv 0) (po_some (pv 1)) po_none) (pe_slice sl_list (pv 0) po_none (po_some (pv 1)))))
      (pss_cons (ps_setLc (i := 3) (own := [("cell", 4)]) (g := gName 4) rfl nd rfl rfl (sw_true rfl rfl rfl (by decide +kernel)) (pi_list (pv 0)) (blkOk_by (N := ["script", "k", "cells", "great", "cell", "begun", "left"]) (sc := defScope s__law_begun) (by decide +kernel)) (fun _ _ _ _ _ => (pg_name (i := 4) nd rfl (by first | exact Or.inl rfl | exact Or.inr rfl))) (fun _ _ _ _ _ => (pts_one (pt_cmpR op_ge (pv 4) (pe_op op_pow pe_int pe_int) (nomark _)))) (fun _ _ _ _ _ => (pv 4)))
      (pss_cons (ps_set (i := 5) nd rfl (by first | exact Or.inl rfl | exact Or.inr rfl) (pe_op op_add pe_int (pe_op op_mul pe_int (pv 1))))
      (pss_cons (ps_for PassesOwn.never rfl (pi_list (pv 2)) (pg_name (i := 4) nd rfl (by first | exact Or.inl rfl | exact Or.inr rfl)) (pss_one (ps_set (i := 5) nd rfl (by first | exact Or.inl rfl | exact Or.inr rfl) (pe_op op_mod (pe_callTy call_intI (by rfl) T.int (by decide +kernel) (pa_cons (pe_op op_add (pe_op op_mul (pv 5) pe_int) (pv 4)) pa_nil)) pe_int))))
      (pss_cons (ps_set (i := 6) nd rfl (by first | exact Or.inl rfl | exact Or.inr rfl) (pe_ifExp (pt_cmpR op_lt (pv 1) (pe_callB call_len_seq (by rfl) T.len (by decide +kernel) (pa_cons (pv 3) pa_nil)) (nomark _)) (pe_ix ix_list (pv 3) (pv 1) (fun _ _ => rfl)) pe_int))
      (pss_one (ps_ret (pe_disp (pps_cons pe_str (pv 6) (pps_cons pe_str (pv 5) (pps_cons pe_str (pe_op op_cat (pv 2) (pe_lst (pa_cons (pe_op op_add (pe_op op_mul pe_int (pv 1)) pe_int) pa_nil))) (pps_cons pe_str pe_int pps_nil)))) (by rfl) (by rfl) (fun z => by cases z) (by decide))))))))), ?_⟩
    obtain ⟨m1, e1, l1⟩ := cut_int (ns := ns) (some k) none
    obtain ⟨m2, e2, l2⟩ := cut_int (ns := ns) none (some k)
    refine ⟨.ref a, rfl, _, rfl, k, rfl, a, _, rfl, hx, fun p1 n1 => ?_⟩
    rw [e1]
    have s1 : Same H (upd H p1 (.lst (m1.map V.int))) := Same.new n1
    have g1 : (upd H p1 (.lst (m1.map V.int))) p1 = some (.lst (m1.map V.int)) := upd_same
    generalize upd H p1 (.lst (m1.map V.int)) = H1 at s1 g1 ⊢
    refine ⟨.ref a, rfl, _, rfl, k, rfl, a, _, rfl, s1.seq hx, fun p2 n2 => ?_⟩
    rw [e2]
    have s2 : Same H1 (upd H1 p2 (.lst (m2.map V.int))) := Same.new n2
    have g2 : (upd H1 p2 (.lst (m2.map V.int))) p2 = some (.lst (m2.map V.int)) := upd_same
    generalize upd H1 p2 (.lst (m2.map V.int)) = H2 at s2 g2 ⊢
    refine ⟨p1, p2, _, _, rfl, rfl, s2 _ _ g1, g2, ?_, fun p3 n3 => ?_⟩
    · rw [List.length_map, List.length_map]
      exact small (by omega)
    rw [← List.map_append]
    have s3 : Same H2 (upd H2 p3 (.lst ((m1 ++ m2).map V.int))) := Same.new n3
    have g3 : (upd H2 p3 (.lst ((m1 ++ m2).map V.int))) p3 = some (.lst ((m1 ++ m2).map V.int)) := upd_same
    have hl3 : (m1 ++ m2).length ≤ 126 := by
      rw [List.length_append]
      omega
    generalize m1 ++ m2 = cs at s3 g3 hl3 ⊢
    generalize upd H2 p3 (.lst (cs.map V.int)) = H3 at s3 g3 ⊢
    have sA : Same H H3 := (s1.trans s2).trans s3
    clear s1 s2 s3 g1 g2
    first | refine sigN [some (.ref a), some (.int (k)), some (V.ref p3), none, none, none, none] (by rfl) ?_ | refine sig [some (.ref a), some (.int (k)), some (V.ref p3), none, none, none, none] (by rfl) ?_
    refine ⟨.ref a, rfl, a, rfl, ⟨_, sA.seq hx⟩, fun D hD => ?_⟩
    refine lc_list (K := K) (a := a) (xs := ns.map V.int) (fun i H4 => Same H3 H4 ∧ ∃ gs : List Int, H4 D = some (.lst (gs.map V.int)) ∧ gs.length ≤ i) ⟨Same.new hD, [], upd_same, Nat.le_refl _⟩ (fun i H4 _ z => (sA.trans z.1).seq hx) (fun i x H4 hi z => ?_) (fun H4 z => ?_)
    · obtain ⟨s4, gs, g4, l4⟩ := z
      obtain ⟨y, rfl⟩ : ∃ y : Int, x = .int y := by
        rw [List.getElem?_map] at hi
        cases e : ns[i]? with
        | none =>
          rw [e] at hi
          cases hi
        | some y =>
          rw [e] at hi
          exact ⟨y, (Option.some.inj hi).symm⟩
      have hi2 : i < ns.length := by
        have h1 := (List.getElem?_eq_some_iff.mp hi).1
        rw [List.length_map] at h1
        exact h1
      refine ⟨rfl, _, rfl, _, _, rfl, rfl, ⟨by decide, by decide, by decide⟩, _, _, rfl, rfl, _, rfl, ite2 (fun _ => ?_) (fun _ => ?_)⟩
      · refine ⟨_, rfl, _, g4, ?_, Same.put s4 hD, gs ++ [y], ?_, ?_⟩
        · rw [List.length_map]
          exact small1000 (by omega)
        · rw [upd_same, List.map_append]
          rfl
        · rw [List.length_append]
          exact Nat.add_le_add_right l4 1
      · exact ⟨s4, gs, g4, Nat.le_succ_of_le l4⟩
    · obtain ⟨s4, gs, g4, l4⟩ := z
      have sB : Same H H4 := sA.trans s4
      have g3' := s4 _ _ g3
      refine ⟨_, rfl, _, _, rfl, rfl, (Or.inl ⟨by decide, by decide⟩), _, _, rfl, rfl, ?_⟩
      first | refine sigN [some (.ref a), some (.int (k)), some (V.ref p3), some (V.ref D), none, some (.int (61 + 9 * k)), none] (by rfl) ?_ | refine sig [some (.ref a), some (.int (k)), some (V.ref p3), some (V.ref D), none, some (.int (61 + 9 * k)), none] (by rfl) ?_
      refine ⟨_, rfl, p3, rfl, ⟨_, .inl (.inl g3')⟩, for_list (K := K) (a := p3) (xs := cs.map V.int) (fun i σ H5 => H5 = H4 ∧ ∃ (y : Int) (v : Option V), σ = [some (.ref a), some (.int k), some (.ref p3), some (.ref D), v, some (.int y), none]) ⟨rfl, _, none, rfl⟩ (fun i σ H5 _ z => by rw [z.1]; exact .inl (.inl g3')) ?_ ?_⟩
      · rintro i x σ H5 hi ⟨rfl, y, v, rfl⟩
        obtain ⟨t, rfl⟩ : ∃ t : Int, x = .int t := by
          rw [List.getElem?_map] at hi
          cases e : cs[i]? with
          | none =>
            rw [e] at hi
            cases hi
          | some t =>
            rw [e] at hi
            exact ⟨t, (Option.some.inj hi).symm⟩
        refine ⟨_, rfl, _, _, rfl, rfl, (Or.inr ⟨by decide, by decide⟩), _, rfl, _, _, rfl, rfl, _, rfl, _, _, rfl, rfl, (by show (0 : Int) < 2147483647; decide), ?_⟩
        exact ⟨rfl, _, _, rfl⟩
      · rintro σ H5 ⟨rfl, y, v, rfl⟩
        refine ⟨_, rfl, _, rfl, D, _, rfl, .inl (.inl (.inl g4)), _, _, rfl, rfl, _, rfl, ite2 (fun e => ?A) (fun e => ?B)⟩
        case' A =>
          have e' : k < ((gs.map V.int).length : Int) := of_decide_eq_true e
          rw [List.length_map] at e'
          have hk2 : k.toNat < gs.length := by omega
          have hz : atI (gs.map V.int) k = some (.int gs[k.toNat]) := by
            have key : atI (gs.map V.int) ((k.toNat : Nat) : Int) = some (.int gs[k.toNat]) := atI_nat (by
              rw [List.getElem?_map, List.getElem?_eq_getElem hk2]
              rfl)
            rw [show ((k.toNat : Nat) : Int) = k by omega] at key
            exact key
          refine ⟨_, rfl, _, rfl, D, _, _, _, rfl, rfl, .inl (.inl g4), hz, ?_⟩
        all_goals
          intro m nm
          have h3m : p3 ≠ m := ne_of_none g3' nm
          refine ⟨_, rfl, _, rfl, _, rfl, _, rfl, _, _, rfl, rfl, (Or.inl ⟨by decide, by decide⟩), _, _, rfl, rfl, (by show 1 ≤ sizeLine; decide), fun l nl => ?_⟩
          have nml : m ≠ l := ne_of_none upd_same nl
          have nl0 : H5 l = none := Same.free (Same.new nm) nl
          refine ⟨p3, l, cs.map V.int, [V.int (47 * k + 19)], rfl, rfl, ?_, upd_same, ?_, fun u nu => ?_⟩
          · rw [upd_ne (ne_of_none g3' nl0), upd_ne h3m]
            exact g3'
          · rw [List.length_map]
            exact small (by show cs.length + 1 ≤ 1000; omega)
          have nmu : m ≠ u := ne_of_none (by rw [upd_ne nml]; exact upd_same) nu
          have nu0 : H5 u = none := Same.free (Same.put (Same.new nm) nl0) nu
          refine ⟨?_, mk4 _ y u 0, rfl, (by show 4 ≤ 15; decide), ?_⟩
          · rw [upd_ne nmu, upd_ne nml]
            exact upd_same
          rw [m4_merge]
          have hm0 : H m = none := Same.free sB nm
          have hl0 : H l = none := Same.free sB nl0
          have hu0 : H u = none := Same.free sB nu0
          refine q _ m u (Same.put (Same.put (Same.put (Same.put sB hm0) hl0) hu0) hm0) hm0 hu0 ⟨_, y, cs ++ [47 * k + 19], 0, upd_same, Nat.le_refl _, ?_, ?_⟩
          · rw [upd_ne (fun z => nmu z.symm), upd_same, List.map_append]
            rfl
          · rw [List.length_append]
            exact Nat.lt_of_lt_of_le (by decide : 0 < 1) (Nat.le_add_left _ _)
end
end K06
set_option Elab.async false
set_option linter.all false
set_option maxRecDepth 100000
set_option maxHeartbeats 400000
namespace K06
open PySem PySem.Spec PyProof.Rows L2 Gd QM
/-! ### products of polynomials -/
/-- the heap while two polynomials are walked: p, q hold hp, hq; F is being made -/
structure S3 (K : PySem.W.Frag) (H : Hp) (p q F : Addr) (kf kg : List (List L2.Key × V)) (f g : PL) (m n : Nat) (H4 : Hp) (hp hq : HO) (acc : PL) (M : Nat) : Prop where
  ep : H4 p = some hp
  eq : H4 q = some hq
  pf : PR K H4 m kf f
  pg : PR K H4 n kg g
  fa : ∃ ka, H4 F = some (.dT ka) ∧ PR K H4 M ka acc
  out : ∀ c o, H c = some o → c ≠ p → c ≠ q → H4 c = some o
  ln : acc.length ≤ M
theorem pput_len (L : PL) (k : Int × Int) (v : Rat) : (pput L k v).length ≤ L.length + 1 := by
  unfold pput
  split
  · rw [List.length_map]
    omega
  · rw [List.length_append]
    exact Nat.le_refl _
section
variable {K : PySem.W.Frag} {H : Hp} {p q F : Addr} {kf kg : List (List L2.Key × V)} {f g : PL} {m n : Nat} {H4 H5 : Hp} {hp hq : HO} {acc : PL} {M : Nat}
theorem S3.same (z : S3 K H p q F kf kg f g m n H4 hp hq acc M) (s : Same H4 H5) : S3 K H p q F kf kg f g m n H5 hp hq acc M := by
  obtain ⟨ka, h1, h2⟩ := z.fa
  exact ⟨s _ _ z.ep, s _ _ z.eq, z.pf.mono (fun _ _ => Same.tup s) (Nat.le_refl _), z.pg.mono (fun _ _ => Same.tup s) (Nat.le_refl _), ⟨ka, s _ _ h1, h2.mono (fun _ _ => Same.tup s) (Nat.le_refl _)⟩, fun c o e a b => s _ _ (z.out c o e a b), z.ln⟩
/-- p is locked or unlocked -/
theorem S3.setp (z : S3 K H p q F kf kg f g m n H4 hp hq acc M) {o : HO} (ht : ∀ a xs, SqT K H4 a xs → SqT K (upd H4 p o) a xs) (hpq : p ≠ q) (hpF : F ≠ p) : S3 K H p q F kf kg f g m n (upd H4 p o) o hq acc M := by
  obtain ⟨ka, h1, h2⟩ := z.fa
  refine ⟨upd_same, ?_, z.pf.mono ht (Nat.le_refl _), z.pg.mono ht (Nat.le_refl _), ⟨ka, ?_, h2.mono ht (Nat.le_refl _)⟩, fun c x e a b => ?_, z.ln⟩
  · rw [upd_ne (fun e => hpq e.symm)]
    exact z.eq
  · rw [upd_ne hpF]
    exact h1
  · rw [upd_ne a]
    exact z.out c x e a b
theorem S3.setq (z : S3 K H p q F kf kg f g m n H4 hp hq acc M) {o : HO} (ht : ∀ a xs, SqT K H4 a xs → SqT K (upd H4 q o) a xs) (hpq : p ≠ q) (hqF : F ≠ q) : S3 K H p q F kf kg f g m n (upd H4 q o) hp o acc M := by
  obtain ⟨ka, h1, h2⟩ := z.fa
  refine ⟨?_, upd_same, z.pf.mono ht (Nat.le_refl _), z.pg.mono ht (Nat.le_refl _), ⟨ka, ?_, h2.mono ht (Nat.le_refl _)⟩, fun c x e a b => ?_, z.ln⟩
  · rw [upd_ne hpq]
    exact z.ep
  · rw [upd_ne hqF]
    exact h1
  · rw [upd_ne b]
    exact z.out c x e a b
/-- both are one -/
theorem S3.set2 (z : S3 K H p p F kf kg f g m n H4 hp hq acc M) {o : HO} (ht : ∀ a xs, SqT K H4 a xs → SqT K (upd H4 p o) a xs) (hpF : F ≠ p) : S3 K H p p F kf kg f g m n (upd H4 p o) o o acc M := by
  obtain ⟨ka, h1, h2⟩ := z.fa
  refine ⟨upd_same, upd_same, z.pf.mono ht (Nat.le_refl _), z.pg.mono ht (Nat.le_refl _), ⟨ka, ?_, h2.mono ht (Nat.le_refl _)⟩, fun c x e a b => ?_, z.ln⟩
  · rw [upd_ne hpF]
    exact h1
  · rw [upd_ne a]
    exact z.out c x e a b
theorem S3.store (z : S3 K H p q F kf kg f g m n H4 hp hq acc M) {ka : List (List L2.Key × V)} (hF : H4 F = some (.dT ka)) (ra : PR K H4 M ka acc) {a : Addr} {v : Rat} {M' : Nat} {k : Int × Int} (h1 : SqT K H4 a (fq v)) (h2 : RB M' v) (hM : M + 1 ≤ M') (hF0 : H F = none) (hpF : F ≠ p) (hqF : F ≠ q) :
    S3 K H p q F kf kg f g m n (upd H4 F (.dT (putK ka (kk k) (.ref a)))) hp hq (pput acc k v) M' := by
  have ht : ∀ b xs, SqT K H4 b xs → SqT K (upd H4 F (.dT (putK ka (kk k) (.ref a)))) b xs := fun _ _ => tup_putD hF
  refine ⟨?_, ?_, z.pf.mono ht (Nat.le_refl _), z.pg.mono ht (Nat.le_refl _), ⟨_, upd_same, ((ra.mono (fun _ _ h => h) (Nat.le_of_succ_le hM)).put k h1 h2).mono ht (Nat.le_refl _)⟩, fun c x e y1 y2 => ?_, Nat.le_trans (pput_len _ _ _) (Nat.le_trans (Nat.add_le_add_right z.ln 1) hM)⟩
  · rw [upd_ne (fun e => hpF e.symm)]
    exact z.ep
  · rw [upd_ne (fun e => hqF e.symm)]
    exact z.eq
  · rw [upd_ne (ne_of_none e hF0)]
    exact z.out c x e y1 y2
theorem S3.up (z : S3 K H p q F kf kg f g m n H4 hp hq acc M) {M' : Nat} (h : M ≤ M') : S3 K H p q F kf kg f g m n H4 hp hq acc M' := by
  obtain ⟨ka, h1, h2⟩ := z.fa
  exact ⟨z.ep, z.eq, z.pf, z.pg, ⟨ka, h1, h2.mono (fun _ _ h => h) h⟩, z.out, Nat.le_trans z.ln h⟩
theorem S3.done (z : S3 K H p q F kf kg f g m n H4 (.dT kf) (.dT kg) acc M) (h1 : H p = some (.dT kf)) (h2 : H q = some (.dT kg)) : Same H H4 := fun c o e => by
  by_cases a : c = p
  · subst a
    rw [h1] at e
    rw [z.ep]
    exact e
  · by_cases b : c = q
    · subst b
      rw [h2] at e
      rw [z.eq]
      exact e
    · exact z.out c o e a b
end
theorem Fnd.some {K : PySem.W.Frag} {H : Hp} {m : Nat} {o : Option V} {q : Rat} (h : Fnd K H m o (some q)) : ∃ a, o = some (.ref a) ∧ SqT K H a (fq q) ∧ RB m q := by
  cases o with
  | none => exact h.elim
  | some v =>
    obtain ⟨a, rfl, h1, h2⟩ := h
    exact ⟨a, rfl, h1, h2⟩
theorem Fnd.get0 {K : PySem.W.Frag} {H : Hp} {m : Nat} {o : Option V} {r : Option Rat} {t : Addr} (h : Fnd K H m o r) (ht : SqT K H t (fq 0)) (hm : 1 ≤ m) : ∃ a, o.getD (.ref t) = .ref a ∧ SqT K H a (fq (r.getD 0)) ∧ RB m (r.getD 0) := by
  cases o with
  | none =>
    cases r with
    | none => exact ⟨t, rfl, ht, RB.zero.up hm⟩
    | some q => exact h.elim
  | some v =>
    cases r with
    | none => exact h.elim
    | some q =>
      obtain ⟨a, rfl, h1, h2⟩ := h
      exact ⟨a, rfl, h1, h2⟩
theorem small1000' {n : Nat} (h : n ≤ 4000) : n < sizeLine := by
  rw [sizeLine_eq]
  omega
theorem take_fold {A : Type} {f : PL} {i : Nat} {e : (Int × Int) × Rat} (h : f[i]? = some e) (op : A → (Int × Int) × Rat → A) (a : A) : (f.take (i + 1)).foldl op a = op ((f.take i).foldl op a) e := by
  rw [List.take_succ, List.foldl_append, h]
  rfl
section
variable {P : Program} {w : World} {K : PySem.W.Frag} {mg : Str → Option Value} {base : Heap}
def sp_law_poly_by (K : PySem.W.Frag) : Sp := fun vs H Q _ => ∃ (p q : Addr) (f g : PL) (m n : Nat), vs = [.ref p, .ref q] ∧ PAt K H p f m ∧ PAt K H q g n ∧ f.length * g.length * (m + n + 1) + 1 ≤ 4000 ∧ f.length * g.length ≤ 1000 ∧ m ≤ 4000 ∧ n ≤ 4000 ∧ ∀ H' t, Same H H' → H t = none → PAt K H' t (pby f g) (f.length * g.length * (m + n + 1) + 1) → Q (.ref t) H'
abbrev s__law_poly_by : Stmt := topS 38
theorem sc__law_poly_by : FnScope ["f", "g", "found", "i", "j", "k", "l", "part"] ["f", "g"] (defScope s__law_poly_by) := ⟨rfl, rfl, rfl, by decide +kernel, rfl, by decide +kernel, by decide +kernel⟩
theorem k_law_poly_by (T : Tx K mg) (D : Df K mg "_law_poly_by" s__law_poly_by ["f", "g"]) (c_law_by : Kl P w K mg base 3 "_law_by" (sp_law_by K)) (c_law_plus : Kl P w K mg base 3 "_law_plus" (sp_law_plus K)) : Kl P w K mg base 4 "_law_poly_by" (sp_law_poly_by K) := by
  have nd := sc__law_poly_by.nd
  refine Kl.by_body D sc__law_poly_by (fun vs H Q E h => ?_) (fun f cdv A outer s H vs Q E hr h => ?_)
  · obtain ⟨_, _, _, _, _, _, rfl, _⟩ := h
    rfl
  · obtain ⟨p, q, f, g, m, n, rfl, hf, hg, hsz, hlen, hm, hn, k⟩ := h
    by_cases hpq : p = q
    · subst hpq
      have hu1 := hu_of hr
      refine ⟨_, (pss_cons (ps_set (i := 2) nd rfl (by first | exact Or.inl rfl | exact Or.inr rfl) pe_dnewT)
      (pss_cons (ps_lock (ps_for PassesOwn.never rfl (pi_keys (pv 0)) (pg_tup rfl (pgs_cons (pg_name (i := 3) nd rfl (by first | exact Or.inl rfl | exact Or.inr rfl)) (pgs_cons (pg_name (i := 4) nd rfl (by first | exact Or.inl rfl | exact Or.inr rfl)) pgs_nil))) (pss_one (ps_for PassesOwn.never rfl (pi_keys (pv 1)) (pg_tup rfl (pgs_cons (pg_name (i := 5) nd rfl (by first | exact Or.inl rfl | exact Or.inr rfl)) (pgs_cons (pg_name (i := 6) nd rfl (by first | exact Or.inl rfl | exact Or.inr rfl)) pgs_nil))) (pss_cons (ps_set (i := 7) nd rfl (by first | exact Or.inl rfl | exact Or.inr rfl) (pe_k c_law_by  hr (by decide) (by rfl) (pa_cons (pe_dget hu1 (pv 0) (pe_tup (pa_cons (pv 3) (pa_cons (pv 4) pa_nil))) (fun _ _ => rfl)) (pa_cons (pe_dget hu1 (pv 1) (pe_tup (pa_cons (pv 5) (pa_cons (pv 6) pa_nil))) (fun _ _ => rfl)) pa_nil))))
      (pss_one (ps_dput hu1 (pv 2) (pe_tup (pa_cons (pe_op op_add (pv 3) (pv 5)) (pa_cons (pe_op op_add (pv 4) (pv 6)) pa_nil))) (pe_k c_law_plus  hr (by decide) (by rfl) (pa_cons (pe_dget2 hu1 (pv 2) (pe_tup (pa_cons (pe_op op_add (pv 3) (pv 5)) (pa_cons (pe_op op_add (pv 4) (pv 6)) pa_nil))) (pe_tup (pa_cons pe_int (pa_cons pe_int pa_nil))) ⟨rfl, rfl, rfl, rfl⟩) (pa_cons (pv 7) pa_nil))) rfl)))))))
      (pss_one (ps_ret (pv 2))))), ?_⟩
      intro F nF
      have s0 := Same.new (H := H) (p := F) (o := .dT []) nF
      have gF : upd H F (.dT []) F = some (.dT []) := upd_same
      generalize upd H F (.dT []) = H0 at s0 gF ⊢
      obtain ⟨kf, gf, rf⟩ := hf
      obtain ⟨kg, gg, rg⟩ := hg
      have ekg : kf = kg := by
        rw [gf] at gg
        cases gg
        rfl
      subst ekg
      have nFp : F ≠ p := fun z => by
        subst z
        rw [nF] at gf
        cases gf
      have z0 : S3 K H p p F kf kf f g m n H0 (.dT kf) (.dT kf) [] 1 := ⟨s0 _ _ gf, s0 _ _ gg, rf.mono (fun _ _ => Same.tup s0) (Nat.le_refl _), rg.mono (fun _ _ => Same.tup s0) (Nat.le_refl _), ⟨[], gF, .nil⟩, fun c o e _ _ => s0 _ _ e, by decide⟩
      refine ⟨p, .dT kf, z0.ep, trivial, fun od => ⟨_, rfl, p, od, rfl, .inr ⟨kf, upd_same, ?_⟩⟩⟩
      have z1 := z0.set2 (o := .frz od (.dT kf)) (fun _ _ => tup_putD z0.ep) nFp
      generalize upd H0 p (.frz od (.dT kf)) = H1 at z1 ⊢
      clear z0 s0 gF
      refine for_it (walk_keysT (d := p) (o := od) (kvs := kf)) (fun i σ H2 => S3 K H p p F kf kf f g m n H2 (.frz od (.dT kf)) (.frz od (.dT kf)) ((f.take i).foldl (fun a e => pby1 f g e.1 a g) []) (i * (g.length * (m + n + 1)) + 1) ∧ ∃ v1 v2 v3 v4 v5 : Option V, σ = [some (.ref p), some (.ref p), some (.ref F), v1, v2, v3, v4, v5]) ⟨z1.up (by omega), none, none, none, none, none, rfl⟩ (fun i σ H2 _ z => z.1.ep) ?_ ?_
      · rintro i x σ H2 H2' hi ⟨z2, v1, v2, v3, v4, v5, rfl⟩ ⟨rfl, kx, vx, qx, hkx, rfl, hqx⟩
        obtain ⟨e, he, rfl⟩ := rf.at hkx
        refine ⟨qx, _, rfl, tup_of hqx, rfl, _, _, rfl, _, _, rfl, rfl, ?_⟩
        refine ⟨_, rfl, p, od, rfl, .inr ⟨kf, z2.eq, ?_⟩⟩
        have z3 := z2
        obtain ⟨M0, hM0⟩ : ∃ M0, i * (g.length * (m + n + 1)) + 1 = M0 := ⟨_, rfl⟩
        have hMs : M0 + g.length * (m + n + 1) ≤ 4000 := by
          have hi2 : i < f.length := (List.getElem?_eq_some_iff.mp he).1
          have h1 : (i + 1) * (g.length * (m + n + 1)) ≤ f.length * (g.length * (m + n + 1)) := Nat.mul_le_mul_right _ hi2
          rw [Nat.add_mul, Nat.one_mul] at h1
          rw [Nat.mul_assoc] at hsz
          omega
        rw [hM0] at z3
        obtain ⟨A0, hA0⟩ : ∃ A0, (f.take i).foldl (fun a e => pby1 f g e.1 a g) [] = A0 := ⟨_, rfl⟩
        rw [hA0] at z3
        refine for_it (walk_keysT (d := p) (o := od) (kvs := kf)) (fun i2 σ H4 => S3 K H p p F kf kf f g m n H4 (.frz od (.dT kf)) (.frz od (.dT kf)) ((g.take i2).foldl (fun a d => padd a (e.1.1 + d.1.1, e.1.2 + d.1.2) ((plook f e.1).getD 0 * (plook g d.1).getD 0)) A0) (M0 + i2 * (m + n + 1)) ∧ ∃ v3 v4 v5 : Option V, σ = [some (.ref p), some (.ref p), some (.ref F), some (.int e.1.1), some (.int e.1.2), v3, v4, v5]) ⟨z3.up (by omega), v3, v4, v5, rfl⟩ (fun i σ H2 _ z => z.1.eq) ?_ ?_
        · rintro i2 x σ H4 H4' hi2 ⟨z4, v3, v4, v5, rfl⟩ ⟨rfl, ky, vy, qy, hky, rfl, hqy⟩
          obtain ⟨d, hd, rfl⟩ := rg.at hky
          refine ⟨qy, _, rfl, tup_of hqy, rfl, _, _, rfl, _, _, rfl, rfl, ?_⟩
          first | refine sig [some (.ref p), some (.ref p), some (.ref F), some (.int e.1.1), some (.int e.1.2), some (.int d.1.1), some (.int d.1.2), v5] (by rfl) ?_ | refine sigN [some (.ref p), some (.ref p), some (.ref F), some (.int e.1.1), some (.int e.1.2), some (.int d.1.1), some (.int d.1.2), v5] (by rfl) ?_
          obtain ⟨fv, hfv⟩ := plook_mem (List.mem_of_getElem? he)
          obtain ⟨gv, hgv⟩ := plook_mem (List.mem_of_getElem? hd)
          have hsz2 : M0 + i2 * (m + n + 1) + (m + n + 1) ≤ 4000 := by
            have h1 : (i2 + 1) * (m + n + 1) ≤ g.length * (m + n + 1) := Nat.mul_le_mul_right _ ((List.getElem?_eq_some_iff.mp hd).1)
            rw [Nat.add_mul, Nat.one_mul] at h1
            omega
          refine ⟨_, rfl, _, rfl, _, rfl, (by show 2 ≤ sizeLine; decide), fun t1 nt1 => ?_⟩
          have s5 := Same.new (H := H4') (p := t1) (o := .tup [.int e.1.1, .int e.1.2]) nt1
          have g5 : upd H4' t1 (.tup [.int e.1.1, .int e.1.2]) t1 = some (.tup [.int e.1.1, .int e.1.2]) := upd_same
          generalize upd H4' t1 (.tup [.int e.1.1, .int e.1.2]) = H5 at s5 g5 ⊢
          have z5 := z4.same s5
          obtain ⟨af, haf, saf, baf⟩ := Fnd.some (hfv ▸ z5.pf.val e.1)
          refine ⟨p, .ref af, rfl, .inr ⟨kf, kk e.1, t1, .inr ⟨_, z5.ep⟩, rfl, g5, haf.symm⟩, ?_⟩
          refine ⟨_, rfl, _, rfl, _, rfl, (by show 2 ≤ sizeLine; decide), fun t2 nt2 => ?_⟩
          have s6 := Same.new (H := H5) (p := t2) (o := .tup [.int d.1.1, .int d.1.2]) nt2
          have g6 : upd H5 t2 (.tup [.int d.1.1, .int d.1.2]) t2 = some (.tup [.int d.1.1, .int d.1.2]) := upd_same
          generalize upd H5 t2 (.tup [.int d.1.1, .int d.1.2]) = H6 at s6 g6 ⊢
          have z6 := z5.same s6
          obtain ⟨ag, hag, sag, bag⟩ := Fnd.some (hgv ▸ z6.pg.val d.1)
          refine ⟨p, .ref ag, rfl, .inr ⟨kf, kk d.1, t2, .inr ⟨_, z6.eq⟩, rfl, g6, hag.symm⟩, ?_⟩
          refine ⟨af, ag, fv, gv, rfl, Same.tup s6 saf, sag, baf.up hm, bag.up hn, trivial, fun t3 nt3 => ?_⟩
          have s7 := Same.new (H := H6) (p := t3) (o := .tup (fq (fv * gv))) nt3
          have g7 : upd H6 t3 (.tup (fq (fv * gv))) t3 = some (.tup (fq (fv * gv))) := upd_same
          generalize upd H6 t3 (.tup (fq (fv * gv))) = H7 at s7 g7 ⊢
          have z7 := z6.same s7
          clear z4 z5 z6 s5 s6 g5 g6 saf sag
          first | refine sigN [some (.ref p), some (.ref p), some (.ref F), some (.int (e.1.1)), some (.int (e.1.2)), some (.int (d.1.1)), some (.int (d.1.2)), some (.ref t3)] (by rfl) ?_ | refine sig [some (.ref p), some (.ref p), some (.ref F), some (.int (e.1.1)), some (.int (e.1.2)), some (.int (d.1.1)), some (.int (d.1.2)), some (.ref t3)] (by rfl) ?_
          obtain ⟨ka, hF, ra⟩ := z7.fa
          refine ⟨.ref F, rfl, F, rfl, .inr ⟨ka, .inl hF⟩, _, rfl, _, rfl, _, _, rfl, rfl, _, rfl, _, rfl, _, _, rfl, rfl, (by show 2 ≤ sizeLine; decide), fun t4 nt4 => ?_⟩
          have s8 := Same.new (H := H7) (p := t4) (o := .tup [.int (e.1.1 + d.1.1), .int (e.1.2 + d.1.2)]) nt4
          have g8 : upd H7 t4 (.tup [.int (e.1.1 + d.1.1), .int (e.1.2 + d.1.2)]) t4 = some (.tup [.int (e.1.1 + d.1.1), .int (e.1.2 + d.1.2)]) := upd_same
          generalize upd H7 t4 (.tup [.int (e.1.1 + d.1.1), .int (e.1.2 + d.1.2)]) = H8 at s8 g8 ⊢
          refine ⟨(by show 2 ≤ sizeLine; decide), fun t5 nt5 => ?_⟩
          have s9 := Same.new (H := H8) (p := t5) (o := .tup [.int 0, .int 1]) nt5
          have g9 : upd H8 t5 (.tup [.int 0, .int 1]) t5 = some (.tup [.int 0, .int 1]) := upd_same
          generalize upd H8 t5 (.tup [.int 0, .int 1]) = H9 at s9 g9 ⊢
          have s79 := s8.trans s9
          have z9 := z7.same s79
          have ra9 := ra.mono (fun _ _ => Same.tup s79) (Nat.le_refl _)
          refine ⟨valV ka (kk (e.1.1 + d.1.1, e.1.2 + d.1.2)), .inr ⟨ka, kk (e.1.1 + d.1.1, e.1.2 + d.1.2), t4, .inl (s79 _ _ hF), rfl, s9 _ _ g8, rfl⟩, ?_⟩
          obtain ⟨a0, ea0, sa0, rb0⟩ := Fnd.get0 (t := t5) (ra9.val (e.1.1 + d.1.1, e.1.2 + d.1.2)) (tup_of g9) (by omega)
          rw [ea0]
          refine ⟨.ref t3, rfl, a0, t3, _, _, rfl, sa0, tup_of (s79 _ _ g7), rb0.up (by omega), (baf.mul bag).up (by omega), trivial, fun t6 nt6 => ?_⟩
          have sa := Same.new (H := H9) (p := t6) (o := .tup (fq ((plook ((g.take i2).foldl (fun a d => padd a (e.1.1 + d.1.1, e.1.2 + d.1.2) ((plook f e.1).getD 0 * (plook g d.1).getD 0)) A0) (e.1.1 + d.1.1, e.1.2 + d.1.2)).getD 0 + fv * gv))) nt6
          have ga : upd H9 t6 (.tup (fq ((plook ((g.take i2).foldl (fun a d => padd a (e.1.1 + d.1.1, e.1.2 + d.1.2) ((plook f e.1).getD 0 * (plook g d.1).getD 0)) A0) (e.1.1 + d.1.1, e.1.2 + d.1.2)).getD 0 + fv * gv))) t6 = some (.tup (fq ((plook ((g.take i2).foldl (fun a d => padd a (e.1.1 + d.1.1, e.1.2 + d.1.2) ((plook f e.1).getD 0 * (plook g d.1).getD 0)) A0) (e.1.1 + d.1.1, e.1.2 + d.1.2)).getD 0 + fv * gv))) := upd_same
          generalize upd H9 t6 (.tup (fq ((plook ((g.take i2).foldl (fun a d => padd a (e.1.1 + d.1.1, e.1.2 + d.1.2) ((plook f e.1).getD 0 * (plook g d.1).getD 0)) A0) (e.1.1 + d.1.1, e.1.2 + d.1.2)).getD 0 + fv * gv))) = Ha at sa ga ⊢
          refine ⟨.ref F, rfl, _, rfl, _, rfl, _, _, rfl, rfl, _, rfl, _, rfl, _, _, rfl, rfl, (by show 2 ≤ sizeLine; decide), fun t7 nt7 => ?_⟩
          have sb := Same.new (H := Ha) (p := t7) (o := .tup [.int (e.1.1 + d.1.1), .int (e.1.2 + d.1.2)]) nt7
          have gb : upd Ha t7 (.tup [.int (e.1.1 + d.1.1), .int (e.1.2 + d.1.2)]) t7 = some (.tup [.int (e.1.1 + d.1.1), .int (e.1.2 + d.1.2)]) := upd_same
          generalize upd Ha t7 (.tup [.int (e.1.1 + d.1.1), .int (e.1.2 + d.1.2)]) = Hb at sb gb ⊢
          have sab := sa.trans sb
          have zb := z9.same sab
          have hFb := (s79.trans sab) _ _ hF
          have rab := ra9.mono (H' := Hb) (fun _ _ => Same.tup sab) (Nat.le_refl _)
          have hkl : ka.length < sizeLine := by
            have h1 := Paired.length rab
            have h2 := zb.ln
            exact small1000' (by omega)
          refine ⟨F, _, rfl, DPut.t (k := kk (e.1.1 + d.1.1, e.1.2 + d.1.2)) hFb gb hkl, ?_⟩
          refine ⟨?_, _, _, _, rfl⟩
          rw [take_fold hd]
          show S3 K H p p F kf kf f g m n _ _ _ (pput _ (e.1.1 + d.1.1, e.1.2 + d.1.2) (_ + (plook f e.1).getD 0 * (plook g d.1).getD 0)) _
          have e2 : (plook f e.1).getD 0 * (plook g d.1).getD 0 = fv * gv := by
            rw [hfv, hgv]
            rfl
          refine zb.store hFb rab ?_ ?_ (by rw [Nat.add_mul]; omega) nF nFp nFp
          · rw [e2]
            exact tup_of (sb _ _ ga)
          · rw [e2, Nat.add_mul, Nat.one_mul]
            exact (rb0.add (baf.mul bag)).up (by omega)
        · rintro σ H4 ⟨z4, v3, v4, v5, rfl⟩
          refine ⟨?_, _, _, _, _, _, rfl⟩
          have z5 := z4
          rw [← hA0, Paired.length rg, List.take_length] at z5
          rw [take_fold he]
          refine S3.up z5 ?_
          rw [← hM0, Nat.add_mul]
          omega
      · rintro σ H2 ⟨z2, v1, v2, v3, v4, v5, rfl⟩
        refine ⟨z2.ep, ?_⟩
        have z5 := z2.set2 (o := .dT kf) (fun _ _ => tup_putF z2.ep) nFp
        rw [Paired.length rf, List.take_length] at z5
        refine ⟨_, rfl, k _ F (z5.done gf gg) nF ?_⟩
        obtain ⟨ka, h1, h2⟩ := z5.fa
        exact ⟨ka, h1, h2.mono (fun _ _ h => h) (by rw [Nat.mul_assoc]; exact Nat.le_refl _)⟩
    · skip
      have hu1 := hu_of hr
      refine ⟨_, (pss_cons (ps_set (i := 2) nd rfl (by first | exact Or.inl rfl | exact Or.inr rfl) pe_dnewT)
      (pss_cons (ps_lock (ps_for PassesOwn.never rfl (pi_keys (pv 0)) (pg_tup rfl (pgs_cons (pg_name (i := 3) nd rfl (by first | exact Or.inl rfl | exact Or.inr rfl)) (pgs_cons (pg_name (i := 4) nd rfl (by first | exact Or.inl rfl | exact Or.inr rfl)) pgs_nil))) (pss_one (ps_lock (ps_for PassesOwn.never rfl (pi_keys (pv 1)) (pg_tup rfl (pgs_cons (pg_name (i := 5) nd rfl (by first | exact Or.inl rfl | exact Or.inr rfl)) (pgs_cons (pg_name (i := 6) nd rfl (by first | exact Or.inl rfl | exact Or.inr rfl)) pgs_nil))) (pss_cons (ps_set (i := 7) nd rfl (by first | exact Or.inl rfl | exact Or.inr rfl) (pe_k c_law_by  hr (by decide) (by rfl) (pa_cons (pe_dget hu1 (pv 0) (pe_tup (pa_cons (pv 3) (pa_cons (pv 4) pa_nil))) (fun _ _ => rfl)) (pa_cons (pe_dget hu1 (pv 1) (pe_tup (pa_cons (pv 5) (pa_cons (pv 6) pa_nil))) (fun _ _ => rfl)) pa_nil))))
      (pss_one (ps_dput hu1 (pv 2) (pe_tup (pa_cons (pe_op op_add (pv 3) (pv 5)) (pa_cons (pe_op op_add (pv 4) (pv 6)) pa_nil))) (pe_k c_law_plus  hr (by decide) (by rfl) (pa_cons (pe_dget2 hu1 (pv 2) (pe_tup (pa_cons (pe_op op_add (pv 3) (pv 5)) (pa_cons (pe_op op_add (pv 4) (pv 6)) pa_nil))) (pe_tup (pa_cons pe_int (pa_cons pe_int pa_nil))) ⟨rfl, rfl, rfl, rfl⟩) (pa_cons (pv 7) pa_nil))) rfl))))))))
      (pss_one (ps_ret (pv 2))))), ?_⟩
      intro F nF
      have s0 := Same.new (H := H) (p := F) (o := .dT []) nF
      have gF : upd H F (.dT []) F = some (.dT []) := upd_same
      generalize upd H F (.dT []) = H0 at s0 gF ⊢
      obtain ⟨kf, gf, rf⟩ := hf
      obtain ⟨kg, gg, rg⟩ := hg
      have nFp : F ≠ p := fun z => by
        subst z
        rw [nF] at gf
        cases gf
      have nFq : F ≠ q := fun z => by
        subst z
        rw [nF] at gg
        cases gg
      have z0 : S3 K H p q F kf kg f g m n H0 (.dT kf) (.dT kg) [] 1 := ⟨s0 _ _ gf, s0 _ _ gg, rf.mono (fun _ _ => Same.tup s0) (Nat.le_refl _), rg.mono (fun _ _ => Same.tup s0) (Nat.le_refl _), ⟨[], gF, .nil⟩, fun c o e _ _ => s0 _ _ e, by decide⟩
      refine ⟨p, .dT kf, z0.ep, trivial, fun od => ⟨_, rfl, p, od, rfl, .inr ⟨kf, upd_same, ?_⟩⟩⟩
      have z1 := z0.setp (o := .frz od (.dT kf)) (fun _ _ => tup_putD z0.ep) hpq nFp
      generalize upd H0 p (.frz od (.dT kf)) = H1 at z1 ⊢
      clear z0 s0 gF
      refine for_it (walk_keysT (d := p) (o := od) (kvs := kf)) (fun i σ H2 => S3 K H p q F kf kg f g m n H2 (.frz od (.dT kf)) (.dT kg) ((f.take i).foldl (fun a e => pby1 f g e.1 a g) []) (i * (g.length * (m + n + 1)) + 1) ∧ ∃ v1 v2 v3 v4 v5 : Option V, σ = [some (.ref p), some (.ref q), some (.ref F), v1, v2, v3, v4, v5]) ⟨z1.up (by omega), none, none, none, none, none, rfl⟩ (fun i σ H2 _ z => z.1.ep) ?_ ?_
      · rintro i x σ H2 H2' hi ⟨z2, v1, v2, v3, v4, v5, rfl⟩ ⟨rfl, kx, vx, qx, hkx, rfl, hqx⟩
        obtain ⟨e, he, rfl⟩ := rf.at hkx
        refine ⟨qx, _, rfl, tup_of hqx, rfl, _, _, rfl, _, _, rfl, rfl, ?_⟩
        refine ⟨q, .dT kg, z2.eq, trivial, fun od2 => ⟨_, rfl, q, od2, rfl, .inr ⟨kg, upd_same, ?_⟩⟩⟩
        have z3 := z2.setq (o := .frz od2 (.dT kg)) (fun _ _ => tup_putD z2.eq) hpq nFq
        generalize upd H2' q (.frz od2 (.dT kg)) = H3 at z3 ⊢
        obtain ⟨M0, hM0⟩ : ∃ M0, i * (g.length * (m + n + 1)) + 1 = M0 := ⟨_, rfl⟩
        have hMs : M0 + g.length * (m + n + 1) ≤ 4000 := by
          have hi2 : i < f.length := (List.getElem?_eq_some_iff.mp he).1
          have h1 : (i + 1) * (g.length * (m + n + 1)) ≤ f.length * (g.length * (m + n + 1)) := Nat.mul_le_mul_right _ hi2
          rw [Nat.add_mul, Nat.one_mul] at h1
          rw [Nat.mul_assoc] at hsz
          omega
        rw [hM0] at z3
        obtain ⟨A0, hA0⟩ : ∃ A0, (f.take i).foldl (fun a e => pby1 f g e.1 a g) [] = A0 := ⟨_, rfl⟩
        rw [hA0] at z3
        refine for_it (walk_keysT (d := q) (o := od2) (kvs := kg)) (fun i2 σ H4 => S3 K H p q F kf kg f g m n H4 (.frz od (.dT kf)) (.frz od2 (.dT kg)) ((g.take i2).foldl (fun a d => padd a (e.1.1 + d.1.1, e.1.2 + d.1.2) ((plook f e.1).getD 0 * (plook g d.1).getD 0)) A0) (M0 + i2 * (m + n + 1)) ∧ ∃ v3 v4 v5 : Option V, σ = [some (.ref p), some (.ref q), some (.ref F), some (.int e.1.1), some (.int e.1.2), v3, v4, v5]) ⟨z3.up (by omega), v3, v4, v5, rfl⟩ (fun i σ H2 _ z => z.1.eq) ?_ ?_
        · rintro i2 x σ H4 H4' hi2 ⟨z4, v3, v4, v5, rfl⟩ ⟨rfl, ky, vy, qy, hky, rfl, hqy⟩
          obtain ⟨d, hd, rfl⟩ := rg.at hky
          refine ⟨qy, _, rfl, tup_of hqy, rfl, _, _, rfl, _, _, rfl, rfl, ?_⟩
          first | refine sig [some (.ref p), some (.ref q), some (.ref F), some (.int e.1.1), some (.int e.1.2), some (.int d.1.1), some (.int d.1.2), v5] (by rfl) ?_ | refine sigN [some (.ref p), some (.ref q), some (.ref F), some (.int e.1.1), some (.int e.1.2), some (.int d.1.1), some (.int d.1.2), v5] (by rfl) ?_
          obtain ⟨fv, hfv⟩ := plook_mem (List.mem_of_getElem? he)
          obtain ⟨gv, hgv⟩ := plook_mem (List.mem_of_getElem? hd)
          have hsz2 : M0 + i2 * (m + n + 1) + (m + n + 1) ≤ 4000 := by
            have h1 : (i2 + 1) * (m + n + 1) ≤ g.length * (m + n + 1) := Nat.mul_le_mul_right _ ((List.getElem?_eq_some_iff.mp hd).1)
            rw [Nat.add_mul, Nat.one_mul] at h1
            omega
          refine ⟨_, rfl, _, rfl, _, rfl, (by show 2 ≤ sizeLine; decide), fun t1 nt1 => ?_⟩
          have s5 := Same.new (H := H4') (p := t1) (o := .tup [.int e.1.1, .int e.1.2]) nt1
          have g5 : upd H4' t1 (.tup [.int e.1.1, .int e.1.2]) t1 = some (.tup [.int e.1.1, .int e.1.2]) := upd_same
          generalize upd H4' t1 (.tup [.int e.1.1, .int e.1.2]) = H5 at s5 g5 ⊢
          have z5 := z4.same s5
          obtain ⟨af, haf, saf, baf⟩ := Fnd.some (hfv ▸ z5.pf.val e.1)
          refine ⟨p, .ref af, rfl, .inr ⟨kf, kk e.1, t1, .inr ⟨_, z5.ep⟩, rfl, g5, haf.symm⟩, ?_⟩
          refine ⟨_, rfl, _, rfl, _, rfl, (by show 2 ≤ sizeLine; decide), fun t2 nt2 => ?_⟩
          have s6 := Same.new (H := H5) (p := t2) (o := .tup [.int d.1.1, .int d.1.2]) nt2
          have g6 : upd H5 t2 (.tup [.int d.1.1, .int d.1.2]) t2 = some (.tup [.int d.1.1, .int d.1.2]) := upd_same
          generalize upd H5 t2 (.tup [.int d.1.1, .int d.1.2]) = H6 at s6 g6 ⊢
          have z6 := z5.same s6
          obtain ⟨ag, hag, sag, bag⟩ := Fnd.some (hgv ▸ z6.pg.val d.1)
          refine ⟨q, .ref ag, rfl, .inr ⟨kg, kk d.1, t2, .inr ⟨_, z6.eq⟩, rfl, g6, hag.symm⟩, ?_⟩
          refine ⟨af, ag, fv, gv, rfl, Same.tup s6 saf, sag, baf.up hm, bag.up hn, trivial, fun t3 nt3 => ?_⟩
          have s7 := Same.new (H := H6) (p := t3) (o := .tup (fq (fv * gv))) nt3
          have g7 : upd H6 t3 (.tup (fq (fv * gv))) t3 = some (.tup (fq (fv * gv))) := upd_same
          generalize upd H6 t3 (.tup (fq (fv * gv))) = H7 at s7 g7 ⊢
          have z7 := z6.same s7
          clear z4 z5 z6 s5 s6 g5 g6 saf sag
          first | refine sigN [some (.ref p), some (.ref q), some (.ref F), some (.int (e.1.1)), some (.int (e.1.2)), some (.int (d.1.1)), some (.int (d.1.2)), some (.ref t3)] (by rfl) ?_ | refine sig [some (.ref p), some (.ref q), some (.ref F), some (.int (e.1.1)), some (.int (e.1.2)), some (.int (d.1.1)), some (.int (d.1.2)), some (.ref t3)] (by rfl) ?_
          obtain ⟨ka, hF, ra⟩ := z7.fa
          refine ⟨.ref F, rfl, F, rfl, .inr ⟨ka, .inl hF⟩, _, rfl, _, rfl, _, _, rfl, rfl, _, rfl, _, rfl, _, _, rfl, rfl, (by show 2 ≤ sizeLine; decide), fun t4 nt4 => ?_⟩
          have s8 := Same.new (H := H7) (p := t4) (o := .tup [.int (e.1.1 + d.1.1), .int (e.1.2 + d.1.2)]) nt4
          have g8 : upd H7 t4 (.tup [.int (e.1.1 + d.1.1), .int (e.1.2 + d.1.2)]) t4 = some (.tup [.int (e.1.1 + d.1.1), .int (e.1.2 + d.1.2)]) := upd_same
          generalize upd H7 t4 (.tup [.int (e.1.1 + d.1.1), .int (e.1.2 + d.1.2)]) = H8 at s8 g8 ⊢
          refine ⟨(by show 2 ≤ sizeLine; decide), fun t5 nt5 => ?_⟩
          have s9 := Same.new (H := H8) (p := t5) (o := .tup [.int 0, .int 1]) nt5
          have g9 : upd H8 t5 (.tup [.int 0, .int 1]) t5 = some (.tup [.int 0, .int 1]) := upd_same
          generalize upd H8 t5 (.tup [.int 0, .int 1]) = H9 at s9 g9 ⊢
          have s79 := s8.trans s9
          have z9 := z7.same s79
          have ra9 := ra.mono (fun _ _ => Same.tup s79) (Nat.le_refl _)
          refine ⟨valV ka (kk (e.1.1 + d.1.1, e.1.2 + d.1.2)), .inr ⟨ka, kk (e.1.1 + d.1.1, e.1.2 + d.1.2), t4, .inl (s79 _ _ hF), rfl, s9 _ _ g8, rfl⟩, ?_⟩
          obtain ⟨a0, ea0, sa0, rb0⟩ := Fnd.get0 (t := t5) (ra9.val (e.1.1 + d.1.1, e.1.2 + d.1.2)) (tup_of g9) (by omega)
          rw [ea0]
          refine ⟨.ref t3, rfl, a0, t3, _, _, rfl, sa0, tup_of (s79 _ _ g7), rb0.up (by omega), (baf.mul bag).up (by omega), trivial, fun t6 nt6 => ?_⟩
          have sa := Same.new (H := H9) (p := t6) (o := .tup (fq ((plook ((g.take i2).foldl (fun a d => padd a (e.1.1 + d.1.1, e.1.2 + d.1.2) ((plook f e.1).getD 0 * (plook g d.1).getD 0)) A0) (e.1.1 + d.1.1, e.1.2 + d.1.2)).getD 0 + fv * gv))) nt6
          have ga : upd H9 t6 (.tup (fq ((plook ((g.take i2).foldl (fun a d => padd a (e.1.1 + d.1.1, e.1.2 + d.1.2) ((plook f e.1).getD 0 * (plook g d.1).getD 0)) A0) (e.1.1 + d.1.1, e.1.2 + d.1.2)).getD 0 + fv * gv))) t6 = some (.tup (fq ((plook ((g.take i2).foldl (fun a d => padd a (e.1.1 + d.1.1, e.1.2 + d.1.2) ((plook f e.1).getD 0 * (plook g d.1).getD 0)) A0) (e.1.1 + d.1.1, e.1.2 + d.1.2)).getD 0 + fv * gv))) := upd_same
          generalize upd H9 t6 (.tup (fq ((plook ((g.take i2).foldl (fun a d => padd a (e.1.1 + d.1.1, e.1.2 + d.1.2) ((plook f e.1).getD 0 * (plook g d.1).getD 0)) A0) (e.1.1 + d.1.1, e.1.2 + d.1.2)).getD 0 + fv * gv))) = Ha at sa ga ⊢
          refine ⟨.ref F, rfl, _, rfl, _, rfl, _, _, rfl, rfl, _, rfl, _, rfl, _, _, rfl, rfl, (by show 2 ≤ sizeLine; decide), fun t7 nt7 => ?_⟩
          have sb := Same.new (H := Ha) (p := t7) (o := .tup [.int (e.1.1 + d.1.1), .int (e.1.2 + d.1.2)]) nt7
          have gb : upd Ha t7 (.tup [.int (e.1.1 + d.1.1), .int (e.1.2 + d.1.2)]) t7 = some (.tup [.int (e.1.1 + d.1.1), .int (e.1.2 + d.1.2)]) := upd_same
          generalize upd Ha t7 (.tup [.int (e.1.1 + d.1.1), .int (e.1.2 + d.1.2)]) = Hb at sb gb ⊢
          have sab := sa.trans sb
          have zb := z9.same sab
          have hFb := (s79.trans sab) _ _ hF
          have rab := ra9.mono (H' := Hb) (fun _ _ => Same.tup sab) (Nat.le_refl _)
          have hkl : ka.length < sizeLine := by
            have h1 := Paired.length rab
            have h2 := zb.ln
            exact small1000' (by omega)
          refine ⟨F, _, rfl, DPut.t (k := kk (e.1.1 + d.1.1, e.1.2 + d.1.2)) hFb gb hkl, ?_⟩
          refine ⟨?_, _, _, _, rfl⟩
          rw [take_fold hd]
          show S3 K H p q F kf kg f g m n _ _ _ (pput _ (e.1.1 + d.1.1, e.1.2 + d.1.2) (_ + (plook f e.1).getD 0 * (plook g d.1).getD 0)) _
          have e2 : (plook f e.1).getD 0 * (plook g d.1).getD 0 = fv * gv := by
            rw [hfv, hgv]
            rfl
          refine zb.store hFb rab ?_ ?_ (by rw [Nat.add_mul]; omega) nF nFp nFq
          · rw [e2]
            exact tup_of (sb _ _ ga)
          · rw [e2, Nat.add_mul, Nat.one_mul]
            exact (rb0.add (baf.mul bag)).up (by omega)
        · rintro σ H4 ⟨z4, v3, v4, v5, rfl⟩
          refine ⟨z4.eq, ?_, _, _, _, _, _, rfl⟩
          have z5 := z4.setq (o := .dT kg) (fun _ _ => tup_putF z4.eq) hpq nFq
          rw [← hA0, Paired.length rg, List.take_length] at z5
          rw [take_fold he]
          refine S3.up z5 ?_
          rw [← hM0, Nat.add_mul]
          omega
      · rintro σ H2 ⟨z2, v1, v2, v3, v4, v5, rfl⟩
        refine ⟨z2.ep, ?_⟩
        have z5 := z2.setp (o := .dT kf) (fun _ _ => tup_putF z2.ep) hpq nFp
        rw [Paired.length rf, List.take_length] at z5
        refine ⟨_, rfl, k _ F (z5.done gf gg) nF ?_⟩
        obtain ⟨ka, h1, h2⟩ := z5.fa
        exact ⟨ka, h1, h2.mono (fun _ _ h => h) (by rw [Nat.mul_assoc]; exact Nat.le_refl _)⟩
end
end K06
set_option Elab.async false
set_option linter.all false
set_option maxRecDepth 100000
set_option maxHeartbeats 400000
namespace K06
open PySem PySem.Spec PyProof.Rows L2 Gd QM
section
variable {P : Program} {w : World} {K : PySem.W.Frag} {mg : Str → Option Value} {base : Heap}
local macro_rules | `(tactic| walk_at "mm") => `(tactic| (repeat (first | exact List.mem_cons_self | apply List.mem_cons_of_mem)))
theorem pcopy_len (L : PL) : (pcopy L).length ≤ L.length := by
  have h : ∀ (L A : PL), (L.foldl (fun a e => pput a e.1 e.2) A).length ≤ A.length + L.length := by
    intro L
    induction L with
    | nil => intro A; exact Nat.le_refl _
    | cons e L ih =>
      intro A
      have h1 := ih (pput A e.1 e.2)
      have h2 := pput_len A e.1 e.2
      rw [List.foldl_cons, List.length_cons]
      omega
  have := h L []
  rw [List.length_nil, Nat.zero_add] at this
  exact this
def sp_law_poly_plus (K : PySem.W.Frag) : Sp := fun vs H Q _ => ∃ (p q : Addr) (f g : PL) (b : Int) (m n : Nat), vs = [.ref p, .ref q, .int b] ∧ PAt K H p f m ∧ PAt K H q g n ∧ B 12 b ∧ ((f.map (·.1)).map hh).Nodup ∧ f.length ≤ m ∧ m + g.length * (n + 13) ≤ 4000 ∧ n ≤ 3900 ∧ 1 ≤ m ∧ ∀ H' t, Same H H' → H t = none → PAt K H' t (pplus f g b) (m + g.length * (n + 13)) → Q (.ref t) H'
abbrev s__law_poly_plus : Stmt := topS 39
theorem sc__law_poly_plus : FnScope ["f", "g", "by", "found", "spot"] ["f", "g", "by"] (defScope s__law_poly_plus) := ⟨rfl, rfl, rfl, by decide +kernel, rfl, by decide +kernel, by decide +kernel⟩
theorem k_law_poly_plus (T : Tx K mg) (D : Df K mg "_law_poly_plus" s__law_poly_plus ["f", "g", "by"]) (c_law_plus : Kl P w K mg base 3 "_law_plus" (sp_law_plus K)) (c_law_by : Kl P w K mg base 3 "_law_by" (sp_law_by K)) : Kl P w K mg base 4 "_law_poly_plus" (sp_law_poly_plus K) := by
  have nd := sc__law_poly_plus.nd
  refine Kl.by_body D sc__law_poly_plus (fun vs H Q E h => ?_) (fun f cdv A outer s H vs Q E hr h => ?_)
  · obtain ⟨_, _, _, _, _, _, _, rfl, _⟩ := h
    rfl
  · obtain ⟨p, q, f, g, b, m, n, rfl, hf, hg, hb, hap, hfm, hsz, hn, h1m, k⟩ := h
    have hu1 := hu_of hr
    have hu2 := Nat.lt_of_le_of_lt (Nat.add_le_add_left (by decide : 2 ≤ 64) _) hr.units
    refine ⟨_, (pss_cons (ps_set (i := 3) nd rfl (by first | exact Or.inl rfl | exact Or.inr rfl) (pe_callTy (call_dictT hu2) (by rfl) T.dict (by decide +kernel) (pa_cons (pv 0) pa_nil)))
      (pss_cons (ps_lock (ps_for PassesOwn.never rfl (pi_keys (pv 1)) (pg_name (i := 4) nd rfl (by first | exact Or.inl rfl | exact Or.inr rfl)) (pss_one (ps_dput hu1 (pv 3) (pv 4) (pe_k c_law_plus  hr (by decide) (by rfl) (pa_cons (pe_dget2 hu1 (pv 3) (pv 4) (pe_tup (pa_cons pe_int (pa_cons pe_int pa_nil))) ⟨rfl, rfl, rfl, rfl⟩) (pa_cons (pe_k c_law_by  hr (by decide) (by rfl) (pa_cons (pe_tup (pa_cons (pv 2) (pa_cons pe_int pa_nil))) (pa_cons (pe_dget hu1 (pv 1) (pv 4) (fun _ _ => rfl)) pa_nil))) pa_nil))) rfl))))
      (pss_one (ps_ret (pv 3))))), ?_⟩
    obtain ⟨kf, gf, rf⟩ := hf
    obtain ⟨kg, gg, rg⟩ := hg
    refine ⟨.ref p, rfl, p, kf, rfl, .inl gf, hap_of _ _ (f.map (·.1)) rf.keys hap, fun F nF => ?_⟩
    have s0 := Same.new (H := H) (p := F) (o := .dT (mergeT [] kf)) nF
    have gF : upd H F (.dT (mergeT [] kf)) F = some (.dT (mergeT [] kf)) := upd_same
    generalize upd H F (.dT (mergeT [] kf)) = H0 at s0 gF ⊢
    have nFq : F ≠ q := fun z => by
      subst z
      rw [nF] at gg
      cases gg
    have rg0 := rg.mono (H' := H0) (fun _ _ => Same.tup s0) (Nat.le_refl _)
    have rc : PR K H0 m (mergeT [] kf) (pcopy f) := (rf.copy .nil).mono (fun _ _ => Same.tup s0) (Nat.le_refl _)
    have z0 : S3 K H q q F kg kg g g n n H0 (.dT kg) (.dT kg) (pcopy f) m := ⟨s0 _ _ gg, s0 _ _ gg, rg0, rg0, ⟨_, gF, rc⟩, fun c o e _ _ => s0 _ _ e, Nat.le_trans (pcopy_len f) hfm⟩
    first | refine sigN [some (.ref p), some (.ref q), some (.int (b)), some (.ref F), none] (by rfl) ?_ | refine sig [some (.ref p), some (.ref q), some (.int (b)), some (.ref F), none] (by rfl) ?_
    refine ⟨q, .dT kg, z0.ep, trivial, fun od => ⟨_, rfl, q, od, rfl, .inr ⟨kg, upd_same, ?_⟩⟩⟩
    have z1 := z0.set2 (o := .frz od (.dT kg)) (fun _ _ => tup_putD z0.ep) nFq
    generalize upd H0 q (.frz od (.dT kg)) = H1 at z1 ⊢
    clear z0 s0 gF rc
    have hbR : RB 12 ((b : Int) : Rat) := RB.int hb (by decide)
    refine for_it (walk_keysT (d := q) (o := od) (kvs := kg)) (fun i σ H2 => S3 K H q q F kg kg g g n n H2 (.frz od (.dT kg)) (.frz od (.dT kg)) ((g.take i).foldl (fun a e => pput a e.1 ((plook a e.1).getD 0 + (b : Rat) * (plook g e.1).getD 0)) (pcopy f)) (m + i * (n + 13)) ∧ ∃ v1 : Option V, σ = [some (.ref p), some (.ref q), some (.int b), some (.ref F), v1]) ⟨z1.up (by omega), none, rfl⟩ (fun i σ H2 _ z => z.1.ep) ?_ ?_
    · rintro i x σ H2 H2' hi ⟨z2, v1, rfl⟩ ⟨rfl, kx, vx, qx, hkx, rfl, hqx⟩
      obtain ⟨e, he, rfl⟩ := rg.at hkx
      obtain ⟨gv, hgv⟩ := plook_mem (List.mem_of_getElem? he)
      have hi2 : i < g.length := (List.getElem?_eq_some_iff.mp he).1
      have hsz2 : m + i * (n + 13) + (n + 13) ≤ 4000 := by
        have h1 : (i + 1) * (n + 13) ≤ g.length * (n + 13) := Nat.mul_le_mul_right _ hi2
        rw [Nat.add_mul, Nat.one_mul] at h1
        omega
      obtain ⟨AC, hAC⟩ : ∃ AC, (g.take i).foldl (fun a e => pput a e.1 ((plook a e.1).getD 0 + (b : Rat) * (plook g e.1).getD 0)) (pcopy f) = AC := ⟨_, rfl⟩
      rw [hAC] at z2
      first | refine sig [some (.ref p), some (.ref q), some (.int b), some (.ref F), some (.ref qx)] (by rfl) ?_ | refine sigN [some (.ref p), some (.ref q), some (.int b), some (.ref F), some (.ref qx)] (by rfl) ?_
      obtain ⟨ka, hF, ra⟩ := z2.fa
      refine ⟨.ref F, rfl, F, rfl, .inr ⟨ka, .inl hF⟩, .ref qx, rfl, (by show 2 ≤ sizeLine; decide), fun t5 nt5 => ?_⟩
      have s3 := Same.new (H := H2') (p := t5) (o := .tup [.int 0, .int 1]) nt5
      have g3 : upd H2' t5 (.tup [.int 0, .int 1]) t5 = some (.tup [.int 0, .int 1]) := upd_same
      generalize upd H2' t5 (.tup [.int 0, .int 1]) = H3 at s3 g3 ⊢
      refine ⟨valV ka (kk e.1), .inr ⟨ka, kk e.1, qx, .inl (s3 _ _ hF), rfl, s3 _ _ hqx, rfl⟩, ?_⟩
      have ra3 := ra.mono (H' := H3) (fun _ _ => Same.tup s3) (Nat.le_refl _)
      obtain ⟨a0, ea0, sa0, rb0⟩ := Fnd.get0 (t := t5) (ra3.val e.1) (tup_of g3) (by omega)
      rw [ea0]
      refine ⟨_, rfl, (by show 2 ≤ sizeLine; decide), fun t6 nt6 => ?_⟩
      have s4 := Same.new (H := H3) (p := t6) (o := .tup [.int b, .int 1]) nt6
      have g4 : upd H3 t6 (.tup [.int b, .int 1]) t6 = some (.tup [.int b, .int 1]) := upd_same
      generalize upd H3 t6 (.tup [.int b, .int 1]) = H4 at s4 g4 ⊢
      have gb : SqT K H4 t6 (fq (b : Rat)) := by
        rw [fq_int]
        exact tup_of g4
      have z4 := z2.same (s3.trans s4)
      obtain ⟨ag, hag, sag, bag⟩ := Fnd.some (hgv ▸ z4.pf.val e.1)
      refine ⟨.ref q, rfl, .ref qx, rfl, q, .ref ag, rfl, .inr ⟨kg, kk e.1, qx, .inr ⟨_, z4.ep⟩, rfl, s4 _ _ (s3 _ _ hqx), hag.symm⟩, ?_⟩
      refine ⟨t6, ag, _, _, rfl, gb, sag, hbR.up (by decide), bag.up (by omega), trivial, fun t7 nt7 => ?_⟩
      have s5 := Same.new (H := H4) (p := t7) (o := .tup (fq ((b : Rat) * gv))) nt7
      have g5 : upd H4 t7 (.tup (fq ((b : Rat) * gv))) t7 = some (.tup (fq ((b : Rat) * gv))) := upd_same
      generalize upd H4 t7 (.tup (fq ((b : Rat) * gv))) = H5 at s5 g5 ⊢
      refine ⟨a0, t7, _, _, rfl, Same.tup (s4.trans s5) sa0, tup_of g5, rb0.up (by omega), (hbR.mul bag).up (by omega), trivial, fun t8 nt8 => ?_⟩
      have s6 := Same.new (H := H5) (p := t8) (o := .tup (fq ((plook AC e.1).getD 0 + (b : Rat) * gv))) nt8
      have g6 : upd H5 t8 (.tup (fq ((plook AC e.1).getD 0 + (b : Rat) * gv))) t8 = some (.tup (fq ((plook AC e.1).getD 0 + (b : Rat) * gv))) := upd_same
      generalize upd H5 t8 (.tup (fq ((plook AC e.1).getD 0 + (b : Rat) * gv))) = H6 at s6 g6 ⊢
      have sAll := s3.trans (s4.trans (s5.trans s6))
      have z6 := z2.same sAll
      have ra6 := ra.mono (H' := H6) (fun _ _ => Same.tup sAll) (Nat.le_refl _)
      have hkl : ka.length < sizeLine := by
        have h1 := Paired.length ra6
        have h2 := z6.ln
        exact small1000' (by omega)
      refine ⟨.ref F, rfl, .ref qx, rfl, F, _, rfl, DPut.t (k := kk e.1) (sAll _ _ hF) (sAll _ _ hqx) hkl, ?_⟩
      refine ⟨?_, _, rfl⟩
      have e2 : (plook g e.1).getD 0 = gv := by
        rw [hgv]
        rfl
      rw [take_fold he, hAC, e2]
      refine z6.store (sAll _ _ hF) ra6 (tup_of g6) ((rb0.add (hbR.mul bag)).up ?_) ?_ nF nFq nFq
      · rw [Nat.add_mul, Nat.one_mul]
        omega
      · rw [Nat.add_mul, Nat.one_mul]
        omega
    · rintro σ H2 ⟨z2, v1, rfl⟩
      refine ⟨z2.ep, ?_⟩
      have z5 := z2.set2 (o := .dT kg) (fun _ _ => tup_putF z2.ep) nFq
      rw [Paired.length rg, List.take_length] at z5
      refine ⟨_, rfl, k _ F (z5.done gg gg) nF ?_⟩
      exact z5.fa
end
end K06
set_option Elab.async false
set_option linter.all false
set_option maxRecDepth 100000
set_option maxHeartbeats 400000
namespace K06
open PySem PySem.Spec PyProof.Rows L2 Gd QM
/-! ### changes -/
structure Ch where
  u : Rat
  r : Rat
  s : Rat
  t : Rat
structure ChB (m : Nat) (c : Ch) : Prop where
  u0 : c.u ≠ 0
  u : RB m c.u
  r : RB m c.r
  s : RB m c.s
  t : RB m c.t
/-- a change stands there -/
def ChAt (K : PySem.W.Frag) (H : Hp) (p : Addr) (c : Ch) : Prop := ∃ pu pr ps pt, SqT K H p [.ref pu, .ref pr, .ref ps, .ref pt] ∧ SqT K H pu (fq c.u) ∧ SqT K H pr (fq c.r) ∧ SqT K H ps (fq c.s) ∧ SqT K H pt (fq c.t)
theorem ChAt.same {K : PySem.W.Frag} {H H' : Hp} {p : Addr} {c : Ch} (s : Same H H') (h : ChAt K H p c) : ChAt K H' p c := by
  obtain ⟨a, b, d, e, h1, h2, h3, h4, h5⟩ := h
  exact ⟨a, b, d, e, Same.tup s h1, Same.tup s h2, Same.tup s h3, Same.tup s h4, Same.tup s h5⟩
theorem ChAt.but {K : PySem.W.Frag} {m cl : Addr} {n : Nat} {H H' : Hp} {p : Addr} {c : Ch} (s : But m H H') (hM : MAt H m cl n) (h : ChAt K H p c) : ChAt K H' p c := by
  obtain ⟨a, b, d, e, h1, h2, h3, h4, h5⟩ := h
  exact ⟨a, b, d, e, s.seqT hM h1, s.seqT hM h2, s.seqT hM h3, s.seqT hM h4, s.seqT hM h5⟩
def pX (c : Ch) : PL := [((1, 0), c.u ^ 2), ((0, 0), c.r)]
def pY (c : Ch) : PL := [((0, 1), c.u ^ 3), ((1, 0), c.u ^ 2 * c.s), ((0, 0), c.t)]
theorem pat_disp {K : PySem.W.Frag} {H : Hp} {p : Addr} {kvs : List (List L2.Key × V)} {L : PL} {m : Nat} (hp : H p = some (.dT [])) (r : PR K H m kvs L) (hc : pcopy L = L) : PAt K (upd H p (.dT (mergeT [] kvs))) p L m := by
  refine ⟨_, upd_same, ?_⟩
  have h1 : PR K H m (mergeT [] kvs) (pcopy L) := r.copy .nil
  rw [hc] at h1
  exact h1.mono (fun _ _ => tup_putD hp) (Nat.le_refl _)
/-- an empty dict that is filled -/
theorem same_fill {H H1 : Hp} {p : Addr} {o : HO} (s : Same H H1) (h : H p = none) : Same H (upd H1 p o) := Same.put s h
section
variable {P : Program} {w : World} {K : PySem.W.Frag} {mg : Str → Option Value} {base : Heap}
local macro_rules | `(tactic| walk_at "mm") => `(tactic| (repeat (first | exact List.mem_cons_self | apply List.mem_cons_of_mem)))
def sp_law_letters (K : PySem.W.Frag) : Sp := fun vs H Q _ => ∃ (p : Addr) (c : Ch), vs = [.ref p] ∧ ChAt K H p c ∧ ChB 3 c ∧ ∀ H' t px py, Same H H' → H' t = some (.tup [.ref px, .ref py]) → PAt K H' px (pX c) 11 → PAt K H' py (pY c) 11 → Q (.ref t) H'
abbrev s__law_letters : Stmt := topS 40
theorem sc__law_letters : FnScope ["change", "u", "r", "s", "t", "square"] ["change"] (defScope s__law_letters) := ⟨rfl, rfl, rfl, by decide +kernel, rfl, by decide +kernel, by decide +kernel⟩
theorem k_law_letters (T : Tx K mg) (D : Df K mg "_law_letters" s__law_letters ["change"]) (c_law_power : Kl P w K mg base 4 "_law_power" (sp_law_power K)) (c_law_by : Kl P w K mg base 3 "_law_by" (sp_law_by K)) : Kl P w K mg base 5 "_law_letters" (sp_law_letters K) := by
  have nd := sc__law_letters.nd
  refine Kl.by_body D sc__law_letters (fun vs H Q E h => ?_) (fun f cdv A outer s H vs Q E hr h => ?_)
  · obtain ⟨_, _, rfl, _⟩ := h
    rfl
  · obtain ⟨p, c, rfl, ⟨pu, pr, ps, pt, hp, hu, hr', hs, ht⟩, hB, q⟩ := h
    have hu1 := hu_of hr
    refine ⟨_, (pss_cons (ps_asg (pv 0) (pg_tup rfl (pgs_cons (pg_name (i := 1) nd rfl (by first | exact Or.inl rfl | exact Or.inr rfl)) (pgs_cons (pg_name (i := 2) nd rfl (by first | exact Or.inl rfl | exact Or.inr rfl)) (pgs_cons (pg_name (i := 3) nd rfl (by first | exact Or.inl rfl | exact Or.inr rfl)) (pgs_cons (pg_name (i := 4) nd rfl (by first | exact Or.inl rfl | exact Or.inr rfl)) pgs_nil))))))
      (pss_cons (ps_set (i := 5) nd rfl (by first | exact Or.inl rfl | exact Or.inr rfl) (pe_k c_law_power  hr (by decide) (by rfl) (pa_cons (pv 1) (pa_cons pe_int pa_nil))))
      (pss_one (ps_ret (pe_tup (pa_cons (pe_dispT hu1 (pps_cons (pe_tup (pa_cons pe_int (pa_cons pe_int pa_nil))) (pv 5) (pps_cons (pe_tup (pa_cons pe_int (pa_cons pe_int pa_nil))) (pv 2) pps_nil)) (by rfl) (by rfl) (fun z => by cases z) (by decide)) (pa_cons (pe_dispT hu1 (pps_cons (pe_tup (pa_cons pe_int (pa_cons pe_int pa_nil))) (pe_k c_law_power  hr (by decide) (by rfl) (pa_cons (pv 1) (pa_cons pe_int pa_nil))) (pps_cons (pe_tup (pa_cons pe_int (pa_cons pe_int pa_nil))) (pe_k c_law_by  hr (by decide) (by rfl) (pa_cons (pv 5) (pa_cons (pv 3) pa_nil))) (pps_cons (pe_tup (pa_cons pe_int (pa_cons pe_int pa_nil))) (pv 4) pps_nil))) (by rfl) (by rfl) (fun z => by cases z) (by decide)) pa_nil))))))), ?_⟩
    refine ⟨.ref p, rfl, p, _, rfl, hp, rfl, _, _, rfl, _, _, rfl, _, _, rfl, _, _, rfl, rfl, ?_⟩
    first | refine sigN [some (.ref p), some (.ref pu), some (.ref pr), some (.ref ps), some (.ref pt), none] (by rfl) ?_ | refine sig [some (.ref p), some (.ref pu), some (.ref pr), some (.ref ps), some (.ref pt), none] (by rfl) ?_
    refine ⟨_, rfl, pu, c.u, 3, 2, rfl, hu, hB.u, by decide, by decide, fun H1 sq s1 nsq gsq => ?_⟩
    first | refine sigN [some (.ref p), some (.ref pu), some (.ref pr), some (.ref ps), some (.ref pt), some (.ref sq)] (by rfl) ?_ | refine sig [some (.ref p), some (.ref pu), some (.ref pr), some (.ref ps), some (.ref pt), some (.ref sq)] (by rfl) ?_
    have B2 : RB 7 (c.u ^ 2) := hB.u.pow 2
    have B3 : RB 10 (c.u ^ 3) := hB.u.pow 3
    intro px npx
    have s2 := Same.new (H := H1) (p := px) (o := .dT []) npx
    have g2 : upd H1 px (.dT []) px = some (.dT []) := upd_same
    generalize upd H1 px (.dT []) = H2 at s2 g2 ⊢
    refine ⟨(by show 2 ≤ sizeLine; decide), fun t1 nt1 => ?_⟩
    have s3 := Same.new (H := H2) (p := t1) (o := .tup [.int 1, .int 0]) nt1
    have g3 : upd H2 t1 (.tup [.int 1, .int 0]) t1 = some (.tup [.int 1, .int 0]) := upd_same
    generalize upd H2 t1 (.tup [.int 1, .int 0]) = H3 at s3 g3 ⊢
    refine ⟨_, rfl, (by show 2 ≤ sizeLine; decide), fun t2 nt2 => ?_⟩
    have s4 := Same.new (H := H3) (p := t2) (o := .tup [.int 0, .int 0]) nt2
    have g4 : upd H3 t2 (.tup [.int 0, .int 0]) t2 = some (.tup [.int 0, .int 0]) := upd_same
    generalize upd H3 t2 (.tup [.int 0, .int 0]) = H4 at s4 g4 ⊢
    have s24 := s2.trans (s3.trans s4)
    have gpx := (s3.trans s4) _ _ g2
    have rX : PR K H4 11 [(kk (1, 0), .ref sq), (kk (0, 0), .ref pr)] (pX c) := .cons ⟨rfl, sq, rfl, tup_of (s24 _ _ gsq), B2.up (by decide)⟩ (.cons ⟨rfl, pr, rfl, Same.tup (s1.trans s24) hr', hB.r.up (by decide)⟩ .nil)
    refine ⟨_, rfl, gpx, [(kk (1, 0), .ref sq), (kk (0, 0), .ref pr)], .cons ⟨⟨t1, rfl, s4 _ _ g3⟩, rfl⟩ (.cons ⟨⟨t2, rfl, g4⟩, rfl⟩ .nil), (by show 2 ≤ 15; decide), ?_⟩
    have pX4 := pat_disp gpx rX rfl
    have s14 : Same H1 (upd H4 px (.dT (mergeT [] [(kk (1, 0), .ref sq), (kk (0, 0), .ref pr)]))) := Same.put s24 npx
    generalize upd H4 px (.dT (mergeT [] [(kk (1, 0), .ref sq), (kk (0, 0), .ref pr)])) = H5 at pX4 s14 ⊢
    clear s2 g2 s3 g3 s4 g4 s24 gpx rX
    intro py npy
    have s6 := Same.new (H := H5) (p := py) (o := .dT []) npy
    have g6 : upd H5 py (.dT []) py = some (.dT []) := upd_same
    generalize upd H5 py (.dT []) = H6 at s6 g6 ⊢
    refine ⟨(by show 2 ≤ sizeLine; decide), fun t3 nt3 => ?_⟩
    have s7 := Same.new (H := H6) (p := t3) (o := .tup [.int 0, .int 1]) nt3
    have g7 : upd H6 t3 (.tup [.int 0, .int 1]) t3 = some (.tup [.int 0, .int 1]) := upd_same
    generalize upd H6 t3 (.tup [.int 0, .int 1]) = H7 at s7 g7 ⊢
    have sA := s1.trans (s14.trans (s6.trans s7))
    refine ⟨_, rfl, pu, c.u, 3, 3, rfl, Same.tup sA hu, hB.u, by decide, by decide, fun H8 cu s8 ncu gcu => ?_⟩
    refine ⟨(by show 2 ≤ sizeLine; decide), fun t4 nt4 => ?_⟩
    have s9 := Same.new (H := H8) (p := t4) (o := .tup [.int 1, .int 0]) nt4
    have g9 : upd H8 t4 (.tup [.int 1, .int 0]) t4 = some (.tup [.int 1, .int 0]) := upd_same
    generalize upd H8 t4 (.tup [.int 1, .int 0]) = H9 at s9 g9 ⊢
    have sB := sA.trans (s8.trans s9)
    refine ⟨_, rfl, _, rfl, sq, ps, c.u ^ 2, c.s, rfl, tup_of ((s14.trans (s6.trans (s7.trans (s8.trans s9)))) _ _ gsq), Same.tup sB hs, B2.up (by decide), hB.s.up (by decide), trivial, fun us nus => ?_⟩
    have sa := Same.new (H := H9) (p := us) (o := .tup (fq (c.u ^ 2 * c.s))) nus
    have ga : upd H9 us (.tup (fq (c.u ^ 2 * c.s))) us = some (.tup (fq (c.u ^ 2 * c.s))) := upd_same
    generalize upd H9 us (.tup (fq (c.u ^ 2 * c.s))) = Ha at sa ga ⊢
    refine ⟨(by show 2 ≤ sizeLine; decide), fun t5 nt5 => ?_⟩
    have sb := Same.new (H := Ha) (p := t5) (o := .tup [.int 0, .int 0]) nt5
    have gb : upd Ha t5 (.tup [.int 0, .int 0]) t5 = some (.tup [.int 0, .int 0]) := upd_same
    generalize upd Ha t5 (.tup [.int 0, .int 0]) = Hb at sb gb ⊢
    have s6b := s7.trans (s8.trans (s9.trans (sa.trans sb)))
    have gpy := s6b _ _ g6
    have sC := sB.trans (sa.trans sb)
    have rY : PR K Hb 11 [(kk (0, 1), .ref cu), (kk (1, 0), .ref us), (kk (0, 0), .ref pt)] (pY c) := .cons ⟨rfl, cu, rfl, tup_of ((s9.trans (sa.trans sb)) _ _ gcu), B3.up (by decide)⟩ (.cons ⟨rfl, us, rfl, tup_of (sb _ _ ga), (B2.mul hB.s).up (by decide)⟩ (.cons ⟨rfl, pt, rfl, Same.tup sC ht, hB.t.up (by decide)⟩ .nil))
    refine ⟨_, rfl, gpy, [(kk (0, 1), .ref cu), (kk (1, 0), .ref us), (kk (0, 0), .ref pt)], .cons ⟨⟨t3, rfl, (s8.trans (s9.trans (sa.trans sb))) _ _ g7⟩, rfl⟩ (.cons ⟨⟨t4, rfl, (sa.trans sb) _ _ g9⟩, rfl⟩ (.cons ⟨⟨t5, rfl, gb⟩, rfl⟩ .nil)), (by show 3 ≤ 15; decide), ?_⟩
    have pYb := pat_disp gpy rY rfl
    have s5e : Same H5 (upd Hb py (.dT (mergeT [] [(kk (0, 1), .ref cu), (kk (1, 0), .ref us), (kk (0, 0), .ref pt)]))) := Same.put (s6.trans s6b) npy
    generalize upd Hb py (.dT (mergeT [] [(kk (0, 1), .ref cu), (kk (1, 0), .ref us), (kk (0, 0), .ref pt)])) = Hc at pYb s5e ⊢
    refine ⟨(by show 2 ≤ sizeLine; decide), fun z nz => ?_⟩
    have sz := Same.new (H := Hc) (p := z) (o := .tup [.ref px, .ref py]) nz
    exact q _ z px py (s1.trans (s14.trans (s5e.trans sz))) upd_same (pX4.same (s5e.trans sz)) (pYb.same sz)
end
end K06
set_option linter.all false
set_option maxRecDepth 100000
namespace K06
open PySem PySem.Spec PyProof.Rows L2 Gd QM
/-! the same with letters in the place of plus and times: nothing of them is unfolded -/
def ppG (ad mu : Rat → Rat → Rat) (z : Rat) (f g : PL) (b : Rat) : PL := g.foldl (fun a e => pput a e.1 (ad ((plook a e.1).getD z) (mu b ((plook g e.1).getD z)))) (pcopy f)
theorem pp_eq (f g : PL) (b : Rat) : pplus f g b = ppG (fun a b => a + b) (fun a b => a * b) 0 f g b := rfl
def pbG (ad mu : Rat → Rat → Rat) (z : Rat) (f g : PL) : PL := f.foldl (fun a e => g.foldl (fun a d => pput a (e.1.1 + d.1.1, e.1.2 + d.1.2) (ad ((plook a (e.1.1 + d.1.1, e.1.2 + d.1.2)).getD z) (mu ((plook f e.1).getD z) ((plook g d.1).getD z)))) a) []
theorem pb_eq (f g : PL) : pby f g = pbG (fun a b => a + b) (fun a b => a * b) 0 f g := rfl
section
variable (ad mu : Rat → Rat → Rat) (z : Rat) (p1 p2 p3 p4 p5 p6 p7 q1 q2 q3 q4 q5 b : Rat)
theorem gXX : pbG ad mu z [((1, 0), p1), ((0, 0), p2)] [((1, 0), q1), ((0, 0), q2)] = [((2, 0), ad z (mu p1 q1)), ((1, 0), ad (ad z (mu p1 q2)) (mu p2 q1)), ((0, 0), ad z (mu p2 q2))] := by
  simp [pbG, pput, plook]
theorem gXY : pbG ad mu z [((1, 0), p1), ((0, 0), p2)] [((0, 1), q1), ((1, 0), q2), ((0, 0), q3)] = [((1, 1), ad z (mu p1 q1)), ((2, 0), ad z (mu p1 q2)), ((1, 0), ad (ad z (mu p1 q3)) (mu p2 q2)), ((0, 1), ad z (mu p2 q1)), ((0, 0), ad z (mu p2 q3))] := by
  simp [pbG, pput, plook]
theorem gYY : pbG ad mu z [((0, 1), p1), ((1, 0), p2), ((0, 0), p3)] [((0, 1), q1), ((1, 0), q2), ((0, 0), q3)] = [((0, 2), ad z (mu p1 q1)), ((1, 1), ad (ad z (mu p1 q2)) (mu p2 q1)), ((0, 1), ad (ad z (mu p1 q3)) (mu p3 q1)), ((2, 0), ad z (mu p2 q2)), ((1, 0), ad (ad z (mu p2 q3)) (mu p3 q2)), ((0, 0), ad z (mu p3 q3))] := by
  simp [pbG, pput, plook]
theorem g3 : pbG ad mu z [((2, 0), p1), ((1, 0), p2), ((0, 0), p3)] [((1, 0), q1), ((0, 0), q2)] = [((3, 0), ad z (mu p1 q1)), ((2, 0), ad (ad z (mu p1 q2)) (mu p2 q1)), ((1, 0), ad (ad z (mu p2 q2)) (mu p3 q1)), ((0, 0), ad z (mu p3 q2))] := by
  simp [pbG, pput, plook]
theorem s1 : ppG ad mu z [((0, 2), p1), ((1, 1), p2), ((0, 1), p3), ((2, 0), p4), ((1, 0), p5), ((0, 0), p6)] [((1, 1), q1), ((2, 0), q2), ((1, 0), q3), ((0, 1), q4), ((0, 0), q5)] b = [((0, 2), p1), ((1, 1), ad p2 (mu b q1)), ((0, 1), ad p3 (mu b q4)), ((2, 0), ad p4 (mu b q2)), ((1, 0), ad p5 (mu b q3)), ((0, 0), ad p6 (mu b q5))] := by
  simp [ppG, pcopy, pput, plook]
theorem s2 : ppG ad mu z [((0, 2), p1), ((1, 1), p2), ((0, 1), p3), ((2, 0), p4), ((1, 0), p5), ((0, 0), p6)] [((0, 1), q1), ((1, 0), q2), ((0, 0), q3)] b = [((0, 2), p1), ((1, 1), p2), ((0, 1), ad p3 (mu b q1)), ((2, 0), p4), ((1, 0), ad p5 (mu b q2)), ((0, 0), ad p6 (mu b q3))] := by
  simp [ppG, pcopy, pput, plook]
theorem s3 : ppG ad mu z [((0, 2), p1), ((1, 1), p2), ((0, 1), p3), ((2, 0), p4), ((1, 0), p5), ((0, 0), p6)] [((3, 0), q1), ((2, 0), q2), ((1, 0), q3), ((0, 0), q4)] b = [((0, 2), p1), ((1, 1), p2), ((0, 1), p3), ((2, 0), ad p4 (mu b q2)), ((1, 0), ad p5 (mu b q3)), ((0, 0), ad p6 (mu b q4)), ((3, 0), ad z (mu b q1))] := by
  simp [ppG, pcopy, pput, plook]
theorem s4 : ppG ad mu z [((0, 2), p1), ((1, 1), p2), ((0, 1), p3), ((2, 0), p4), ((1, 0), p5), ((0, 0), p6), ((3, 0), p7)] [((2, 0), q1), ((1, 0), q2), ((0, 0), q3)] b = [((0, 2), p1), ((1, 1), p2), ((0, 1), p3), ((2, 0), ad p4 (mu b q1)), ((1, 0), ad p5 (mu b q2)), ((0, 0), ad p6 (mu b q3)), ((3, 0), p7)] := by
  simp [ppG, pcopy, pput, plook]
theorem s5 : ppG ad mu z [((0, 2), p1), ((1, 1), p2), ((0, 1), p3), ((2, 0), p4), ((1, 0), p5), ((0, 0), p6), ((3, 0), p7)] [((1, 0), q1), ((0, 0), q2)] b = [((0, 2), p1), ((1, 1), p2), ((0, 1), p3), ((2, 0), p4), ((1, 0), ad p5 (mu b q1)), ((0, 0), ad p6 (mu b q2)), ((3, 0), p7)] := by
  simp [ppG, pcopy, pput, plook]
theorem s6 : ppG ad mu z [((0, 2), p1), ((1, 1), p2), ((0, 1), p3), ((2, 0), p4), ((1, 0), p5), ((0, 0), p6), ((3, 0), p7)] [((0, 0), q1)] b = [((0, 2), p1), ((1, 1), p2), ((0, 1), p3), ((2, 0), p4), ((1, 0), p5), ((0, 0), ad p6 (mu b q1)), ((3, 0), p7)] := by
  simp [ppG, pcopy, pput, plook]
end
/-! the curve's equation, step by step -/
def w0 (c : Ch) : PL := [((0, 2), 0 + c.u ^ 3 * c.u ^ 3), ((1, 1), 0 + c.u ^ 3 * (c.u ^ 2 * c.s) + (c.u ^ 2 * c.s) * c.u ^ 3), ((0, 1), 0 + c.u ^ 3 * c.t + c.t * c.u ^ 3), ((2, 0), 0 + (c.u ^ 2 * c.s) * (c.u ^ 2 * c.s)), ((1, 0), 0 + (c.u ^ 2 * c.s) * c.t + c.t * (c.u ^ 2 * c.s)), ((0, 0), 0 + c.t * c.t)]
def lXY (c : Ch) : PL := [((1, 1), 0 + c.u ^ 2 * c.u ^ 3), ((2, 0), 0 + c.u ^ 2 * (c.u ^ 2 * c.s)), ((1, 0), 0 + c.u ^ 2 * c.t + c.r * (c.u ^ 2 * c.s)), ((0, 1), 0 + c.r * c.u ^ 3), ((0, 0), 0 + c.r * c.t)]
def lXX (c : Ch) : PL := [((2, 0), 0 + c.u ^ 2 * c.u ^ 2), ((1, 0), 0 + c.u ^ 2 * c.r + c.r * c.u ^ 2), ((0, 0), 0 + c.r * c.r)]
def lX3 (c : Ch) : PL := [((3, 0), 0 + (0 + c.u ^ 2 * c.u ^ 2) * c.u ^ 2), ((2, 0), 0 + (0 + c.u ^ 2 * c.u ^ 2) * c.r + (0 + c.u ^ 2 * c.r + c.r * c.u ^ 2) * c.u ^ 2), ((1, 0), 0 + (0 + c.u ^ 2 * c.r + c.r * c.u ^ 2) * c.r + (0 + c.r * c.r) * c.u ^ 2), ((0, 0), 0 + (0 + c.r * c.r) * c.r)]
theorem eXX (c : Ch) : pby (pX c) (pX c) = lXX c := gXX _ _ _ _ _ _ _
theorem eXY (c : Ch) : pby (pX c) (pY c) = lXY c := gXY _ _ _ _ _ _ _ _
theorem eYY (c : Ch) : pby (pY c) (pY c) = w0 c := gYY _ _ _ _ _ _ _ _ _
theorem eX3 (c : Ch) : pby (lXX c) (pX c) = lX3 c := g3 _ _ _ _ _ _ _ _
/-- the curve's equation with the letters put in, term by term -/
def cW (c : Ch) (a1 a2 a3 a4 a6 : Rat) : PL := [((0, 2), 0 + c.u ^ 3 * c.u ^ 3),
  ((1, 1), 0 + c.u ^ 3 * (c.u ^ 2 * c.s) + (c.u ^ 2 * c.s) * c.u ^ 3 + a1 * (0 + c.u ^ 2 * c.u ^ 3)),
  ((0, 1), 0 + c.u ^ 3 * c.t + c.t * c.u ^ 3 + a1 * (0 + c.r * c.u ^ 3) + a3 * c.u ^ 3),
  ((2, 0), 0 + (c.u ^ 2 * c.s) * (c.u ^ 2 * c.s) + a1 * (0 + c.u ^ 2 * (c.u ^ 2 * c.s)) + -1 * (0 + (0 + c.u ^ 2 * c.u ^ 2) * c.r + (0 + c.u ^ 2 * c.r + c.r * c.u ^ 2) * c.u ^ 2) + a2 * (0 + c.u ^ 2 * c.u ^ 2)),
  ((1, 0), 0 + (c.u ^ 2 * c.s) * c.t + c.t * (c.u ^ 2 * c.s) + a1 * (0 + c.u ^ 2 * c.t + c.r * (c.u ^ 2 * c.s)) + a3 * (c.u ^ 2 * c.s) + -1 * (0 + (0 + c.u ^ 2 * c.r + c.r * c.u ^ 2) * c.r + (0 + c.r * c.r) * c.u ^ 2) + a2 * (0 + c.u ^ 2 * c.r + c.r * c.u ^ 2) + a4 * c.u ^ 2),
  ((0, 0), 0 + c.t * c.t + a1 * (0 + c.r * c.t) + a3 * c.t + -1 * (0 + (0 + c.r * c.r) * c.r) + a2 * (0 + c.r * c.r) + a4 * c.r + a6 * 1),
  ((3, 0), 0 + -1 * (0 + (0 + c.u ^ 2 * c.u ^ 2) * c.u ^ 2))]
theorem eW (c : Ch) (a1 a2 a3 a4 a6 : Rat) : pplus (pplus (pplus (pplus (pplus (pplus (w0 c) (lXY c) a1) (pY c) a3) (lX3 c) (-1)) (lXX c) a2) (pX c) a4) [((0, 0), 1)] a6 = cW c a1 a2 a3 a4 a6 := by
  simp only [pp_eq]
  rw [w0, lXY, s1, pY, s2, lX3, s3, lXX, s4, pX, s5, s6]
  rfl
/-! the curve that is led to -/
def l1 (c : Ch) (a1 : Rat) : Rat := (a1 + 2 * c.s) / c.u
def l2 (c : Ch) (a1 a2 : Rat) : Rat := (a2 - c.s * a1 + 3 * c.r - c.s * c.s) / (c.u * c.u)
def l3 (c : Ch) (a1 a3 : Rat) : Rat := (a3 + c.r * a1 + 2 * c.t) / (c.u * c.u * c.u)
def l4 (c : Ch) (a1 a2 a3 a4 : Rat) : Rat := (a4 - c.s * a3 + 2 * c.r * a2 - (c.t + c.r * c.s) * a1 + 3 * c.r * c.r - 2 * c.s * c.t) / (c.u * c.u * (c.u * c.u))
def l6 (c : Ch) (a1 a2 a3 a4 a6 : Rat) : Rat := (a6 + c.r * a4 + c.r * c.r * a2 + c.r * c.r * c.r - c.t * a3 - c.t * c.t - c.r * c.t * a1) / (c.u * c.u * c.u * (c.u * c.u * c.u))
section
variable (c : Ch) (a1 a2 a3 a4 a6 : Rat)
theorem d30 (h : c.u ≠ 0) : (0 + -1 * (0 + (0 + c.u ^ 2 * c.u ^ 2) * c.u ^ 2)) / c.u ^ 6 = -1 := by grind
theorem d02 (h : c.u ≠ 0) : (0 + c.u ^ 3 * c.u ^ 3) / c.u ^ 6 = 1 := by grind
theorem d11 (h : c.u ≠ 0) : (0 + c.u ^ 3 * (c.u ^ 2 * c.s) + (c.u ^ 2 * c.s) * c.u ^ 3 + a1 * (0 + c.u ^ 2 * c.u ^ 3)) / c.u ^ 6 = l1 c a1 := by
  unfold l1
  grind
theorem d20 (h : c.u ≠ 0) : -((0 + (c.u ^ 2 * c.s) * (c.u ^ 2 * c.s) + a1 * (0 + c.u ^ 2 * (c.u ^ 2 * c.s)) + -1 * (0 + (0 + c.u ^ 2 * c.u ^ 2) * c.r + (0 + c.u ^ 2 * c.r + c.r * c.u ^ 2) * c.u ^ 2) + (-a2) * (0 + c.u ^ 2 * c.u ^ 2)) / c.u ^ 6) = l2 c a1 a2 := by
  unfold l2
  grind
theorem d01 (h : c.u ≠ 0) : (0 + c.u ^ 3 * c.t + c.t * c.u ^ 3 + a1 * (0 + c.r * c.u ^ 3) + a3 * c.u ^ 3) / c.u ^ 6 = l3 c a1 a3 := by
  unfold l3
  grind
theorem d10 (h : c.u ≠ 0) : -((0 + (c.u ^ 2 * c.s) * c.t + c.t * (c.u ^ 2 * c.s) + a1 * (0 + c.u ^ 2 * c.t + c.r * (c.u ^ 2 * c.s)) + a3 * (c.u ^ 2 * c.s) + -1 * (0 + (0 + c.u ^ 2 * c.r + c.r * c.u ^ 2) * c.r + (0 + c.r * c.r) * c.u ^ 2) + (-a2) * (0 + c.u ^ 2 * c.r + c.r * c.u ^ 2) + (-a4) * c.u ^ 2) / c.u ^ 6) = l4 c a1 a2 a3 a4 := by
  unfold l4
  grind
theorem d00 (h : c.u ≠ 0) : -((0 + c.t * c.t + a1 * (0 + c.r * c.t) + a3 * c.t + -1 * (0 + (0 + c.r * c.r) * c.r) + (-a2) * (0 + c.r * c.r) + (-a4) * c.r + (-a6) * 1) / c.u ^ 6) = l6 c a1 a2 a3 a4 a6 := by
  unfold l6
  grind
end
/-! one change behind another -/
def thenC (c d : Ch) : Ch := ⟨c.u * d.u, c.u * c.u * d.r + c.r, c.u * d.s + c.s, c.u * c.u * c.u * d.t + c.u * c.u * c.s * d.r + c.t⟩
def backC (c : Ch) : Ch := ⟨1 / c.u, -(c.r / (c.u * c.u)), -(c.s / c.u), (c.r * c.s - c.t) / (c.u * c.u * c.u)⟩
theorem then_back (c : Ch) (h : c.u ≠ 0) : thenC c (backC c) = ⟨1, 0, 0, 0⟩ := by
  unfold thenC backC
  simp only [Ch.mk.injEq]
  refine ⟨by grind, by grind, by grind, by grind⟩
theorem led_then (c d : Ch) (a1 a2 a3 a4 a6 : Rat) (h : c.u ≠ 0) (k : d.u ≠ 0) :
    l1 (thenC c d) a1 = l1 d (l1 c a1) ∧ l2 (thenC c d) a1 a2 = l2 d (l1 c a1) (l2 c a1 a2) ∧ l3 (thenC c d) a1 a3 = l3 d (l1 c a1) (l3 c a1 a3) ∧
    l4 (thenC c d) a1 a2 a3 a4 = l4 d (l1 c a1) (l2 c a1 a2) (l3 c a1 a3) (l4 c a1 a2 a3 a4) ∧
    l6 (thenC c d) a1 a2 a3 a4 a6 = l6 d (l1 c a1) (l2 c a1 a2) (l3 c a1 a3) (l4 c a1 a2 a3 a4) (l6 c a1 a2 a3 a4 a6) := by
  obtain ⟨u, r, s, t⟩ := c
  obtain ⟨v, R, S, T⟩ := d
  obtain ⟨p, hp⟩ : ∃ p : Rat, u * p = 1 := ⟨1 / u, by dsimp only at h; grind⟩
  obtain ⟨q, hq⟩ : ∃ q : Rat, v * q = 1 := ⟨1 / v, by dsimp only at k; grind⟩
  dsimp only at h k
  have e1 : ∀ x : Rat, x / u = x * p := fun x => by grind
  have e2 : ∀ x : Rat, x / v = x * q := fun x => by grind
  have e3 : ∀ x : Rat, x / (u * u) = x * (p * p) := fun x => by
    have : u * u * (p * p) = 1 := by grind
    grind
  have f3 : ∀ x : Rat, x / (v * v) = x * (q * q) := fun x => by
    have : v * v * (q * q) = 1 := by grind
    grind
  have e4 : ∀ x : Rat, x / (u * u * u) = x * (p * p * p) := fun x => by
    have : u * u * u * (p * p * p) = 1 := by grind
    grind
  have f4 : ∀ x : Rat, x / (v * v * v) = x * (q * q * q) := fun x => by
    have : v * v * v * (q * q * q) = 1 := by grind
    grind
  have e5 : ∀ x : Rat, x / (u * u * (u * u)) = x * (p * p * (p * p)) := fun x => by
    have : u * u * (u * u) * (p * p * (p * p)) = 1 := by grind
    grind
  have f5 : ∀ x : Rat, x / (v * v * (v * v)) = x * (q * q * (q * q)) := fun x => by
    have : v * v * (v * v) * (q * q * (q * q)) = 1 := by grind
    grind
  have e6 : ∀ x : Rat, x / (u * u * u * (u * u * u)) = x * (p * p * p * (p * p * p)) := fun x => by
    have : u * u * u * (u * u * u) * (p * p * p * (p * p * p)) = 1 := by grind
    grind
  have f6 : ∀ x : Rat, x / (v * v * v * (v * v * v)) = x * (q * q * q * (q * q * q)) := fun x => by
    have : v * v * v * (v * v * v) * (q * q * q * (q * q * q)) = 1 := by grind
    grind
  have g1 : ∀ x : Rat, x / (u * v) = x * p * q := fun x => by
    have : u * v * (p * q) = 1 := by grind
    grind
  have g2 : ∀ x : Rat, x / (u * v * (u * v)) = x * (p * p) * (q * q) := fun x => by
    have : u * v * (u * v) * (p * p * (q * q)) = 1 := by grind
    grind
  have g3 : ∀ x : Rat, x / (u * v * (u * v) * (u * v)) = x * (p * p * p) * (q * q * q) := fun x => by
    have : u * v * (u * v) * (u * v) * (p * p * p * (q * q * q)) = 1 := by grind
    grind
  have g4 : ∀ x : Rat, x / (u * v * (u * v) * (u * v * (u * v))) = x * (p * p * (p * p)) * (q * q * (q * q)) := fun x => by
    have : u * v * (u * v) * (u * v * (u * v)) * (p * p * (p * p) * (q * q * (q * q))) = 1 := by grind
    grind
  have g6 : ∀ x : Rat, x / (u * v * (u * v) * (u * v) * (u * v * (u * v) * (u * v))) = x * (p * p * p * (p * p * p)) * (q * q * q * (q * q * q)) := fun x => by
    have : u * v * (u * v) * (u * v) * (u * v * (u * v) * (u * v)) * (p * p * p * (p * p * p) * (q * q * q * (q * q * q))) = 1 := by grind
    grind
  unfold l1 l2 l3 l4 l6 thenC
  dsimp only
  simp only [g1, g2, g3, g4, g6, e1, e2, e3, f3, e4, f4, e5, f5, e6, f6]
  refine ⟨by grind, ?_, ?_, ?_, ?_⟩
  · congr 1
    grind
  · congr 1
    grind
  · congr 1
    grind
  · congr 1
    grind
end K06
set_option linter.all false
set_option maxRecDepth 100000
namespace K06
open PySem PySem.Spec PyProof.Rows L2 Gd QM
/-! the equation's polynomials, step by step -/
def W1 (c : Ch) (a1 : Rat) : PL := pplus (w0 c) (lXY c) a1
def W2 (c : Ch) (a1 a3 : Rat) : PL := pplus (W1 c a1) (pY c) a3
def W3 (c : Ch) (a1 a3 : Rat) : PL := pplus (W2 c a1 a3) (lX3 c) (-1)
def W4 (c : Ch) (a1 a3 a2 : Rat) : PL := pplus (W3 c a1 a3) (lXX c) a2
def W5 (c : Ch) (a1 a3 a2 a4 : Rat) : PL := pplus (W4 c a1 a3 a2) (pX c) a4
def k6 : List (Int × Int) := [(0, 2), (1, 1), (0, 1), (2, 0), (1, 0), (0, 0)]
def k7 : List (Int × Int) := [(0, 2), (1, 1), (0, 1), (2, 0), (1, 0), (0, 0), (3, 0)]
theorem ap6 : (k6.map hh).Nodup := by decide +kernel
theorem ap7 : (k7.map hh).Nodup := by decide +kernel
theorem kw0 (c : Ch) : (w0 c).map (·.1) = k6 := rfl
theorem kw1 (c : Ch) (a1 : Rat) : (W1 c a1).map (·.1) = k6 := by
  rw [W1]
  simp only [pp_eq]
  rw [w0, lXY, s1]
  rfl
theorem kw2 (c : Ch) (a1 a3 : Rat) : (W2 c a1 a3).map (·.1) = k6 := by
  rw [W2, W1]
  simp only [pp_eq]
  rw [w0, lXY, s1, pY, s2]
  rfl
theorem kw3 (c : Ch) (a1 a3 : Rat) : (W3 c a1 a3).map (·.1) = k7 := by
  rw [W3, W2, W1]
  simp only [pp_eq]
  rw [w0, lXY, s1, pY, s2, lX3, s3]
  rfl
theorem kw4 (c : Ch) (a1 a3 a2 : Rat) : (W4 c a1 a3 a2).map (·.1) = k7 := by
  rw [W4, W3, W2, W1]
  simp only [pp_eq]
  rw [w0, lXY, s1, pY, s2, lX3, s3, lXX, s4]
  rfl
theorem kw5 (c : Ch) (a1 a3 a2 a4 : Rat) : (W5 c a1 a3 a2 a4).map (·.1) = k7 := by
  rw [W5, W4, W3, W2, W1]
  simp only [pp_eq]
  rw [w0, lXY, s1, pY, s2, lX3, s3, lXX, s4, pX, s5]
  rfl
theorem len_of {L : PL} {ks : List (Int × Int)} (h : L.map (·.1) = ks) : L.length = ks.length := by
  rw [← h, List.length_map]
/-! joined -/
section
variable (ad mu : Rat → Rat → Rat) (z : Rat) (p p1 p2 p3 q1 q2 q3 b : Rat)
theorem j1 : pbG ad mu z [((0, 0), p)] [((1, 0), q1), ((0, 0), q2)] = [((1, 0), ad z (mu p q1)), ((0, 0), ad z (mu p q2))] := by
  simp [pbG, pput, plook]
theorem j2 : pbG ad mu z [((0, 0), p)] [((0, 1), q1), ((1, 0), q2), ((0, 0), q3)] = [((0, 1), ad z (mu p q1)), ((1, 0), ad z (mu p q2)), ((0, 0), ad z (mu p q3))] := by
  simp [pbG, pput, plook]
theorem j3 : ppG ad mu z [((0, 0), p)] [((1, 0), q1), ((0, 0), q2)] b = [((0, 0), ad p (mu b q2)), ((1, 0), ad z (mu b q1))] := by
  simp [ppG, pcopy, pput, plook]
theorem j4 : ppG ad mu z [((0, 0), p)] [((0, 1), q1), ((1, 0), q2), ((0, 0), q3)] b = [((0, 0), ad p (mu b q3)), ((0, 1), ad z (mu b q1)), ((1, 0), ad z (mu b q2))] := by
  simp [ppG, pcopy, pput, plook]
theorem j5 : ppG ad mu z [((0, 0), p1), ((0, 1), p2), ((1, 0), p3)] [((1, 0), q1), ((0, 0), q2)] b = [((0, 0), ad p1 (mu b q2)), ((0, 1), p2), ((1, 0), ad p3 (mu b q1))] := by
  simp [ppG, pcopy, pput, plook]
end
def mX0 (c d : Ch) : PL := [((1, 0), 0 + c.u ^ 2 * d.u ^ 2), ((0, 0), 0 + c.u ^ 2 * d.r)]
def mX (c d : Ch) : PL := [((0, 0), c.r + 1 * (0 + c.u ^ 2 * d.r)), ((1, 0), 0 + 1 * (0 + c.u ^ 2 * d.u ^ 2))]
def mY0 (c d : Ch) : PL := [((0, 1), 0 + c.u ^ 3 * d.u ^ 3), ((1, 0), 0 + c.u ^ 3 * (d.u ^ 2 * d.s)), ((0, 0), 0 + c.u ^ 3 * d.t)]
def mY1 (c d : Ch) : PL := [((0, 0), c.t + 1 * (0 + c.u ^ 3 * d.t)), ((0, 1), 0 + 1 * (0 + c.u ^ 3 * d.u ^ 3)), ((1, 0), 0 + 1 * (0 + c.u ^ 3 * (d.u ^ 2 * d.s)))]
def mY2 (c d : Ch) : PL := [((1, 0), 0 + c.u ^ 2 * c.s * d.u ^ 2), ((0, 0), 0 + c.u ^ 2 * c.s * d.r)]
def mY (c d : Ch) : PL := [((0, 0), c.t + 1 * (0 + c.u ^ 3 * d.t) + 1 * (0 + c.u ^ 2 * c.s * d.r)), ((0, 1), 0 + 1 * (0 + c.u ^ 3 * d.u ^ 3)), ((1, 0), 0 + 1 * (0 + c.u ^ 3 * (d.u ^ 2 * d.s)) + 1 * (0 + c.u ^ 2 * c.s * d.u ^ 2))]
theorem eX0 (c d : Ch) : pby [((0, 0), c.u ^ 2)] (pX d) = mX0 c d := j1 _ _ _ _ _ _
theorem eX1 (c d : Ch) : pplus [((0, 0), c.r)] (mX0 c d) 1 = mX c d := j3 _ _ _ _ _ _ _
theorem eY0 (c d : Ch) : pby [((0, 0), c.u ^ 3)] (pY d) = mY0 c d := j2 _ _ _ _ _ _ _
theorem eY1 (c d : Ch) : pplus [((0, 0), c.t)] (mY0 c d) 1 = mY1 c d := j4 _ _ _ _ _ _ _ _
theorem eY2 (c d : Ch) : pby [((0, 0), c.u ^ 2 * c.s)] (pX d) = mY2 c d := j1 _ _ _ _ _ _
theorem eY3 (c d : Ch) : pplus (mY1 c d) (mY2 c d) 1 = mY c d := j5 _ _ _ _ _ _ _ _ _
theorem ap1 : (([(0, 0)] : List (Int × Int)).map hh).Nodup := by decide +kernel
theorem ap3 : (([(0, 0), (0, 1), (1, 0)] : List (Int × Int)).map hh).Nodup := by decide +kernel
theorem jr (c d : Ch) : c.r + 1 * (0 + c.u ^ 2 * d.r) = (thenC c d).r := by
  unfold thenC
  grind
theorem jt (c d : Ch) : c.t + 1 * (0 + c.u ^ 3 * d.t) + 1 * (0 + c.u ^ 2 * c.s * d.r) = (thenC c d).t := by
  unfold thenC
  grind
theorem js (c d : Ch) (h : c.u ≠ 0) (k : d.u ≠ 0) : (0 + 1 * (0 + c.u ^ 3 * (d.u ^ 2 * d.s)) + 1 * (0 + c.u ^ 2 * c.s * d.u ^ 2)) / (c.u * d.u) ^ 2 = (thenC c d).s := by
  unfold thenC
  grind
end K06
set_option Elab.async false
set_option linter.all false
set_option maxRecDepth 100000
set_option maxHeartbeats 400000
namespace K06
open PySem PySem.Spec PyProof.Rows L2 Gd QM
def Cv.ints (c : Cv) : List Int := [c.a1, c.a2, c.a3, c.a4, c.a6]
theorem Cv.tup_ints (c : Cv) : c.tup = c.ints.map V.int := rfl
structure CvB (m : Nat) (c : Cv) : Prop where
  h1 : B m c.a1
  h2 : B m c.a2
  h3 : B m c.a3
  h4 : B m c.a4
  h6 : B m c.a6
theorem FrE.ren {K : PySem.W.Frag} {H : Hp} {es : List (Addr × Rat × Nat)} {p : Addr} {a b : Rat} {m : Nat} (h : FrE K H ((p, a, m) :: es)) (e : a = b) : FrE K H ((p, b, m) :: es) := e ▸ h
section
variable {P : Program} {w : World} {K : PySem.W.Frag} {mg : Str → Option Value} {base : Heap}
local macro_rules | `(tactic| walk_at "mm") => `(tactic| (repeat (first | exact List.mem_cons_self | apply List.mem_cons_of_mem)))
theorem rb_two : RB 2 (2 : Rat) := ⟨by decide, by decide⟩
theorem rb_three : RB 2 (3 : Rat) := ⟨by decide, by decide⟩
theorem rb_m1 : RB 1 (-1 : Rat) := ⟨by decide, by decide⟩
theorem rb_m2 : RB 2 (-2 : Rat) := ⟨by decide, by decide⟩
theorem fq_2 : [V.int 2, V.int 1] = fq 2 := rfl
theorem fq_3 : [V.int 3, V.int 1] = fq 3 := rfl
theorem fq_m1 : [V.int (-1), V.int 1] = fq (-1) := rfl
theorem fq_m2 : [V.int (-2), V.int 1] = fq (-2) := rfl
theorem qmul_ne {a b : Rat} (h : a ≠ 0) (k : b ≠ 0) : a * b ≠ 0 := fun e => by
  rcases Rat.mul_eq_zero.mp e with e | e
  · exact h e
  · exact k e
theorem sq_eq {K : PySem.W.Frag} {H : Hp} {p : Addr} {a b : Rat} (h : SqT K H p (fq a)) (e : a = b) : SqT K H p (fq b) := e ▸ h
/-- five fractions that a change leads to -/
def LedAt (K : PySem.W.Frag) (H : Hp) (t : Addr) (c : Ch) (v : Cv) : Prop := ∃ p1 p2 p3 p4 p6, H t = some (.tup [.ref p1, .ref p2, .ref p3, .ref p4, .ref p6]) ∧ SqT K H p1 (fq (l1 c v.a1)) ∧ SqT K H p2 (fq (l2 c v.a1 v.a2)) ∧ SqT K H p3 (fq (l3 c v.a1 v.a3)) ∧ SqT K H p4 (fq (l4 c v.a1 v.a2 v.a3 v.a4)) ∧ SqT K H p6 (fq (l6 c v.a1 v.a2 v.a3 v.a4 v.a6))
theorem LedAt.same {H H' : Hp} {t : Addr} {c : Ch} {v : Cv} (s : Same H H') (h : LedAt K H t c v) : LedAt K H' t c v := by
  obtain ⟨a, b, d, e, f, h1, h2, h3, h4, h5, h6⟩ := h
  exact ⟨a, b, d, e, f, s _ _ h1, Same.tup s h2, Same.tup s h3, Same.tup s h4, Same.tup s h5, Same.tup s h6⟩
def sp_led (K : PySem.W.Frag) : Sp := fun vs H Q _ => ∃ (p o : Addr) (c : Cv) (d : Ch), vs = [.ref p, .ref o] ∧ SqT K H p c.tup ∧ CvB 97 c ∧ ChAt K H o d ∧ ChB 29 d ∧ ∀ H' t, Same H H' → LedAt K H' t d c → Q (.ref t) H'
abbrev s_led : Stmt := topS 14
theorem sc_led : FnScope ["curve", "change", "a1", "a2", "a3", "a4", "a6", "a", "u", "r", "s", "t", "minus", "two", "three", "first", "second", "third", "fourth", "sixth", "uu", "uuu"] ["curve", "change"] (defScope s_led) := ⟨rfl, rfl, rfl, by decide +kernel, rfl, by decide +kernel, by decide +kernel⟩
theorem k_led (T : Tx K mg) (D : Df K mg "led" s_led ["curve", "change"]) (c_plus : Kl P w K mg base 2 "plus" (sp_plus K)) (c_total : Kl P w K mg base 3 "total" (sp_total K)) (c_times : Kl P w K mg base 2 "times" (sp_times K)) (c_whole_fraction : Kl P w K mg base 1 "whole_fraction" (sp_whole_fraction K)) (c_over : Kl P w K mg base 2 "over" (sp_over K)) (c_five : Kl P w K mg base 1 "five" (sp_five K)) (c_product : Kl P w K mg base 3 "product" (sp_product K)) : Kl P w K mg base 4 "led" (sp_led K) := by
  have nd := sc_led.nd
  refine Kl.by_body D sc_led (fun vs H Q E h => ?_) (fun f cdv A outer s H vs Q E hr h => ?_)
  · obtain ⟨_, _, _, _, rfl, _⟩ := h
    rfl
  · obtain ⟨p, o, c, d, rfl, hp, hc, hd, hB, q⟩ := h
    have hu1 := hu_of hr
    refine ⟨_, (pss_cons (ps_asg (pe_lc (own := [("a", 7)]) (g := gName 7) rfl nd (pi_tup (pe_k c_five  hr (by decide) (by rfl) (pa_cons (pv 0) pa_nil))) (blkOk_by (N := ["curve", "change", "a1", "a2", "a3", "a4", "a6", "a", "u", "r", "s", "t", "minus", "two", "three", "first", "second", "third", "fourth", "sixth", "uu", "uuu"]) (sc := defScope s_led) (by decide +kernel)) (fun _ _ _ _ _ => (pg_name (i := 7) nd rfl (by first | exact Or.inl rfl | exact Or.inr rfl))) (fun _ _ _ _ _ => pts_nil) (fun _ _ _ _ _ => (pe_k c_whole_fraction  hr (by decide) (by rfl) (pa_cons (pv 7) pa_nil)))) (pg_lst rfl (pgs_cons (pg_name (i := 2) nd rfl (by first | exact Or.inl rfl | exact Or.inr rfl)) (pgs_cons (pg_name (i := 3) nd rfl (by first | exact Or.inl rfl | exact Or.inr rfl)) (pgs_cons (pg_name (i := 4) nd rfl (by first | exact Or.inl rfl | exact Or.inr rfl)) (pgs_cons (pg_name (i := 5) nd rfl (by first | exact Or.inl rfl | exact Or.inr rfl)) (pgs_cons (pg_name (i := 6) nd rfl (by first | exact Or.inl rfl | exact Or.inr rfl)) pgs_nil)))))))
      (pss_cons (ps_asg (pv 1) (pg_tup rfl (pgs_cons (pg_name (i := 8) nd rfl (by first | exact Or.inl rfl | exact Or.inr rfl)) (pgs_cons (pg_name (i := 9) nd rfl (by first | exact Or.inl rfl | exact Or.inr rfl)) (pgs_cons (pg_name (i := 10) nd rfl (by first | exact Or.inl rfl | exact Or.inr rfl)) (pgs_cons (pg_name (i := 11) nd rfl (by first | exact Or.inl rfl | exact Or.inr rfl)) pgs_nil))))))
      (pss_cons (ps_asg (pe_tup (pa_cons (pe_tup (pa_cons (pe_un un_neg pe_int) (pa_cons pe_int pa_nil))) (pa_cons (pe_tup (pa_cons pe_int (pa_cons pe_int pa_nil))) (pa_cons (pe_tup (pa_cons pe_int (pa_cons pe_int pa_nil))) pa_nil)))) (pg_tup rfl (pgs_cons (pg_name (i := 12) nd rfl (by first | exact Or.inl rfl | exact Or.inr rfl)) (pgs_cons (pg_name (i := 13) nd rfl (by first | exact Or.inl rfl | exact Or.inr rfl)) (pgs_cons (pg_name (i := 14) nd rfl (by first | exact Or.inl rfl | exact Or.inr rfl)) pgs_nil)))))
      (pss_cons (ps_set (i := 15) nd rfl (by first | exact Or.inl rfl | exact Or.inr rfl) (pe_k c_plus  hr (by decide) (by rfl) (pa_cons (pv 2) (pa_cons (pe_k c_times  hr (by decide) (by rfl) (pa_cons (pv 13) (pa_cons (pv 10) pa_nil))) pa_nil))))
      (pss_cons (ps_set (i := 16) nd rfl (by first | exact Or.inl rfl | exact Or.inr rfl) (pe_k c_total  hr (by decide) (by rfl) (pa_cons (pe_lst (pa_cons (pv 3) (pa_cons (pe_k c_product  hr (by decide) (by rfl) (pa_cons (pe_lst (pa_cons (pv 12) (pa_cons (pv 10) (pa_cons (pv 2) pa_nil)))) pa_nil)) (pa_cons (pe_k c_times  hr (by decide) (by rfl) (pa_cons (pv 14) (pa_cons (pv 9) pa_nil))) (pa_cons (pe_k c_product  hr (by decide) (by rfl) (pa_cons (pe_lst (pa_cons (pv 12) (pa_cons (pv 10) (pa_cons (pv 10) pa_nil)))) pa_nil)) pa_nil))))) pa_nil)))
      (pss_cons (ps_set (i := 17) nd rfl (by first | exact Or.inl rfl | exact Or.inr rfl) (pe_k c_total  hr (by decide) (by rfl) (pa_cons (pe_lst (pa_cons (pv 4) (pa_cons (pe_k c_times  hr (by decide) (by rfl) (pa_cons (pv 9) (pa_cons (pv 2) pa_nil))) (pa_cons (pe_k c_times  hr (by decide) (by rfl) (pa_cons (pv 13) (pa_cons (pv 11) pa_nil))) pa_nil)))) pa_nil)))
      (pss_cons (ps_set (i := 18) nd rfl (by first | exact Or.inl rfl | exact Or.inr rfl) (pe_k c_total  hr (by decide) (by rfl) (pa_cons (pe_lst (pa_cons (pv 5) (pa_cons (pe_k c_product  hr (by decide) (by rfl) (pa_cons (pe_lst (pa_cons (pv 12) (pa_cons (pv 10) (pa_cons (pv 4) pa_nil)))) pa_nil)) (pa_cons (pe_k c_product  hr (by decide) (by rfl) (pa_cons (pe_lst (pa_cons (pv 13) (pa_cons (pv 9) (pa_cons (pv 3) pa_nil)))) pa_nil)) (pa_cons (pe_k c_product  hr (by decide) (by rfl) (pa_cons (pe_lst (pa_cons (pv 12) (pa_cons (pe_k c_plus  hr (by decide) (by rfl) (pa_cons (pv 11) (pa_cons (pe_k c_times  hr (by decide) (by rfl) (pa_cons (pv 9) (pa_cons (pv 10) pa_nil))) pa_nil))) (pa_cons (pv 2) pa_nil)))) pa_nil)) (pa_cons (pe_k c_product  hr (by decide) (by rfl) (pa_cons (pe_lst (pa_cons (pv 14) (pa_cons (pv 9) (pa_cons (pv 9) pa_nil)))) pa_nil)) (pa_cons (pe_k c_product  hr (by decide) (by rfl) (pa_cons (pe_lst (pa_cons (pe_tup (pa_cons (pe_un un_neg pe_int) (pa_cons pe_int pa_nil))) (pa_cons (pv 10) (pa_cons (pv 11) pa_nil)))) pa_nil)) pa_nil))))))) pa_nil)))
      (pss_cons (ps_set (i := 19) nd rfl (by first | exact Or.inl rfl | exact Or.inr rfl) (pe_k c_total  hr (by decide) (by rfl) (pa_cons (pe_lst (pa_cons (pv 6) (pa_cons (pe_k c_times  hr (by decide) (by rfl) (pa_cons (pv 9) (pa_cons (pv 5) pa_nil))) (pa_cons (pe_k c_product  hr (by decide) (by rfl) (pa_cons (pe_lst (pa_cons (pv 9) (pa_cons (pv 9) (pa_cons (pv 3) pa_nil)))) pa_nil)) (pa_cons (pe_k c_product  hr (by decide) (by rfl) (pa_cons (pe_lst (pa_cons (pv 9) (pa_cons (pv 9) (pa_cons (pv 9) pa_nil)))) pa_nil)) (pa_cons (pe_k c_product  hr (by decide) (by rfl) (pa_cons (pe_lst (pa_cons (pv 12) (pa_cons (pv 11) (pa_cons (pv 4) pa_nil)))) pa_nil)) (pa_cons (pe_k c_product  hr (by decide) (by rfl) (pa_cons (pe_lst (pa_cons (pv 12) (pa_cons (pv 11) (pa_cons (pv 11) pa_nil)))) pa_nil)) (pa_cons (pe_k c_product  hr (by decide) (by rfl) (pa_cons (pe_lst (pa_cons (pv 12) (pa_cons (pv 9) (pa_cons (pv 11) (pa_cons (pv 2) pa_nil))))) pa_nil)) pa_nil)))))))) pa_nil)))
      (pss_cons (ps_set (i := 20) nd rfl (by first | exact Or.inl rfl | exact Or.inr rfl) (pe_k c_times  hr (by decide) (by rfl) (pa_cons (pv 8) (pa_cons (pv 8) pa_nil))))
      (pss_cons (ps_set (i := 21) nd rfl (by first | exact Or.inl rfl | exact Or.inr rfl) (pe_k c_times  hr (by decide) (by rfl) (pa_cons (pv 20) (pa_cons (pv 8) pa_nil))))
      (pss_one (ps_ret (pe_tup (pa_cons (pe_k c_over  hr (by decide) (by rfl) (pa_cons (pv 15) (pa_cons (pv 8) pa_nil))) (pa_cons (pe_k c_over  hr (by decide) (by rfl) (pa_cons (pv 16) (pa_cons (pv 20) pa_nil))) (pa_cons (pe_k c_over  hr (by decide) (by rfl) (pa_cons (pv 17) (pa_cons (pv 21) pa_nil))) (pa_cons (pe_k c_over  hr (by decide) (by rfl) (pa_cons (pv 18) (pa_cons (pe_k c_times  hr (by decide) (by rfl) (pa_cons (pv 20) (pa_cons (pv 20) pa_nil))) pa_nil))) (pa_cons (pe_k c_over  hr (by decide) (by rfl) (pa_cons (pv 19) (pa_cons (pe_k c_times  hr (by decide) (by rfl) (pa_cons (pv 21) (pa_cons (pv 21) pa_nil))) pa_nil))) pa_nil)))))))))))))))))), ?_⟩
    refine ⟨.ref p, rfl, p, c, rfl, hp, p, rfl, ⟨_, hp⟩, fun D1 hD1 => ?_⟩
    refine lc_tup (K := K) (a := p) (xs := c.tup) (fun i H4 => Same H H4 ∧ FrD H4 D1 c.ints i) ⟨Same.new hD1, FrD.new⟩ (fun i H4 _ z => Same.tup z.1 hp) (fun i x H4 hi z => ?_) (fun H1 z => ?_)
    · obtain ⟨n, rfl, hn⟩ : ∃ n, x = .int n ∧ c.ints[i]? = some n := by
        rw [Cv.tup_ints, List.getElem?_map] at hi
        cases e : c.ints[i]? with
        | none =>
          rw [e] at hi
          cases hi
        | some y =>
          rw [e] at hi
          exact ⟨y, (Option.some.inj hi).symm, rfl⟩
      have hi5 : i < 5 := (List.getElem?_eq_some_iff.mp hn).1
      refine ⟨rfl, _, rfl, n, rfl, fun t nt => ?_⟩
      obtain ⟨acc, h1, h2, h3⟩ := FrD.push z.2 hn nt (by omega)
      exact ⟨acc, h1, h2, Same.put (Same.put z.1 (z.1.free nt)) hD1, h3⟩
    obtain ⟨s1, hF1⟩ := z
    obtain ⟨pa1, pa2, pa3, pa4, pa6, gD1, hpa1, hpa2, hpa3, hpa4, hpa6⟩ := hF1.five
    refine ⟨D1, _, rfl, lst_of gD1, rfl, _, _, rfl, _, _, rfl, _, _, rfl, _, _, rfl, _, _, rfl, rfl, ?_⟩
    obtain ⟨pu, pr, ps, pt, ho, hu, hr', hs, ht⟩ := hd.same s1
    first | refine sigN [some (.ref p), some (.ref o), some (.ref pa1), some (.ref pa2), some (.ref pa3), some (.ref pa4), some (.ref pa6), none, none, none, none, none, none, none, none, none, none, none, none, none, none, none] (by rfl) ?_ | refine sig [some (.ref p), some (.ref o), some (.ref pa1), some (.ref pa2), some (.ref pa3), some (.ref pa4), some (.ref pa6), none, none, none, none, none, none, none, none, none, none, none, none, none, none, none] (by rfl) ?_
    refine ⟨.ref o, rfl, o, _, rfl, ho, rfl, _, _, rfl, _, _, rfl, _, _, rfl, _, _, rfl, rfl, ?_⟩
    first | refine sigN [some (.ref p), some (.ref o), some (.ref pa1), some (.ref pa2), some (.ref pa3), some (.ref pa4), some (.ref pa6), none, some (.ref pu), some (.ref pr), some (.ref ps), some (.ref pt), none, none, none, none, none, none, none, none, none, none] (by rfl) ?_ | refine sig [some (.ref p), some (.ref o), some (.ref pa1), some (.ref pa2), some (.ref pa3), some (.ref pa4), some (.ref pa6), none, some (.ref pu), some (.ref pr), some (.ref ps), some (.ref pt), none, none, none, none, none, none, none, none, none, none] (by rfl) ?_
    have E0 : FrE K H1 [(pu, d.u, 29), (pr, d.r, 29), (ps, d.s, 29), (pt, d.t, 29), (pa1, (c.a1 : Rat), 97), (pa2, (c.a2 : Rat), 97), (pa3, (c.a3 : Rat), 97), (pa4, (c.a4 : Rat), 97), (pa6, (c.a6 : Rat), 97)] :=
      FrE.add (FrE.add (FrE.add (FrE.add (FrE.add (FrE.add (FrE.add (FrE.add (FrE.add FrE.nil (tup_of hpa6) (RB.int hc.h6 (by decide))) (tup_of hpa4) (RB.int hc.h4 (by decide))) (tup_of hpa3) (RB.int hc.h3 (by decide))) (tup_of hpa2) (RB.int hc.h2 (by decide))) (tup_of hpa1) (RB.int hc.h1 (by decide))) ht hB.t) hs hB.s) hr' hB.r) hu hB.u
    clear hpa1 hpa2 hpa3 hpa4 hpa6 gD1 hF1 hD1 ho hu hr' hs ht hd
    refine ⟨_, rfl, ?_⟩
    refine ⟨(by show 2 ≤ sizeLine; decide), fun minus nminus => ?_⟩
    obtain ⟨H2, eH_, s2, E1⟩ := litE E0 nminus fq_m1 rb_m1
    rw [eH_]
    clear eH_
    refine ⟨(by show 2 ≤ sizeLine; decide), fun two ntwo => ?_⟩
    obtain ⟨H3, eH_, s3, E2⟩ := litE E1 ntwo fq_2 rb_two
    rw [eH_]
    clear eH_
    refine ⟨(by show 2 ≤ sizeLine; decide), fun three nthree => ?_⟩
    obtain ⟨H4, eH_, s4, E3⟩ := litE E2 nthree fq_3 rb_three
    rw [eH_]
    clear eH_
    refine ⟨(by show 3 ≤ sizeLine; decide), fun tz nz => ?_⟩
    have E4 := E3.same (Same.new (o := .tup [.ref minus, .ref two, .ref three]) nz)
    have s5 := Same.new (o := .tup [.ref minus, .ref two, .ref three]) nz
    have gz : (upd H4 tz (.tup [.ref minus, .ref two, .ref three])) tz = some (.tup [.ref minus, .ref two, .ref three]) := upd_same
    generalize upd H4 tz (.tup [.ref minus, .ref two, .ref three]) = H5 at E4 s5 gz ⊢
    refine ⟨tz, _, rfl, tup_of gz, rfl, _, _, rfl, _, _, rfl, _, _, rfl, rfl, ?_⟩
    first | refine sigN [some (.ref p), some (.ref o), some (.ref pa1), some (.ref pa2), some (.ref pa3), some (.ref pa4), some (.ref pa6), none, some (.ref pu), some (.ref pr), some (.ref ps), some (.ref pt), some (.ref minus), some (.ref two), some (.ref three), none, none, none, none, none, none, none] (by rfl) ?_ | refine sig [some (.ref p), some (.ref o), some (.ref pa1), some (.ref pa2), some (.ref pa3), some (.ref pa4), some (.ref pa6), none, some (.ref pu), some (.ref pr), some (.ref ps), some (.ref pt), some (.ref minus), some (.ref two), some (.ref three), none, none, none, none, none, none, none] (by rfl) ?_
    have sA := s1.trans (s2.trans (s3.trans (s4.trans s5)))
    clear s1 s2 s3 s4 s5 gz E0 E1 E2 E3
    refine ⟨.ref pa1, rfl, .ref two, rfl, .ref ps, rfl, ?_⟩
    refine ⟨two, ps, _, _, rfl, E4.get (by walk_at "mm"), E4.get (by walk_at "mm"), (E4.rb (p := two) (by walk_at "mm")).up (by decide), (E4.rb (p := ps) (by walk_at "mm")).up (by decide), trivial, fun x1 nx1 => ?_⟩
    obtain ⟨H6, eH_, s6, E5⟩ := stepE E4 nx1 (RB.mul (E4.rb (p := two) (by walk_at "mm")) (E4.rb (p := ps) (by walk_at "mm")))
    rw [eH_]
    clear eH_
    refine ⟨pa1, x1, _, _, rfl, E5.get (by walk_at "mm"), E5.get (by walk_at "mm"), (E5.rb (p := pa1) (by walk_at "mm")).up (by decide), (E5.rb (p := x1) (by walk_at "mm")).up (by decide), trivial, fun first nfirst => ?_⟩
    obtain ⟨H7, eH_, s7, E6⟩ := stepE E5 nfirst (RB.add (E5.rb (p := pa1) (by walk_at "mm")) (E5.rb (p := x1) (by walk_at "mm")))
    rw [eH_]
    clear eH_
    first | refine sigN [some (.ref p), some (.ref o), some (.ref pa1), some (.ref pa2), some (.ref pa3), some (.ref pa4), some (.ref pa6), none, some (.ref pu), some (.ref pr), some (.ref ps), some (.ref pt), some (.ref minus), some (.ref two), some (.ref three), some (.ref first), none, none, none, none, none, none] (by rfl) ?_ | refine sig [some (.ref p), some (.ref o), some (.ref pa1), some (.ref pa2), some (.ref pa3), some (.ref pa4), some (.ref pa6), none, some (.ref pu), some (.ref pr), some (.ref ps), some (.ref pt), some (.ref minus), some (.ref two), some (.ref three), some (.ref first), none, none, none, none, none, none] (by rfl) ?_
    have sB := sA.trans (s6.trans s7)
    clear s6 s7 sA E4 E5
    refine ⟨.ref pa2, rfl, .ref minus, rfl, .ref ps, rfl, .ref pa1, rfl, ?_⟩
    refine ⟨(by show 3 ≤ sizeLine; decide), fun la nla => ?_⟩
    have E6_l := E6.same (Same.new (o := .lst [.ref minus, .ref ps, .ref pa1]) nla)
    refine ⟨la, _, 97, rfl, lst_of upd_same, (FrL.cons E6_l (p := minus) (by walk_at "mm") (by decide) (FrL.cons E6_l (p := ps) (by walk_at "mm") (by decide) (FrL.cons E6_l (p := pa1) (by walk_at "mm") (by decide) FrL.nil))), (by show 3 * (97 + 1) ≤ 3900; decide), fun H8 x2 s8_0 nx2 hx2 bx2 => ?_⟩
    have s8 := (Same.new (o := .lst [.ref minus, .ref ps, .ref pa1]) nla).trans s8_0
    have E7 := (E6_l.same s8_0).add (m := 295) (tup_of hx2) bx2
    refine ⟨.ref three, rfl, .ref pr, rfl, ?_⟩
    refine ⟨three, pr, _, _, rfl, E7.get (by walk_at "mm"), E7.get (by walk_at "mm"), (E7.rb (p := three) (by walk_at "mm")).up (by decide), (E7.rb (p := pr) (by walk_at "mm")).up (by decide), trivial, fun x3 nx3 => ?_⟩
    obtain ⟨H9, eH_, s9, E8⟩ := stepE E7 nx3 (RB.mul (E7.rb (p := three) (by walk_at "mm")) (E7.rb (p := pr) (by walk_at "mm")))
    rw [eH_]
    clear eH_
    refine ⟨.ref minus, rfl, .ref ps, rfl, .ref ps, rfl, ?_⟩
    refine ⟨(by show 3 ≤ sizeLine; decide), fun lb nlb => ?_⟩
    have E8_l := E8.same (Same.new (o := .lst [.ref minus, .ref ps, .ref ps]) nlb)
    refine ⟨lb, _, 29, rfl, lst_of upd_same, (FrL.cons E8_l (p := minus) (by walk_at "mm") (by decide) (FrL.cons E8_l (p := ps) (by walk_at "mm") (by decide) (FrL.cons E8_l (p := ps) (by walk_at "mm") (by decide) FrL.nil))), (by show 3 * (29 + 1) ≤ 3900; decide), fun Ha x4 sa_0 nx4 hx4 bx4 => ?_⟩
    have sa := (Same.new (o := .lst [.ref minus, .ref ps, .ref ps]) nlb).trans sa_0
    have E9 := (E8_l.same sa_0).add (m := 91) (tup_of hx4) bx4
    refine ⟨(by show 4 ≤ sizeLine; decide), fun lc nlc => ?_⟩
    have E9_l := E9.same (Same.new (o := .lst [.ref pa2, .ref x2, .ref x3, .ref x4]) nlc)
    refine ⟨lc, _, 400, rfl, lst_of upd_same, (FrL.cons E9_l (p := pa2) (by walk_at "mm") (by decide) (FrL.cons E9_l (p := x2) (by walk_at "mm") (by decide) (FrL.cons E9_l (p := x3) (by walk_at "mm") (by decide) (FrL.cons E9_l (p := x4) (by walk_at "mm") (by decide) FrL.nil)))), (by show 4 * (400 + 1) ≤ 3900; decide), fun Hb second sb_0 nsecond hsecond bsecond => ?_⟩
    have sb := (Same.new (o := .lst [.ref pa2, .ref x2, .ref x3, .ref x4]) nlc).trans sb_0
    have E10 := (E9_l.same sb_0).add (m := 1605) (tup_of hsecond) bsecond
    first | refine sigN [some (.ref p), some (.ref o), some (.ref pa1), some (.ref pa2), some (.ref pa3), some (.ref pa4), some (.ref pa6), none, some (.ref pu), some (.ref pr), some (.ref ps), some (.ref pt), some (.ref minus), some (.ref two), some (.ref three), some (.ref first), some (.ref second), none, none, none, none, none] (by rfl) ?_ | refine sig [some (.ref p), some (.ref o), some (.ref pa1), some (.ref pa2), some (.ref pa3), some (.ref pa4), some (.ref pa6), none, some (.ref pu), some (.ref pr), some (.ref ps), some (.ref pt), some (.ref minus), some (.ref two), some (.ref three), some (.ref first), some (.ref second), none, none, none, none, none] (by rfl) ?_
    have sC := sB.trans (s8.trans (s9.trans (sa.trans sb)))
    clear s8 s9 sa sb sB E6 E7 E8 E9 E6_l E8_l E9_l s8_0 sa_0 sb_0 hx2 bx2 hx4 bx4 hsecond bsecond
    refine ⟨.ref pa3, rfl, .ref pr, rfl, .ref pa1, rfl, ?_⟩
    refine ⟨pr, pa1, _, _, rfl, E10.get (by walk_at "mm"), E10.get (by walk_at "mm"), (E10.rb (p := pr) (by walk_at "mm")).up (by decide), (E10.rb (p := pa1) (by walk_at "mm")).up (by decide), trivial, fun x5 nx5 => ?_⟩
    obtain ⟨Hc, eH_, sc, E11⟩ := stepE E10 nx5 (RB.mul (E10.rb (p := pr) (by walk_at "mm")) (E10.rb (p := pa1) (by walk_at "mm")))
    rw [eH_]
    clear eH_
    refine ⟨.ref two, rfl, .ref pt, rfl, ?_⟩
    refine ⟨two, pt, _, _, rfl, E11.get (by walk_at "mm"), E11.get (by walk_at "mm"), (E11.rb (p := two) (by walk_at "mm")).up (by decide), (E11.rb (p := pt) (by walk_at "mm")).up (by decide), trivial, fun x6 nx6 => ?_⟩
    obtain ⟨Hd, eH_, sd, E12⟩ := stepE E11 nx6 (RB.mul (E11.rb (p := two) (by walk_at "mm")) (E11.rb (p := pt) (by walk_at "mm")))
    rw [eH_]
    clear eH_
    refine ⟨(by show 3 ≤ sizeLine; decide), fun ld nld => ?_⟩
    have E12_l := E12.same (Same.new (o := .lst [.ref pa3, .ref x5, .ref x6]) nld)
    refine ⟨ld, _, 130, rfl, lst_of upd_same, (FrL.cons E12_l (p := pa3) (by walk_at "mm") (by decide) (FrL.cons E12_l (p := x5) (by walk_at "mm") (by decide) (FrL.cons E12_l (p := x6) (by walk_at "mm") (by decide) FrL.nil))), (by show 3 * (130 + 1) ≤ 3900; decide), fun He third se_0 nthird hthird bthird => ?_⟩
    have se := (Same.new (o := .lst [.ref pa3, .ref x5, .ref x6]) nld).trans se_0
    have E13 := (E12_l.same se_0).add (m := 394) (tup_of hthird) bthird
    first | refine sigN [some (.ref p), some (.ref o), some (.ref pa1), some (.ref pa2), some (.ref pa3), some (.ref pa4), some (.ref pa6), none, some (.ref pu), some (.ref pr), some (.ref ps), some (.ref pt), some (.ref minus), some (.ref two), some (.ref three), some (.ref first), some (.ref second), some (.ref third), none, none, none, none] (by rfl) ?_ | refine sig [some (.ref p), some (.ref o), some (.ref pa1), some (.ref pa2), some (.ref pa3), some (.ref pa4), some (.ref pa6), none, some (.ref pu), some (.ref pr), some (.ref ps), some (.ref pt), some (.ref minus), some (.ref two), some (.ref three), some (.ref first), some (.ref second), some (.ref third), none, none, none, none] (by rfl) ?_
    have sD := sC.trans (sc.trans (sd.trans se))
    clear sc sd se sC E10 E11 E12 E12_l se_0 hthird bthird
    refine ⟨.ref pa4, rfl, .ref minus, rfl, .ref ps, rfl, .ref pa3, rfl, ?_⟩
    refine ⟨(by show 3 ≤ sizeLine; decide), fun le nle => ?_⟩
    have E13_l := E13.same (Same.new (o := .lst [.ref minus, .ref ps, .ref pa3]) nle)
    refine ⟨le, _, 97, rfl, lst_of upd_same, (FrL.cons E13_l (p := minus) (by walk_at "mm") (by decide) (FrL.cons E13_l (p := ps) (by walk_at "mm") (by decide) (FrL.cons E13_l (p := pa3) (by walk_at "mm") (by decide) FrL.nil))), (by show 3 * (97 + 1) ≤ 3900; decide), fun Hf y1 sf_0 ny1 hy1 by1 => ?_⟩
    have sf := (Same.new (o := .lst [.ref minus, .ref ps, .ref pa3]) nle).trans sf_0
    have E14 := (E13_l.same sf_0).add (m := 295) (tup_of hy1) by1
    refine ⟨.ref two, rfl, .ref pr, rfl, .ref pa2, rfl, ?_⟩
    refine ⟨(by show 3 ≤ sizeLine; decide), fun lf nlf => ?_⟩
    have E14_l := E14.same (Same.new (o := .lst [.ref two, .ref pr, .ref pa2]) nlf)
    refine ⟨lf, _, 97, rfl, lst_of upd_same, (FrL.cons E14_l (p := two) (by walk_at "mm") (by decide) (FrL.cons E14_l (p := pr) (by walk_at "mm") (by decide) (FrL.cons E14_l (p := pa2) (by walk_at "mm") (by decide) FrL.nil))), (by show 3 * (97 + 1) ≤ 3900; decide), fun Hg y2 sg_0 ny2 hy2 by2 => ?_⟩
    have sg := (Same.new (o := .lst [.ref two, .ref pr, .ref pa2]) nlf).trans sg_0
    have E15 := (E14_l.same sg_0).add (m := 295) (tup_of hy2) by2
    refine ⟨.ref minus, rfl, .ref pt, rfl, .ref pr, rfl, .ref ps, rfl, ?_⟩
    refine ⟨pr, ps, _, _, rfl, E15.get (by walk_at "mm"), E15.get (by walk_at "mm"), (E15.rb (p := pr) (by walk_at "mm")).up (by decide), (E15.rb (p := ps) (by walk_at "mm")).up (by decide), trivial, fun y3 ny3 => ?_⟩
    obtain ⟨Hh, eH_, sh, E16⟩ := stepE E15 ny3 (RB.mul (E15.rb (p := pr) (by walk_at "mm")) (E15.rb (p := ps) (by walk_at "mm")))
    rw [eH_]
    clear eH_
    refine ⟨pt, y3, _, _, rfl, E16.get (by walk_at "mm"), E16.get (by walk_at "mm"), (E16.rb (p := pt) (by walk_at "mm")).up (by decide), (E16.rb (p := y3) (by walk_at "mm")).up (by decide), trivial, fun y4 ny4 => ?_⟩
    obtain ⟨Hi, eH_, si, E17⟩ := stepE E16 ny4 (RB.add (E16.rb (p := pt) (by walk_at "mm")) (E16.rb (p := y3) (by walk_at "mm")))
    rw [eH_]
    clear eH_
    refine ⟨.ref pa1, rfl, ?_⟩
    refine ⟨(by show 3 ≤ sizeLine; decide), fun lg nlg => ?_⟩
    have E17_l := E17.same (Same.new (o := .lst [.ref minus, .ref y4, .ref pa1]) nlg)
    refine ⟨lg, _, 97, rfl, lst_of upd_same, (FrL.cons E17_l (p := minus) (by walk_at "mm") (by decide) (FrL.cons E17_l (p := y4) (by walk_at "mm") (by decide) (FrL.cons E17_l (p := pa1) (by walk_at "mm") (by decide) FrL.nil))), (by show 3 * (97 + 1) ≤ 3900; decide), fun Hj y5 sj_0 ny5 hy5 by5 => ?_⟩
    have sj := (Same.new (o := .lst [.ref minus, .ref y4, .ref pa1]) nlg).trans sj_0
    have E18 := (E17_l.same sj_0).add (m := 295) (tup_of hy5) by5
    refine ⟨.ref three, rfl, .ref pr, rfl, .ref pr, rfl, ?_⟩
    refine ⟨(by show 3 ≤ sizeLine; decide), fun lh nlh => ?_⟩
    have E18_l := E18.same (Same.new (o := .lst [.ref three, .ref pr, .ref pr]) nlh)
    refine ⟨lh, _, 29, rfl, lst_of upd_same, (FrL.cons E18_l (p := three) (by walk_at "mm") (by decide) (FrL.cons E18_l (p := pr) (by walk_at "mm") (by decide) (FrL.cons E18_l (p := pr) (by walk_at "mm") (by decide) FrL.nil))), (by show 3 * (29 + 1) ≤ 3900; decide), fun Hk y6 sk_0 ny6 hy6 by6 => ?_⟩
    have sk := (Same.new (o := .lst [.ref three, .ref pr, .ref pr]) nlh).trans sk_0
    have E19 := (E18_l.same sk_0).add (m := 91) (tup_of hy6) by6
    refine ⟨_, rfl, ?_⟩
    refine ⟨(by show 2 ≤ sizeLine; decide), fun m2 nm2 => ?_⟩
    obtain ⟨Hl, eH_, sl, E20⟩ := litE E19 nm2 fq_m2 rb_m2
    rw [eH_]
    clear eH_
    refine ⟨.ref ps, rfl, .ref pt, rfl, ?_⟩
    refine ⟨(by show 3 ≤ sizeLine; decide), fun li nli => ?_⟩
    have E20_l := E20.same (Same.new (o := .lst [.ref m2, .ref ps, .ref pt]) nli)
    refine ⟨li, _, 29, rfl, lst_of upd_same, (FrL.cons E20_l (p := m2) (by walk_at "mm") (by decide) (FrL.cons E20_l (p := ps) (by walk_at "mm") (by decide) (FrL.cons E20_l (p := pt) (by walk_at "mm") (by decide) FrL.nil))), (by show 3 * (29 + 1) ≤ 3900; decide), fun Hm y7 sm_0 ny7 hy7 by7 => ?_⟩
    have sm := (Same.new (o := .lst [.ref m2, .ref ps, .ref pt]) nli).trans sm_0
    have E21 := (E20_l.same sm_0).add (m := 91) (tup_of hy7) by7
    refine ⟨(by show 6 ≤ sizeLine; decide), fun lj nlj => ?_⟩
    have E21_l := E21.same (Same.new (o := .lst [.ref pa4, .ref y1, .ref y2, .ref y5, .ref y6, .ref y7]) nlj)
    refine ⟨lj, _, 300, rfl, lst_of upd_same, (FrL.cons E21_l (p := pa4) (by walk_at "mm") (by decide) (FrL.cons E21_l (p := y1) (by walk_at "mm") (by decide) (FrL.cons E21_l (p := y2) (by walk_at "mm") (by decide) (FrL.cons E21_l (p := y5) (by walk_at "mm") (by decide) (FrL.cons E21_l (p := y6) (by walk_at "mm") (by decide) (FrL.cons E21_l (p := y7) (by walk_at "mm") (by decide) FrL.nil)))))), (by show 6 * (300 + 1) ≤ 3900; decide), fun Hn fourth sn_0 nfourth hfourth bfourth => ?_⟩
    have sn := (Same.new (o := .lst [.ref pa4, .ref y1, .ref y2, .ref y5, .ref y6, .ref y7]) nlj).trans sn_0
    have E22 := (E21_l.same sn_0).add (m := 1807) (tup_of hfourth) bfourth
    first | refine sigN [some (.ref p), some (.ref o), some (.ref pa1), some (.ref pa2), some (.ref pa3), some (.ref pa4), some (.ref pa6), none, some (.ref pu), some (.ref pr), some (.ref ps), some (.ref pt), some (.ref minus), some (.ref two), some (.ref three), some (.ref first), some (.ref second), some (.ref third), some (.ref fourth), none, none, none] (by rfl) ?_ | refine sig [some (.ref p), some (.ref o), some (.ref pa1), some (.ref pa2), some (.ref pa3), some (.ref pa4), some (.ref pa6), none, some (.ref pu), some (.ref pr), some (.ref ps), some (.ref pt), some (.ref minus), some (.ref two), some (.ref three), some (.ref first), some (.ref second), some (.ref third), some (.ref fourth), none, none, none] (by rfl) ?_
    have sE := sD.trans (sf.trans (sg.trans (sh.trans (si.trans (sj.trans (sk.trans (sl.trans (sm.trans sn))))))))
    clear sf sg sh si sj sk sl sm sn sD E13 E14 E15 E16 E17 E18 E19 E20 E21 E13_l E14_l E17_l E18_l E20_l E21_l sf_0 sg_0 sj_0 sk_0 sm_0 sn_0 hy1 by1 hy2 by2 hy5 by5 hy6 by6 hy7 by7 hfourth bfourth
    refine ⟨.ref pa6, rfl, .ref pr, rfl, .ref pa4, rfl, ?_⟩
    refine ⟨pr, pa4, _, _, rfl, E22.get (by walk_at "mm"), E22.get (by walk_at "mm"), (E22.rb (p := pr) (by walk_at "mm")).up (by decide), (E22.rb (p := pa4) (by walk_at "mm")).up (by decide), trivial, fun z1 nz1 => ?_⟩
    obtain ⟨Ho, eH_, so, E23⟩ := stepE E22 nz1 (RB.mul (E22.rb (p := pr) (by walk_at "mm")) (E22.rb (p := pa4) (by walk_at "mm")))
    rw [eH_]
    clear eH_
    refine ⟨.ref pr, rfl, .ref pr, rfl, .ref pa2, rfl, ?_⟩
    refine ⟨(by show 3 ≤ sizeLine; decide), fun lk nlk => ?_⟩
    have E23_l := E23.same (Same.new (o := .lst [.ref pr, .ref pr, .ref pa2]) nlk)
    refine ⟨lk, _, 97, rfl, lst_of upd_same, (FrL.cons E23_l (p := pr) (by walk_at "mm") (by decide) (FrL.cons E23_l (p := pr) (by walk_at "mm") (by decide) (FrL.cons E23_l (p := pa2) (by walk_at "mm") (by decide) FrL.nil))), (by show 3 * (97 + 1) ≤ 3900; decide), fun Hp2 z2 sp2_0 nz2 hz2 bz2 => ?_⟩
    have sp2 := (Same.new (o := .lst [.ref pr, .ref pr, .ref pa2]) nlk).trans sp2_0
    have E24 := (E23_l.same sp2_0).add (m := 295) (tup_of hz2) bz2
    refine ⟨.ref pr, rfl, .ref pr, rfl, .ref pr, rfl, ?_⟩
    refine ⟨(by show 3 ≤ sizeLine; decide), fun ll nll => ?_⟩
    have E24_l := E24.same (Same.new (o := .lst [.ref pr, .ref pr, .ref pr]) nll)
    refine ⟨ll, _, 29, rfl, lst_of upd_same, (FrL.cons E24_l (p := pr) (by walk_at "mm") (by decide) (FrL.cons E24_l (p := pr) (by walk_at "mm") (by decide) (FrL.cons E24_l (p := pr) (by walk_at "mm") (by decide) FrL.nil))), (by show 3 * (29 + 1) ≤ 3900; decide), fun Hq z3 sq_0 nz3 hz3 bz3 => ?_⟩
    have sq := (Same.new (o := .lst [.ref pr, .ref pr, .ref pr]) nll).trans sq_0
    have E25 := (E24_l.same sq_0).add (m := 91) (tup_of hz3) bz3
    refine ⟨.ref minus, rfl, .ref pt, rfl, .ref pa3, rfl, ?_⟩
    refine ⟨(by show 3 ≤ sizeLine; decide), fun lm nlm => ?_⟩
    have E25_l := E25.same (Same.new (o := .lst [.ref minus, .ref pt, .ref pa3]) nlm)
    refine ⟨lm, _, 97, rfl, lst_of upd_same, (FrL.cons E25_l (p := minus) (by walk_at "mm") (by decide) (FrL.cons E25_l (p := pt) (by walk_at "mm") (by decide) (FrL.cons E25_l (p := pa3) (by walk_at "mm") (by decide) FrL.nil))), (by show 3 * (97 + 1) ≤ 3900; decide), fun Hr z4 sr_0 nz4 hz4 bz4 => ?_⟩
    have sr := (Same.new (o := .lst [.ref minus, .ref pt, .ref pa3]) nlm).trans sr_0
    have E26 := (E25_l.same sr_0).add (m := 295) (tup_of hz4) bz4
    refine ⟨.ref minus, rfl, .ref pt, rfl, .ref pt, rfl, ?_⟩
    refine ⟨(by show 3 ≤ sizeLine; decide), fun ln nln => ?_⟩
    have E26_l := E26.same (Same.new (o := .lst [.ref minus, .ref pt, .ref pt]) nln)
    refine ⟨ln, _, 29, rfl, lst_of upd_same, (FrL.cons E26_l (p := minus) (by walk_at "mm") (by decide) (FrL.cons E26_l (p := pt) (by walk_at "mm") (by decide) (FrL.cons E26_l (p := pt) (by walk_at "mm") (by decide) FrL.nil))), (by show 3 * (29 + 1) ≤ 3900; decide), fun Hs z5 ss_0 nz5 hz5 bz5 => ?_⟩
    have ss := (Same.new (o := .lst [.ref minus, .ref pt, .ref pt]) nln).trans ss_0
    have E27 := (E26_l.same ss_0).add (m := 91) (tup_of hz5) bz5
    refine ⟨.ref minus, rfl, .ref pr, rfl, .ref pt, rfl, .ref pa1, rfl, ?_⟩
    refine ⟨(by show 4 ≤ sizeLine; decide), fun lo nlo => ?_⟩
    have E27_l := E27.same (Same.new (o := .lst [.ref minus, .ref pr, .ref pt, .ref pa1]) nlo)
    refine ⟨lo, _, 97, rfl, lst_of upd_same, (FrL.cons E27_l (p := minus) (by walk_at "mm") (by decide) (FrL.cons E27_l (p := pr) (by walk_at "mm") (by decide) (FrL.cons E27_l (p := pt) (by walk_at "mm") (by decide) (FrL.cons E27_l (p := pa1) (by walk_at "mm") (by decide) FrL.nil)))), (by show 4 * (97 + 1) ≤ 3900; decide), fun Ht z6 st_0 nz6 hz6 bz6 => ?_⟩
    have st := (Same.new (o := .lst [.ref minus, .ref pr, .ref pt, .ref pa1]) nlo).trans st_0
    have E28 := (E27_l.same st_0).add (m := 393) (tup_of hz6) bz6
    refine ⟨(by show 7 ≤ sizeLine; decide), fun lp nlp => ?_⟩
    have E28_l := E28.same (Same.new (o := .lst [.ref pa6, .ref z1, .ref z2, .ref z3, .ref z4, .ref z5, .ref z6]) nlp)
    refine ⟨lp, _, 400, rfl, lst_of upd_same, (FrL.cons E28_l (p := pa6) (by walk_at "mm") (by decide) (FrL.cons E28_l (p := z1) (by walk_at "mm") (by decide) (FrL.cons E28_l (p := z2) (by walk_at "mm") (by decide) (FrL.cons E28_l (p := z3) (by walk_at "mm") (by decide) (FrL.cons E28_l (p := z4) (by walk_at "mm") (by decide) (FrL.cons E28_l (p := z5) (by walk_at "mm") (by decide) (FrL.cons E28_l (p := z6) (by walk_at "mm") (by decide) FrL.nil))))))), (by show 7 * (400 + 1) ≤ 3900; decide), fun Hu sixth su_0 nsixth hsixth bsixth => ?_⟩
    have su := (Same.new (o := .lst [.ref pa6, .ref z1, .ref z2, .ref z3, .ref z4, .ref z5, .ref z6]) nlp).trans su_0
    have E29 := (E28_l.same su_0).add (m := 2808) (tup_of hsixth) bsixth
    first | refine sigN [some (.ref p), some (.ref o), some (.ref pa1), some (.ref pa2), some (.ref pa3), some (.ref pa4), some (.ref pa6), none, some (.ref pu), some (.ref pr), some (.ref ps), some (.ref pt), some (.ref minus), some (.ref two), some (.ref three), some (.ref first), some (.ref second), some (.ref third), some (.ref fourth), some (.ref sixth), none, none] (by rfl) ?_ | refine sig [some (.ref p), some (.ref o), some (.ref pa1), some (.ref pa2), some (.ref pa3), some (.ref pa4), some (.ref pa6), none, some (.ref pu), some (.ref pr), some (.ref ps), some (.ref pt), some (.ref minus), some (.ref two), some (.ref three), some (.ref first), some (.ref second), some (.ref third), some (.ref fourth), some (.ref sixth), none, none] (by rfl) ?_
    have sF := sE.trans (so.trans (sp2.trans (sq.trans (sr.trans (ss.trans (st.trans su))))))
    clear so sp2 sq sr ss st su sE E22 E23 E24 E25 E26 E27 E28 E23_l E24_l E25_l E26_l E27_l E28_l sp2_0 sq_0 sr_0 ss_0 st_0 su_0 hz2 bz2 hz3 bz3 hz4 bz4 hz5 bz5 hz6 bz6 hsixth bsixth
    have n1 := hB.u0
    have n2 : d.u * d.u ≠ 0 := qmul_ne n1 n1
    have n3 : d.u * d.u * d.u ≠ 0 := qmul_ne n2 n1
    refine ⟨.ref pu, rfl, .ref pu, rfl, ?_⟩
    refine ⟨pu, pu, _, _, rfl, E29.get (by walk_at "mm"), E29.get (by walk_at "mm"), (E29.rb (p := pu) (by walk_at "mm")).up (by decide), (E29.rb (p := pu) (by walk_at "mm")).up (by decide), trivial, fun uu nuu => ?_⟩
    obtain ⟨Hv, eH_, sv, E30⟩ := stepE E29 nuu (RB.mul (E29.rb (p := pu) (by walk_at "mm")) (E29.rb (p := pu) (by walk_at "mm")))
    rw [eH_]
    clear eH_
    first | refine sigN [some (.ref p), some (.ref o), some (.ref pa1), some (.ref pa2), some (.ref pa3), some (.ref pa4), some (.ref pa6), none, some (.ref pu), some (.ref pr), some (.ref ps), some (.ref pt), some (.ref minus), some (.ref two), some (.ref three), some (.ref first), some (.ref second), some (.ref third), some (.ref fourth), some (.ref sixth), some (.ref uu), none] (by rfl) ?_ | refine sig [some (.ref p), some (.ref o), some (.ref pa1), some (.ref pa2), some (.ref pa3), some (.ref pa4), some (.ref pa6), none, some (.ref pu), some (.ref pr), some (.ref ps), some (.ref pt), some (.ref minus), some (.ref two), some (.ref three), some (.ref first), some (.ref second), some (.ref third), some (.ref fourth), some (.ref sixth), some (.ref uu), none] (by rfl) ?_
    refine ⟨.ref uu, rfl, .ref pu, rfl, ?_⟩
    refine ⟨uu, pu, _, _, rfl, E30.get (by walk_at "mm"), E30.get (by walk_at "mm"), (E30.rb (p := uu) (by walk_at "mm")).up (by decide), (E30.rb (p := pu) (by walk_at "mm")).up (by decide), trivial, fun uuu nuuu => ?_⟩
    obtain ⟨Hw, eH_, sw, E31⟩ := stepE E30 nuuu (RB.mul (E30.rb (p := uu) (by walk_at "mm")) (E30.rb (p := pu) (by walk_at "mm")))
    rw [eH_]
    clear eH_
    first | refine sigN [some (.ref p), some (.ref o), some (.ref pa1), some (.ref pa2), some (.ref pa3), some (.ref pa4), some (.ref pa6), none, some (.ref pu), some (.ref pr), some (.ref ps), some (.ref pt), some (.ref minus), some (.ref two), some (.ref three), some (.ref first), some (.ref second), some (.ref third), some (.ref fourth), some (.ref sixth), some (.ref uu), some (.ref uuu)] (by rfl) ?_ | refine sig [some (.ref p), some (.ref o), some (.ref pa1), some (.ref pa2), some (.ref pa3), some (.ref pa4), some (.ref pa6), none, some (.ref pu), some (.ref pr), some (.ref ps), some (.ref pt), some (.ref minus), some (.ref two), some (.ref three), some (.ref first), some (.ref second), some (.ref third), some (.ref fourth), some (.ref sixth), some (.ref uu), some (.ref uuu)] (by rfl) ?_
    refine ⟨.ref first, rfl, .ref pu, rfl, ?_⟩
    refine ⟨first, pu, _, _, rfl, E31.get (by walk_at "mm"), E31.get (by walk_at "mm"), (E31.rb (p := first) (by walk_at "mm")).up (by decide), (E31.rb (p := pu) (by walk_at "mm")).up (by decide), n1, fun r1 nr1 => ?_⟩
    obtain ⟨Hx, eH_, sx, E32⟩ := stepE E31 nr1 (RB.div n1 (E31.rb (p := first) (by walk_at "mm")) (E31.rb (p := pu) (by walk_at "mm")))
    rw [eH_]
    clear eH_
    refine ⟨.ref second, rfl, .ref uu, rfl, ?_⟩
    refine ⟨second, uu, _, _, rfl, E32.get (by walk_at "mm"), E32.get (by walk_at "mm"), (E32.rb (p := second) (by walk_at "mm")).up (by decide), (E32.rb (p := uu) (by walk_at "mm")).up (by decide), n2, fun r2 nr2 => ?_⟩
    obtain ⟨Hy, eH_, sy, E33⟩ := stepE E32 nr2 (RB.div n2 (E32.rb (p := second) (by walk_at "mm")) (E32.rb (p := uu) (by walk_at "mm")))
    rw [eH_]
    clear eH_
    refine ⟨.ref third, rfl, .ref uuu, rfl, ?_⟩
    refine ⟨third, uuu, _, _, rfl, E33.get (by walk_at "mm"), E33.get (by walk_at "mm"), (E33.rb (p := third) (by walk_at "mm")).up (by decide), (E33.rb (p := uuu) (by walk_at "mm")).up (by decide), n3, fun r3 nr3 => ?_⟩
    obtain ⟨Hz, eH_, sz, E34⟩ := stepE E33 nr3 (RB.div n3 (E33.rb (p := third) (by walk_at "mm")) (E33.rb (p := uuu) (by walk_at "mm")))
    rw [eH_]
    clear eH_
    refine ⟨.ref fourth, rfl, .ref uu, rfl, .ref uu, rfl, ?_⟩
    refine ⟨uu, uu, _, _, rfl, E34.get (by walk_at "mm"), E34.get (by walk_at "mm"), (E34.rb (p := uu) (by walk_at "mm")).up (by decide), (E34.rb (p := uu) (by walk_at "mm")).up (by decide), trivial, fun u4 nu4 => ?_⟩
    obtain ⟨I1, eH_, si1, E35⟩ := stepE E34 nu4 (RB.mul (E34.rb (p := uu) (by walk_at "mm")) (E34.rb (p := uu) (by walk_at "mm")))
    rw [eH_]
    clear eH_
    refine ⟨fourth, u4, _, _, rfl, E35.get (by walk_at "mm"), E35.get (by walk_at "mm"), (E35.rb (p := fourth) (by walk_at "mm")).up (by decide), (E35.rb (p := u4) (by walk_at "mm")).up (by decide), (qmul_ne n2 n2), fun r4 nr4 => ?_⟩
    obtain ⟨I2, eH_, si2, E36⟩ := stepE E35 nr4 (RB.div (qmul_ne n2 n2) (E35.rb (p := fourth) (by walk_at "mm")) (E35.rb (p := u4) (by walk_at "mm")))
    rw [eH_]
    clear eH_
    refine ⟨.ref sixth, rfl, .ref uuu, rfl, .ref uuu, rfl, ?_⟩
    refine ⟨uuu, uuu, _, _, rfl, E36.get (by walk_at "mm"), E36.get (by walk_at "mm"), (E36.rb (p := uuu) (by walk_at "mm")).up (by decide), (E36.rb (p := uuu) (by walk_at "mm")).up (by decide), trivial, fun u6 nu6 => ?_⟩
    obtain ⟨I3, eH_, si3, E37⟩ := stepE E36 nu6 (RB.mul (E36.rb (p := uuu) (by walk_at "mm")) (E36.rb (p := uuu) (by walk_at "mm")))
    rw [eH_]
    clear eH_
    refine ⟨sixth, u6, _, _, rfl, E37.get (by walk_at "mm"), E37.get (by walk_at "mm"), (E37.rb (p := sixth) (by walk_at "mm")).up (by decide), (E37.rb (p := u6) (by walk_at "mm")).up (by decide), (qmul_ne n3 n3), fun r6 nr6 => ?_⟩
    obtain ⟨I4, eH_, si4, E38⟩ := stepE E37 nr6 (RB.div (qmul_ne n3 n3) (E37.rb (p := sixth) (by walk_at "mm")) (E37.rb (p := u6) (by walk_at "mm")))
    rw [eH_]
    clear eH_
    refine ⟨(by show 5 ≤ sizeLine; decide), fun z nz => ?_⟩
    have sZ := Same.new (H := I4) (p := z) (o := .tup [.ref r1, .ref r2, .ref r3, .ref r4, .ref r6]) nz
    have E39 := E38.same sZ
    have g1 := E39.get (p := r1) (by walk_at "mm")
    have g2 := E39.get (p := r2) (by walk_at "mm")
    have g3 := E39.get (p := r3) (by walk_at "mm")
    have g4 := E39.get (p := r4) (by walk_at "mm")
    have g6 := E39.get (p := r6) (by walk_at "mm")
    simp only [List.foldl_cons, List.foldl_nil] at g1 g2 g3 g4 g6
    refine q _ z (sF.trans (sv.trans (sw.trans (sx.trans (sy.trans (sz.trans (si1.trans (si2.trans (si3.trans (si4.trans sZ)))))))))) ⟨r1, r2, r3, r4, r6, upd_same, ?_, ?_, ?_, ?_, ?_⟩
    · exact g1
    · exact sq_eq g2 (by unfold l2; grind)
    · exact sq_eq g3 (by unfold l3; grind)
    · exact sq_eq g4 (by unfold l4; grind)
    · exact sq_eq g6 (by unfold l6; grind)
end
end K06
set_option Elab.async false
set_option linter.all false
set_option maxRecDepth 100000
set_option maxHeartbeats 400000
namespace K06
open PySem PySem.Spec PyProof.Rows L2 Gd QM
section
variable {P : Program} {w : World} {K : PySem.W.Frag} {mg : Str → Option Value} {base : Heap}
local macro_rules | `(tactic| walk_at "mm") => `(tactic| (repeat (first | exact List.mem_cons_self | apply List.mem_cons_of_mem)))
/-! ### one change behind another, and back -/
def thenAt (K : PySem.W.Frag) (H : Hp) (t : Addr) (c : Ch) : Prop := ChAt K H t c
def sp_then (K : PySem.W.Frag) : Sp := fun vs H Q _ => ∃ (p o : Addr) (c d : Ch), vs = [.ref p, .ref o] ∧ ChAt K H p c ∧ ChAt K H o d ∧ ChB 29 c ∧ ChB 29 d ∧ ∀ H' t, Same H H' → ChAt K H' t (thenC c d) → Q (.ref t) H'
abbrev s_then : Stmt := topS 16
theorem sc_then : FnScope ["change", "other", "u", "r", "s", "t", "v", "q", "w", "z", "uu", "last"] ["change", "other"] (defScope s_then) := ⟨rfl, rfl, rfl, by decide +kernel, rfl, by decide +kernel, by decide +kernel⟩
theorem k_then (T : Tx K mg) (D : Df K mg "then" s_then ["change", "other"]) (c_times : Kl P w K mg base 2 "times" (sp_times K)) (c_total : Kl P w K mg base 3 "total" (sp_total K)) (c_plus : Kl P w K mg base 2 "plus" (sp_plus K)) (c_product : Kl P w K mg base 3 "product" (sp_product K)) : Kl P w K mg base 4 "then" (sp_then K) := by
  have nd := sc_then.nd
  refine Kl.by_body D sc_then (fun vs H Q E h => ?_) (fun f cdv A outer s H vs Q E hr h => ?_)
  · obtain ⟨_, _, _, _, rfl, _⟩ := h
    rfl
  · obtain ⟨p, o, c, d, rfl, ⟨pu, pr, ps, pt, hp, hu, hr', hs, ht⟩, ⟨pvv, pq, pw, pz, ho, hv, hq, hw, hz⟩, hB, hD, q⟩ := h
    have hu1 := hu_of hr
    refine ⟨_, (pss_cons (ps_asg (pv 0) (pg_tup rfl (pgs_cons (pg_name (i := 2) nd rfl (by first | exact Or.inl rfl | exact Or.inr rfl)) (pgs_cons (pg_name (i := 3) nd rfl (by first | exact Or.inl rfl | exact Or.inr rfl)) (pgs_cons (pg_name (i := 4) nd rfl (by first | exact Or.inl rfl | exact Or.inr rfl)) (pgs_cons (pg_name (i := 5) nd rfl (by first | exact Or.inl rfl | exact Or.inr rfl)) pgs_nil))))))
      (pss_cons (ps_asg (pv 1) (pg_tup rfl (pgs_cons (pg_name (i := 6) nd rfl (by first | exact Or.inl rfl | exact Or.inr rfl)) (pgs_cons (pg_name (i := 7) nd rfl (by first | exact Or.inl rfl | exact Or.inr rfl)) (pgs_cons (pg_name (i := 8) nd rfl (by first | exact Or.inl rfl | exact Or.inr rfl)) (pgs_cons (pg_name (i := 9) nd rfl (by first | exact Or.inl rfl | exact Or.inr rfl)) pgs_nil))))))
      (pss_cons (ps_set (i := 10) nd rfl (by first | exact Or.inl rfl | exact Or.inr rfl) (pe_k c_times  hr (by decide) (by rfl) (pa_cons (pv 2) (pa_cons (pv 2) pa_nil))))
      (pss_cons (ps_set (i := 11) nd rfl (by first | exact Or.inl rfl | exact Or.inr rfl) (pe_k c_total  hr (by decide) (by rfl) (pa_cons (pe_lst (pa_cons (pe_k c_product  hr (by decide) (by rfl) (pa_cons (pe_lst (pa_cons (pv 10) (pa_cons (pv 2) (pa_cons (pv 9) pa_nil)))) pa_nil)) (pa_cons (pe_k c_product  hr (by decide) (by rfl) (pa_cons (pe_lst (pa_cons (pv 10) (pa_cons (pv 4) (pa_cons (pv 7) pa_nil)))) pa_nil)) (pa_cons (pv 5) pa_nil)))) pa_nil)))
      (pss_one (ps_ret (pe_tup (pa_cons (pe_k c_times  hr (by decide) (by rfl) (pa_cons (pv 2) (pa_cons (pv 6) pa_nil))) (pa_cons (pe_k c_plus  hr (by decide) (by rfl) (pa_cons (pe_k c_times  hr (by decide) (by rfl) (pa_cons (pv 10) (pa_cons (pv 7) pa_nil))) (pa_cons (pv 3) pa_nil))) (pa_cons (pe_k c_plus  hr (by decide) (by rfl) (pa_cons (pe_k c_times  hr (by decide) (by rfl) (pa_cons (pv 2) (pa_cons (pv 8) pa_nil))) (pa_cons (pv 4) pa_nil))) (pa_cons (pv 11) pa_nil))))))))))), ?_⟩
    refine ⟨.ref p, rfl, p, _, rfl, hp, rfl, _, _, rfl, _, _, rfl, _, _, rfl, _, _, rfl, rfl, ?_⟩
    first | refine sigN [some (.ref p), some (.ref o), some (.ref pu), some (.ref pr), some (.ref ps), some (.ref pt), none, none, none, none, none, none] (by rfl) ?_ | refine sig [some (.ref p), some (.ref o), some (.ref pu), some (.ref pr), some (.ref ps), some (.ref pt), none, none, none, none, none, none] (by rfl) ?_
    refine ⟨.ref o, rfl, o, _, rfl, ho, rfl, _, _, rfl, _, _, rfl, _, _, rfl, _, _, rfl, rfl, ?_⟩
    first | refine sigN [some (.ref p), some (.ref o), some (.ref pu), some (.ref pr), some (.ref ps), some (.ref pt), some (.ref pvv), some (.ref pq), some (.ref pw), some (.ref pz), none, none] (by rfl) ?_ | refine sig [some (.ref p), some (.ref o), some (.ref pu), some (.ref pr), some (.ref ps), some (.ref pt), some (.ref pvv), some (.ref pq), some (.ref pw), some (.ref pz), none, none] (by rfl) ?_
    have E0 : FrE K H [(pu, c.u, 29), (pr, c.r, 29), (ps, c.s, 29), (pt, c.t, 29), (pvv, d.u, 29), (pq, d.r, 29), (pw, d.s, 29), (pz, d.t, 29)] :=
      FrE.add (FrE.add (FrE.add (FrE.add (FrE.add (FrE.add (FrE.add (FrE.add FrE.nil hz hD.t) hw hD.s) hq hD.r) hv hD.u) ht hB.t) hs hB.s) hr' hB.r) hu hB.u
    refine ⟨.ref pu, rfl, .ref pu, rfl, ?_⟩
    refine ⟨pu, pu, _, _, rfl, E0.get (by walk_at "mm"), E0.get (by walk_at "mm"), (E0.rb (p := pu) (by walk_at "mm")).up (by decide), (E0.rb (p := pu) (by walk_at "mm")).up (by decide), trivial, fun uu nuu => ?_⟩
    obtain ⟨H1, eH_, s1, E1⟩ := stepE E0 nuu (RB.mul (E0.rb (p := pu) (by walk_at "mm")) (E0.rb (p := pu) (by walk_at "mm")))
    rw [eH_]
    clear eH_
    first | refine sigN [some (.ref p), some (.ref o), some (.ref pu), some (.ref pr), some (.ref ps), some (.ref pt), some (.ref pvv), some (.ref pq), some (.ref pw), some (.ref pz), some (.ref uu), none] (by rfl) ?_ | refine sig [some (.ref p), some (.ref o), some (.ref pu), some (.ref pr), some (.ref ps), some (.ref pt), some (.ref pvv), some (.ref pq), some (.ref pw), some (.ref pz), some (.ref uu), none] (by rfl) ?_
    refine ⟨.ref uu, rfl, .ref pu, rfl, .ref pz, rfl, ?_⟩
    refine ⟨(by show 3 ≤ sizeLine; decide), fun la nla => ?_⟩
    have E1_l := E1.same (Same.new (o := .lst [.ref uu, .ref pu, .ref pz]) nla)
    refine ⟨la, _, 58, rfl, lst_of upd_same, (FrL.cons E1_l (p := uu) (by walk_at "mm") (by decide) (FrL.cons E1_l (p := pu) (by walk_at "mm") (by decide) (FrL.cons E1_l (p := pz) (by walk_at "mm") (by decide) FrL.nil))), (by show 3 * (58 + 1) ≤ 3900; decide), fun H2 x1 s2_0 nx1 hx1 bx1 => ?_⟩
    have s2 := (Same.new (o := .lst [.ref uu, .ref pu, .ref pz]) nla).trans s2_0
    have E2 := (E1_l.same s2_0).add (m := 178) (tup_of hx1) bx1
    refine ⟨.ref uu, rfl, .ref ps, rfl, .ref pq, rfl, ?_⟩
    refine ⟨(by show 3 ≤ sizeLine; decide), fun lb nlb => ?_⟩
    have E2_l := E2.same (Same.new (o := .lst [.ref uu, .ref ps, .ref pq]) nlb)
    refine ⟨lb, _, 58, rfl, lst_of upd_same, (FrL.cons E2_l (p := uu) (by walk_at "mm") (by decide) (FrL.cons E2_l (p := ps) (by walk_at "mm") (by decide) (FrL.cons E2_l (p := pq) (by walk_at "mm") (by decide) FrL.nil))), (by show 3 * (58 + 1) ≤ 3900; decide), fun H3 x2 s3_0 nx2 hx2 bx2 => ?_⟩
    have s3 := (Same.new (o := .lst [.ref uu, .ref ps, .ref pq]) nlb).trans s3_0
    have E3 := (E2_l.same s3_0).add (m := 178) (tup_of hx2) bx2
    refine ⟨.ref pt, rfl, ?_⟩
    refine ⟨(by show 3 ≤ sizeLine; decide), fun lc nlc => ?_⟩
    have E3_l := E3.same (Same.new (o := .lst [.ref x1, .ref x2, .ref pt]) nlc)
    refine ⟨lc, _, 400, rfl, lst_of upd_same, (FrL.cons E3_l (p := x1) (by walk_at "mm") (by decide) (FrL.cons E3_l (p := x2) (by walk_at "mm") (by decide) (FrL.cons E3_l (p := pt) (by walk_at "mm") (by decide) FrL.nil))), (by show 3 * (400 + 1) ≤ 3900; decide), fun H4 last s4_0 nlast hlast blast => ?_⟩
    have s4 := (Same.new (o := .lst [.ref x1, .ref x2, .ref pt]) nlc).trans s4_0
    have E4 := (E3_l.same s4_0).add (m := 1204) (tup_of hlast) blast
    first | refine sigN [some (.ref p), some (.ref o), some (.ref pu), some (.ref pr), some (.ref ps), some (.ref pt), some (.ref pvv), some (.ref pq), some (.ref pw), some (.ref pz), some (.ref uu), some (.ref last)] (by rfl) ?_ | refine sig [some (.ref p), some (.ref o), some (.ref pu), some (.ref pr), some (.ref ps), some (.ref pt), some (.ref pvv), some (.ref pq), some (.ref pw), some (.ref pz), some (.ref uu), some (.ref last)] (by rfl) ?_
    refine ⟨.ref pu, rfl, .ref pvv, rfl, ?_⟩
    refine ⟨pu, pvv, _, _, rfl, E4.get (by walk_at "mm"), E4.get (by walk_at "mm"), (E4.rb (p := pu) (by walk_at "mm")).up (by decide), (E4.rb (p := pvv) (by walk_at "mm")).up (by decide), trivial, fun y1 ny1 => ?_⟩
    obtain ⟨H5, eH_, s5, E5⟩ := stepE E4 ny1 (RB.mul (E4.rb (p := pu) (by walk_at "mm")) (E4.rb (p := pvv) (by walk_at "mm")))
    rw [eH_]
    clear eH_
    refine ⟨.ref uu, rfl, .ref pq, rfl, ?_⟩
    refine ⟨uu, pq, _, _, rfl, E5.get (by walk_at "mm"), E5.get (by walk_at "mm"), (E5.rb (p := uu) (by walk_at "mm")).up (by decide), (E5.rb (p := pq) (by walk_at "mm")).up (by decide), trivial, fun y2 ny2 => ?_⟩
    obtain ⟨H6, eH_, s6, E6⟩ := stepE E5 ny2 (RB.mul (E5.rb (p := uu) (by walk_at "mm")) (E5.rb (p := pq) (by walk_at "mm")))
    rw [eH_]
    clear eH_
    refine ⟨.ref pr, rfl, ?_⟩
    refine ⟨y2, pr, _, _, rfl, E6.get (by walk_at "mm"), E6.get (by walk_at "mm"), (E6.rb (p := y2) (by walk_at "mm")).up (by decide), (E6.rb (p := pr) (by walk_at "mm")).up (by decide), trivial, fun y3 ny3 => ?_⟩
    obtain ⟨H7, eH_, s7, E7⟩ := stepE E6 ny3 (RB.add (E6.rb (p := y2) (by walk_at "mm")) (E6.rb (p := pr) (by walk_at "mm")))
    rw [eH_]
    clear eH_
    refine ⟨.ref pu, rfl, .ref pw, rfl, ?_⟩
    refine ⟨pu, pw, _, _, rfl, E7.get (by walk_at "mm"), E7.get (by walk_at "mm"), (E7.rb (p := pu) (by walk_at "mm")).up (by decide), (E7.rb (p := pw) (by walk_at "mm")).up (by decide), trivial, fun y4 ny4 => ?_⟩
    obtain ⟨H8, eH_, s8, E8⟩ := stepE E7 ny4 (RB.mul (E7.rb (p := pu) (by walk_at "mm")) (E7.rb (p := pw) (by walk_at "mm")))
    rw [eH_]
    clear eH_
    refine ⟨.ref ps, rfl, ?_⟩
    refine ⟨y4, ps, _, _, rfl, E8.get (by walk_at "mm"), E8.get (by walk_at "mm"), (E8.rb (p := y4) (by walk_at "mm")).up (by decide), (E8.rb (p := ps) (by walk_at "mm")).up (by decide), trivial, fun y5 ny5 => ?_⟩
    obtain ⟨H9, eH_, s9, E9⟩ := stepE E8 ny5 (RB.add (E8.rb (p := y4) (by walk_at "mm")) (E8.rb (p := ps) (by walk_at "mm")))
    rw [eH_]
    clear eH_
    refine ⟨.ref last, rfl, (by show 4 ≤ sizeLine; decide), fun z nz => ?_⟩
    have sZ := Same.new (H := H9) (p := z) (o := .tup [.ref y1, .ref y3, .ref y5, .ref last]) nz
    have E10 := E9.same sZ
    have g := E10.get (p := last) (by walk_at "mm")
    simp only [List.foldl_cons, List.foldl_nil] at g
    exact q _ z (s1.trans (s2.trans (s3.trans (s4.trans (s5.trans (s6.trans (s7.trans (s8.trans (s9.trans sZ))))))))) ⟨y1, y3, y5, last, tup_of upd_same, E10.get (p := y1) (by walk_at "mm"), E10.get (p := y3) (by walk_at "mm"), E10.get (p := y5) (by walk_at "mm"), sq_eq g (by unfold thenC; grind)⟩
theorem one_fq : [V.int 1, V.int 1] = fq 1 := rfl
def sp_back (K : PySem.W.Frag) : Sp := fun vs H Q _ => ∃ (p : Addr) (c : Ch), vs = [.ref p] ∧ ChAt K H p c ∧ ChB 3 c ∧ ∀ H' t, Same H H' → ChAt K H' t (backC c) → Q (.ref t) H'
abbrev s_back : Stmt := topS 17
theorem sc_back : FnScope ["change", "u", "r", "s", "t", "one", "minus", "uu", "last"] ["change"] (defScope s_back) := ⟨rfl, rfl, rfl, by decide +kernel, rfl, by decide +kernel, by decide +kernel⟩
theorem k_back (T : Tx K mg) (D : Df K mg "back" s_back ["change"]) (c_times : Kl P w K mg base 2 "times" (sp_times K)) (c_over : Kl P w K mg base 2 "over" (sp_over K)) (c_less : Kl P w K mg base 2 "less" (sp_less K)) : Kl P w K mg base 3 "back" (sp_back K) := by
  have nd := sc_back.nd
  refine Kl.by_body D sc_back (fun vs H Q E h => ?_) (fun f cdv A outer s H vs Q E hr h => ?_)
  · obtain ⟨_, _, rfl, _⟩ := h
    rfl
  · obtain ⟨p, c, rfl, ⟨pu, pr, ps, pt, hp, hu, hr', hs, ht⟩, hB, q⟩ := h
    have hu1 := hu_of hr
    refine ⟨_, (pss_cons (ps_asg (pv 0) (pg_tup rfl (pgs_cons (pg_name (i := 1) nd rfl (by first | exact Or.inl rfl | exact Or.inr rfl)) (pgs_cons (pg_name (i := 2) nd rfl (by first | exact Or.inl rfl | exact Or.inr rfl)) (pgs_cons (pg_name (i := 3) nd rfl (by first | exact Or.inl rfl | exact Or.inr rfl)) (pgs_cons (pg_name (i := 4) nd rfl (by first | exact Or.inl rfl | exact Or.inr rfl)) pgs_nil))))))
      (pss_cons (ps_asg (pe_tup (pa_cons (pe_tup (pa_cons pe_int (pa_cons pe_int pa_nil))) (pa_cons (pe_tup (pa_cons (pe_un un_neg pe_int) (pa_cons pe_int pa_nil))) pa_nil))) (pg_tup rfl (pgs_cons (pg_name (i := 5) nd rfl (by first | exact Or.inl rfl | exact Or.inr rfl)) (pgs_cons (pg_name (i := 6) nd rfl (by first | exact Or.inl rfl | exact Or.inr rfl)) pgs_nil))))
      (pss_cons (ps_set (i := 7) nd rfl (by first | exact Or.inl rfl | exact Or.inr rfl) (pe_k c_times  hr (by decide) (by rfl) (pa_cons (pv 1) (pa_cons (pv 1) pa_nil))))
      (pss_cons (ps_set (i := 8) nd rfl (by first | exact Or.inl rfl | exact Or.inr rfl) (pe_k c_over  hr (by decide) (by rfl) (pa_cons (pe_k c_less  hr (by decide) (by rfl) (pa_cons (pe_k c_times  hr (by decide) (by rfl) (pa_cons (pv 2) (pa_cons (pv 3) pa_nil))) (pa_cons (pv 4) pa_nil))) (pa_cons (pe_k c_times  hr (by decide) (by rfl) (pa_cons (pv 7) (pa_cons (pv 1) pa_nil))) pa_nil))))
      (pss_one (ps_ret (pe_tup (pa_cons (pe_k c_over  hr (by decide) (by rfl) (pa_cons (pv 5) (pa_cons (pv 1) pa_nil))) (pa_cons (pe_k c_times  hr (by decide) (by rfl) (pa_cons (pv 6) (pa_cons (pe_k c_over  hr (by decide) (by rfl) (pa_cons (pv 2) (pa_cons (pv 7) pa_nil))) pa_nil))) (pa_cons (pe_k c_times  hr (by decide) (by rfl) (pa_cons (pv 6) (pa_cons (pe_k c_over  hr (by decide) (by rfl) (pa_cons (pv 3) (pa_cons (pv 1) pa_nil))) pa_nil))) (pa_cons (pv 8) pa_nil))))))))))), ?_⟩
    refine ⟨.ref p, rfl, p, _, rfl, hp, rfl, _, _, rfl, _, _, rfl, _, _, rfl, _, _, rfl, rfl, ?_⟩
    first | refine sigN [some (.ref p), some (.ref pu), some (.ref pr), some (.ref ps), some (.ref pt), none, none, none, none] (by rfl) ?_ | refine sig [some (.ref p), some (.ref pu), some (.ref pr), some (.ref ps), some (.ref pt), none, none, none, none] (by rfl) ?_
    have E0 : FrE K H [(pu, c.u, 3), (pr, c.r, 3), (ps, c.s, 3), (pt, c.t, 3)] :=
      FrE.add (FrE.add (FrE.add (FrE.add FrE.nil ht hB.t) hs hB.s) hr' hB.r) hu hB.u
    refine ⟨(by show 2 ≤ sizeLine; decide), fun uno nuno => ?_⟩
    obtain ⟨H1, eH_, s1, E1⟩ := litE E0 nuno one_fq RB.one
    rw [eH_]
    clear eH_
    refine ⟨_, rfl, ?_⟩
    refine ⟨(by show 2 ≤ sizeLine; decide), fun minus nminus => ?_⟩
    obtain ⟨H2, eH_, s2, E2⟩ := litE E1 nminus fq_m1 rb_m1
    rw [eH_]
    clear eH_
    refine ⟨(by show 2 ≤ sizeLine; decide), fun tz nz => ?_⟩
    have E3 := E2.same (Same.new (o := .tup [.ref uno, .ref minus]) nz)
    have s3 := Same.new (o := .tup [.ref uno, .ref minus]) nz
    have gz : (upd H2 tz (.tup [.ref uno, .ref minus])) tz = some (.tup [.ref uno, .ref minus]) := upd_same
    generalize upd H2 tz (.tup [.ref uno, .ref minus]) = H3 at E3 s3 gz ⊢
    refine ⟨tz, _, rfl, tup_of gz, rfl, _, _, rfl, _, _, rfl, rfl, ?_⟩
    first | refine sigN [some (.ref p), some (.ref pu), some (.ref pr), some (.ref ps), some (.ref pt), some (.ref uno), some (.ref minus), none, none] (by rfl) ?_ | refine sig [some (.ref p), some (.ref pu), some (.ref pr), some (.ref ps), some (.ref pt), some (.ref uno), some (.ref minus), none, none] (by rfl) ?_
    refine ⟨.ref pu, rfl, .ref pu, rfl, ?_⟩
    refine ⟨pu, pu, _, _, rfl, E3.get (by walk_at "mm"), E3.get (by walk_at "mm"), (E3.rb (p := pu) (by walk_at "mm")).up (by decide), (E3.rb (p := pu) (by walk_at "mm")).up (by decide), trivial, fun uu nuu => ?_⟩
    obtain ⟨H4, eH_, s4, E4⟩ := stepE E3 nuu (RB.mul (E3.rb (p := pu) (by walk_at "mm")) (E3.rb (p := pu) (by walk_at "mm")))
    rw [eH_]
    clear eH_
    first | refine sigN [some (.ref p), some (.ref pu), some (.ref pr), some (.ref ps), some (.ref pt), some (.ref uno), some (.ref minus), some (.ref uu), none] (by rfl) ?_ | refine sig [some (.ref p), some (.ref pu), some (.ref pr), some (.ref ps), some (.ref pt), some (.ref uno), some (.ref minus), some (.ref uu), none] (by rfl) ?_
    have n1 := hB.u0
    have n2 : c.u * c.u ≠ 0 := qmul_ne n1 n1
    have n3 : c.u * c.u * c.u ≠ 0 := qmul_ne n2 n1
    refine ⟨.ref pr, rfl, .ref ps, rfl, ?_⟩
    refine ⟨pr, ps, _, _, rfl, E4.get (by walk_at "mm"), E4.get (by walk_at "mm"), (E4.rb (p := pr) (by walk_at "mm")).up (by decide), (E4.rb (p := ps) (by walk_at "mm")).up (by decide), trivial, fun x1 nx1 => ?_⟩
    obtain ⟨H5, eH_, s5, E5⟩ := stepE E4 nx1 (RB.mul (E4.rb (p := pr) (by walk_at "mm")) (E4.rb (p := ps) (by walk_at "mm")))
    rw [eH_]
    clear eH_
    refine ⟨.ref pt, rfl, ?_⟩
    refine ⟨x1, pt, _, _, rfl, E5.get (by walk_at "mm"), E5.get (by walk_at "mm"), (E5.rb (p := x1) (by walk_at "mm")).up (by decide), (E5.rb (p := pt) (by walk_at "mm")).up (by decide), trivial, fun x2 nx2 => ?_⟩
    obtain ⟨H6, eH_, s6, E6⟩ := stepE E5 nx2 (RB.sub (E5.rb (p := x1) (by walk_at "mm")) (E5.rb (p := pt) (by walk_at "mm")))
    rw [eH_]
    clear eH_
    refine ⟨.ref uu, rfl, .ref pu, rfl, ?_⟩
    refine ⟨uu, pu, _, _, rfl, E6.get (by walk_at "mm"), E6.get (by walk_at "mm"), (E6.rb (p := uu) (by walk_at "mm")).up (by decide), (E6.rb (p := pu) (by walk_at "mm")).up (by decide), trivial, fun x3 nx3 => ?_⟩
    obtain ⟨H7, eH_, s7, E7⟩ := stepE E6 nx3 (RB.mul (E6.rb (p := uu) (by walk_at "mm")) (E6.rb (p := pu) (by walk_at "mm")))
    rw [eH_]
    clear eH_
    refine ⟨x2, x3, _, _, rfl, E7.get (by walk_at "mm"), E7.get (by walk_at "mm"), (E7.rb (p := x2) (by walk_at "mm")).up (by decide), (E7.rb (p := x3) (by walk_at "mm")).up (by decide), n3, fun last nlast => ?_⟩
    obtain ⟨H8, eH_, s8, E8⟩ := stepE E7 nlast (RB.div n3 (E7.rb (p := x2) (by walk_at "mm")) (E7.rb (p := x3) (by walk_at "mm")))
    rw [eH_]
    clear eH_
    first | refine sigN [some (.ref p), some (.ref pu), some (.ref pr), some (.ref ps), some (.ref pt), some (.ref uno), some (.ref minus), some (.ref uu), some (.ref last)] (by rfl) ?_ | refine sig [some (.ref p), some (.ref pu), some (.ref pr), some (.ref ps), some (.ref pt), some (.ref uno), some (.ref minus), some (.ref uu), some (.ref last)] (by rfl) ?_
    refine ⟨.ref uno, rfl, .ref pu, rfl, ?_⟩
    refine ⟨uno, pu, _, _, rfl, E8.get (by walk_at "mm"), E8.get (by walk_at "mm"), (E8.rb (p := uno) (by walk_at "mm")).up (by decide), (E8.rb (p := pu) (by walk_at "mm")).up (by decide), n1, fun y1 ny1 => ?_⟩
    obtain ⟨H9, eH_, s9, E9⟩ := stepE E8 ny1 (RB.div n1 (E8.rb (p := uno) (by walk_at "mm")) (E8.rb (p := pu) (by walk_at "mm")))
    rw [eH_]
    clear eH_
    refine ⟨.ref minus, rfl, .ref pr, rfl, .ref uu, rfl, ?_⟩
    refine ⟨pr, uu, _, _, rfl, E9.get (by walk_at "mm"), E9.get (by walk_at "mm"), (E9.rb (p := pr) (by walk_at "mm")).up (by decide), (E9.rb (p := uu) (by walk_at "mm")).up (by decide), n2, fun y2 ny2 => ?_⟩
    obtain ⟨Ha, eH_, sa, E10⟩ := stepE E9 ny2 (RB.div n2 (E9.rb (p := pr) (by walk_at "mm")) (E9.rb (p := uu) (by walk_at "mm")))
    rw [eH_]
    clear eH_
    refine ⟨minus, y2, _, _, rfl, E10.get (by walk_at "mm"), E10.get (by walk_at "mm"), (E10.rb (p := minus) (by walk_at "mm")).up (by decide), (E10.rb (p := y2) (by walk_at "mm")).up (by decide), trivial, fun y3 ny3 => ?_⟩
    obtain ⟨Hb, eH_, sb, E11⟩ := stepE E10 ny3 (RB.mul (E10.rb (p := minus) (by walk_at "mm")) (E10.rb (p := y2) (by walk_at "mm")))
    rw [eH_]
    clear eH_
    refine ⟨.ref minus, rfl, .ref ps, rfl, .ref pu, rfl, ?_⟩
    refine ⟨ps, pu, _, _, rfl, E11.get (by walk_at "mm"), E11.get (by walk_at "mm"), (E11.rb (p := ps) (by walk_at "mm")).up (by decide), (E11.rb (p := pu) (by walk_at "mm")).up (by decide), n1, fun y4 ny4 => ?_⟩
    obtain ⟨Hc, eH_, sc, E12⟩ := stepE E11 ny4 (RB.div n1 (E11.rb (p := ps) (by walk_at "mm")) (E11.rb (p := pu) (by walk_at "mm")))
    rw [eH_]
    clear eH_
    refine ⟨minus, y4, _, _, rfl, E12.get (by walk_at "mm"), E12.get (by walk_at "mm"), (E12.rb (p := minus) (by walk_at "mm")).up (by decide), (E12.rb (p := y4) (by walk_at "mm")).up (by decide), trivial, fun y5 ny5 => ?_⟩
    obtain ⟨Hd, eH_, sd, E13⟩ := stepE E12 ny5 (RB.mul (E12.rb (p := minus) (by walk_at "mm")) (E12.rb (p := y4) (by walk_at "mm")))
    rw [eH_]
    clear eH_
    refine ⟨.ref last, rfl, (by show 4 ≤ sizeLine; decide), fun z nz2 => ?_⟩
    have sZ := Same.new (H := Hd) (p := z) (o := .tup [.ref y1, .ref y3, .ref y5, .ref last]) nz2
    have E14 := E13.same sZ
    exact q _ z (s1.trans (s2.trans (s3.trans (s4.trans (s5.trans (s6.trans (s7.trans (s8.trans (s9.trans (sa.trans (sb.trans (sc.trans (sd.trans sZ))))))))))))) ⟨y1, y3, y5, last, tup_of upd_same, E14.get (p := y1) (by walk_at "mm"), sq_eq (E14.get (p := y3) (by walk_at "mm")) (by unfold backC; grind), sq_eq (E14.get (p := y5) (by walk_at "mm")) (by unfold backC; grind), E14.get (p := last) (by walk_at "mm")⟩
/-! ### where a point goes -/
def fx (c : Ch) (x : Rat) : Rat := (x - c.r) / (c.u * c.u)
def fy (c : Ch) (x y : Rat) : Rat := (y - c.s * (x - c.r) - c.t) / (c.u * c.u * c.u)
def PtAt (K : PySem.W.Frag) (H : Hp) (p : Addr) (x y : Rat) : Prop := ∃ px py, SqT K H p [.ref px, .ref py] ∧ SqT K H px (fq x) ∧ SqT K H py (fq y)
theorem PtAt.same {H H' : Hp} {p : Addr} {x y : Rat} (s : Same H H') (h : PtAt K H p x y) : PtAt K H' p x y := by
  obtain ⟨a, b, h1, h2, h3⟩ := h
  exact ⟨a, b, Same.tup s h1, Same.tup s h2, Same.tup s h3⟩
def sp_led_point (K : PySem.W.Frag) : Sp := fun vs H Q _ => ∃ (p o : Addr) (c : Ch), vs = [.ref p, .ref o] ∧ ((SqT K H p [] ∧ ∀ H' t, Same H H' → SqT K H' t [] → Q (.ref t) H') ∨ ∃ x y, PtAt K H p x y ∧ ChAt K H o c ∧ ChB 29 c ∧ RB 100 x ∧ RB 200 y ∧ ∀ H' t, Same H H' → PtAt K H' t (fx c x) (fy c x y) → Q (.ref t) H')
abbrev s_led_point : Stmt := topS 18
theorem sc_led_point : FnScope ["point", "change", "x", "y", "u", "r", "s", "t", "uu", "across"] ["point", "change"] (defScope s_led_point) := ⟨rfl, rfl, rfl, by decide +kernel, rfl, by decide +kernel, by decide +kernel⟩
theorem k_led_point (T : Tx K mg) (D : Df K mg "led_point" s_led_point ["point", "change"]) (c_times : Kl P w K mg base 2 "times" (sp_times K)) (c_less : Kl P w K mg base 2 "less" (sp_less K)) (c_over : Kl P w K mg base 2 "over" (sp_over K)) : Kl P w K mg base 3 "led_point" (sp_led_point K) := by
  have nd := sc_led_point.nd
  refine Kl.by_body D sc_led_point (fun vs H Q E h => ?_) (fun f cdv A outer s H vs Q E hr h => ?_)
  · obtain ⟨_, _, _, rfl, _⟩ := h
    rfl
  · obtain ⟨p, o, c, rfl, h⟩ := h
    have hu1 := hu_of hr
    refine ⟨_, (pss_cons (ps_if (pt_cmpR (op_eqD hr.units) (pv 0) (pe_tup pa_nil) (nomark _)) (pss_one (ps_ret (pe_tup pa_nil))) pss_nil)
      (pss_cons (ps_asg (pv 0) (pg_tup rfl (pgs_cons (pg_name (i := 2) nd rfl (by first | exact Or.inl rfl | exact Or.inr rfl)) (pgs_cons (pg_name (i := 3) nd rfl (by first | exact Or.inl rfl | exact Or.inr rfl)) pgs_nil))))
      (pss_cons (ps_asg (pv 1) (pg_tup rfl (pgs_cons (pg_name (i := 4) nd rfl (by first | exact Or.inl rfl | exact Or.inr rfl)) (pgs_cons (pg_name (i := 5) nd rfl (by first | exact Or.inl rfl | exact Or.inr rfl)) (pgs_cons (pg_name (i := 6) nd rfl (by first | exact Or.inl rfl | exact Or.inr rfl)) (pgs_cons (pg_name (i := 7) nd rfl (by first | exact Or.inl rfl | exact Or.inr rfl)) pgs_nil))))))
      (pss_cons (ps_set (i := 8) nd rfl (by first | exact Or.inl rfl | exact Or.inr rfl) (pe_k c_times  hr (by decide) (by rfl) (pa_cons (pv 4) (pa_cons (pv 4) pa_nil))))
      (pss_cons (ps_set (i := 9) nd rfl (by first | exact Or.inl rfl | exact Or.inr rfl) (pe_k c_less  hr (by decide) (by rfl) (pa_cons (pv 2) (pa_cons (pv 5) pa_nil))))
      (pss_one (ps_ret (pe_tup (pa_cons (pe_k c_over  hr (by decide) (by rfl) (pa_cons (pv 9) (pa_cons (pv 8) pa_nil))) (pa_cons (pe_k c_over  hr (by decide) (by rfl) (pa_cons (pe_k c_less  hr (by decide) (by rfl) (pa_cons (pe_k c_less  hr (by decide) (by rfl) (pa_cons (pv 3) (pa_cons (pe_k c_times  hr (by decide) (by rfl) (pa_cons (pv 6) (pa_cons (pv 9) pa_nil))) pa_nil))) (pa_cons (pv 7) pa_nil))) (pa_cons (pe_k c_times  hr (by decide) (by rfl) (pa_cons (pv 8) (pa_cons (pv 4) pa_nil))) pa_nil))) pa_nil)))))))))), ?_⟩
    rcases h with ⟨hp, q⟩ | ⟨x, y, ⟨px, py, hp, hx, hy⟩, ⟨pu, pr, ps, pt, ho, hu, hr', hs, ht⟩, hB, bx, bY, q⟩
    · refine ⟨.ref p, rfl, (by show 0 ≤ sizeLine; decide), fun z nz => ?_⟩
      have s1 := Same.new (H := H) (p := z) (o := .tup []) nz
      refine ⟨.tuple [], .tuple [], .tup (Same.tup s1 hp) .nil, .tup (tup_of upd_same) .nil, rfl, rfl, _, rfl, iteT ?_⟩
      refine ⟨(by show 0 ≤ sizeLine; decide), fun z2 nz2 => ?_⟩
      exact q _ z2 (s1.trans (Same.new nz2)) (tup_of upd_same)
    · refine ⟨.ref p, rfl, (by show 0 ≤ sizeLine; decide), fun z nz => ?_⟩
      have s1 := Same.new (H := H) (p := z) (o := .tup []) nz
      have gz : (upd H z (.tup [])) z = some (.tup []) := upd_same
      generalize upd H z (.tup []) = H1 at s1 gz ⊢
      refine ⟨.tuple [dq x, dq y], .tuple [], .tup (Same.tup s1 hp) (.cons (dp_q (Same.tup s1 hx)) (.cons (dp_q (Same.tup s1 hy)) .nil)), .tup (tup_of gz) .nil, rfl, rfl, _, rfl, ?_⟩
      rw [show PyData.eqv (.tuple [dq x, dq y]) (.tuple []) = false from rfl]
      refine iteF ?_
      refine ⟨.ref p, rfl, p, _, rfl, Same.tup s1 hp, rfl, _, _, rfl, _, _, rfl, rfl, ?_⟩
      first | refine sigN [some (.ref p), some (.ref o), some (.ref px), some (.ref py), none, none, none, none, none, none] (by rfl) ?_ | refine sig [some (.ref p), some (.ref o), some (.ref px), some (.ref py), none, none, none, none, none, none] (by rfl) ?_
      refine ⟨.ref o, rfl, o, _, rfl, Same.tup s1 ho, rfl, _, _, rfl, _, _, rfl, _, _, rfl, _, _, rfl, rfl, ?_⟩
      first | refine sigN [some (.ref p), some (.ref o), some (.ref px), some (.ref py), some (.ref pu), some (.ref pr), some (.ref ps), some (.ref pt), none, none] (by rfl) ?_ | refine sig [some (.ref p), some (.ref o), some (.ref px), some (.ref py), some (.ref pu), some (.ref pr), some (.ref ps), some (.ref pt), none, none] (by rfl) ?_
      have E0 : FrE K H1 [(pu, c.u, 29), (pr, c.r, 29), (ps, c.s, 29), (pt, c.t, 29), (px, x, 100), (py, y, 200)] :=
        FrE.add (FrE.add (FrE.add (FrE.add (FrE.add (FrE.add FrE.nil (Same.tup s1 hy) bY) (Same.tup s1 hx) bx) (Same.tup s1 ht) hB.t) (Same.tup s1 hs) hB.s) (Same.tup s1 hr') hB.r) (Same.tup s1 hu) hB.u
      have n1 := hB.u0
      have n2 : c.u * c.u ≠ 0 := qmul_ne n1 n1
      have n3 : c.u * c.u * c.u ≠ 0 := qmul_ne n2 n1
      refine ⟨.ref pu, rfl, .ref pu, rfl, ?_⟩
      refine ⟨pu, pu, _, _, rfl, E0.get (by walk_at "mm"), E0.get (by walk_at "mm"), (E0.rb (p := pu) (by walk_at "mm")).up (by decide), (E0.rb (p := pu) (by walk_at "mm")).up (by decide), trivial, fun uu nuu => ?_⟩
      obtain ⟨H2, eH_, s2, E1⟩ := stepE E0 nuu (RB.mul (E0.rb (p := pu) (by walk_at "mm")) (E0.rb (p := pu) (by walk_at "mm")))
      rw [eH_]
      clear eH_
      first | refine sigN [some (.ref p), some (.ref o), some (.ref px), some (.ref py), some (.ref pu), some (.ref pr), some (.ref ps), some (.ref pt), some (.ref uu), none] (by rfl) ?_ | refine sig [some (.ref p), some (.ref o), some (.ref px), some (.ref py), some (.ref pu), some (.ref pr), some (.ref ps), some (.ref pt), some (.ref uu), none] (by rfl) ?_
      refine ⟨.ref px, rfl, .ref pr, rfl, ?_⟩
      refine ⟨px, pr, _, _, rfl, E1.get (by walk_at "mm"), E1.get (by walk_at "mm"), (E1.rb (p := px) (by walk_at "mm")).up (by decide), (E1.rb (p := pr) (by walk_at "mm")).up (by decide), trivial, fun ac nac => ?_⟩
      obtain ⟨H3, eH_, s3, E2⟩ := stepE E1 nac (RB.sub (E1.rb (p := px) (by walk_at "mm")) (E1.rb (p := pr) (by walk_at "mm")))
      rw [eH_]
      clear eH_
      first | refine sigN [some (.ref p), some (.ref o), some (.ref px), some (.ref py), some (.ref pu), some (.ref pr), some (.ref ps), some (.ref pt), some (.ref uu), some (.ref ac)] (by rfl) ?_ | refine sig [some (.ref p), some (.ref o), some (.ref px), some (.ref py), some (.ref pu), some (.ref pr), some (.ref ps), some (.ref pt), some (.ref uu), some (.ref ac)] (by rfl) ?_
      refine ⟨.ref ac, rfl, .ref uu, rfl, ?_⟩
      refine ⟨ac, uu, _, _, rfl, E2.get (by walk_at "mm"), E2.get (by walk_at "mm"), (E2.rb (p := ac) (by walk_at "mm")).up (by decide), (E2.rb (p := uu) (by walk_at "mm")).up (by decide), n2, fun y1 ny1 => ?_⟩
      obtain ⟨H4, eH_, s4, E3⟩ := stepE E2 ny1 (RB.div n2 (E2.rb (p := ac) (by walk_at "mm")) (E2.rb (p := uu) (by walk_at "mm")))
      rw [eH_]
      clear eH_
      refine ⟨.ref py, rfl, .ref ps, rfl, .ref ac, rfl, ?_⟩
      refine ⟨ps, ac, _, _, rfl, E3.get (by walk_at "mm"), E3.get (by walk_at "mm"), (E3.rb (p := ps) (by walk_at "mm")).up (by decide), (E3.rb (p := ac) (by walk_at "mm")).up (by decide), trivial, fun y2 ny2 => ?_⟩
      obtain ⟨H5, eH_, s5, E4⟩ := stepE E3 ny2 (RB.mul (E3.rb (p := ps) (by walk_at "mm")) (E3.rb (p := ac) (by walk_at "mm")))
      rw [eH_]
      clear eH_
      refine ⟨py, y2, _, _, rfl, E4.get (by walk_at "mm"), E4.get (by walk_at "mm"), (E4.rb (p := py) (by walk_at "mm")).up (by decide), (E4.rb (p := y2) (by walk_at "mm")).up (by decide), trivial, fun y3 ny3 => ?_⟩
      obtain ⟨H6, eH_, s6, E5⟩ := stepE E4 ny3 (RB.sub (E4.rb (p := py) (by walk_at "mm")) (E4.rb (p := y2) (by walk_at "mm")))
      rw [eH_]
      clear eH_
      refine ⟨.ref pt, rfl, ?_⟩
      refine ⟨y3, pt, _, _, rfl, E5.get (by walk_at "mm"), E5.get (by walk_at "mm"), (E5.rb (p := y3) (by walk_at "mm")).up (by decide), (E5.rb (p := pt) (by walk_at "mm")).up (by decide), trivial, fun y4 ny4 => ?_⟩
      obtain ⟨H7, eH_, s7, E6⟩ := stepE E5 ny4 (RB.sub (E5.rb (p := y3) (by walk_at "mm")) (E5.rb (p := pt) (by walk_at "mm")))
      rw [eH_]
      clear eH_
      refine ⟨.ref uu, rfl, .ref pu, rfl, ?_⟩
      refine ⟨uu, pu, _, _, rfl, E6.get (by walk_at "mm"), E6.get (by walk_at "mm"), (E6.rb (p := uu) (by walk_at "mm")).up (by decide), (E6.rb (p := pu) (by walk_at "mm")).up (by decide), trivial, fun y5 ny5 => ?_⟩
      obtain ⟨H8, eH_, s8, E7⟩ := stepE E6 ny5 (RB.mul (E6.rb (p := uu) (by walk_at "mm")) (E6.rb (p := pu) (by walk_at "mm")))
      rw [eH_]
      clear eH_
      refine ⟨y4, y5, _, _, rfl, E7.get (by walk_at "mm"), E7.get (by walk_at "mm"), (E7.rb (p := y4) (by walk_at "mm")).up (by decide), (E7.rb (p := y5) (by walk_at "mm")).up (by decide), n3, fun y6 ny6 => ?_⟩
      obtain ⟨H9, eH_, s9, E8⟩ := stepE E7 ny6 (RB.div n3 (E7.rb (p := y4) (by walk_at "mm")) (E7.rb (p := y5) (by walk_at "mm")))
      rw [eH_]
      clear eH_
      refine ⟨(by show 2 ≤ sizeLine; decide), fun w2 nw => ?_⟩
      have sZ := Same.new (H := H9) (p := w2) (o := .tup [.ref y1, .ref y6]) nw
      have E9 := E8.same sZ
      exact q _ w2 (s1.trans (s2.trans (s3.trans (s4.trans (s5.trans (s6.trans (s7.trans (s8.trans (s9.trans sZ))))))))) ⟨y1, y6, tup_of upd_same, E9.get (p := y1) (by walk_at "mm"), E9.get (p := y6) (by walk_at "mm")⟩
end
end K06
set_option Elab.async false
set_option linter.all false
set_option maxRecDepth 100000
set_option maxHeartbeats 400000
namespace K06
open PySem PySem.Spec PyProof.Rows L2 Gd QM
section
variable {P : Program} {w : World} {K : PySem.W.Frag} {mg : Str → Option Value} {base : Heap}
/-! ### a curve -/
def sp_law_curve (K : PySem.W.Frag) : Sp := fun vs H Q _ => ∃ (m cl : Addr) (z : Int) (n : Nat), vs = [.ref m, .int z] ∧ 0 ≤ z ∧ z ≤ 30 ∧ n ≤ 1000 ∧ MAt H m cl n ∧ ∀ H' t c, But m H H' → MAt H' m cl (n + 300) → SqT K H' t (Cv.tup c) → CvB 8 c → Q (.ref t) H'
abbrev s__law_curve : Stmt := topS 36
theorem sc__law_curve : FnScope ["m", "size", "lap", "five_v"] ["m", "size"] (defScope s__law_curve) := ⟨rfl, rfl, rfl, by decide +kernel, rfl, by decide +kernel, by decide +kernel⟩
theorem k_law_curve (T : Tx K mg) (D : Df K mg "_law_curve" s__law_curve ["m", "size"]) (c_law_between : Kl P w K mg base 2 "_law_between" (sp_law_between K)) (c_law_numbers : Kl P w K mg base 1 "_law_numbers" (sp_law_numbers K)) : Kl P w K mg base 3 "_law_curve" (sp_law_curve K) := by
  have nd := sc__law_curve.nd
  refine Kl.by_body D sc__law_curve (fun vs H Q E h => ?_) (fun f cdv A outer s H vs Q E hr h => ?_)
  · obtain ⟨_, _, _, _, rfl, _⟩ := h
    rfl
  · obtain ⟨m, cl, z, n, rfl, z0, z1, hn, hM, q⟩ := h
    have hu1 := hu_of hr
    refine ⟨_, (pss_cons (ps_for PassesOwn.never rfl (pi_range1 (by rfl) T.range (pa_cons pe_int pa_nil)) (pg_name (i := 2) nd rfl (by first | exact Or.inl rfl | exact Or.inr rfl)) (pss_cons (ps_set (i := 3) nd rfl (by first | exact Or.inl rfl | exact Or.inr rfl) (pe_tup (pa_cons (pe_k c_law_between  hr (by decide) (by rfl) (pa_cons (pv 0) (pa_cons pe_int pa_nil))) (pa_cons (pe_k c_law_between  hr (by decide) (by rfl) (pa_cons (pv 0) (pa_cons pe_int pa_nil))) (pa_cons (pe_k c_law_between  hr (by decide) (by rfl) (pa_cons (pv 0) (pa_cons pe_int pa_nil))) (pa_cons (pe_k c_law_between  hr (by decide) (by rfl) (pa_cons (pv 0) (pa_cons (pv 1) pa_nil))) (pa_cons (pe_op op_add (pe_k c_law_between  hr (by decide) (by rfl) (pa_cons (pv 0) (pa_cons (pv 1) pa_nil))) (pv 2)) pa_nil)))))))
      (pss_one (ps_if (pt_cmpR op_ne (pe_ix ix_tup (pe_k c_law_numbers  hr (by decide) (by rfl) (pa_cons (pv 3) pa_nil)) pe_int (fun _ _ => rfl)) pe_int (nomark _)) (pss_one (ps_ret (pv 3))) pss_nil))))
      (pss_one (ps_ret (pe_tup (pa_cons pe_int (pa_cons pe_int (pa_cons pe_int (pa_cons (pe_un un_neg pe_int) (pa_cons pe_int pa_nil))))))))), ?_⟩
    refine ⟨60, rfl, by decide, by decide, for_range (lo := 0) (n := 60) (fun i σ H2 => But m H H2 ∧ MAt H2 m cl (n + 5 * i) ∧ ∃ v1 v2 : Option V, σ = [some (.ref m), some (.int z), v1, v2]) ⟨But.refl m H, hM, none, none, rfl⟩ ?_ ?_⟩
    · rintro i σ H2 hi ⟨b2, m2, v1, v2, rfl⟩
      refine ⟨_, rfl, m, cl, 2, n + 5 * i, rfl, by decide, by decide, by omega, m2, fun H3 a1 b3 m3 a10 a11 => ?_⟩
      refine ⟨_, rfl, m, cl, 2, n + 5 * i + 1, rfl, by decide, by decide, by omega, m3, fun H4 a2 b4 m4 a20 a21 => ?_⟩
      refine ⟨_, rfl, m, cl, 2, n + 5 * i + 1 + 1, rfl, by decide, by decide, by omega, m4, fun H5 a3 b5 m5 a30 a31 => ?_⟩
      refine ⟨_, rfl, _, rfl, m, cl, z, n + 5 * i + 1 + 1 + 1, rfl, z0, by omega, by omega, m5, fun H6 a4 b6 m6 a40 a41 => ?_⟩
      refine ⟨_, rfl, _, rfl, m, cl, z, n + 5 * i + 1 + 1 + 1 + 1, rfl, z0, by omega, by omega, m6, fun H7 a6 b7 m7 a60 a61 => ?_⟩
      refine ⟨_, rfl, _, _, rfl, rfl, (by show 5 ≤ sizeLine; decide), fun f nf => ?_⟩
      have s8 := Same.new (H := H7) (p := f) (o := .tup [.int a1, .int a2, .int a3, .int a4, .int (a6 + (0 + (i : Int)))]) nf
      have g8 : upd H7 f (.tup [.int a1, .int a2, .int a3, .int a4, .int (a6 + (0 + (i : Int)))]) f = some (.tup [.int a1, .int a2, .int a3, .int a4, .int (a6 + (0 + (i : Int)))]) := upd_same
      generalize upd H7 f (.tup [.int a1, .int a2, .int a3, .int a4, .int (a6 + (0 + (i : Int)))]) = H8 at s8 g8 ⊢
      have q6 : -200 ≤ a6 + (0 + (i : Int)) ∧ a6 + (0 + (i : Int)) ≤ 200 := by omega
      generalize a6 + (0 + (i : Int)) = e6 at g8 q6
      obtain ⟨q60, q61⟩ := q6
      have g : SqT K H8 f (Cv.tup ⟨a1, a2, a3, a4, e6⟩) := tup_of g8
      have hB : CvB 8 ⟨a1, a2, a3, a4, e6⟩ := ⟨by unfold B; dsimp only; omega, by unfold B; dsimp only; omega, by unfold B; dsimp only; omega, by unfold B; dsimp only; omega, by unfold B; dsimp only; omega⟩
      have hS : Cv.Sm ⟨a1, a2, a3, a4, e6⟩ := ⟨hB.h1.up (by decide), hB.h2.up (by decide), hB.h3.up (by decide), hB.h4.up (by decide), hB.h6.up (by decide)⟩
      have bA : But m H H8 := b2.trans (b3.trans (b4.trans (b5.trans (b6.trans (b7.trans (But.of s8))))))
      have m8 := m7.same s8
      clear b2 b3 b4 b5 b6 b7 m2 m3 m4 m5 m6 m7 s8 g8
      refine ⟨.ref f, rfl, f, _, rfl, g, hS, fun t nt => ?_⟩
      have st := Same.new (H := H8) (p := t) (o := .tup (Cv.nums ⟨a1, a2, a3, a4, e6⟩)) nt
      refine ⟨t, _, 6, .int (Cv.disc ⟨a1, a2, a3, a4, e6⟩), rfl, rfl, tup_of upd_same, rfl, rfl, _, rfl, ?_⟩
      rw [dec_int]
      by_cases h0 : Cv.disc ⟨a1, a2, a3, a4, e6⟩ = 0
      · refine iteN (by simp [h0]) ?_
        exact ⟨bA.trans (But.of st), (m8.same st).up (by omega), _, _, rfl⟩
      · refine iteY (by simp [h0]) ?_
        exact ⟨_, rfl, q _ f _ (bA.trans (But.of st)) ((m8.same st).up (by omega)) (Same.tup st g) hB⟩
    · rintro σ H2 ⟨b2, m2, v1, v2, rfl⟩
      refine ⟨_, rfl, (by show 5 ≤ sizeLine; decide), fun t nt => ?_⟩
      have st := Same.new (H := H2) (p := t) (o := .tup [.int 0, .int 0, .int 1, .int (-1), .int 0]) nt
      exact q _ t ⟨0, 0, 1, -1, 0⟩ (b2.trans (But.of st)) ((m2.same st).up (by omega)) (tup_of upd_same) ⟨B.lit (by decide), B.lit (by decide), B.lit (by decide), B.lit (by decide), B.lit (by decide)⟩
/-! ### a change -/
theorem cut_RB {n d : Int} (h : d ≠ 0) (hn : B 3 n) (hd : B 3 d) : RB 3 (Rat.divInt n d) := RB.of h hn hd
def sp_law_change (K : PySem.W.Frag) : Sp := fun vs H Q _ => ∃ (m cl : Addr) (n : Nat), vs = [.ref m] ∧ n ≤ 1000 ∧ MAt H m cl n ∧ ∀ H' t c, But m H H' → MAt H' m cl (n + 10) → ChAt K H' t c → ChB 3 c → Q (.ref t) H'
theorem cut_ne {n d : Int} (h : n ≠ 0) (k : d ≠ 0) : Rat.divInt n d ≠ 0 := fun e => by
  have hn : (n : Rat) ≠ 0 := fun e => h (by exact_mod_cast e)
  have hd : (d : Rat) ≠ 0 := fun e => k (by exact_mod_cast e)
  rw [Rat.divInt_eq_div] at e
  grind
abbrev s__law_change : Stmt := topS 43
theorem sc__law_change : FnScope ["m", "u", "parts", "k"] ["m"] (defScope s__law_change) := ⟨rfl, rfl, rfl, by decide +kernel, rfl, by decide +kernel, by decide +kernel⟩
theorem k_law_change (T : Tx K mg) (D : Df K mg "_law_change" s__law_change ["m"]) (c_law_cut : Kl P w K mg base 2 "_law_cut" (sp_law_cut K)) (c_law_of : Kl P w K mg base 2 "_law_of" (sp_law_of K)) (c_law_draw : Kl P w K mg base 1 "_law_draw" (sp_law_draw K)) (c_law_between : Kl P w K mg base 2 "_law_between" (sp_law_between K)) : Kl P w K mg base 3 "_law_change" (sp_law_change K) := by
  have nd := sc__law_change.nd
  refine Kl.by_body D sc__law_change (fun vs H Q E h => ?_) (fun f cdv A outer s H vs Q E hr h => ?_)
  · obtain ⟨_, _, _, rfl, _⟩ := h
    rfl
  · obtain ⟨m, cl, n, rfl, hn, hM, q⟩ := h
    have hu1 := hu_of hr
    refine ⟨_, (pss_cons (ps_set (i := 1) nd rfl (by first | exact Or.inl rfl | exact Or.inr rfl) (pe_k c_law_cut  hr (by decide) (by rfl) (pa_cons (pe_op op_mulW (pe_op op_add pe_int (pe_k c_law_draw  hr (by decide) (by rfl) (pa_cons (pv 0) (pa_cons pe_int pa_nil)))) (pe_k c_law_of  hr (by decide) (by rfl) (pa_cons (pv 0) (pa_cons (pe_lst (pa_cons pe_int (pa_cons (pe_un un_neg pe_int) pa_nil))) pa_nil)))) (pa_cons (pe_op op_add pe_int (pe_k c_law_draw  hr (by decide) (by rfl) (pa_cons (pv 0) (pa_cons pe_int pa_nil)))) pa_nil))))
      (pss_cons (ps_setLc (i := 2) (own := [("k", 3)]) (g := gName 3) rfl nd rfl rfl (sw_true rfl rfl rfl (by decide +kernel)) (pi_range1 (by rfl) T.range (pa_cons pe_int pa_nil)) (blkOk_by (N := ["m", "u", "parts", "k"]) (sc := defScope s__law_change) (by decide +kernel)) (fun _ _ _ _ _ => (pg_name (i := 3) nd rfl (by first | exact Or.inl rfl | exact Or.inr rfl))) (fun _ _ _ _ _ => pts_nil) (fun _ _ _ _ _ => (pe_k c_law_cut  hr (by decide) (by rfl) (pa_cons (pe_k c_law_between  hr (by decide) (by rfl) (pa_cons (pv 0) (pa_cons pe_int pa_nil))) (pa_cons (pe_op op_add pe_int (pe_k c_law_draw  hr (by decide) (by rfl) (pa_cons (pv 0) (pa_cons pe_int pa_nil)))) pa_nil)))))
      (pss_one (ps_ret (pe_tup (pa_cons (pe_k c_law_of  hr (by decide) (by rfl) (pa_cons (pv 0) (pa_cons (pe_lst (pa_cons (pv 1) (pa_cons (pv 1) (pa_cons (pe_tup (pa_cons pe_int (pa_cons pe_int pa_nil))) (pa_cons (pe_tup (pa_cons (pe_un un_neg pe_int) (pa_cons pe_int pa_nil))) pa_nil))))) pa_nil))) (pa_cons (pe_ix ix_list (pv 2) pe_int (fun _ _ => rfl)) (pa_cons (pe_ix ix_list (pv 2) pe_int (fun _ _ => rfl)) (pa_cons (pe_ix ix_list (pv 2) pe_int (fun _ _ => rfl)) pa_nil))))))))), ?_⟩
    refine ⟨_, rfl, m, cl, 4, n, rfl, by decide, by decide, by omega, hM, fun H1 x1 b1 m1 x10 x11 => ?_⟩
    refine ⟨_, _, rfl, rfl, _, rfl, _, rfl, (by show 2 ≤ sizeLine; decide), fun l nl => ?_⟩
    have s2 := Same.new (H := H1) (p := l) (o := .lst [.int 1, .int (-1)]) nl
    have g2 : upd H1 l (.lst [.int 1, .int (-1)]) l = some (.lst [.int 1, .int (-1)]) := upd_same
    generalize upd H1 l (.lst [.int 1, .int (-1)]) = H2 at s2 g2 ⊢
    have m2 := m1.same s2
    refine ⟨m, cl, l, _, n + 1, rfl, lst_of g2, (by show 0 < 2; decide), (by show 2 ≤ 1000; decide), by omega, m2, fun H3 z b3 m3 hz => ?_⟩
    have hz2 : ∃ e : Int, z = .int e ∧ (e = 1 ∨ e = -1) := by
      simp only [List.mem_cons, List.not_mem_nil, or_false] at hz
      rcases hz with rfl | rfl
      · exact ⟨_, rfl, Or.inl rfl⟩
      · exact ⟨_, rfl, Or.inr rfl⟩
    obtain ⟨e, rfl, he⟩ := hz2
    have he1 : B 1 e := by
      rcases he with rfl | rfl <;> exact B.lit (by decide)
    refine ⟨_, _, rfl, rfl, B.mulW (m := 3) (n := 1) (by unfold B; omega) he1 (by decide), ?_⟩
    refine ⟨_, rfl, m, cl, 4, n + 1 + 1, rfl, by decide, by decide, by omega, m3, fun H4 x2 b4 m4 x20 x21 => ?_⟩
    have hN : B 3 ((1 + x1) * e) := by
      unfold B
      rcases he with rfl | rfl <;> omega
    have hD : B 3 (1 + x2) := by
      unfold B
      omega
    have hd0 : 1 + x2 ≠ 0 := by omega
    have hn0 : (1 + x1) * e ≠ 0 := by
      rcases he with rfl | rfl <;> omega
    refine ⟨_, _, rfl, rfl, (1 + x1) * e, 1 + x2, rfl, hd0, hN.up (by decide), hD.up (by decide), fun u nu => ?_⟩
    have s5 := Same.new (H := H4) (p := u) (o := .tup (fq (Rat.divInt ((1 + x1) * e) (1 + x2)))) nu
    have g5 : upd H4 u (.tup (fq (Rat.divInt ((1 + x1) * e) (1 + x2)))) u = some (.tup (fq (Rat.divInt ((1 + x1) * e) (1 + x2)))) := upd_same
    generalize upd H4 u (.tup (fq (Rat.divInt ((1 + x1) * e) (1 + x2)))) = H5 at s5 g5 ⊢
    have uB := cut_RB hd0 hN hD
    have u0 := cut_ne hn0 hd0
    generalize Rat.divInt ((1 + x1) * e) (1 + x2) = uu at g5 uB u0
    have m5 := m4.same s5
    have bA : But m H H5 := b1.trans ((But.of s2).trans (b3.trans (b4.trans (But.of s5))))
    clear b1 b3 b4 s2 s5 g2 m1 m2 m3 m4 hz nl
    first | refine sigN [some (.ref m), some (.ref u), none, none] (by rfl) ?_ | refine sig [some (.ref m), some (.ref u), none, none] (by rfl) ?_
    refine ⟨3, rfl, by decide, by decide, fun D hD => ?_⟩
    have hmD := m5.ne hD
    refine lc_range (lo := 0) (n := 3) (fun i H6 => ∃ L : List (Addr × Rat), H6 D = some (.lst (L.map fun p => .ref p.1)) ∧ L.length = i ∧ FrL K H6 3 L ∧ But m H5 H6 ∧ MAt H6 m cl (n + 1 + 1 + 1 + 2 * i)) ⟨[], upd_same, rfl, FrL.nil, But.of (Same.new hD), m5.same (Same.new hD)⟩ (fun i H6 hi z => ?_) (fun H6 z => ?_)
    · obtain ⟨L, hL, el, hB, b6, m6⟩ := z
      refine ⟨rfl, _, rfl, m, cl, 6, n + 1 + 1 + 1 + 2 * i, rfl, by decide, by decide, by omega, m6, fun H7 y b7 m7 y0 y1 => ?_⟩
      refine ⟨_, rfl, m, cl, 3, n + 1 + 1 + 1 + 2 * i + 1, rfl, by decide, by decide, by omega, m7, fun H8 x b8 m8 x0 x1 => ?_⟩
      have hN2 : B 3 y := by
        unfold B
        omega
      have hD2 : B 3 (1 + x) := by
        unfold B
        omega
      have hd2 : 1 + x ≠ 0 := by omega
      refine ⟨_, _, rfl, rfl, y, 1 + x, rfl, hd2, hN2.up (by decide), hD2.up (by decide), fun t nt => ?_⟩
      have st := Same.new (H := H8) (p := t) (o := .tup (fq (Rat.divInt y (1 + x)))) nt
      have hL8 := st _ _ (b8.lst m7 (b7.lst m6 hL))
      refine ⟨_, hL8, by rw [List.length_map]; exact small1000 (by omega), L ++ [(t, Rat.divInt y (1 + x))], ?_, by rw [List.length_append, el]; rfl, ?_, fun c o e nc => ?_, ?_⟩
      · rw [upd_same, List.map_append]
        rfl
      · intro p hp
        rcases List.mem_append.mp hp with hp | hp
        · exact ⟨tup_put hL8 (Same.tup st (b8.seqT m7 (b7.seqT m6 (hB p hp).1))), (hB p hp).2⟩
        · rw [List.mem_singleton.mp hp]
          exact ⟨tup_put hL8 (tup_of upd_same), cut_RB hd2 hN2 hD2⟩
      · rw [upd_ne (ne_of_none e hD)]
        exact (b6.trans (b7.trans (b8.trans (But.of st)))) c o e nc
      · exact ((m8.same st).put hmD).up (by omega)
    obtain ⟨L, hL, el, hB, b6, m6⟩ := z
    obtain ⟨q1, q2, q3, rfl⟩ : ∃ q1 q2 q3, L = [q1, q2, q3] := by
      match L, el with
      | [y1, y2, y3], _ => exact ⟨y1, y2, y3, rfl⟩
    have k1 := hB q1 (by simp)
    have k2 := hB q2 (by simp)
    have k3 := hB q3 (by simp)
    have g6 : H6 u = some (.tup (fq uu)) := b6.tup m5 g5
    have bB : But m H H6 := bA.trans b6
    clear hB bA b6 hmD el
    first | refine sigN [some (.ref m), some (.ref u), some (.ref D), none] (by rfl) ?_ | refine sig [some (.ref m), some (.ref u), some (.ref D), none] (by rfl) ?_
    refine ⟨_, rfl, .ref u, rfl, .ref u, rfl, (by show 2 ≤ sizeLine; decide), fun t1 nt1 => ?_⟩
    have s7 := Same.new (H := H6) (p := t1) (o := .tup [.int 1, .int 1]) nt1
    have g7 : upd H6 t1 (.tup [.int 1, .int 1]) t1 = some (.tup [.int 1, .int 1]) := upd_same
    generalize upd H6 t1 (.tup [.int 1, .int 1]) = H7 at s7 g7 ⊢
    refine ⟨_, rfl, (by show 2 ≤ sizeLine; decide), fun t2 nt2 => ?_⟩
    have s8 := Same.new (H := H7) (p := t2) (o := .tup [.int (-1), .int 1]) nt2
    have g8 : upd H7 t2 (.tup [.int (-1), .int 1]) t2 = some (.tup [.int (-1), .int 1]) := upd_same
    generalize upd H7 t2 (.tup [.int (-1), .int 1]) = H8 at s8 g8 ⊢
    refine ⟨(by show 4 ≤ sizeLine; decide), fun l4 nl4 => ?_⟩
    have s9 := Same.new (H := H8) (p := l4) (o := .lst [.ref u, .ref u, .ref t1, .ref t2]) nl4
    have g9 : upd H8 l4 (.lst [.ref u, .ref u, .ref t1, .ref t2]) l4 = some (.lst [.ref u, .ref u, .ref t1, .ref t2]) := upd_same
    generalize upd H8 l4 (.lst [.ref u, .ref u, .ref t1, .ref t2]) = H9 at s9 g9 ⊢
    have sA := s7.trans (s8.trans s9)
    have m9 := m6.same sA
    have hall : ∀ x ∈ [V.ref u, .ref u, .ref t1, .ref t2], ∃ p a, x = .ref p ∧ SqT K H9 p (fq a) ∧ RB 3 a ∧ a ≠ 0 := by
      intro x hx
      simp only [List.mem_cons, List.not_mem_nil, or_false] at hx
      rcases hx with rfl | rfl | rfl | rfl
      · exact ⟨u, uu, rfl, tup_of (sA _ _ g6), uB, u0⟩
      · exact ⟨u, uu, rfl, tup_of (sA _ _ g6), uB, u0⟩
      · exact ⟨t1, 1, rfl, tup_of (s9 _ _ (s8 _ _ g7)), RB.one.up (by decide), by decide⟩
      · exact ⟨t2, -1, rfl, tup_of (s9 _ _ g8), rb_m1.up (by decide), by decide⟩
    refine ⟨m, cl, l4, _, n + 1 + 1 + 1 + 6, rfl, lst_of g9, (by show 0 < 4; decide), (by show 4 ≤ 1000; decide), by omega, m9.up (by omega), fun Ha x ba ma hx => ?_⟩
    obtain ⟨p, a, rfl, hp, aB, a0⟩ := hall x hx
    have gD := ba.lst m9 (sA _ _ hL)
    refine ⟨.ref D, rfl, D, _, 0, .ref q1.1, rfl, rfl, lst_of gD, rfl, .ref D, rfl, D, _, 1, .ref q2.1, rfl, rfl, lst_of gD, rfl, .ref D, rfl, D, _, 2, .ref q3.1, rfl, rfl, lst_of gD, rfl, (by show 4 ≤ sizeLine; decide), fun z nz => ?_⟩
    have sz := Same.new (H := Ha) (p := z) (o := .tup [.ref p, .ref q1.1, .ref q2.1, .ref q3.1]) nz
    exact q _ z ⟨a, q1.2, q2.2, q3.2⟩ (bB.trans ((But.of sA).trans (ba.trans (But.of sz)))) ((ma.same sz).up (by omega)) ⟨p, q1.1, q2.1, q3.1, tup_of upd_same, Same.tup sz (ba.seqT m9 hp), Same.tup sz (ba.seqT m9 (Same.tup sA k1.1)), Same.tup sz (ba.seqT m9 (Same.tup sA k2.1)), Same.tup sz (ba.seqT m9 (Same.tup sA k3.1))⟩ ⟨a0, aB, k1.2, k2.2, k3.2⟩
end
end K06
set_option Elab.async false
set_option linter.all false
set_option maxRecDepth 100000
set_option maxHeartbeats 400000
namespace K06
open PySem PySem.Spec PyProof.Rows L2 Gd QM
theorem qpow_ne {a : Rat} (h : a ≠ 0) : ∀ k : Nat, a ^ k ≠ 0
  | 0 => by
    rw [Rat.pow_zero]
    decide
  | k + 1 => by
    rw [Rat.pow_succ]
    exact qmul_ne (qpow_ne h k) h
section
variable {P : Program} {w : World} {K : PySem.W.Frag} {mg : Str → Option Value} {base : Heap}
def sp_law_joined (K : PySem.W.Frag) : Sp := fun vs H Q _ => ∃ (p o : Addr) (c d : Ch), vs = [.ref p, .ref o] ∧ ChAt K H p c ∧ ChAt K H o d ∧ ChB 3 c ∧ ChB 3 d ∧ ∀ H' t, Same H H' → ChAt K H' t (thenC c d) → Q (.ref t) H'
abbrev s__law_joined : Stmt := topS 42
theorem sc__law_joined : FnScope ["change", "other", "x", "y", "far_x", "far_y", "u", "made_x", "made_y", "s"] ["change", "other"] (defScope s__law_joined) := ⟨rfl, rfl, rfl, by decide +kernel, rfl, by decide +kernel, by decide +kernel⟩
theorem k_law_joined (T : Tx K mg) (D : Df K mg "_law_joined" s__law_joined ["change", "other"]) (c_law_letters : Kl P w K mg base 5 "_law_letters" (sp_law_letters K)) (c_law_by : Kl P w K mg base 3 "_law_by" (sp_law_by K)) (c_law_poly_plus : Kl P w K mg base 4 "_law_poly_plus" (sp_law_poly_plus K)) (c_law_over : Kl P w K mg base 3 "_law_over" (sp_law_over K)) (c_law_poly_by : Kl P w K mg base 4 "_law_poly_by" (sp_law_poly_by K)) (c_law_power : Kl P w K mg base 4 "_law_power" (sp_law_power K)) : Kl P w K mg base 6 "_law_joined" (sp_law_joined K) := by
  have nd := sc__law_joined.nd
  refine Kl.by_body D sc__law_joined (fun vs H Q E h => ?_) (fun f cdv A outer s H vs Q E hr h => ?_)
  · obtain ⟨_, _, _, _, rfl, _⟩ := h
    rfl
  · obtain ⟨p, o, c, d, rfl, hc, hd, hB, hD, q⟩ := h
    have hu1 := hu_of hr
    refine ⟨_, (pss_cons (ps_asg (pe_k c_law_letters  hr (by decide) (by rfl) (pa_cons (pv 0) pa_nil)) (pg_tup rfl (pgs_cons (pg_name (i := 2) nd rfl (by first | exact Or.inl rfl | exact Or.inr rfl)) (pgs_cons (pg_name (i := 3) nd rfl (by first | exact Or.inl rfl | exact Or.inr rfl)) pgs_nil))))
      (pss_cons (ps_asg (pe_k c_law_letters  hr (by decide) (by rfl) (pa_cons (pv 1) pa_nil)) (pg_tup rfl (pgs_cons (pg_name (i := 4) nd rfl (by first | exact Or.inl rfl | exact Or.inr rfl)) (pgs_cons (pg_name (i := 5) nd rfl (by first | exact Or.inl rfl | exact Or.inr rfl)) pgs_nil))))
      (pss_cons (ps_set (i := 6) nd rfl (by first | exact Or.inl rfl | exact Or.inr rfl) (pe_k c_law_by  hr (by decide) (by rfl) (pa_cons (pe_ix ix_tup (pv 0) pe_int (fun _ _ => rfl)) (pa_cons (pe_ix ix_tup (pv 1) pe_int (fun _ _ => rfl)) pa_nil))))
      (pss_cons (ps_set (i := 7) nd rfl (by first | exact Or.inl rfl | exact Or.inr rfl) (pe_k c_law_poly_plus  hr (by decide) (by rfl) (pa_cons (pe_dispT hu1 (pps_cons (pe_tup (pa_cons pe_int (pa_cons pe_int pa_nil))) (pe_ix ix_tup (pv 0) pe_int (fun _ _ => rfl)) pps_nil) (by rfl) (by rfl) (fun z => by cases z) (by decide)) (pa_cons (pe_k c_law_poly_by  hr (by decide) (by rfl) (pa_cons (pe_dispT hu1 (pps_cons (pe_tup (pa_cons pe_int (pa_cons pe_int pa_nil))) (pe_dget hu1 (pv 2) (pe_tup (pa_cons pe_int (pa_cons pe_int pa_nil))) (fun _ _ => rfl)) pps_nil) (by rfl) (by rfl) (fun z => by cases z) (by decide)) (pa_cons (pv 4) pa_nil))) (pa_cons pe_int pa_nil)))))
      (pss_cons (ps_set (i := 8) nd rfl (by first | exact Or.inl rfl | exact Or.inr rfl) (pe_k c_law_poly_plus  hr (by decide) (by rfl) (pa_cons (pe_dispT hu1 (pps_cons (pe_tup (pa_cons pe_int (pa_cons pe_int pa_nil))) (pe_ix ix_tup (pv 0) pe_int (fun _ _ => rfl)) pps_nil) (by rfl) (by rfl) (fun z => by cases z) (by decide)) (pa_cons (pe_k c_law_poly_by  hr (by decide) (by rfl) (pa_cons (pe_dispT hu1 (pps_cons (pe_tup (pa_cons pe_int (pa_cons pe_int pa_nil))) (pe_dget hu1 (pv 3) (pe_tup (pa_cons pe_int (pa_cons pe_int pa_nil))) (fun _ _ => rfl)) pps_nil) (by rfl) (by rfl) (fun z => by cases z) (by decide)) (pa_cons (pv 5) pa_nil))) (pa_cons pe_int pa_nil)))))
      (pss_cons (ps_set (i := 8) nd rfl (by first | exact Or.inl rfl | exact Or.inr rfl) (pe_k c_law_poly_plus  hr (by decide) (by rfl) (pa_cons (pv 8) (pa_cons (pe_k c_law_poly_by  hr (by decide) (by rfl) (pa_cons (pe_dispT hu1 (pps_cons (pe_tup (pa_cons pe_int (pa_cons pe_int pa_nil))) (pe_dget hu1 (pv 3) (pe_tup (pa_cons pe_int (pa_cons pe_int pa_nil))) (fun _ _ => rfl)) pps_nil) (by rfl) (by rfl) (fun z => by cases z) (by decide)) (pa_cons (pv 4) pa_nil))) (pa_cons pe_int pa_nil)))))
      (pss_cons (ps_set (i := 9) nd rfl (by first | exact Or.inl rfl | exact Or.inr rfl) (pe_k c_law_over  hr (by decide) (by rfl) (pa_cons (pe_dget hu1 (pv 8) (pe_tup (pa_cons pe_int (pa_cons pe_int pa_nil))) (fun _ _ => rfl)) (pa_cons (pe_k c_law_power  hr (by decide) (by rfl) (pa_cons (pv 6) (pa_cons pe_int pa_nil))) pa_nil))))
      (pss_one (ps_ret (pe_tup (pa_cons (pv 6) (pa_cons (pe_dget hu1 (pv 7) (pe_tup (pa_cons pe_int (pa_cons pe_int pa_nil))) (fun _ _ => rfl)) (pa_cons (pv 9) (pa_cons (pe_dget hu1 (pv 8) (pe_tup (pa_cons pe_int (pa_cons pe_int pa_nil))) (fun _ _ => rfl)) pa_nil)))))))))))))), ?_⟩
    refine ⟨.ref p, rfl, p, c, rfl, hc, hB, fun H1 t1 px py s1 g1 pX1 pY1 => ?_⟩
    refine ⟨t1, _, rfl, tup_of g1, rfl, _, _, rfl, _, _, rfl, rfl, ?_⟩
    first | refine sigN [some (.ref p), some (.ref o), some (.ref px), some (.ref py), none, none, none, none, none, none] (by rfl) ?_ | refine sig [some (.ref p), some (.ref o), some (.ref px), some (.ref py), none, none, none, none, none, none] (by rfl) ?_
    refine ⟨.ref o, rfl, o, d, rfl, hd.same s1, hD, fun H2 t2 fx_ fy_ s2 g2 pX2 pY2 => ?_⟩
    refine ⟨t2, _, rfl, tup_of g2, rfl, _, _, rfl, _, _, rfl, rfl, ?_⟩
    first | refine sigN [some (.ref p), some (.ref o), some (.ref px), some (.ref py), some (.ref fx_), some (.ref fy_), none, none, none, none] (by rfl) ?_ | refine sig [some (.ref p), some (.ref o), some (.ref px), some (.ref py), some (.ref fx_), some (.ref fy_), none, none, none, none] (by rfl) ?_
    have s12 := s1.trans s2
    have pXc := pX1.same s2
    have pYc := pY1.same s2
    obtain ⟨pu, pr, ps, pt, hp, hu, hr', hs, ht⟩ := hc.same s12
    obtain ⟨pvv, pq, pw, pz, ho, hv, hq, hw, hz⟩ := hd.same s12
    clear g1 g2 pX1 pY1
    refine ⟨.ref p, rfl, p, _, 0, .ref pu, rfl, rfl, hp, rfl, .ref o, rfl, o, _, 0, .ref pvv, rfl, rfl, ho, rfl, pu, pvv, _, _, rfl, hu, hv, hB.u.up (by decide), hD.u.up (by decide), trivial, fun uu nuu => ?_⟩
    have s3 := Same.new (H := H2) (p := uu) (o := .tup (fq (c.u * d.u))) nuu
    have g3 : upd H2 uu (.tup (fq (c.u * d.u))) uu = some (.tup (fq (c.u * d.u))) := upd_same
    generalize upd H2 uu (.tup (fq (c.u * d.u))) = H3 at s3 g3 ⊢
    first | refine sigN [some (.ref p), some (.ref o), some (.ref px), some (.ref py), some (.ref fx_), some (.ref fy_), some (.ref uu), none, none, none] (by rfl) ?_ | refine sig [some (.ref p), some (.ref o), some (.ref px), some (.ref py), some (.ref fx_), some (.ref fy_), some (.ref uu), none, none, none] (by rfl) ?_
    intro dp1 ndp1
    have sa1 := Same.new (H := H3) (p := dp1) (o := .dT []) ndp1
    have ga1 : upd H3 dp1 (.dT []) dp1 = some (.dT []) := upd_same
    generalize upd H3 dp1 (.dT []) = Ha1 at sa1 ga1 ⊢
    refine ⟨(by show 2 ≤ sizeLine; decide), fun tk1 ntk1 => ?_⟩
    have sb1 := Same.new (H := Ha1) (p := tk1) (o := .tup [.int 0, .int 0]) ntk1
    have gb1 : upd Ha1 tk1 (.tup [.int 0, .int 0]) tk1 = some (.tup [.int 0, .int 0]) := upd_same
    generalize upd Ha1 tk1 (.tup [.int 0, .int 0]) = Hb1 at sb1 gb1 ⊢
    refine ⟨.ref p, rfl, p, _, 1, .ref pr, rfl, rfl, Same.tup (s3.trans (sa1.trans sb1)) hp, rfl, ?_⟩
    obtain ⟨Hv1, hHv1⟩ : ∃ X, X = Hb1 := ⟨_, rfl⟩
    have sv1 : Same Hb1 Hv1 := hHv1 ▸ Same.refl _
    rw [← hHv1]
    have gdp1 := (sb1.trans sv1) _ _ ga1
    have rD1 : PR K Hv1 11 [(kk (0, 0), .ref pr)] [((0, 0), c.r)] := .cons ⟨rfl, pr, rfl, Same.tup (s3.trans (sa1.trans (sb1.trans sv1))) hr', hB.r.up (by decide)⟩ .nil
    refine ⟨gdp1, [(kk (0, 0), .ref pr)], .cons ⟨⟨tk1, rfl, sv1 _ _ gb1⟩, rfl⟩ .nil, (by show 1 ≤ 15; decide), ?_⟩
    have P1 := pat_disp gdp1 rD1 rfl
    have sd1 : Same H3 (upd Hv1 dp1 (.dT (mergeT [] [(kk (0, 0), .ref pr)]))) := Same.put (sa1.trans (sb1.trans sv1)) ndp1
    generalize upd Hv1 dp1 (.dT (mergeT [] [(kk (0, 0), .ref pr)])) = Hd1 at P1 sd1 ⊢
    intro dp2 ndp2
    have sa2 := Same.new (H := Hd1) (p := dp2) (o := .dT []) ndp2
    have ga2 : upd Hd1 dp2 (.dT []) dp2 = some (.dT []) := upd_same
    generalize upd Hd1 dp2 (.dT []) = Ha2 at sa2 ga2 ⊢
    refine ⟨(by show 2 ≤ sizeLine; decide), fun tk2 ntk2 => ?_⟩
    have sb2 := Same.new (H := Ha2) (p := tk2) (o := .tup [.int 0, .int 0]) ntk2
    have gb2 : upd Ha2 tk2 (.tup [.int 0, .int 0]) tk2 = some (.tup [.int 0, .int 0]) := upd_same
    generalize upd Ha2 tk2 (.tup [.int 0, .int 0]) = Hb2 at sb2 gb2 ⊢
    refine ⟨_, rfl, (by show 2 ≤ sizeLine; decide), fun tl2 ntl2 => ?_⟩
    have sv2 := Same.new (H := Hb2) (p := tl2) (o := .tup [.int 1, .int 0]) ntl2
    have gl2 : upd Hb2 tl2 (.tup [.int 1, .int 0]) tl2 = some (.tup [.int 1, .int 0]) := upd_same
    generalize upd Hb2 tl2 (.tup [.int 1, .int 0]) = Hv2 at sv2 gl2 ⊢
    obtain ⟨kv2, gx2, rx2⟩ := (pXc.same (s3.trans (sd1.trans (sa2.trans sb2)))).same sv2
    obtain ⟨a2, ha2, q2, b2⟩ := Fnd.some (q := c.u ^ 2) (rx2.val (1, 0))
    refine ⟨px, .ref a2, rfl, .inr ⟨kv2, kk (1, 0), tl2, .inl gx2, rfl, gl2, ha2.symm⟩, ?_⟩
    have gdp2 := (sb2.trans sv2) _ _ ga2
    have rD2 : PR K Hv2 11 [(kk (0, 0), .ref a2)] [((0, 0), c.u ^ 2)] := .cons ⟨rfl, a2, rfl, q2, b2⟩ .nil
    refine ⟨gdp2, [(kk (0, 0), .ref a2)], .cons ⟨⟨tk2, rfl, sv2 _ _ gb2⟩, rfl⟩ .nil, (by show 1 ≤ 15; decide), ?_⟩
    have P2 := pat_disp gdp2 rD2 rfl
    have sd2 : Same Hd1 (upd Hv2 dp2 (.dT (mergeT [] [(kk (0, 0), .ref a2)]))) := Same.put (sa2.trans (sb2.trans sv2)) ndp2
    generalize upd Hv2 dp2 (.dT (mergeT [] [(kk (0, 0), .ref a2)])) = Hd2 at P2 sd2 ⊢
    refine ⟨.ref fx_, rfl, dp2, fx_, [((0, 0), c.u ^ 2)], pX d, 11, 11, rfl, P2, pX2.same (s3.trans (sd1.trans sd2)), (by show 1 * 2 * (11 + 11 + 1) + 1 ≤ 4000; decide), (by show 1 * 2 ≤ 1000; decide), by decide, by decide, fun H4 tb s4 ntb pB => ?_⟩
    rw [eX0] at pB
    have pB' : PAt K H4 tb (mX0 c d) 47 := pB
    refine ⟨dp1, tb, [((0, 0), c.r)], mX0 c d, 1, 11, 47, rfl, P1.same (sd2.trans s4), pB', B.lit (by decide), ap1, (by show 1 ≤ 11; decide), (by show 11 + 2 * (47 + 13) ≤ 4000; decide), by decide, by decide, fun H5 tx s5 ntx pMX => ?_⟩
    rw [show ((1 : Int) : Rat) = 1 from rfl, eX1] at pMX
    have pMX' : PAt K H5 tx (mX c d) 131 := pMX
    have sA := s3.trans (sd1.trans (sd2.trans (s4.trans s5)))
    first | refine sigN [some (.ref p), some (.ref o), some (.ref px), some (.ref py), some (.ref fx_), some (.ref fy_), some (.ref uu), some (.ref tx), none, none] (by rfl) ?_ | refine sig [some (.ref p), some (.ref o), some (.ref px), some (.ref py), some (.ref fx_), some (.ref fy_), some (.ref uu), some (.ref tx), none, none] (by rfl) ?_
    clear pB pB' pMX P1 P2
    intro dp3 ndp3
    have sa3 := Same.new (H := H5) (p := dp3) (o := .dT []) ndp3
    have ga3 : upd H5 dp3 (.dT []) dp3 = some (.dT []) := upd_same
    generalize upd H5 dp3 (.dT []) = Ha3 at sa3 ga3 ⊢
    refine ⟨(by show 2 ≤ sizeLine; decide), fun tk3 ntk3 => ?_⟩
    have sb3 := Same.new (H := Ha3) (p := tk3) (o := .tup [.int 0, .int 0]) ntk3
    have gb3 : upd Ha3 tk3 (.tup [.int 0, .int 0]) tk3 = some (.tup [.int 0, .int 0]) := upd_same
    generalize upd Ha3 tk3 (.tup [.int 0, .int 0]) = Hb3 at sb3 gb3 ⊢
    refine ⟨.ref p, rfl, p, _, 3, .ref pt, rfl, rfl, Same.tup (sA.trans (sa3.trans sb3)) hp, rfl, ?_⟩
    obtain ⟨Hv3, hHv3⟩ : ∃ X, X = Hb3 := ⟨_, rfl⟩
    have sv3 : Same Hb3 Hv3 := hHv3 ▸ Same.refl _
    rw [← hHv3]
    have gdp3 := (sb3.trans sv3) _ _ ga3
    have rD3 : PR K Hv3 11 [(kk (0, 0), .ref pt)] [((0, 0), c.t)] := .cons ⟨rfl, pt, rfl, Same.tup (sA.trans (sa3.trans (sb3.trans sv3))) ht, hB.t.up (by decide)⟩ .nil
    refine ⟨gdp3, [(kk (0, 0), .ref pt)], .cons ⟨⟨tk3, rfl, sv3 _ _ gb3⟩, rfl⟩ .nil, (by show 1 ≤ 15; decide), ?_⟩
    have P3 := pat_disp gdp3 rD3 rfl
    have sd3 : Same H5 (upd Hv3 dp3 (.dT (mergeT [] [(kk (0, 0), .ref pt)]))) := Same.put (sa3.trans (sb3.trans sv3)) ndp3
    generalize upd Hv3 dp3 (.dT (mergeT [] [(kk (0, 0), .ref pt)])) = Hd3 at P3 sd3 ⊢
    intro dp4 ndp4
    have sa4 := Same.new (H := Hd3) (p := dp4) (o := .dT []) ndp4
    have ga4 : upd Hd3 dp4 (.dT []) dp4 = some (.dT []) := upd_same
    generalize upd Hd3 dp4 (.dT []) = Ha4 at sa4 ga4 ⊢
    refine ⟨(by show 2 ≤ sizeLine; decide), fun tk4 ntk4 => ?_⟩
    have sb4 := Same.new (H := Ha4) (p := tk4) (o := .tup [.int 0, .int 0]) ntk4
    have gb4 : upd Ha4 tk4 (.tup [.int 0, .int 0]) tk4 = some (.tup [.int 0, .int 0]) := upd_same
    generalize upd Ha4 tk4 (.tup [.int 0, .int 0]) = Hb4 at sb4 gb4 ⊢
    refine ⟨_, rfl, (by show 2 ≤ sizeLine; decide), fun tl4 ntl4 => ?_⟩
    have sv4 := Same.new (H := Hb4) (p := tl4) (o := .tup [.int 0, .int 1]) ntl4
    have gl4 : upd Hb4 tl4 (.tup [.int 0, .int 1]) tl4 = some (.tup [.int 0, .int 1]) := upd_same
    generalize upd Hb4 tl4 (.tup [.int 0, .int 1]) = Hv4 at sv4 gl4 ⊢
    obtain ⟨kv4, gx4, rx4⟩ := (pYc.same (sA.trans (sd3.trans (sa4.trans sb4)))).same sv4
    obtain ⟨a4, ha4, q4, b4⟩ := Fnd.some (q := c.u ^ 3) (rx4.val (0, 1))
    refine ⟨py, .ref a4, rfl, .inr ⟨kv4, kk (0, 1), tl4, .inl gx4, rfl, gl4, ha4.symm⟩, ?_⟩
    have gdp4 := (sb4.trans sv4) _ _ ga4
    have rD4 : PR K Hv4 11 [(kk (0, 0), .ref a4)] [((0, 0), c.u ^ 3)] := .cons ⟨rfl, a4, rfl, q4, b4⟩ .nil
    refine ⟨gdp4, [(kk (0, 0), .ref a4)], .cons ⟨⟨tk4, rfl, sv4 _ _ gb4⟩, rfl⟩ .nil, (by show 1 ≤ 15; decide), ?_⟩
    have P4 := pat_disp gdp4 rD4 rfl
    have sd4 : Same Hd3 (upd Hv4 dp4 (.dT (mergeT [] [(kk (0, 0), .ref a4)]))) := Same.put (sa4.trans (sb4.trans sv4)) ndp4
    generalize upd Hv4 dp4 (.dT (mergeT [] [(kk (0, 0), .ref a4)])) = Hd4 at P4 sd4 ⊢
    refine ⟨.ref fy_, rfl, dp4, fy_, [((0, 0), c.u ^ 3)], pY d, 11, 11, rfl, P4, pY2.same (sA.trans (sd3.trans sd4)), (by show 1 * 3 * (11 + 11 + 1) + 1 ≤ 4000; decide), (by show 1 * 3 ≤ 1000; decide), by decide, by decide, fun H6 tc s6 ntc pC => ?_⟩
    rw [eY0] at pC
    have pC' : PAt K H6 tc (mY0 c d) 70 := pC
    refine ⟨dp3, tc, [((0, 0), c.t)], mY0 c d, 1, 11, 70, rfl, P3.same (sd4.trans s6), pC', B.lit (by decide), ap1, (by show 1 ≤ 11; decide), (by show 11 + 3 * (70 + 13) ≤ 4000; decide), by decide, by decide, fun H7 ty s7 nty pMY => ?_⟩
    rw [show ((1 : Int) : Rat) = 1 from rfl, eY1] at pMY
    have pMY' : PAt K H7 ty (mY1 c d) 260 := pMY
    have sB := sA.trans (sd3.trans (sd4.trans (s6.trans s7)))
    first | refine sigN [some (.ref p), some (.ref o), some (.ref px), some (.ref py), some (.ref fx_), some (.ref fy_), some (.ref uu), some (.ref tx), some (.ref ty), none] (by rfl) ?_ | refine sig [some (.ref p), some (.ref o), some (.ref px), some (.ref py), some (.ref fx_), some (.ref fy_), some (.ref uu), some (.ref tx), some (.ref ty), none] (by rfl) ?_
    clear pC pC' pMY P3 P4
    refine ⟨_, rfl, ?_⟩
    intro dp5 ndp5
    have sa5 := Same.new (H := H7) (p := dp5) (o := .dT []) ndp5
    have ga5 : upd H7 dp5 (.dT []) dp5 = some (.dT []) := upd_same
    generalize upd H7 dp5 (.dT []) = Ha5 at sa5 ga5 ⊢
    refine ⟨(by show 2 ≤ sizeLine; decide), fun tk5 ntk5 => ?_⟩
    have sb5 := Same.new (H := Ha5) (p := tk5) (o := .tup [.int 0, .int 0]) ntk5
    have gb5 : upd Ha5 tk5 (.tup [.int 0, .int 0]) tk5 = some (.tup [.int 0, .int 0]) := upd_same
    generalize upd Ha5 tk5 (.tup [.int 0, .int 0]) = Hb5 at sb5 gb5 ⊢
    refine ⟨_, rfl, (by show 2 ≤ sizeLine; decide), fun tl5 ntl5 => ?_⟩
    have sv5 := Same.new (H := Hb5) (p := tl5) (o := .tup [.int 1, .int 0]) ntl5
    have gl5 : upd Hb5 tl5 (.tup [.int 1, .int 0]) tl5 = some (.tup [.int 1, .int 0]) := upd_same
    generalize upd Hb5 tl5 (.tup [.int 1, .int 0]) = Hv5 at sv5 gl5 ⊢
    obtain ⟨kv5, gx5, rx5⟩ := (pYc.same (sB.trans (sa5.trans sb5))).same sv5
    obtain ⟨a5, ha5, q5, b5⟩ := Fnd.some (q := c.u ^ 2 * c.s) (rx5.val (1, 0))
    refine ⟨py, .ref a5, rfl, .inr ⟨kv5, kk (1, 0), tl5, .inl gx5, rfl, gl5, ha5.symm⟩, ?_⟩
    have gdp5 := (sb5.trans sv5) _ _ ga5
    have rD5 : PR K Hv5 11 [(kk (0, 0), .ref a5)] [((0, 0), c.u ^ 2 * c.s)] := .cons ⟨rfl, a5, rfl, q5, b5⟩ .nil
    refine ⟨gdp5, [(kk (0, 0), .ref a5)], .cons ⟨⟨tk5, rfl, sv5 _ _ gb5⟩, rfl⟩ .nil, (by show 1 ≤ 15; decide), ?_⟩
    have P5 := pat_disp gdp5 rD5 rfl
    have sd5 : Same H7 (upd Hv5 dp5 (.dT (mergeT [] [(kk (0, 0), .ref a5)]))) := Same.put (sa5.trans (sb5.trans sv5)) ndp5
    generalize upd Hv5 dp5 (.dT (mergeT [] [(kk (0, 0), .ref a5)])) = Hd5 at P5 sd5 ⊢
    refine ⟨.ref fx_, rfl, dp5, fx_, [((0, 0), c.u ^ 2 * c.s)], pX d, 11, 11, rfl, P5, pX2.same (sB.trans sd5), (by show 1 * 2 * (11 + 11 + 1) + 1 ≤ 4000; decide), (by show 1 * 2 ≤ 1000; decide), by decide, by decide, fun H8 te s8 nte pE => ?_⟩
    rw [eY2] at pE
    have pE' : PAt K H8 te (mY2 c d) 47 := pE
    refine ⟨ty, te, mY1 c d, mY2 c d, 1, 260, 47, rfl, pMY'.same (sd5.trans s8), pE', B.lit (by decide), ap3, (by show 3 ≤ 260; decide), (by show 260 + 2 * (47 + 13) ≤ 4000; decide), by decide, by decide, fun H9 tz s9 ntz pMZ => ?_⟩
    rw [show ((1 : Int) : Rat) = 1 from rfl, eY3] at pMZ
    have pMZ' : PAt K H9 tz (mY c d) 380 := pMZ
    have sC := sd5.trans (s8.trans s9)
    first | refine sigN [some (.ref p), some (.ref o), some (.ref px), some (.ref py), some (.ref fx_), some (.ref fy_), some (.ref uu), some (.ref tx), some (.ref tz), none] (by rfl) ?_ | refine sig [some (.ref p), some (.ref o), some (.ref px), some (.ref py), some (.ref fx_), some (.ref fy_), some (.ref uu), some (.ref tx), some (.ref tz), none] (by rfl) ?_
    clear pE pE' pMZ P5
    have u0 : c.u * d.u ≠ 0 := qmul_ne hB.u0 hD.u0
    have uB : RB 6 (c.u * d.u) := hB.u.mul hD.u
    refine ⟨_, rfl, (by show 2 ≤ sizeLine; decide), fun tl6 ntl6 => ?_⟩
    have sv6 := Same.new (H := H9) (p := tl6) (o := .tup [.int 1, .int 0]) ntl6
    have gl6 : upd H9 tl6 (.tup [.int 1, .int 0]) tl6 = some (.tup [.int 1, .int 0]) := upd_same
    generalize upd H9 tl6 (.tup [.int 1, .int 0]) = Hv6 at sv6 gl6 ⊢
    obtain ⟨kv6, gx6, rx6⟩ := (pMZ').same sv6
    obtain ⟨a6, ha6, q6, b6⟩ := Fnd.some (q := 0 + 1 * (0 + c.u ^ 3 * (d.u ^ 2 * d.s)) + 1 * (0 + c.u ^ 2 * c.s * d.u ^ 2)) (rx6.val (1, 0))
    refine ⟨tz, .ref a6, rfl, .inr ⟨kv6, kk (1, 0), tl6, .inl gx6, rfl, gl6, ha6.symm⟩, ?_⟩
    have s39 : Same H3 H9 := sd1.trans (sd2.trans (s4.trans (s5.trans (sd3.trans (sd4.trans (s6.trans (s7.trans sC)))))))
    have gU := sv6 _ _ (s39 _ _ g3)
    refine ⟨_, rfl, uu, c.u * d.u, 6, 2, rfl, tup_of gU, uB, by decide, by decide, fun Hw tw sw ntw gw => ?_⟩
    refine ⟨a6, tw, _, _, rfl, Same.tup sw q6, tup_of gw, b6.up (by decide), (uB.pow 2).up (by decide), qpow_ne u0 2, fun ts nts => ?_⟩
    have sx := Same.new (H := Hw) (p := ts) (o := .tup (fq ((0 + 1 * (0 + c.u ^ 3 * (d.u ^ 2 * d.s)) + 1 * (0 + c.u ^ 2 * c.s * d.u ^ 2)) / (c.u * d.u) ^ 2))) nts
    have gts : (upd Hw ts (.tup (fq ((0 + 1 * (0 + c.u ^ 3 * (d.u ^ 2 * d.s)) + 1 * (0 + c.u ^ 2 * c.s * d.u ^ 2)) / (c.u * d.u) ^ 2)))) ts = some (.tup (fq ((0 + 1 * (0 + c.u ^ 3 * (d.u ^ 2 * d.s)) + 1 * (0 + c.u ^ 2 * c.s * d.u ^ 2)) / (c.u * d.u) ^ 2))) := upd_same
    generalize upd Hw ts (.tup (fq ((0 + 1 * (0 + c.u ^ 3 * (d.u ^ 2 * d.s)) + 1 * (0 + c.u ^ 2 * c.s * d.u ^ 2)) / (c.u * d.u) ^ 2))) = Hx at sx gts ⊢
    first | refine sigN [some (.ref p), some (.ref o), some (.ref px), some (.ref py), some (.ref fx_), some (.ref fy_), some (.ref uu), some (.ref tx), some (.ref tz), some (.ref ts)] (by rfl) ?_ | refine sig [some (.ref p), some (.ref o), some (.ref px), some (.ref py), some (.ref fx_), some (.ref fy_), some (.ref uu), some (.ref tx), some (.ref tz), some (.ref ts)] (by rfl) ?_
    have s6x := sv6.trans (sw.trans sx)
    refine ⟨.ref uu, rfl, ?_⟩
    refine ⟨_, rfl, (by show 2 ≤ sizeLine; decide), fun tl7 ntl7 => ?_⟩
    have sv7 := Same.new (H := Hx) (p := tl7) (o := .tup [.int 0, .int 0]) ntl7
    have gl7 : upd Hx tl7 (.tup [.int 0, .int 0]) tl7 = some (.tup [.int 0, .int 0]) := upd_same
    generalize upd Hx tl7 (.tup [.int 0, .int 0]) = Hv7 at sv7 gl7 ⊢
    obtain ⟨kv7, gx7, rx7⟩ := ((pMX'.same (sd3.trans (sd4.trans (s6.trans (s7.trans sC))))).same s6x).same sv7
    obtain ⟨a7, ha7, q7, b7⟩ := Fnd.some (q := c.r + 1 * (0 + c.u ^ 2 * d.r)) (rx7.val (0, 0))
    refine ⟨tx, .ref a7, rfl, .inr ⟨kv7, kk (0, 0), tl7, .inl gx7, rfl, gl7, ha7.symm⟩, ?_⟩
    refine ⟨.ref ts, rfl, ?_⟩
    refine ⟨_, rfl, (by show 2 ≤ sizeLine; decide), fun tl8 ntl8 => ?_⟩
    have sv8 := Same.new (H := Hv7) (p := tl8) (o := .tup [.int 0, .int 0]) ntl8
    have gl8 : upd Hv7 tl8 (.tup [.int 0, .int 0]) tl8 = some (.tup [.int 0, .int 0]) := upd_same
    generalize upd Hv7 tl8 (.tup [.int 0, .int 0]) = Hv8 at sv8 gl8 ⊢
    obtain ⟨kv8, gx8, rx8⟩ := ((pMZ'.same s6x).same sv7).same sv8
    obtain ⟨a8, ha8, q8, b8⟩ := Fnd.some (q := c.t + 1 * (0 + c.u ^ 3 * d.t) + 1 * (0 + c.u ^ 2 * c.s * d.r)) (rx8.val (0, 0))
    refine ⟨tz, .ref a8, rfl, .inr ⟨kv8, kk (0, 0), tl8, .inl gx8, rfl, gl8, ha8.symm⟩, ?_⟩
    refine ⟨(by show 4 ≤ sizeLine; decide), fun z nz => ?_⟩
    have sz := Same.new (H := Hv8) (p := z) (o := .tup [.ref uu, .ref a7, .ref ts, .ref a8]) nz
    have sE := sv7.trans (sv8.trans sz)
    exact q _ z (s12.trans (s3.trans (s39.trans (s6x.trans sE)))) ⟨uu, a7, ts, a8, tup_of upd_same, tup_of (sE _ _ (s6x _ _ (s39 _ _ g3))), sq_eq (Same.tup (sv8.trans sz) q7) (jr c d), sq_eq (tup_of (sE _ _ gts)) (js c d hB.u0 hD.u0), sq_eq (Same.tup sz q8) (jt c d)⟩
end
end K06
set_option Elab.async false
set_option linter.all false
set_option maxRecDepth 100000
set_option maxHeartbeats 400000
namespace K06
open PySem PySem.Spec PyProof.Rows L2 Gd QM
theorem ix_listK {X : Cx} {K : PySem.W.Frag} (h : X.K = K) : IxR X (rIxL K) := h ▸ ix_list
theorem ix_tupK {X : Cx} {K : PySem.W.Frag} (h : X.K = K) : IxR X (rIxT K) := h ▸ ix_tup
theorem op_in_seqK {X : Cx} {K : PySem.W.Frag} (h : X.K = K) : OpR X (compareOp .In) (rIn K false) := h ▸ op_in_seq
/-! ### a list of fractions that is being made -/
def FrQ (H : Hp) (D : Addr) (qs : List Rat) (i : Nat) : Prop := ∃ L : List Addr, H D = some (.lst (L.map V.ref)) ∧ L.length = i ∧ ∀ (j : Nat) (p : Addr), L[j]? = some p → ∃ n : Rat, qs[j]? = some n ∧ H p = some (.tup (fq n))
theorem FrQ.new {H : Hp} {D : Addr} {qs : List Rat} : FrQ (upd H D (.lst [])) D qs 0 := ⟨[], upd_same, rfl, fun j p h => by simp at h⟩
theorem FrQ.push {H : Hp} {D t : Addr} {qs : List Rat} {i : Nat} {n : Rat} (h : FrQ H D qs i) (hi : qs[i]? = some n) (nt : H t = none) (hl : i < 1000) :
    ∃ acc, (upd H t (.tup (fq n))) D = some (.lst acc) ∧ acc.length < sizeLine ∧ FrQ (upd (upd H t (.tup (fq n))) D (.lst (acc ++ [.ref t]))) D qs (i + 1) := by
  obtain ⟨L, h1, h2, h3⟩ := h
  have hDt : D ≠ t := ne_of_none h1 nt
  refine ⟨L.map V.ref, by rw [upd_ne hDt]; exact h1, by rw [List.length_map]; exact small1000 (by omega), L ++ [t], ?_, by rw [List.length_append, h2]; rfl, fun j p hj => ?_⟩
  · rw [upd_same, List.map_append]
    rfl
  · rcases Nat.lt_or_ge j L.length with z | z
    · rw [List.getElem?_append_left z] at hj
      obtain ⟨m, hm, hp⟩ := h3 j p hj
      refine ⟨m, hm, ?_⟩
      have hpD : p ≠ D := ne_of hp h1 (by intro z; cases z)
      rw [upd_ne hpD, upd_ne (ne_of_none hp nt)]
      exact hp
    · rw [List.getElem?_append_right z] at hj
      have e : j - L.length = 0 := by
        rcases Nat.eq_zero_or_pos (j - L.length) with q | q
        · exact q
        · rw [List.getElem?_eq_none (by simp; omega)] at hj
          cases hj
      rw [e] at hj
      obtain rfl := Option.some.inj hj
      have ej : j = i := by omega
      refine ⟨n, by rw [ej]; exact hi, ?_⟩
      rw [upd_ne (fun q => hDt q.symm), upd_same]
theorem FrQ.add {H : Hp} {D t : Addr} {qs : List Rat} {i : Nat} {n : Rat} (h : FrQ H D qs i) (hi : qs[i]? = some n) (gt : H t = some (.tup (fq n))) (hl : i < 1000) :
    ∃ acc, H D = some (.lst acc) ∧ acc.length < sizeLine ∧ FrQ (upd H D (.lst (acc ++ [.ref t]))) D qs (i + 1) := by
  obtain ⟨L, h1, h2, h3⟩ := h
  refine ⟨L.map V.ref, h1, by rw [List.length_map]; exact small1000 (by omega), L ++ [t], ?_, by rw [List.length_append, h2]; rfl, fun j p hj => ?_⟩
  · rw [upd_same, List.map_append]
    rfl
  · have old : ∀ (p : Addr) (n : Rat), H p = some (.tup (fq n)) → (upd H D (.lst (L.map V.ref ++ [.ref t]))) p = some (.tup (fq n)) := fun p n hp => by
      rw [upd_ne (ne_of hp h1 (by intro z; cases z))]
      exact hp
    rcases Nat.lt_or_ge j L.length with z | z
    · rw [List.getElem?_append_left z] at hj
      obtain ⟨m, hm, hp⟩ := h3 j p hj
      exact ⟨m, hm, old _ _ hp⟩
    · rw [List.getElem?_append_right z] at hj
      have e : j - L.length = 0 := by
        rcases Nat.eq_zero_or_pos (j - L.length) with q | q
        · exact q
        · rw [List.getElem?_eq_none (by simp; omega)] at hj
          cases hj
      rw [e] at hj
      obtain rfl := Option.some.inj hj
      have ej : j = i := by omega
      exact ⟨n, by rw [ej]; exact hi, old _ _ gt⟩
theorem FrQ.same {H H' : Hp} {D : Addr} {qs : List Rat} {i : Nat} (s : Same H H') (h : FrQ H D qs i) : FrQ H' D qs i := by
  obtain ⟨L, h1, h2, h3⟩ := h
  exact ⟨L, s _ _ h1, h2, fun j p e => (h3 j p e).imp fun n x => ⟨x.1, s _ _ x.2⟩⟩
theorem FrQ.five {H : Hp} {D : Addr} {a b c d e : Rat} (h : FrQ H D [a, b, c, d, e] 5) : ∃ p1 p2 p3 p4 p5, H D = some (.lst [.ref p1, .ref p2, .ref p3, .ref p4, .ref p5]) ∧ H p1 = some (.tup (fq a)) ∧ H p2 = some (.tup (fq b)) ∧ H p3 = some (.tup (fq c)) ∧ H p4 = some (.tup (fq d)) ∧ H p5 = some (.tup (fq e)) := by
  obtain ⟨L, h1, h2, h3⟩ := h
  match L, h2 with
  | [p1, p2, p3, p4, p5], _ =>
    have g : ∀ (j : Nat) (p : Addr) (n : Rat), [p1, p2, p3, p4, p5][j]? = some p → [a, b, c, d, e][j]? = some n → H p = some (.tup (fq n)) := fun j p n x y => by
      obtain ⟨m, hm, hp⟩ := h3 j p x
      rw [y] at hm
      obtain rfl := Option.some.inj hm
      exact hp
    exact ⟨p1, p2, p3, p4, p5, h1, g 0 _ _ rfl rfl, g 1 _ _ rfl rfl, g 2 _ _ rfl rfl, g 3 _ _ rfl rfl, g 4 _ _ rfl rfl⟩
theorem FrQ.seven {H : Hp} {D : Addr} {a b c d e f g : Rat} (h : FrQ H D [a, b, c, d, e, f, g] 7) : ∃ p1 p2 p3 p4 p5 p6 p7, H D = some (.lst [.ref p1, .ref p2, .ref p3, .ref p4, .ref p5, .ref p6, .ref p7]) ∧ H p1 = some (.tup (fq a)) ∧ H p2 = some (.tup (fq b)) ∧ H p3 = some (.tup (fq c)) ∧ H p4 = some (.tup (fq d)) ∧ H p5 = some (.tup (fq e)) ∧ H p6 = some (.tup (fq f)) ∧ H p7 = some (.tup (fq g)) := by
  obtain ⟨L, h1, h2, h3⟩ := h
  match L, h2 with
  | [p1, p2, p3, p4, p5, p6, p7], _ =>
    have k : ∀ (j : Nat) (p : Addr) (n : Rat), [p1, p2, p3, p4, p5, p6, p7][j]? = some p → [a, b, c, d, e, f, g][j]? = some n → H p = some (.tup (fq n)) := fun j p n x y => by
      obtain ⟨m, hm, hp⟩ := h3 j p x
      rw [y] at hm
      obtain rfl := Option.some.inj hm
      exact hp
    exact ⟨p1, p2, p3, p4, p5, p6, p7, h1, k 0 _ _ rfl rfl, k 1 _ _ rfl rfl, k 2 _ _ rfl rfl, k 3 _ _ rfl rfl, k 4 _ _ rfl rfl, k 5 _ _ rfl rfl, k 6 _ _ rfl rfl⟩
section
theorem plk (p1 p2 p3 p4 p5 p6 p7 : Rat) :
    (plook [((0, 2), p1), ((1, 1), p2), ((0, 1), p3), ((2, 0), p4), ((1, 0), p5), ((0, 0), p6), ((3, 0), p7)] (1, 1)).getD 0 = p2 ∧ (plook [((0, 2), p1), ((1, 1), p2), ((0, 1), p3), ((2, 0), p4), ((1, 0), p5), ((0, 0), p6), ((3, 0), p7)] (2, 0)).getD 0 = p4 ∧ (plook [((0, 2), p1), ((1, 1), p2), ((0, 1), p3), ((2, 0), p4), ((1, 0), p5), ((0, 0), p6), ((3, 0), p7)] (0, 1)).getD 0 = p3 ∧
    (plook [((0, 2), p1), ((1, 1), p2), ((0, 1), p3), ((2, 0), p4), ((1, 0), p5), ((0, 0), p6), ((3, 0), p7)] (1, 0)).getD 0 = p5 ∧ (plook [((0, 2), p1), ((1, 1), p2), ((0, 1), p3), ((2, 0), p4), ((1, 0), p5), ((0, 0), p6), ((3, 0), p7)] (0, 0)).getD 0 = p6 ∧ (plook [((0, 2), p1), ((1, 1), p2), ((0, 1), p3), ((2, 0), p4), ((1, 0), p5), ((0, 0), p6), ((3, 0), p7)] (3, 0)).getD 0 = p7 ∧
    (plook [((0, 2), p1), ((1, 1), p2), ((0, 1), p3), ((2, 0), p4), ((1, 0), p5), ((0, 0), p6), ((3, 0), p7)] (0, 2)).getD 0 = p1 := by
  simp [plook]
end
/-- the coefficient of a term, over u ^ 6 -/
def cfW (d : Ch) (c : Cv) (k : Int × Int) : Rat := (plook (cW d (c.a1 : Rat) (-(c.a2 : Rat)) (c.a3 : Rat) (-(c.a4 : Rat)) (-(c.a6 : Rat))) k).getD 0 / d.u ^ 6
theorem cf_all (d : Ch) (c : Cv) (h : d.u ≠ 0) : cfW d c (1, 1) = l1 d c.a1 ∧ -cfW d c (2, 0) = l2 d c.a1 c.a2 ∧ cfW d c (0, 1) = l3 d c.a1 c.a3 ∧ -cfW d c (1, 0) = l4 d c.a1 c.a2 c.a3 c.a4 ∧ -cfW d c (0, 0) = l6 d c.a1 c.a2 c.a3 c.a4 c.a6 ∧ cfW d c (3, 0) = -1 ∧ cfW d c (0, 2) = 1 := by
  unfold cfW cW
  obtain ⟨e1, e2, e3, e4, e5, e6, e7⟩ := plk (0 + d.u ^ 3 * d.u ^ 3) (0 + d.u ^ 3 * (d.u ^ 2 * d.s) + (d.u ^ 2 * d.s) * d.u ^ 3 + (c.a1 : Rat) * (0 + d.u ^ 2 * d.u ^ 3)) (0 + d.u ^ 3 * d.t + d.t * d.u ^ 3 + (c.a1 : Rat) * (0 + d.r * d.u ^ 3) + (c.a3 : Rat) * d.u ^ 3)
    (0 + (d.u ^ 2 * d.s) * (d.u ^ 2 * d.s) + (c.a1 : Rat) * (0 + d.u ^ 2 * (d.u ^ 2 * d.s)) + -1 * (0 + (0 + d.u ^ 2 * d.u ^ 2) * d.r + (0 + d.u ^ 2 * d.r + d.r * d.u ^ 2) * d.u ^ 2) + (-(c.a2 : Rat)) * (0 + d.u ^ 2 * d.u ^ 2))
    (0 + (d.u ^ 2 * d.s) * d.t + d.t * (d.u ^ 2 * d.s) + (c.a1 : Rat) * (0 + d.u ^ 2 * d.t + d.r * (d.u ^ 2 * d.s)) + (c.a3 : Rat) * (d.u ^ 2 * d.s) + -1 * (0 + (0 + d.u ^ 2 * d.r + d.r * d.u ^ 2) * d.r + (0 + d.r * d.r) * d.u ^ 2) + (-(c.a2 : Rat)) * (0 + d.u ^ 2 * d.r + d.r * d.u ^ 2) + (-(c.a4 : Rat)) * d.u ^ 2)
    (0 + d.t * d.t + (c.a1 : Rat) * (0 + d.r * d.t) + (c.a3 : Rat) * d.t + -1 * (0 + (0 + d.r * d.r) * d.r) + (-(c.a2 : Rat)) * (0 + d.r * d.r) + (-(c.a4 : Rat)) * d.r + (-(c.a6 : Rat)) * 1) (0 + -1 * (0 + (0 + d.u ^ 2 * d.u ^ 2) * d.u ^ 2))
  rw [e1, e2, e3, e4, e5, e6, e7]
  exact ⟨d11 d _ h, d20 d _ _ h, d01 d _ _ h, d10 d _ _ _ _ h, d00 d _ _ _ _ _ h, d30 d h, d02 d h⟩
/-- the equation behind i parts -/
def Ws (d : Ch) (c : Cv) : Nat → PL
  | 0 => w0 d
  | 1 => W1 d (c.a1 : Rat)
  | 2 => W2 d (c.a1 : Rat) (c.a3 : Rat)
  | 3 => W3 d (c.a1 : Rat) (c.a3 : Rat)
  | 4 => W4 d (c.a1 : Rat) (c.a3 : Rat) ((-c.a2 : Int) : Rat)
  | 5 => W5 d (c.a1 : Rat) (c.a3 : Rat) ((-c.a2 : Int) : Rat) ((-c.a4 : Int) : Rat)
  | _ => cW d (c.a1 : Rat) (-(c.a2 : Rat)) (c.a3 : Rat) (-(c.a4 : Rat)) (-(c.a6 : Rat))
def Ms : Nat → Nat
  | 0 => 208
  | 1 => 968
  | 2 => 1040
  | 3 => 3616
  | 4 => 3934
  | 5 => 3982
  | _ => 3996
theorem Ws6 (d : Ch) (c : Cv) : pplus (Ws d c 5) [((0, 0), 1)] ((-c.a6 : Int) : Rat) = Ws d c 6 := by
  show pplus (pplus (pplus (pplus (pplus (pplus (w0 d) (lXY d) (c.a1 : Rat)) (pY d) (c.a3 : Rat)) (lX3 d) (-1)) (lXX d) ((-c.a2 : Int) : Rat)) (pX d) ((-c.a4 : Int) : Rat)) [((0, 0), 1)] ((-c.a6 : Int) : Rat) = cW d (c.a1 : Rat) (-(c.a2 : Rat)) (c.a3 : Rat) (-(c.a4 : Rat)) (-(c.a6 : Rat))
  rw [eW, Rat.intCast_neg, Rat.intCast_neg, Rat.intCast_neg]
theorem ap_of {L : PL} {ks : List (Int × Int)} (h : L.map (·.1) = ks) (a : (ks.map hh).Nodup) : ((L.map (·.1)).map hh).Nodup := by
  rw [h]
  exact a
theorem Wst0 (d : Ch) (c : Cv) : pplus (Ws d c 0) (lXY d) ((c.a1 : Int) : Rat) = Ws d c 1 := by rw [Ws, Ws, W1]
theorem Wst1 (d : Ch) (c : Cv) : pplus (Ws d c 1) (pY d) ((c.a3 : Int) : Rat) = Ws d c 2 := by rw [Ws, Ws, W2]
theorem Wst2 (d : Ch) (c : Cv) : pplus (Ws d c 2) (lX3 d) ((-1 : Int) : Rat) = Ws d c 3 := by
  rw [Ws, Ws, W3]
  rfl
theorem Wst3 (d : Ch) (c : Cv) : pplus (Ws d c 3) (lXX d) ((-c.a2 : Int) : Rat) = Ws d c 4 := by rw [Ws, Ws, W4]
theorem Wst4 (d : Ch) (c : Cv) : pplus (Ws d c 4) (pX d) ((-c.a4 : Int) : Rat) = Ws d c 5 := by rw [Ws, Ws, W5]
theorem kws0 (d : Ch) (c : Cv) : (Ws d c 0).map (·.1) = k6 := by
  rw [Ws]
  exact kw0 d
theorem kws1 (d : Ch) (c : Cv) : (Ws d c 1).map (·.1) = k6 := by
  rw [Ws]
  exact kw1 d _
theorem kws2 (d : Ch) (c : Cv) : (Ws d c 2).map (·.1) = k6 := by
  rw [Ws]
  exact kw2 d _ _
theorem kws3 (d : Ch) (c : Cv) : (Ws d c 3).map (·.1) = k7 := by
  rw [Ws]
  exact kw3 d _ _
theorem kws4 (d : Ch) (c : Cv) : (Ws d c 4).map (·.1) = k7 := by
  rw [Ws]
  exact kw4 d _ _ _
theorem kws5 (d : Ch) (c : Cv) : (Ws d c 5).map (·.1) = k7 := by
  rw [Ws]
  exact kw5 d _ _ _ _
def ks7 : List (Int × Int) := [(1, 1), (2, 0), (0, 1), (1, 0), (0, 0), (3, 0), (0, 2)]
section
variable {P : Program} {w : World} {K : PySem.W.Frag} {mg : Str → Option Value} {base : Heap}
theorem fq_neg (u : Rat) : [V.int (-u.num), V.int (u.den : Int)] = fq (-u) := by
  unfold fq
  rw [Rat.neg_num, Rat.neg_den]
def sp_law_due (K : PySem.W.Frag) : Sp := fun vs H Q _ => ∃ (p o : Addr) (c : Cv) (d : Ch), vs = [.ref p, .ref o] ∧ SqT K H p c.tup ∧ CvB 12 c ∧ ChAt K H o d ∧ ChB 3 d ∧ ∀ H' t, Same H H' → LedAt K H' t d c → Q (.ref t) H'
abbrev s__law_due : Stmt := topS 41
theorem sc__law_due : FnScope ["five_v", "change", "x", "y", "xx", "xy", "whole", "part", "by", "sixth", "terms", "spot", "k"] ["five_v", "change"] (defScope s__law_due) := ⟨rfl, rfl, rfl, by decide +kernel, rfl, by decide +kernel, by decide +kernel⟩
theorem k_law_due (T : Tx K mg) (D : Df K mg "_law_due" s__law_due ["five_v", "change"]) (c_law_letters : Kl P w K mg base 5 "_law_letters" (sp_law_letters K)) (c_law_poly_by : Kl P w K mg base 4 "_law_poly_by" (sp_law_poly_by K)) (c_law_power : Kl P w K mg base 4 "_law_power" (sp_law_power K)) (c_law_poly_plus : Kl P w K mg base 4 "_law_poly_plus" (sp_law_poly_plus K)) (c_law_over : Kl P w K mg base 3 "_law_over" (sp_law_over K)) : Kl P w K mg base 6 "_law_due" (sp_law_due K) := by
  have nd := sc__law_due.nd
  refine Kl.by_body D sc__law_due (fun vs H Q E h => ?_) (fun f cdv A outer s H vs Q E hr h => ?_)
  · obtain ⟨_, _, _, _, rfl, _⟩ := h
    rfl
  · obtain ⟨p, o, c, d, rfl, hp, hc, hd, hB, q⟩ := h
    have hu1 := hu_of hr
    refine ⟨_, (pss_cons (ps_asg (pe_k c_law_letters  hr (by decide) (by rfl) (pa_cons (pv 1) pa_nil)) (pg_tup rfl (pgs_cons (pg_name (i := 2) nd rfl (by first | exact Or.inl rfl | exact Or.inr rfl)) (pgs_cons (pg_name (i := 3) nd rfl (by first | exact Or.inl rfl | exact Or.inr rfl)) pgs_nil))))
      (pss_cons (ps_par (i := 4) (j := 5) (by rfl) nd rfl rfl (by decide) rfl rfl (pa_cons (pe_k c_law_poly_by  hr (by decide) (by rfl) (pa_cons (pv 2) (pa_cons (pv 2) pa_nil))) (pa_cons (pe_k c_law_poly_by  hr (by decide) (by rfl) (pa_cons (pv 2) (pa_cons (pv 3) pa_nil))) pa_nil)) (by rfl))
      (pss_cons (ps_set (i := 6) nd rfl (by first | exact Or.inl rfl | exact Or.inr rfl) (pe_k c_law_poly_by  hr (by decide) (by rfl) (pa_cons (pv 3) (pa_cons (pv 3) pa_nil))))
      (pss_cons (ps_for PassesOwn.never rfl (pi_list (pe_lst (pa_cons (pe_tup (pa_cons (pv 5) (pa_cons (pe_ix ix_tup (pv 0) pe_int (fun _ _ => rfl)) pa_nil))) (pa_cons (pe_tup (pa_cons (pv 3) (pa_cons (pe_ix ix_tup (pv 0) pe_int (fun _ _ => rfl)) pa_nil))) (pa_cons (pe_tup (pa_cons (pe_k c_law_poly_by  hr (by decide) (by rfl) (pa_cons (pv 4) (pa_cons (pv 2) pa_nil))) (pa_cons (pe_un un_neg pe_int) pa_nil))) (pa_cons (pe_tup (pa_cons (pv 4) (pa_cons (pe_un un_neg (pe_ix ix_tup (pv 0) pe_int (fun _ _ => rfl))) pa_nil))) (pa_cons (pe_tup (pa_cons (pv 2) (pa_cons (pe_un un_neg (pe_ix ix_tup (pv 0) pe_int (fun _ _ => rfl))) pa_nil))) (pa_cons (pe_tup (pa_cons (pe_dispT hu1 (pps_cons (pe_tup (pa_cons pe_int (pa_cons pe_int pa_nil))) (pe_tup (pa_cons pe_int (pa_cons pe_int pa_nil))) pps_nil) (by rfl) (by rfl) (fun z => by cases z) (by decide)) (pa_cons (pe_un un_neg (pe_ix ix_tup (pv 0) pe_int (fun _ _ => rfl))) pa_nil))) pa_nil)))))))) (pg_tup rfl (pgs_cons (pg_name (i := 7) nd rfl (by first | exact Or.inl rfl | exact Or.inr rfl)) (pgs_cons (pg_name (i := 8) nd rfl (by first | exact Or.inl rfl | exact Or.inr rfl)) pgs_nil))) (pss_one (ps_set (i := 6) nd rfl (by first | exact Or.inl rfl | exact Or.inr rfl) (pe_k c_law_poly_plus  hr (by decide) (by rfl) (pa_cons (pv 6) (pa_cons (pv 7) (pa_cons (pv 8) pa_nil)))))))
      (pss_cons (ps_set (i := 9) nd rfl (by first | exact Or.inl rfl | exact Or.inr rfl) (pe_k c_law_power  hr (by decide) (by rfl) (pa_cons (pe_ix ix_tup (pv 1) pe_int (fun _ _ => rfl)) (pa_cons pe_int pa_nil))))
      (pss_cons (ps_set (i := 10) nd rfl (by first | exact Or.inl rfl | exact Or.inr rfl) (pe_lc (own := [("spot", 11)]) (g := gName 11) rfl nd (pi_list (pe_lst (pa_cons (pe_tup (pa_cons pe_int (pa_cons pe_int pa_nil))) (pa_cons (pe_tup (pa_cons pe_int (pa_cons pe_int pa_nil))) (pa_cons (pe_tup (pa_cons pe_int (pa_cons pe_int pa_nil))) (pa_cons (pe_tup (pa_cons pe_int (pa_cons pe_int pa_nil))) (pa_cons (pe_tup (pa_cons pe_int (pa_cons pe_int pa_nil))) (pa_cons (pe_tup (pa_cons pe_int (pa_cons pe_int pa_nil))) (pa_cons (pe_tup (pa_cons pe_int (pa_cons pe_int pa_nil))) pa_nil))))))))) (blkOk_by (N := ["five_v", "change", "x", "y", "xx", "xy", "whole", "part", "by", "sixth", "terms", "spot", "k"]) (sc := defScope s__law_due) (by decide +kernel)) (fun _ _ _ _ _ => (pg_name (i := 11) nd rfl (by first | exact Or.inl rfl | exact Or.inr rfl))) (fun _ _ _ _ _ => pts_nil) (fun _ _ _ _ _ => (pe_k c_law_over  hr (by decide) (by rfl) (pa_cons (pe_dget2 hu1 (pv 6) (pv 11) (pe_tup (pa_cons pe_int (pa_cons pe_int pa_nil))) ⟨rfl, rfl, rfl, rfl⟩) (pa_cons (pv 9) pa_nil))))))
      (pss_cons (ps_if (pt_cmpR (op_neD hr.units) (pe_slice sl_list (pv 10) (po_some pe_int) po_none) (pe_lst (pa_cons (pe_tup (pa_cons (pe_un un_neg pe_int) (pa_cons pe_int pa_nil))) (pa_cons (pe_tup (pa_cons pe_int (pa_cons pe_int pa_nil))) pa_nil))) (nomark _)) (pss_one (ps_ret pe_non)) pss_nil)
      (pss_one (ps_ret (pe_callTy call_tuple_of (by rfl) T.tuple (by decide +kernel) (pa_cons (pe_lc (own := [("k", 12)]) (g := gName 12) rfl nd (pi_range1 (by rfl) T.range (pa_cons pe_int pa_nil)) (blkOk_by (N := ["five_v", "change", "x", "y", "xx", "xy", "whole", "part", "by", "sixth", "terms", "spot", "k"]) (sc := defScope s__law_due) (by decide +kernel)) (fun _ _ _ _ _ => (pg_name (i := 12) nd rfl (by first | exact Or.inl rfl | exact Or.inr rfl))) (fun _ _ _ _ _ => pts_nil) (fun _ _ _ _ _ => (pe_ifExp (pt_cmpR (op_in_seqK (K := K) rfl) (pv 12) (pe_tup (pa_cons pe_int (pa_cons pe_int pa_nil))) rfl) (pe_ix (ix_listK (K := K) rfl) (pv 10) (pv 12) (fun _ _ => rfl)) (pe_tup (pa_cons (pe_un un_neg (pe_ix (ix_tupK (K := K) rfl) (pe_ix (ix_listK (K := K) rfl) (pv 10) (pv 12) (fun _ _ => rfl)) pe_int (fun _ _ => rfl))) (pa_cons (pe_ix (ix_tupK (K := K) rfl) (pe_ix (ix_listK (K := K) rfl) (pv 10) (pv 12) (fun _ _ => rfl)) pe_int (fun _ _ => rfl)) pa_nil)))))) pa_nil))))))))))), ?_⟩
    refine ⟨.ref o, rfl, o, d, rfl, hd, hB, fun H1 t1 px py s1 g1 pX1 pY1 => ?_⟩
    refine ⟨t1, _, rfl, tup_of g1, rfl, _, _, rfl, _, _, rfl, rfl, ?_⟩
    first | refine sigN [some (.ref p), some (.ref o), some (.ref px), some (.ref py), none, none, none, none, none, none, none, none, none] (by rfl) ?_ | refine sig [some (.ref p), some (.ref o), some (.ref px), some (.ref py), none, none, none, none, none, none, none, none, none] (by rfl) ?_
    refine ⟨.ref px, rfl, .ref px, rfl, px, px, pX d, pX d, 11, 11, rfl, pX1, pX1, (by show 2 * 2 * (11 + 11 + 1) + 1 ≤ 4000; decide), (by show 2 * 2 ≤ 1000; decide), by decide, by decide, fun H2 txx s2 nxx pxx => ?_⟩
    have pXX : PAt K H2 txx (lXX d) 93 := by
      rw [← eXX]
      exact pxx
    refine ⟨.ref px, rfl, .ref py, rfl, px, py, pX d, pY d, 11, 11, rfl, pX1.same s2, pY1.same s2, (by show 2 * 3 * (11 + 11 + 1) + 1 ≤ 4000; decide), (by show 2 * 3 ≤ 1000; decide), by decide, by decide, fun H3 txy s3 nxy pxy => ?_⟩
    have pXY : PAt K H3 txy (lXY d) 139 := by
      rw [← eXY]
      exact pxy
    refine ⟨_, _, rfl, ?_⟩
    first | refine sigN [some (.ref p), some (.ref o), some (.ref px), some (.ref py), some (.ref txx), some (.ref txy), none, none, none, none, none, none, none] (by rfl) ?_ | refine sig [some (.ref p), some (.ref o), some (.ref px), some (.ref py), some (.ref txx), some (.ref txy), none, none, none, none, none, none, none] (by rfl) ?_
    refine ⟨.ref py, rfl, .ref py, rfl, py, py, pY d, pY d, 11, 11, rfl, pY1.same (s2.trans s3), pY1.same (s2.trans s3), (by show 3 * 3 * (11 + 11 + 1) + 1 ≤ 4000; decide), (by show 3 * 3 ≤ 1000; decide), by decide, by decide, fun H4 tw s4 nw pw => ?_⟩
    have pW : PAt K H4 tw (w0 d) 208 := by
      rw [← eYY]
      exact pw
    first | refine sigN [some (.ref p), some (.ref o), some (.ref px), some (.ref py), some (.ref txx), some (.ref txy), some (.ref tw), none, none, none, none, none, none] (by rfl) ?_ | refine sig [some (.ref p), some (.ref o), some (.ref px), some (.ref py), some (.ref txx), some (.ref txy), some (.ref tw), none, none, none, none, none, none] (by rfl) ?_
    have s14 := s2.trans (s3.trans s4)
    have sA := s1.trans s14
    have hp4 := Same.tup sA hp
    have pX4 := pX1.same s14
    have pY4 := pY1.same s14
    have pXX4 := pXX.same (s3.trans s4)
    have pXY4 := pXY.same s4
    clear g1 pX1 pY1 pxx pxy pw pXX pXY
    refine ⟨.ref txy, rfl, .ref p, rfl, p, _, 0, .int c.a1, rfl, rfl, hp4, rfl, (by show 2 ≤ sizeLine; decide), fun u1 nu1 => ?_⟩
    have sq1 := Same.new (H := H4) (p := u1) (o := .tup [.ref txy, .int c.a1]) nu1
    have gq1 : upd H4 u1 (.tup [.ref txy, .int c.a1]) u1 = some (.tup [.ref txy, .int c.a1]) := upd_same
    generalize upd H4 u1 (.tup [.ref txy, .int c.a1]) = H5 at sq1 gq1 ⊢
    refine ⟨.ref py, rfl, .ref p, rfl, p, _, 2, .int c.a3, rfl, rfl, Same.tup sq1 hp4, rfl, (by show 2 ≤ sizeLine; decide), fun u2 nu2 => ?_⟩
    have sq2 := Same.new (H := H5) (p := u2) (o := .tup [.ref py, .int c.a3]) nu2
    have gq2 : upd H5 u2 (.tup [.ref py, .int c.a3]) u2 = some (.tup [.ref py, .int c.a3]) := upd_same
    generalize upd H5 u2 (.tup [.ref py, .int c.a3]) = H6 at sq2 gq2 ⊢
    have sB := sq1.trans sq2
    refine ⟨.ref txx, rfl, .ref px, rfl, txx, px, lXX d, pX d, 93, 11, rfl, pXX4.same sB, pX4.same sB, (by show 3 * 2 * (93 + 11 + 1) + 1 ≤ 4000; decide), (by show 3 * 2 ≤ 1000; decide), by decide, by decide, fun H7 tx3 s7 nx3 px3 => ?_⟩
    have pX3 : PAt K H7 tx3 (lX3 d) 631 := by
      rw [← eX3]
      exact px3
    refine ⟨_, rfl, (by show 2 ≤ sizeLine; decide), fun u3 nu3 => ?_⟩
    have sq3 := Same.new (H := H7) (p := u3) (o := .tup [.ref tx3, .int (-1)]) nu3
    have gq3 : upd H7 u3 (.tup [.ref tx3, .int (-1)]) u3 = some (.tup [.ref tx3, .int (-1)]) := upd_same
    generalize upd H7 u3 (.tup [.ref tx3, .int (-1)]) = H8 at sq3 gq3 ⊢
    have sC := sB.trans (s7.trans sq3)
    refine ⟨.ref txx, rfl, .ref p, rfl, p, _, 1, .int c.a2, rfl, rfl, Same.tup sC hp4, rfl, _, rfl, (by show 2 ≤ sizeLine; decide), fun u4 nu4 => ?_⟩
    have sq4 := Same.new (H := H8) (p := u4) (o := .tup [.ref txx, .int (-c.a2)]) nu4
    have gq4 : upd H8 u4 (.tup [.ref txx, .int (-c.a2)]) u4 = some (.tup [.ref txx, .int (-c.a2)]) := upd_same
    generalize upd H8 u4 (.tup [.ref txx, .int (-c.a2)]) = H9 at sq4 gq4 ⊢
    refine ⟨.ref px, rfl, .ref p, rfl, p, _, 3, .int c.a4, rfl, rfl, Same.tup (sC.trans sq4) hp4, rfl, _, rfl, (by show 2 ≤ sizeLine; decide), fun u5 nu5 => ?_⟩
    have sq5 := Same.new (H := H9) (p := u5) (o := .tup [.ref px, .int (-c.a4)]) nu5
    have gq5 : upd H9 u5 (.tup [.ref px, .int (-c.a4)]) u5 = some (.tup [.ref px, .int (-c.a4)]) := upd_same
    generalize upd H9 u5 (.tup [.ref px, .int (-c.a4)]) = Ha at sq5 gq5 ⊢
    have sD := sC.trans (sq4.trans sq5)
    intro dc ndc
    have sb := Same.new (H := Ha) (p := dc) (o := .dT []) ndc
    have gb : upd Ha dc (.dT []) dc = some (.dT []) := upd_same
    generalize upd Ha dc (.dT []) = Hb at sb gb ⊢
    refine ⟨(by show 2 ≤ sizeLine; decide), fun tk ntk => ?_⟩
    have sc := Same.new (H := Hb) (p := tk) (o := .tup [.int 0, .int 0]) ntk
    have gc : upd Hb tk (.tup [.int 0, .int 0]) tk = some (.tup [.int 0, .int 0]) := upd_same
    generalize upd Hb tk (.tup [.int 0, .int 0]) = Hc at sc gc ⊢
    refine ⟨(by show 2 ≤ sizeLine; decide), fun tv ntv => ?_⟩
    have sd := Same.new (H := Hc) (p := tv) (o := .tup [.int 1, .int 1]) ntv
    have gd : upd Hc tv (.tup [.int 1, .int 1]) tv = some (.tup [.int 1, .int 1]) := upd_same
    generalize upd Hc tv (.tup [.int 1, .int 1]) = Hd at sd gd ⊢
    have gdc := (sc.trans sd) _ _ gb
    have gv : SqT K Hd tv (fq 1) := tup_of gd
    have rD : PR K Hd 1 [(kk (0, 0), .ref tv)] [((0, 0), 1)] := .cons ⟨rfl, tv, rfl, gv, RB.one⟩ .nil
    refine ⟨gdc, [(kk (0, 0), .ref tv)], .cons ⟨⟨tk, rfl, sd _ _ gc⟩, rfl⟩ .nil, (by show 1 ≤ 15; decide), ?_⟩
    have pC := pat_disp gdc rD rfl
    have sE : Same Ha (upd Hd dc (.dT (mergeT [] [(kk (0, 0), .ref tv)]))) := Same.put (sb.trans (sc.trans sd)) ndc
    generalize upd Hd dc (.dT (mergeT [] [(kk (0, 0), .ref tv)])) = He at pC sE ⊢
    refine ⟨.ref p, rfl, p, _, 4, .int c.a6, rfl, rfl, Same.tup (sD.trans sE) hp4, rfl, _, rfl, (by show 2 ≤ sizeLine; decide), fun u6 nu6 => ?_⟩
    have sq6 := Same.new (H := He) (p := u6) (o := .tup [.ref dc, .int (-c.a6)]) nu6
    have gq6 : upd He u6 (.tup [.ref dc, .int (-c.a6)]) u6 = some (.tup [.ref dc, .int (-c.a6)]) := upd_same
    generalize upd He u6 (.tup [.ref dc, .int (-c.a6)]) = Hf at sq6 gq6 ⊢
    refine ⟨(by show 6 ≤ sizeLine; decide), fun l nl => ?_⟩
    have sg := Same.new (H := Hf) (p := l) (o := .lst [.ref u1, .ref u2, .ref u3, .ref u4, .ref u5, .ref u6]) nl
    have gl : upd Hf l (.lst [.ref u1, .ref u2, .ref u3, .ref u4, .ref u5, .ref u6]) l = some (.lst [.ref u1, .ref u2, .ref u3, .ref u4, .ref u5, .ref u6]) := upd_same
    generalize upd Hf l (.lst [.ref u1, .ref u2, .ref u3, .ref u4, .ref u5, .ref u6]) = Hg at sg gl ⊢
    have z6 := sq6.trans sg
    have z5 := sE.trans z6
    have z4 := sq5.trans z5
    have z3 := sq4.trans z4
    have z2 := s7.trans (sq3.trans z3)
    have zAll := sB.trans z2
    have k1 := (sq2.trans z2) _ _ gq1
    have k2 := z2 _ _ gq2
    have k3 := z3 _ _ gq3
    have k4 := z4 _ _ gq4
    have k5 := z5 _ _ gq5
    have k6' := sg _ _ gq6
    have pXg := pX4.same zAll
    have pYg := pY4.same zAll
    have pXXg := pXX4.same zAll
    have pXYg := pXY4.same zAll
    have pX3g := pX3.same (sq3.trans z3)
    have pCg := pC.same z6
    have pWg := pW.same zAll
    have sG := sA.trans zAll
    have b1 : B 12 (-1 : Int) := B.lit (by decide)
    clear zAll z2 z3 z4 z5 z6 gq1 gq2 gq3 gq4 gq5 gq6 pX4 pY4 pXX4 pXY4 pX3 pC pW sB sC sD sE sq1 sq2 sq3 sq4 sq5 sq6 px3 gdc rD gb gc gd
    refine ⟨l, rfl, ⟨_, lst_of gl⟩, for_list (K := K) (a := l) (xs := [.ref u1, .ref u2, .ref u3, .ref u4, .ref u5, .ref u6]) (fun i σ H2 => Same Hg H2 ∧ ∃ (wr : Addr) (v7 v8 : Option V), σ = [some (.ref p), some (.ref o), some (.ref px), some (.ref py), some (.ref txx), some (.ref txy), some (.ref wr), v7, v8, none, none, none, none] ∧ PAt K H2 wr (Ws d c i) (Ms i)) ⟨Same.refl _, tw, none, none, rfl, pWg⟩ (fun i σ H2 _ z => lst_of (z.1 _ _ gl)) ?_ ?_⟩
    · rintro i x σ Hh hi ⟨sh, wr, v7, v8, rfl, pw⟩
      have hi6 : i < 6 := (List.getElem?_eq_some_iff.mp hi).1
      have hi6' : i = 0 ∨ i = 1 ∨ i = 2 ∨ i = 3 ∨ i = 4 ∨ i = 5 := by omega
      rcases hi6' with rfl | rfl | rfl | rfl | rfl | rfl
      · obtain rfl := Option.some.inj hi
        refine ⟨u1, _, rfl, tup_of (sh _ _ k1), rfl, _, _, rfl, _, _, rfl, rfl, ?_⟩
        refine ⟨_, rfl, _, rfl, _, rfl, wr, txy, Ws d c 0, lXY d, c.a1, 208, 139, rfl, pw, pXYg.same sh, hc.h1, ap_of (kws0 d c) ap6, (by rw [len_of (kws0 d c)]; decide), (by show 208 + 5 * (139 + 13) ≤ 4000; decide), by decide, by decide, fun Hi t si nt pn => ?_⟩
        refine ⟨sh.trans si, t, _, _, rfl, ?_⟩
        rw [Wst0] at pn
        exact pn
      · obtain rfl := Option.some.inj hi
        refine ⟨u2, _, rfl, tup_of (sh _ _ k2), rfl, _, _, rfl, _, _, rfl, rfl, ?_⟩
        refine ⟨_, rfl, _, rfl, _, rfl, wr, py, Ws d c 1, pY d, c.a3, 968, 11, rfl, pw, pYg.same sh, hc.h3, ap_of (kws1 d c) ap6, (by rw [len_of (kws1 d c)]; decide), (by show 968 + 3 * (11 + 13) ≤ 4000; decide), by decide, by decide, fun Hi t si nt pn => ?_⟩
        refine ⟨sh.trans si, t, _, _, rfl, ?_⟩
        rw [Wst1] at pn
        exact pn
      · obtain rfl := Option.some.inj hi
        refine ⟨u3, _, rfl, tup_of (sh _ _ k3), rfl, _, _, rfl, _, _, rfl, rfl, ?_⟩
        refine ⟨_, rfl, _, rfl, _, rfl, wr, tx3, Ws d c 2, lX3 d, -1, 1040, 631, rfl, pw, pX3g.same sh, b1, ap_of (kws2 d c) ap6, (by rw [len_of (kws2 d c)]; decide), (by show 1040 + 4 * (631 + 13) ≤ 4000; decide), by decide, by decide, fun Hi t si nt pn => ?_⟩
        refine ⟨sh.trans si, t, _, _, rfl, ?_⟩
        rw [Wst2] at pn
        exact pn
      · obtain rfl := Option.some.inj hi
        refine ⟨u4, _, rfl, tup_of (sh _ _ k4), rfl, _, _, rfl, _, _, rfl, rfl, ?_⟩
        refine ⟨_, rfl, _, rfl, _, rfl, wr, txx, Ws d c 3, lXX d, -c.a2, 3616, 93, rfl, pw, pXXg.same sh, hc.h2.neg, ap_of (kws3 d c) ap7, (by rw [len_of (kws3 d c)]; decide), (by show 3616 + 3 * (93 + 13) ≤ 4000; decide), by decide, by decide, fun Hi t si nt pn => ?_⟩
        refine ⟨sh.trans si, t, _, _, rfl, ?_⟩
        rw [Wst3] at pn
        exact pn
      · obtain rfl := Option.some.inj hi
        refine ⟨u5, _, rfl, tup_of (sh _ _ k5), rfl, _, _, rfl, _, _, rfl, rfl, ?_⟩
        refine ⟨_, rfl, _, rfl, _, rfl, wr, px, Ws d c 4, pX d, -c.a4, 3934, 11, rfl, pw, pXg.same sh, hc.h4.neg, ap_of (kws4 d c) ap7, (by rw [len_of (kws4 d c)]; decide), (by show 3934 + 2 * (11 + 13) ≤ 4000; decide), by decide, by decide, fun Hi t si nt pn => ?_⟩
        refine ⟨sh.trans si, t, _, _, rfl, ?_⟩
        rw [Wst4] at pn
        exact pn
      · obtain rfl := Option.some.inj hi
        refine ⟨u6, _, rfl, tup_of (sh _ _ k6'), rfl, _, _, rfl, _, _, rfl, rfl, ?_⟩
        refine ⟨_, rfl, _, rfl, _, rfl, wr, dc, Ws d c 5, [((0, 0), 1)], -c.a6, 3982, 1, rfl, pw, pCg.same sh, hc.h6.neg, ap_of (kws5 d c) ap7, (by rw [len_of (kws5 d c)]; decide), (by show 3982 + 1 * (1 + 13) ≤ 4000; decide), by decide, by decide, fun Hi t si nt pn => ?_⟩
        refine ⟨sh.trans si, t, _, _, rfl, ?_⟩
        rw [Ws6] at pn
        exact pn
    · rintro σ Hh ⟨sh, wr, v7, v8, rfl, pw⟩
      obtain ⟨pu, pr, ps, pt, ho, hu, hr', hs, ht⟩ := hd.same (sG.trans sh)
      refine ⟨.ref o, rfl, o, _, 0, .ref pu, rfl, rfl, ho, rfl, pu, d.u, 3, 6, rfl, hu, hB.u, by decide, by decide, fun Hs t6 ss n6 g6 => ?_⟩
      first | refine sigN [some (.ref p), some (.ref o), some (.ref px), some (.ref py), some (.ref txx), some (.ref txy), some (.ref wr), v7, v8, some (.ref t6), none, none, none] (by rfl) ?_ | refine sig [some (.ref p), some (.ref o), some (.ref px), some (.ref py), some (.ref txx), some (.ref txy), some (.ref wr), v7, v8, some (.ref t6), none, none, none] (by rfl) ?_
      have pw' : PAt K Hs wr (Ws d c 6) 3996 := PAt.same ss pw
      have sH := sG.trans (sh.trans ss)
      have u6 : d.u ^ 6 ≠ 0 := qpow_ne hB.u0 6
      have u6B : RB 19 (d.u ^ 6) := hB.u.pow 6
      clear pw ho hu hr' hs ht gl pXg pYg pXXg pXYg pX3g pCg pWg k1 k2 k3 k4 k5 k6' sG sh ss
      refine ⟨(by show 2 ≤ sizeLine; decide), fun y0 ny0 => ?_⟩
      have sy0 := Same.new (H := Hs) (p := y0) (o := .tup [.int 1, .int 1]) ny0
      have gy0 : upd Hs y0 (.tup [.int 1, .int 1]) y0 = some (.tup [.int 1, .int 1]) := upd_same
      generalize upd Hs y0 (.tup [.int 1, .int 1]) = Hi1 at sy0 gy0 ⊢
      refine ⟨(by show 2 ≤ sizeLine; decide), fun y1 ny1 => ?_⟩
      have sy1 := Same.new (H := Hi1) (p := y1) (o := .tup [.int 2, .int 0]) ny1
      have gy1 : upd Hi1 y1 (.tup [.int 2, .int 0]) y1 = some (.tup [.int 2, .int 0]) := upd_same
      generalize upd Hi1 y1 (.tup [.int 2, .int 0]) = Hi2 at sy1 gy1 ⊢
      refine ⟨(by show 2 ≤ sizeLine; decide), fun y2 ny2 => ?_⟩
      have sy2 := Same.new (H := Hi2) (p := y2) (o := .tup [.int 0, .int 1]) ny2
      have gy2 : upd Hi2 y2 (.tup [.int 0, .int 1]) y2 = some (.tup [.int 0, .int 1]) := upd_same
      generalize upd Hi2 y2 (.tup [.int 0, .int 1]) = Hi3 at sy2 gy2 ⊢
      refine ⟨(by show 2 ≤ sizeLine; decide), fun y3 ny3 => ?_⟩
      have sy3 := Same.new (H := Hi3) (p := y3) (o := .tup [.int 1, .int 0]) ny3
      have gy3 : upd Hi3 y3 (.tup [.int 1, .int 0]) y3 = some (.tup [.int 1, .int 0]) := upd_same
      generalize upd Hi3 y3 (.tup [.int 1, .int 0]) = Hi4 at sy3 gy3 ⊢
      refine ⟨(by show 2 ≤ sizeLine; decide), fun y4 ny4 => ?_⟩
      have sy4 := Same.new (H := Hi4) (p := y4) (o := .tup [.int 0, .int 0]) ny4
      have gy4 : upd Hi4 y4 (.tup [.int 0, .int 0]) y4 = some (.tup [.int 0, .int 0]) := upd_same
      generalize upd Hi4 y4 (.tup [.int 0, .int 0]) = Hi5 at sy4 gy4 ⊢
      refine ⟨(by show 2 ≤ sizeLine; decide), fun y5 ny5 => ?_⟩
      have sy5 := Same.new (H := Hi5) (p := y5) (o := .tup [.int 3, .int 0]) ny5
      have gy5 : upd Hi5 y5 (.tup [.int 3, .int 0]) y5 = some (.tup [.int 3, .int 0]) := upd_same
      generalize upd Hi5 y5 (.tup [.int 3, .int 0]) = Hi6 at sy5 gy5 ⊢
      refine ⟨(by show 2 ≤ sizeLine; decide), fun y6 ny6 => ?_⟩
      have sy6 := Same.new (H := Hi6) (p := y6) (o := .tup [.int 0, .int 2]) ny6
      have gy6 : upd Hi6 y6 (.tup [.int 0, .int 2]) y6 = some (.tup [.int 0, .int 2]) := upd_same
      generalize upd Hi6 y6 (.tup [.int 0, .int 2]) = Hi7 at sy6 gy6 ⊢
      refine ⟨(by show 7 ≤ sizeLine; decide), fun l2 nl2 => ?_⟩
      have sj := Same.new (H := Hi7) (p := l2) (o := .lst [.ref y0, .ref y1, .ref y2, .ref y3, .ref y4, .ref y5, .ref y6]) nl2
      have gl2 : upd Hi7 l2 (.lst [.ref y0, .ref y1, .ref y2, .ref y3, .ref y4, .ref y5, .ref y6]) l2 = some (.lst [.ref y0, .ref y1, .ref y2, .ref y3, .ref y4, .ref y5, .ref y6]) := upd_same
      generalize upd Hi7 l2 (.lst [.ref y0, .ref y1, .ref y2, .ref y3, .ref y4, .ref y5, .ref y6]) = Hj at sj gl2 ⊢
      have e6 := sy6.trans sj
      have e5 := sy5.trans e6
      have e4 := sy4.trans e5
      have e3 := sy3.trans e4
      have e2 := sy2.trans e3
      have e1 := sy1.trans e2
      have e0 := sy0.trans e1
      have pwj := pw'.same e0
      have g6j := e0 _ _ g6
      have hk : ∀ (i : Nat) (x : V), [V.ref y0, .ref y1, .ref y2, .ref y3, .ref y4, .ref y5, .ref y6][i]? = some x → ∃ a k, x = .ref a ∧ ks7[i]? = some k ∧ Hj a = some (.tup ((kk k).map kV)) := fun i x hi => by
        match i, hi with
        | 0, hi =>
          obtain rfl := Option.some.inj hi
          exact ⟨y0, (1, 1), rfl, rfl, e1 _ _ gy0⟩
        | 1, hi =>
          obtain rfl := Option.some.inj hi
          exact ⟨y1, (2, 0), rfl, rfl, e2 _ _ gy1⟩
        | 2, hi =>
          obtain rfl := Option.some.inj hi
          exact ⟨y2, (0, 1), rfl, rfl, e3 _ _ gy2⟩
        | 3, hi =>
          obtain rfl := Option.some.inj hi
          exact ⟨y3, (1, 0), rfl, rfl, e4 _ _ gy3⟩
        | 4, hi =>
          obtain rfl := Option.some.inj hi
          exact ⟨y4, (0, 0), rfl, rfl, e5 _ _ gy4⟩
        | 5, hi =>
          obtain rfl := Option.some.inj hi
          exact ⟨y5, (3, 0), rfl, rfl, e6 _ _ gy5⟩
        | 6, hi =>
          obtain rfl := Option.some.inj hi
          exact ⟨y6, (0, 2), rfl, rfl, sj _ _ gy6⟩
      have sI := sH.trans e0
      clear e0 e1 e2 e3 e4 e5 e6 gy0 gy1 gy2 gy3 gy4 gy5 gy6 sy0 sy1 sy2 sy3 sy4 sy5 sy6 sj pw' g6 sH
      refine ⟨l2, rfl, ⟨_, lst_of gl2⟩, fun D hD => ?_⟩
      refine lc_list (K := K) (a := l2) (xs := [.ref y0, .ref y1, .ref y2, .ref y3, .ref y4, .ref y5, .ref y6]) (fun i H5 => Same Hj H5 ∧ FrQ H5 D (ks7.map (cfW d c)) i) ⟨Same.new hD, FrQ.new⟩ (fun i H5 _ z => lst_of (z.1 _ _ gl2)) (fun i x H5 hi z => ?_) (fun H5 z => ?_)
      · obtain ⟨sz, hq⟩ := z
        have hi7 : i < 7 := (List.getElem?_eq_some_iff.mp hi).1
        obtain ⟨a, k, rfl, hki, hka⟩ := hk i x hi
        obtain ⟨kw, gw, rw'⟩ := pwj.same sz
        refine ⟨rfl, _, rfl, wr, rfl, .inr ⟨kw, .inl gw⟩, .ref a, rfl, (by show 2 ≤ sizeLine; decide), fun t5 nt5 => ?_⟩
        have s6 := Same.new (H := H5) (p := t5) (o := .tup [.int 0, .int 1]) nt5
        have g5 : upd H5 t5 (.tup [.int 0, .int 1]) t5 = some (.tup [.int 0, .int 1]) := upd_same
        generalize upd H5 t5 (.tup [.int 0, .int 1]) = H6 at s6 g5 ⊢
        have rw6 := rw'.mono (H' := H6) (fun _ _ => Same.tup s6) (Nat.le_refl _)
        refine ⟨valV kw (kk k), .inr ⟨kw, kk k, a, .inl (s6 _ _ gw), rfl, s6 _ _ (sz _ _ hka), rfl⟩, ?_⟩
        obtain ⟨a0, ea0, sa0, rb0⟩ := Fnd.get0 (t := t5) (rw6.val k) (tup_of g5) (by decide)
        rw [ea0]
        refine ⟨_, rfl, a0, t6, _, _, rfl, sa0, tup_of (s6 _ _ (sz _ _ g6j)), rb0.up (by decide), u6B.up (by decide), u6, fun t nt => ?_⟩
        have hi' : (ks7.map (cfW d c))[i]? = some (cfW d c k) := by
          rw [List.getElem?_map, hki]
          rfl
        obtain ⟨acc, h1, h2, h3⟩ := FrQ.push (hq.same s6) hi' nt (by omega)
        exact ⟨acc, h1, h2, Same.put (Same.put (sz.trans s6) ((sz.trans s6).free nt)) hD, h3⟩
      obtain ⟨s5, hq⟩ := z
      obtain ⟨f1, f2, f3, f4, f5, f6, f7⟩ := cf_all d c hB.u0
      have hq' : FrQ H5 D [cfW d c (1, 1), cfW d c (2, 0), cfW d c (0, 1), cfW d c (1, 0), cfW d c (0, 0), cfW d c (3, 0), cfW d c (0, 2)] 7 := hq
      obtain ⟨q1, q2, q3, q4, q5, q6, q7, gD, h1, h2, h3, h4, h5, h6, h7⟩ := hq'.seven
      have sJ := sI.trans s5
      clear hq hq' hk pwj g6j gl2 hD sI s5
      first | refine sigN [some (.ref p), some (.ref o), some (.ref px), some (.ref py), some (.ref txx), some (.ref txy), some (.ref wr), v7, v8, some (.ref t6), some (.ref D), none, none] (by rfl) ?_ | refine sig [some (.ref p), some (.ref o), some (.ref px), some (.ref py), some (.ref txx), some (.ref txy), some (.ref wr), v7, v8, some (.ref t6), some (.ref D), none, none] (by rfl) ?_
      rw [f6] at h6
      rw [f7] at h7
      refine ⟨_, rfl, 5, rfl, D, _, rfl, lst_of gD, fun p5 np5 => ?_⟩
      have s6 := Same.new (H := H5) (p := p5) (o := .lst (cutV [.ref q1, .ref q2, .ref q3, .ref q4, .ref q5, .ref q6, .ref q7] (some 5) none)) np5
      have g5 : upd H5 p5 (.lst (cutV [.ref q1, .ref q2, .ref q3, .ref q4, .ref q5, .ref q6, .ref q7] (some 5) none)) p5 = some (.lst (cutV [.ref q1, .ref q2, .ref q3, .ref q4, .ref q5, .ref q6, .ref q7] (some 5) none)) := upd_same
      generalize upd H5 p5 (.lst (cutV [.ref q1, .ref q2, .ref q3, .ref q4, .ref q5, .ref q6, .ref q7] (some 5) none)) = H6 at s6 g5 ⊢
      have g5' : H6 p5 = some (.lst [.ref q6, .ref q7]) := g5
      refine ⟨_, rfl, (by show 2 ≤ sizeLine; decide), fun w1 nw1 => ?_⟩
      have s7 := Same.new (H := H6) (p := w1) (o := .tup [.int (-1), .int 1]) nw1
      have gw1 : upd H6 w1 (.tup [.int (-1), .int 1]) w1 = some (.tup [.int (-1), .int 1]) := upd_same
      generalize upd H6 w1 (.tup [.int (-1), .int 1]) = H7 at s7 gw1 ⊢
      refine ⟨(by show 2 ≤ sizeLine; decide), fun w2 nw2 => ?_⟩
      have s8 := Same.new (H := H7) (p := w2) (o := .tup [.int 1, .int 1]) nw2
      have gw2 : upd H7 w2 (.tup [.int 1, .int 1]) w2 = some (.tup [.int 1, .int 1]) := upd_same
      generalize upd H7 w2 (.tup [.int 1, .int 1]) = H8 at s8 gw2 ⊢
      refine ⟨(by show 2 ≤ sizeLine; decide), fun w3 nw3 => ?_⟩
      have s9 := Same.new (H := H8) (p := w3) (o := .lst [.ref w1, .ref w2]) nw3
      have gw3 : upd H8 w3 (.lst [.ref w1, .ref w2]) w3 = some (.lst [.ref w1, .ref w2]) := upd_same
      generalize upd H8 w3 (.lst [.ref w1, .ref w2]) = H9 at s9 gw3 ⊢
      have s69 := s6.trans (s7.trans (s8.trans s9))
      have dL : Dp K H9 (.ref p5) (.list [dq (-1), dq 1]) := .lst (lst_of ((s7.trans (s8.trans s9)) _ _ g5')) (.cons (dp_q (tup_of (s69 _ _ h6))) (.cons (dp_q (tup_of (s69 _ _ h7))) .nil))
      have dR : Dp K H9 (.ref w3) (.list [.tuple [.int (-1), .int 1], .tuple [.int 1, .int 1]]) := .lst (lst_of gw3) (.cons (.tup (tup_of ((s8.trans s9) _ _ gw1)) (.cons (.int _) (.cons (.int _) .nil))) (.cons (.tup (tup_of (s9 _ _ gw2)) (.cons (.int _) (.cons (.int _) .nil))) .nil))
      refine ⟨_, _, dL, dR, rfl, rfl, _, rfl, ?_⟩
      rw [show PyData.eqv (.list [dq (-1), dq 1]) (.list [.tuple [.int (-1), .int 1], .tuple [.int 1, .int 1]]) = true by decide +kernel]
      refine iteF ?_
      have gD9 := s69 _ _ gD
      have k1 := s69 _ _ h1
      have k2 := s69 _ _ h2
      have k3 := s69 _ _ h3
      have k4 := s69 _ _ h4
      have k5 := s69 _ _ h5
      have sK := sJ.trans s69
      clear h1 h2 h3 h4 h5 h6 h7 gD dL dR g5 g5' gw1 gw2 gw3 s6 s7 s8 s9 s69 sJ
      refine ⟨5, rfl, by decide, by decide, fun D2 hD2 => ?_⟩
      refine lc_range (lo := 0) (n := 5) (fun i H10 => Same H9 H10 ∧ FrQ H10 D2 [cfW d c (1, 1), -cfW d c (2, 0), cfW d c (0, 1), -cfW d c (1, 0), -cfW d c (0, 0)] i) ⟨Same.new hD2, FrQ.new⟩ (fun i H10 hi z => ?_) (fun H10 z => ?_)
      · obtain ⟨sz, hq⟩ := z
        have hi5 : i = 0 ∨ i = 1 ∨ i = 2 ∨ i = 3 ∨ i = 4 := by omega
        refine ⟨rfl, _, rfl, (by show 2 ≤ sizeLine; decide), fun t nt => ?_⟩
        have s11 := Same.new (H := H10) (p := t) (o := .tup [.int 0, .int 2]) nt
        have gt : upd H10 t (.tup [.int 0, .int 2]) t = some (.tup [.int 0, .int 2]) := upd_same
        generalize upd H10 t (.tup [.int 0, .int 2]) = H11 at s11 gt ⊢
        have sy := sz.trans s11
        have hq2 := hq.same s11
        refine ⟨t, _, rfl, .inr (tup_of gt), rfl, rfl, _, rfl, ?_⟩
        rcases hi5 with rfl | rfl | rfl | rfl | rfl
        · refine iteY (by decide) ?_
          refine ⟨_, rfl, _, rfl, D, _, _, .ref q1, rfl, rfl, lst_of (sy _ _ gD9), rfl, ?_⟩
          obtain ⟨acc, a1, a2, a3⟩ := FrQ.add (t := q1) hq2 rfl (sy _ _ k1) (by decide)
          exact ⟨acc, a1, a2, Same.put sy hD2, a3⟩
        · refine iteN (by decide) ?_
          refine ⟨_, rfl, _, rfl, D, _, _, .ref q2, rfl, rfl, lst_of (sy _ _ gD9), rfl, q2, _, 0, .int (cfW d c (2, 0)).num, rfl, rfl, tup_of (sy _ _ k2), rfl, _, rfl, _, rfl, _, rfl, D, _, _, .ref q2, rfl, rfl, lst_of (sy _ _ gD9), rfl, q2, _, 1, .int ((cfW d c (2, 0)).den : Int), rfl, rfl, tup_of (sy _ _ k2), rfl, (by show 2 ≤ sizeLine; decide), fun t2 nt2 => ?_⟩
          obtain ⟨acc, a1, a2, a3⟩ := FrQ.push (n := -cfW d c (2, 0)) hq2 rfl nt2 (by decide)
          rw [← fq_neg] at a1 a3
          exact ⟨acc, a1, a2, Same.put (Same.put sy (sy.free nt2)) hD2, a3⟩
        · refine iteY (by decide) ?_
          refine ⟨_, rfl, _, rfl, D, _, _, .ref q3, rfl, rfl, lst_of (sy _ _ gD9), rfl, ?_⟩
          obtain ⟨acc, a1, a2, a3⟩ := FrQ.add (t := q3) hq2 rfl (sy _ _ k3) (by decide)
          exact ⟨acc, a1, a2, Same.put sy hD2, a3⟩
        · refine iteN (by decide) ?_
          refine ⟨_, rfl, _, rfl, D, _, _, .ref q4, rfl, rfl, lst_of (sy _ _ gD9), rfl, q4, _, 0, .int (cfW d c (1, 0)).num, rfl, rfl, tup_of (sy _ _ k4), rfl, _, rfl, _, rfl, _, rfl, D, _, _, .ref q4, rfl, rfl, lst_of (sy _ _ gD9), rfl, q4, _, 1, .int ((cfW d c (1, 0)).den : Int), rfl, rfl, tup_of (sy _ _ k4), rfl, (by show 2 ≤ sizeLine; decide), fun t2 nt2 => ?_⟩
          obtain ⟨acc, a1, a2, a3⟩ := FrQ.push (n := -cfW d c (1, 0)) hq2 rfl nt2 (by decide)
          rw [← fq_neg] at a1 a3
          exact ⟨acc, a1, a2, Same.put (Same.put sy (sy.free nt2)) hD2, a3⟩
        · refine iteN (by decide) ?_
          refine ⟨_, rfl, _, rfl, D, _, _, .ref q5, rfl, rfl, lst_of (sy _ _ gD9), rfl, q5, _, 0, .int (cfW d c (0, 0)).num, rfl, rfl, tup_of (sy _ _ k5), rfl, _, rfl, _, rfl, _, rfl, D, _, _, .ref q5, rfl, rfl, lst_of (sy _ _ gD9), rfl, q5, _, 1, .int ((cfW d c (0, 0)).den : Int), rfl, rfl, tup_of (sy _ _ k5), rfl, (by show 2 ≤ sizeLine; decide), fun t2 nt2 => ?_⟩
          obtain ⟨acc, a1, a2, a3⟩ := FrQ.push (n := -cfW d c (0, 0)) hq2 rfl nt2 (by decide)
          rw [← fq_neg] at a1 a3
          exact ⟨acc, a1, a2, Same.put (Same.put sy (sy.free nt2)) hD2, a3⟩
      · obtain ⟨sz, hq⟩ := z
        rw [f1, f2, f3, f4, f5] at hq
        obtain ⟨r1, r2, r3, r4, r5, gR, m1, m2, m3, m4, m5⟩ := FrQ.five hq
        refine ⟨D2, _, rfl, .inl ⟨lst_of gR, fun z nz => ?_⟩⟩
        have sx := Same.new (H := H10) (p := z) (o := .tup [.ref r1, .ref r2, .ref r3, .ref r4, .ref r5]) nz
        exact q _ z (sK.trans (sz.trans sx)) ⟨r1, r2, r3, r4, r5, upd_same, tup_of (sx _ _ m1), tup_of (sx _ _ m2), tup_of (sx _ _ m3), tup_of (sx _ _ m4), tup_of (sx _ _ m5)⟩
end
end K06
set_option linter.all false
set_option maxRecDepth 100000
namespace K06
open PySem PySem.Spec PyProof.Rows L2 Gd QM
theorem lB8 {d : Ch} {a1 a2 a3 a4 a6 : Rat} (hB : ChB 3 d) (ha1 : RB 8 a1) (ha2 : RB 8 a2) (ha3 : RB 8 a3) (ha4 : RB 8 a4) (ha6 : RB 8 a6) : RB 97 (l1 d a1) ∧ RB 97 (l2 d a1 a2) ∧ RB 97 (l3 d a1 a3) ∧ RB 97 (l4 d a1 a2 a3 a4) ∧ RB 97 (l6 d a1 a2 a3 a4 a6) := by
  have n1 := hB.u0
  have n2 : d.u * d.u ≠ 0 := qmul_ne n1 n1
  have n3 : d.u * d.u * d.u ≠ 0 := qmul_ne n2 n1
  exact ⟨RB.up (RB.div n1 (RB.add ha1 (RB.mul rb_two hB.s)) hB.u) (by decide), RB.up (RB.div n2 (RB.sub (RB.add (RB.sub ha2 (RB.mul hB.s ha1)) (RB.mul rb_three hB.r)) (RB.mul hB.s hB.s)) (RB.mul hB.u hB.u)) (by decide), RB.up (RB.div n3 (RB.add (RB.add ha3 (RB.mul hB.r ha1)) (RB.mul rb_two hB.t)) (RB.mul (RB.mul hB.u hB.u) hB.u)) (by decide), RB.up (RB.div (qmul_ne n2 n2) (RB.sub (RB.add (RB.sub (RB.add (RB.sub ha4 (RB.mul hB.s ha3)) (RB.mul (RB.mul rb_two hB.r) ha2)) (RB.mul (RB.add hB.t (RB.mul hB.r hB.s)) ha1)) (RB.mul (RB.mul rb_three hB.r) hB.r)) (RB.mul (RB.mul rb_two hB.s) hB.t)) (RB.mul (RB.mul hB.u hB.u) (RB.mul hB.u hB.u))) (by decide), RB.up (RB.div (qmul_ne n3 n3) (RB.sub (RB.sub (RB.sub (RB.add (RB.add (RB.add ha6 (RB.mul hB.r ha4)) (RB.mul (RB.mul hB.r hB.r) ha2)) (RB.mul (RB.mul hB.r hB.r) hB.r)) (RB.mul hB.t ha3)) (RB.mul hB.t hB.t)) (RB.mul (RB.mul hB.r hB.t) ha1)) (RB.mul (RB.mul (RB.mul hB.u hB.u) hB.u) (RB.mul (RB.mul hB.u hB.u) hB.u))) (by decide)⟩
theorem lB12 {d : Ch} {a1 a2 a3 a4 a6 : Rat} (hB : ChB 3 d) (ha1 : RB 12 a1) (ha2 : RB 12 a2) (ha3 : RB 12 a3) (ha4 : RB 12 a4) (ha6 : RB 12 a6) : RB 117 (l1 d a1) ∧ RB 117 (l2 d a1 a2) ∧ RB 117 (l3 d a1 a3) ∧ RB 117 (l4 d a1 a2 a3 a4) ∧ RB 117 (l6 d a1 a2 a3 a4 a6) := by
  have n1 := hB.u0
  have n2 : d.u * d.u ≠ 0 := qmul_ne n1 n1
  have n3 : d.u * d.u * d.u ≠ 0 := qmul_ne n2 n1
  exact ⟨RB.up (RB.div n1 (RB.add ha1 (RB.mul rb_two hB.s)) hB.u) (by decide), RB.up (RB.div n2 (RB.sub (RB.add (RB.sub ha2 (RB.mul hB.s ha1)) (RB.mul rb_three hB.r)) (RB.mul hB.s hB.s)) (RB.mul hB.u hB.u)) (by decide), RB.up (RB.div n3 (RB.add (RB.add ha3 (RB.mul hB.r ha1)) (RB.mul rb_two hB.t)) (RB.mul (RB.mul hB.u hB.u) hB.u)) (by decide), RB.up (RB.div (qmul_ne n2 n2) (RB.sub (RB.add (RB.sub (RB.add (RB.sub ha4 (RB.mul hB.s ha3)) (RB.mul (RB.mul rb_two hB.r) ha2)) (RB.mul (RB.add hB.t (RB.mul hB.r hB.s)) ha1)) (RB.mul (RB.mul rb_three hB.r) hB.r)) (RB.mul (RB.mul rb_two hB.s) hB.t)) (RB.mul (RB.mul hB.u hB.u) (RB.mul hB.u hB.u))) (by decide), RB.up (RB.div (qmul_ne n3 n3) (RB.sub (RB.sub (RB.sub (RB.add (RB.add (RB.add ha6 (RB.mul hB.r ha4)) (RB.mul (RB.mul hB.r hB.r) ha2)) (RB.mul (RB.mul hB.r hB.r) hB.r)) (RB.mul hB.t ha3)) (RB.mul hB.t hB.t)) (RB.mul (RB.mul hB.r hB.t) ha1)) (RB.mul (RB.mul (RB.mul hB.u hB.u) hB.u) (RB.mul (RB.mul hB.u hB.u) hB.u))) (by decide)⟩
theorem lB97 {d : Ch} {a1 a2 a3 a4 a6 : Rat} (hB : ChB 3 d) (ha1 : RB 97 a1) (ha2 : RB 97 a2) (ha3 : RB 97 a3) (ha4 : RB 97 a4) (ha6 : RB 97 a6) : RB 560 (l1 d a1) ∧ RB 560 (l2 d a1 a2) ∧ RB 560 (l3 d a1 a3) ∧ RB 560 (l4 d a1 a2 a3 a4) ∧ RB 560 (l6 d a1 a2 a3 a4 a6) := by
  have n1 := hB.u0
  have n2 : d.u * d.u ≠ 0 := qmul_ne n1 n1
  have n3 : d.u * d.u * d.u ≠ 0 := qmul_ne n2 n1
  exact ⟨RB.up (RB.div n1 (RB.add ha1 (RB.mul rb_two hB.s)) hB.u) (by decide), RB.up (RB.div n2 (RB.sub (RB.add (RB.sub ha2 (RB.mul hB.s ha1)) (RB.mul rb_three hB.r)) (RB.mul hB.s hB.s)) (RB.mul hB.u hB.u)) (by decide), RB.up (RB.div n3 (RB.add (RB.add ha3 (RB.mul hB.r ha1)) (RB.mul rb_two hB.t)) (RB.mul (RB.mul hB.u hB.u) hB.u)) (by decide), RB.up (RB.div (qmul_ne n2 n2) (RB.sub (RB.add (RB.sub (RB.add (RB.sub ha4 (RB.mul hB.s ha3)) (RB.mul (RB.mul rb_two hB.r) ha2)) (RB.mul (RB.add hB.t (RB.mul hB.r hB.s)) ha1)) (RB.mul (RB.mul rb_three hB.r) hB.r)) (RB.mul (RB.mul rb_two hB.s) hB.t)) (RB.mul (RB.mul hB.u hB.u) (RB.mul hB.u hB.u))) (by decide), RB.up (RB.div (qmul_ne n3 n3) (RB.sub (RB.sub (RB.sub (RB.add (RB.add (RB.add ha6 (RB.mul hB.r ha4)) (RB.mul (RB.mul hB.r hB.r) ha2)) (RB.mul (RB.mul hB.r hB.r) hB.r)) (RB.mul hB.t ha3)) (RB.mul hB.t hB.t)) (RB.mul (RB.mul hB.r hB.t) ha1)) (RB.mul (RB.mul (RB.mul hB.u hB.u) hB.u) (RB.mul (RB.mul hB.u hB.u) hB.u))) (by decide)⟩
theorem thenB {c d : Ch} (h : ChB 3 c) (k : ChB 3 d) : ChB 29 (thenC c d) :=
  ⟨qmul_ne h.u0 k.u0, RB.up (RB.mul h.u k.u) (by decide), RB.up (RB.add (RB.mul (RB.mul h.u h.u) k.r) h.r) (by decide), RB.up (RB.add (RB.mul h.u k.s) h.s) (by decide), RB.up (RB.add (RB.add (RB.mul (RB.mul (RB.mul h.u h.u) h.u) k.t) (RB.mul (RB.mul (RB.mul h.u h.u) h.s) k.r)) h.t) (by decide)⟩
theorem backB {c : Ch} (h : ChB 3 c) : ChB 29 (backC c) := by
  have n1 := h.u0
  have n2 : c.u * c.u ≠ 0 := qmul_ne n1 n1
  have n3 : c.u * c.u * c.u ≠ 0 := qmul_ne n2 n1
  refine ⟨?_, RB.up (RB.div n1 RB.one h.u) (by decide), RB.up (RB.neg (RB.div n2 h.r (RB.mul h.u h.u))) (by decide), RB.up (RB.neg (RB.div n1 h.s h.u)) (by decide), RB.up (RB.div n3 (RB.sub (RB.mul h.r h.s) h.t) (RB.mul (RB.mul h.u h.u) h.u)) (by decide)⟩
  show 1 / c.u ≠ 0
  intro e
  grind
/-! points -/
theorem pt_back (c : Ch) (h : c.u ≠ 0) (x y : Rat) : fx (backC c) (fx c x) = x ∧ fy (backC c) (fx c x) (fy c x y) = y := by
  obtain ⟨u, r, s, t⟩ := c
  dsimp only at h
  obtain ⟨p, hp⟩ : ∃ p : Rat, u * p = 1 := ⟨1 / u, by grind⟩
  have e1 : ∀ x : Rat, x / u = x * p := fun x => by grind
  have e3 : ∀ x : Rat, x / (u * u) = x * (p * p) := fun x => by
    have : u * u * (p * p) = 1 := by grind
    grind
  have e4 : ∀ x : Rat, x / (u * u * u) = x * (p * p * p) := fun x => by
    have : u * u * u * (p * p * p) = 1 := by grind
    grind
  have b3 : ∀ x : Rat, x / (1 * p * (1 * p)) = x * (u * u) := fun x => by
    have k : 1 * p * (1 * p) * (u * u) = 1 := by grind
    have : 1 * p * (1 * p) ≠ 0 := fun z => by
      rw [z] at k
      grind
    grind
  have b4 : ∀ x : Rat, x / (1 * p * (1 * p) * (1 * p)) = x * (u * u * u) := fun x => by
    have k : 1 * p * (1 * p) * (1 * p) * (u * u * u) = 1 := by grind
    have : 1 * p * (1 * p) * (1 * p) ≠ 0 := fun z => by
      rw [z] at k
      grind
    grind
  unfold fx fy backC
  dsimp only
  simp only [e1, e3, e4, b3, b4]
  constructor
  · grind
  · grind
theorem pt_on (c : Ch) (h : c.u ≠ 0) (x y a1 a2 a3 a4 a6 : Rat) (k : y * y + a1 * x * y + a3 * y = x * x * x + a2 * x * x + a4 * x + a6) :
    fy c x y * fy c x y + fy c x y * (l1 c a1 * fx c x + l3 c a1 a3) = fx c x * fx c x * (fx c x + l2 c a1 a2) + (l4 c a1 a2 a3 a4 * fx c x + l6 c a1 a2 a3 a4 a6) := by
  obtain ⟨u, r, s, t⟩ := c
  dsimp only at h
  obtain ⟨p, hp⟩ : ∃ p : Rat, u * p = 1 := ⟨1 / u, by grind⟩
  have e1 : ∀ x : Rat, x / u = x * p := fun x => by grind
  have e3 : ∀ x : Rat, x / (u * u) = x * (p * p) := fun x => by
    have : u * u * (p * p) = 1 := by grind
    grind
  have e4 : ∀ x : Rat, x / (u * u * u) = x * (p * p * p) := fun x => by
    have : u * u * u * (p * p * p) = 1 := by grind
    grind
  have e5 : ∀ x : Rat, x / (u * u * (u * u)) = x * (p * p * (p * p)) := fun x => by
    have : u * u * (u * u) * (p * p * (p * p)) = 1 := by grind
    grind
  have e6 : ∀ x : Rat, x / (u * u * u * (u * u * u)) = x * (p * p * p * (p * p * p)) := fun x => by
    have : u * u * u * (u * u * u) * (p * p * p * (p * p * p)) = 1 := by grind
    grind
  unfold fx fy l1 l2 l3 l4 l6
  dsimp only
  simp only [e1, e3, e4, e5, e6]
  grind
end K06
set_option Elab.async false
set_option linter.all false
set_option maxRecDepth 100000
set_option maxHeartbeats 400000
namespace K06
open PySem PySem.Spec PyProof.Rows L2 Gd QM
theorem pg_tupK {X : Cx} {K : PySem.W.Frag} {es : List Expr} {k : Nat} {t : TGs} {n : Nat} {pos : Pos} (hK : X.K = K) (hc : X.calm = true) (h : PGs X es t)
    (hn : (assignEach es X.env).length = n := by rfl) (hst : (assignEach es X.env).findIdx? (·.1) = none := by rfl) : PG X (.Tuple es k pos) (gTup K n t) := by
  subst hK
  exact pg_tup hc h hn hst
/-! ### five fractions -/
def qsL (d : Ch) (c : Cv) : List Rat := [l1 d c.a1, l2 d c.a1 c.a2, l3 d c.a1 c.a3, l4 d c.a1 c.a2 c.a3 c.a4, l6 d c.a1 c.a2 c.a3 c.a4 c.a6]
/-- refs at fractions -/
def RfAt (K : PySem.W.Frag) (H : Hp) (xs : List V) (qs : List Rat) : Prop := xs.length = qs.length ∧ ∀ (i : Nat) (x : V), xs[i]? = some x → ∃ a q, x = .ref a ∧ qs[i]? = some q ∧ SqT K H a (fq q)
theorem RfAt.same {K : PySem.W.Frag} {H H' : Hp} {xs : List V} {qs : List Rat} (s : Same H H') (h : RfAt K H xs qs) : RfAt K H' xs qs :=
  ⟨h.1, fun i x e => (h.2 i x e).imp fun a z => z.imp fun q y => ⟨y.1, y.2.1, Same.tup s y.2.2⟩⟩
theorem LedAt.rf {K : PySem.W.Frag} {H : Hp} {t : Addr} {d : Ch} {c : Cv} (h : LedAt K H t d c) : ∃ xs, H t = some (.tup xs) ∧ RfAt K H xs (qsL d c) := by
  obtain ⟨p1, p2, p3, p4, p6, h0, h1, h2, h3, h4, h6⟩ := h
  refine ⟨_, h0, rfl, fun i x e => ?_⟩
  match i, e with
  | 0, e =>
    obtain rfl := Option.some.inj e
    exact ⟨p1, _, rfl, rfl, h1⟩
  | 1, e =>
    obtain rfl := Option.some.inj e
    exact ⟨p2, _, rfl, rfl, h2⟩
  | 2, e =>
    obtain rfl := Option.some.inj e
    exact ⟨p3, _, rfl, rfl, h3⟩
  | 3, e =>
    obtain rfl := Option.some.inj e
    exact ⟨p4, _, rfl, rfl, h4⟩
  | 4, e =>
    obtain rfl := Option.some.inj e
    exact ⟨p6, _, rfl, rfl, h6⟩
def AllW (qs : List Rat) : Prop := ∀ q ∈ qs, q.den = 1
theorem take_map {A B : Type} (f : A → B) {qs : List A} {i : Nat} {q : A} (h : qs[i]? = some q) : (qs.take (i + 1)).map f = (qs.take i).map f ++ [f q] := by
  rw [List.take_succ, List.map_append, h]
  rfl
section
variable {P : Program} {w : World} {K : PySem.W.Frag} {mg : Str → Option Value} {base : Heap}
def sp_whole_curve (K : PySem.W.Frag) : Sp := fun vs H Q _ => ∃ (p : Addr) (xs : List V) (qs : List Rat), vs = [.ref p] ∧ SqT K H p xs ∧ RfAt K H xs qs ∧ qs.length = 5 ∧ (AllW qs → ∀ H' t, Same H H' → H' t = some (.tup (qs.map fun q => .int q.num)) → Q (.ref t) H') ∧ (¬ AllW qs → ∀ H', Same H H' → Q .non H')
abbrev s_whole_curve : Stmt := topS 15
theorem sc_whole_curve : FnScope ["fractions", "_", "d", "n"] ["fractions"] (defScope s_whole_curve) := ⟨rfl, rfl, rfl, by decide +kernel, rfl, by decide +kernel, by decide +kernel⟩
theorem k_whole_curve (T : Tx K mg) (D : Df K mg "whole_curve" s_whole_curve ["fractions"])  : Kl P w K mg base 1 "whole_curve" (sp_whole_curve K) := by
  have nd := sc_whole_curve.nd
  refine Kl.by_body D sc_whole_curve (fun vs H Q E h => ?_) (fun f cdv A outer s H vs Q E hr h => ?_)
  · obtain ⟨_, _, _, rfl, _⟩ := h
    rfl
  · obtain ⟨p, xs, qs, rfl, hp, hx, hl, q1, q2⟩ := h
    have hu1 := hu_of hr
    refine ⟨_, (pss_cons (ps_if (pt_val (pe_callB (cr_any rfl) (by rfl) T.any (by decide +kernel) (pa_cons (pe_lc (own := [("_", 1), ("d", 2)]) (g := gTup K 2 (gCons (gName 1) (gCons (gName 2) gNil))) rfl nd (pi_tup (pv 0)) (blkOk_by (N := ["fractions", "_", "d", "n"]) (sc := defScope s_whole_curve) (by decide +kernel)) (fun _ _ _ _ _ => (pg_tupK (K := K) rfl rfl (pgs_cons (pg_name (i := 1) nd rfl (by first | exact Or.inl rfl | exact Or.inr rfl)) (pgs_cons (pg_name (i := 2) nd rfl (by first | exact Or.inl rfl | exact Or.inr rfl)) pgs_nil)))) (fun _ _ _ _ _ => pts_nil) (fun _ _ _ _ _ => (pe_cmpR op_ne (pv 2) pe_int (nomark _)))) pa_nil))) (pss_one (ps_ret pe_non)) pss_nil)
      (pss_one (ps_ret (pe_callTy call_tuple_of (by rfl) T.tuple (by decide +kernel) (pa_cons (pe_lc (own := [("n", 3), ("_", 1)]) (g := gTup K 2 (gCons (gName 3) (gCons (gName 1) gNil))) rfl nd (pi_tup (pv 0)) (blkOk_by (N := ["fractions", "_", "d", "n"]) (sc := defScope s_whole_curve) (by decide +kernel)) (fun _ _ _ _ _ => (pg_tupK (K := K) rfl rfl (pgs_cons (pg_name (i := 3) nd rfl (by first | exact Or.inl rfl | exact Or.inr rfl)) (pgs_cons (pg_name (i := 1) nd rfl (by first | exact Or.inl rfl | exact Or.inr rfl)) pgs_nil)))) (fun _ _ _ _ _ => pts_nil) (fun _ _ _ _ _ => (pv 3))) pa_nil))))), ?_⟩
    have hxl := hx.1
    refine ⟨.ref p, rfl, p, rfl, ⟨_, hp⟩, fun D hD => ?_⟩
    refine lc_tup (K := K) (a := p) (xs := xs) (fun i H2 => Same H H2 ∧ H2 D = some (.lst (((qs.take i).map fun q => decide (q.den ≠ 1)).map V.bl))) ⟨Same.new hD, upd_same⟩ (fun i H2 _ z => Same.tup z.1 hp) (fun i x H2 hi z => ?_) (fun H2 z => ?_)
    · obtain ⟨a, q, rfl, hq, ha⟩ := (hx.same z.1).2 i x hi
      have hi5 : i < 5 := by
        have := (List.getElem?_eq_some_iff.mp hi).1
        omega
      refine ⟨a, _, rfl, ha, rfl, _, _, rfl, _, _, rfl, rfl, rfl, _, rfl, rfl, _, z.2, ?_, Same.put z.1 hD, ?_⟩
      · rw [List.length_map, List.length_map, List.length_take]
        exact small1000 (by omega)
      · rw [upd_same, take_map _ hq, List.map_append]
        have e : (!decide (V.int (q.den : Int) = V.int 1)) = decide (q.den ≠ 1) := by
          rw [Bool.eq_iff_iff]
          simp
          omega
        rw [← e]
        rfl
    · have hfull : qs.take xs.length = qs := by rw [hxl, List.take_length]
      rw [hfull] at z
      refine ⟨D, _, rfl, lst_of z.2, _, rfl, ?_⟩
      by_cases hw : AllW qs
      · refine iteN (by
          rw [List.any_map]
          simp
          exact hw) ?_
        refine ⟨.ref p, rfl, p, rfl, ⟨_, Same.tup z.1 hp⟩, fun D2 hD2 => ?_⟩
        refine lc_tup (K := K) (a := p) (xs := xs) (fun i H3 => Same H2 H3 ∧ H3 D2 = some (.lst ((qs.take i).map fun q => V.int q.num))) ⟨Same.new hD2, upd_same⟩ (fun i H3 _ y => Same.tup y.1 (Same.tup z.1 hp)) (fun i x H3 hi y => ?_) (fun H3 y => ?_)
        · obtain ⟨a, q, rfl, hq, ha⟩ := (hx.same (z.1.trans y.1)).2 i x hi
          have hi5 : i < 5 := by
            have := (List.getElem?_eq_some_iff.mp hi).1
            omega
          refine ⟨a, _, rfl, ha, rfl, _, _, rfl, _, _, rfl, rfl, rfl, _, rfl, _, y.2, ?_, Same.put y.1 hD2, ?_⟩
          · rw [List.length_map, List.length_take]
            exact small1000 (by omega)
          · rw [upd_same, take_map _ hq]
        · rw [hfull] at y
          refine ⟨D2, _, rfl, .inl ⟨lst_of y.2, fun t nt => ?_⟩⟩
          exact q1 hw _ t (z.1.trans (y.1.trans (Same.new nt))) upd_same
      · refine iteY (by
          rw [List.any_map]
          simp
          unfold AllW at hw
          simp at hw
          exact hw) ?_
        exact q2 hw _ z.1
end
end K06
set_option Elab.async false
set_option linter.all false
set_option maxRecDepth 100000
set_option maxHeartbeats 400000
namespace K06
open PySem PySem.Spec PyProof.Rows L2 Gd QM
local macro_rules | `(tactic| walk_at "bd") => `(tactic| (repeat (first | assumption | apply B.add | apply B.sub | apply B.mul | apply B.neg | exact B.lit (n := 8) (by decide))))
local macro_rules | `(tactic| walk_at "bu") => `(tactic| (apply B.up; walk_at "bd"; decide))
local macro_rules | `(tactic| walk_at "bnd") => `(tactic| (apply B.mulW; walk_at "bd"; decide))
local macro_rules | `(tactic| walk_at "pw") => `(tactic| exact B.up (n := 64) (by assumption) (by decide))
theorem m2 {a b : Int} {m n : Nat} (h : a.natAbs ≤ m) (k : b.natAbs ≤ n) : (a * b).natAbs ≤ m * n := by
  rw [Int.natAbs_mul]
  exact Nat.mul_le_mul h k
theorem last_B {x y a1 a2 a3 a4 : Int} (hx : x.natAbs ≤ 9) (hy : y.natAbs ≤ 9) (h1 : a1.natAbs ≤ 9) (h2 : a2.natAbs ≤ 9) (h3 : a3.natAbs ≤ 9) (h4 : a4.natAbs ≤ 9) : B 12 (y * y + a1 * x * y + a3 * y - x ^ (3 : Int).toNat - a2 * x * x - a4 * x) := by
  have e : x ^ (3 : Int).toNat = x * x * x := by
    show x ^ 3 = _
    grind
  rw [e]
  have t1 := m2 hy hy
  have t2 := m2 (m2 h1 hx) hy
  have t3 := m2 h3 hy
  have t4 := m2 (m2 hx hx) hx
  have t5 := m2 (m2 h2 hx) hx
  have t6 := m2 h4 hx
  unfold B
  omega
theorem on_curve (x y a1 a2 a3 a4 : Int) : (y : Rat) * y + (a1 : Rat) * x * y + (a3 : Rat) * y = (x : Rat) * x * x + (a2 : Rat) * x * x + (a4 : Rat) * x + ((y * y + a1 * x * y + a3 * y - x ^ (3 : Int).toNat - a2 * x * x - a4 * x : Int) : Rat) := by
  have e : x ^ (3 : Int).toNat = x * x * x := by
    show x ^ 3 = _
    grind
  rw [e]
  simp only [Rat.intCast_add, Rat.intCast_sub, Rat.intCast_mul]
  grind
theorem eqv_q (a b c d : Int) : PyData.eqv (.tuple [.int a, .int b]) (.tuple [.int c, .int d]) = (decide (a = c) && decide (b = d)) := by
  rw [Bool.eq_iff_iff]
  simp [PyData.eqv, PyData.eqvAll]
theorem eqv_dq (a b : Rat) : PyData.eqv (dq a) (dq b) = decide (a = b) := by
  unfold dq
  rw [eqv_q, Bool.eq_iff_iff, Bool.and_eq_true, decide_eq_true_iff, decide_eq_true_iff, decide_eq_true_iff]
  constructor
  · rintro ⟨h1, h2⟩
    exact Rat.ext h1 (by omega)
  · rintro rfl
    exact ⟨rfl, rfl⟩
theorem ok_pt {a b : Rat} {m : Nat} (h : RB m a) (k : RB m b) (hm : m ≤ 1900) : okD (.tuple [dq a, dq b]) = true := by
  have h1 := okq h hm
  have h2 := okq k hm
  simp [okD, okAll, h1, h2]
theorem pt_depth (a b : Rat) : (PyData.tuple [dq a, dq b]).depth ≤ 40 := by simp [PyData.depth, PyData.depthAll, dq]
theorem pt_wt (a b : Rat) : wt (PyData.tuple [dq a, dq b]) ≤ 1000000 := by simp [wt, wtAll, dq]
section
variable {P : Program} {w : World} {K : PySem.W.Frag} {mg : Str → Option Value} {base : Heap}
local macro_rules | `(tactic| walk_at "mm") => `(tactic| (repeat (first | exact List.mem_cons_self | apply List.mem_cons_of_mem)))
def sp_law_point_right (K : PySem.W.Frag) : Sp := fun vs H Q _ => ∃ (m cl p : Addr) (c : Ch) (n : Nat), vs = [.ref m, .ref p] ∧ ChAt K H p c ∧ ChB 3 c ∧ n ≤ 1000 ∧ MAt H m cl n ∧ ∀ H', But m H H' → Q (.bl true) H'
abbrev s__law_point_right : Stmt := topS 44
theorem sc__law_point_right : FnScope ["m", "change", "x", "y", "a1", "a2", "a3", "a4", "k", "last", "five_v", "point", "far", "right_x", "left", "due", "right"] ["m", "change"] (defScope s__law_point_right) := ⟨rfl, rfl, rfl, by decide +kernel, rfl, by decide +kernel, by decide +kernel⟩
theorem k_law_point_right (T : Tx K mg) (D : Df K mg "_law_point_right" s__law_point_right ["m", "change"]) (c_led_point : Kl P w K mg base 3 "led_point" (sp_led_point K)) (c_law_over : Kl P w K mg base 3 "_law_over" (sp_law_over K)) (c_law_less : Kl P w K mg base 3 "_law_less" (sp_law_less K)) (c_law_due : Kl P w K mg base 6 "_law_due" (sp_law_due K)) (c_law_plus : Kl P w K mg base 3 "_law_plus" (sp_law_plus K)) (c_law_between : Kl P w K mg base 2 "_law_between" (sp_law_between K)) (c_law_power : Kl P w K mg base 4 "_law_power" (sp_law_power K)) (c_law_by : Kl P w K mg base 3 "_law_by" (sp_law_by K)) (c_back : Kl P w K mg base 3 "back" (sp_back K)) : Kg P w K mg base 7 "_law_point_right" (sp_law_point_right K) := by
  have nd := sc__law_point_right.nd
  refine Kg.by_body D sc__law_point_right (fun vs H Q E h => ?_) (fun f cdv A outer s H vs Q E hgd hr h => ?_)
  · obtain ⟨_, _, _, _, _, rfl, _⟩ := h
    rfl
  · obtain ⟨m, cl, p, c, n, rfl, hc, hB, hn, hM, q⟩ := h
    have hu1 := hu_of hr
    refine ⟨_, (pss_cons (ps_asg (pe_lc (own := [("k", 8)]) (g := gName 8) rfl nd (pi_range1 (by rfl) T.range (pa_cons pe_int pa_nil)) (blkOk_by (N := ["m", "change", "x", "y", "a1", "a2", "a3", "a4", "k", "last", "five_v", "point", "far", "right_x", "left", "due", "right"]) (sc := defScope s__law_point_right) (by decide +kernel)) (fun _ _ _ _ _ => (pg_name (i := 8) nd rfl (by first | exact Or.inl rfl | exact Or.inr rfl))) (fun _ _ _ _ _ => pts_nil) (fun _ _ _ _ _ => (pe_k c_law_between  hr (by decide) (by rfl) (pa_cons (pv 0) (pa_cons pe_int pa_nil))))) (pg_lst rfl (pgs_cons (pg_name (i := 2) nd rfl (by first | exact Or.inl rfl | exact Or.inr rfl)) (pgs_cons (pg_name (i := 3) nd rfl (by first | exact Or.inl rfl | exact Or.inr rfl)) (pgs_cons (pg_name (i := 4) nd rfl (by first | exact Or.inl rfl | exact Or.inr rfl)) (pgs_cons (pg_name (i := 5) nd rfl (by first | exact Or.inl rfl | exact Or.inr rfl)) (pgs_cons (pg_name (i := 6) nd rfl (by first | exact Or.inl rfl | exact Or.inr rfl)) (pgs_cons (pg_name (i := 7) nd rfl (by first | exact Or.inl rfl | exact Or.inr rfl)) pgs_nil))))))))
      (pss_cons (ps_set (i := 9) nd rfl (by first | exact Or.inl rfl | exact Or.inr rfl) (pe_op op_sub (pe_op op_add (pe_op op_add (pe_op op_mulW (pv 3) (pv 3)) (pe_op op_mulW (pe_op op_mulW (pv 4) (pv 2)) (pv 3))) (pe_op op_mulW (pv 6) (pv 3))) (pe_op op_pow (pv 2) pe_int)))
      (pss_cons (ps_set (i := 10) nd rfl (by first | exact Or.inl rfl | exact Or.inr rfl) (pe_tup (pa_cons (pv 4) (pa_cons (pv 5) (pa_cons (pv 6) (pa_cons (pv 7) (pa_cons (pe_op op_sub (pe_op op_sub (pv 9) (pe_op op_mulW (pe_op op_mulW (pv 5) (pv 2)) (pv 2))) (pe_op op_mulW (pv 7) (pv 2))) pa_nil)))))))
      (pss_cons (ps_set (i := 11) nd rfl (by first | exact Or.inl rfl | exact Or.inr rfl) (pe_tup (pa_cons (pe_tup (pa_cons (pv 2) (pa_cons pe_int pa_nil))) (pa_cons (pe_tup (pa_cons (pv 3) (pa_cons pe_int pa_nil))) pa_nil))))
      (pss_cons (ps_set (i := 12) nd rfl (by first | exact Or.inl rfl | exact Or.inr rfl) (pe_k c_led_point  hr (by decide) (by rfl) (pa_cons (pv 11) (pa_cons (pv 1) pa_nil))))
      (pss_cons (ps_set (i := 13) nd rfl (by first | exact Or.inl rfl | exact Or.inr rfl) (pe_k c_law_over  hr (by decide) (by rfl) (pa_cons (pe_k c_law_less  hr (by decide) (by rfl) (pa_cons (pe_tup (pa_cons (pv 2) (pa_cons pe_int pa_nil))) (pa_cons (pe_ix ix_tup (pv 1) pe_int (fun _ _ => rfl)) pa_nil))) (pa_cons (pe_k c_law_power  hr (by decide) (by rfl) (pa_cons (pe_ix ix_tup (pv 1) pe_int (fun _ _ => rfl)) (pa_cons pe_int pa_nil))) pa_nil))))
      (pss_cons (ps_set (i := 14) nd rfl (by first | exact Or.inl rfl | exact Or.inr rfl) (pe_k c_law_less  hr (by decide) (by rfl) (pa_cons (pe_k c_law_less  hr (by decide) (by rfl) (pa_cons (pe_tup (pa_cons (pv 3) (pa_cons pe_int pa_nil))) (pa_cons (pe_ix ix_tup (pv 1) pe_int (fun _ _ => rfl)) pa_nil))) (pa_cons (pe_k c_law_by  hr (by decide) (by rfl) (pa_cons (pe_ix ix_tup (pv 1) pe_int (fun _ _ => rfl)) (pa_cons (pe_k c_law_less  hr (by decide) (by rfl) (pa_cons (pe_tup (pa_cons (pv 2) (pa_cons pe_int pa_nil))) (pa_cons (pe_ix ix_tup (pv 1) pe_int (fun _ _ => rfl)) pa_nil))) pa_nil))) pa_nil))))
      (pss_cons (ps_if (PW.pt (pw_or (pt_cmpR op_ne (pe_callB (call_reprD hgd hr.units) (by rfl) T.repr (by decide +kernel) (pa_cons (pv 12) pa_nil)) (pe_callB (call_reprD hgd hr.units) (by rfl) T.repr (by decide +kernel) (pa_cons (pe_tup (pa_cons (pv 13) (pa_cons (pe_k c_law_over  hr (by decide) (by rfl) (pa_cons (pv 14) (pa_cons (pe_k c_law_power  hr (by decide) (by rfl) (pa_cons (pe_ix ix_tup (pv 1) pe_int (fun _ _ => rfl)) (pa_cons pe_int pa_nil))) pa_nil))) pa_nil))) pa_nil)) (nomark _)) (pw_or1 (pt_cmpR (op_neD hr.units) (pe_k c_led_point  hr (by decide) (by rfl) (pa_cons (pe_tup pa_nil) (pa_cons (pv 1) pa_nil))) (pe_tup pa_nil) (nomark _))))) (pss_one (ps_ret pe_bl)) pss_nil)
      (pss_cons (ps_set (i := 15) nd rfl (by first | exact Or.inl rfl | exact Or.inr rfl) (pe_k c_law_due  hr (by decide) (by rfl) (pa_cons (pv 10) (pa_cons (pv 1) pa_nil))))
      (pss_cons (ps_set (i := 14) nd rfl (by first | exact Or.inl rfl | exact Or.inr rfl) (pe_k c_law_plus  hr (by decide) (by rfl) (pa_cons (pe_k c_law_by  hr (by decide) (by rfl) (pa_cons (pe_ix ix_tup (pv 12) pe_int (fun _ _ => rfl)) (pa_cons (pe_ix ix_tup (pv 12) pe_int (fun _ _ => rfl)) pa_nil))) (pa_cons (pe_k c_law_by  hr (by decide) (by rfl) (pa_cons (pe_ix ix_tup (pv 12) pe_int (fun _ _ => rfl)) (pa_cons (pe_k c_law_plus  hr (by decide) (by rfl) (pa_cons (pe_k c_law_by  hr (by decide) (by rfl) (pa_cons (pe_ix ix_tup (pv 15) pe_int (fun _ _ => rfl)) (pa_cons (pe_ix ix_tup (pv 12) pe_int (fun _ _ => rfl)) pa_nil))) (pa_cons (pe_ix ix_tup (pv 15) pe_int (fun _ _ => rfl)) pa_nil))) pa_nil))) pa_nil))))
      (pss_cons (ps_set (i := 16) nd rfl (by first | exact Or.inl rfl | exact Or.inr rfl) (pe_k c_law_plus  hr (by decide) (by rfl) (pa_cons (pe_k c_law_by  hr (by decide) (by rfl) (pa_cons (pe_k c_law_by  hr (by decide) (by rfl) (pa_cons (pe_ix ix_tup (pv 12) pe_int (fun _ _ => rfl)) (pa_cons (pe_ix ix_tup (pv 12) pe_int (fun _ _ => rfl)) pa_nil))) (pa_cons (pe_k c_law_plus  hr (by decide) (by rfl) (pa_cons (pe_ix ix_tup (pv 12) pe_int (fun _ _ => rfl)) (pa_cons (pe_ix ix_tup (pv 15) pe_int (fun _ _ => rfl)) pa_nil))) pa_nil))) (pa_cons (pe_k c_law_plus  hr (by decide) (by rfl) (pa_cons (pe_k c_law_by  hr (by decide) (by rfl) (pa_cons (pe_ix ix_tup (pv 15) pe_int (fun _ _ => rfl)) (pa_cons (pe_ix ix_tup (pv 12) pe_int (fun _ _ => rfl)) pa_nil))) (pa_cons (pe_ix ix_tup (pv 15) pe_int (fun _ _ => rfl)) pa_nil))) pa_nil))))
      (pss_one (ps_ret (pe_and (pe_cmpR (op_eqD hr.units) (pv 14) (pv 16) (nomark _)) (pe_one (pe_cmpR op_eq (pe_callB (call_reprD hgd hr.units) (by rfl) T.repr (by decide +kernel) (pa_cons (pe_k c_led_point  hr (by decide) (by rfl) (pa_cons (pv 12) (pa_cons (pe_k c_back  hr (by decide) (by rfl) (pa_cons (pv 1) pa_nil)) pa_nil))) pa_nil)) (pe_callB (call_reprD hgd hr.units) (by rfl) T.repr (by decide +kernel) (pa_cons (pv 11) pa_nil)) (nomark _))))))))))))))))), ?_⟩
    refine ⟨6, rfl, by decide, by decide, fun D hD => ?_⟩
    have hmD := hM.ne hD
    refine lc_range (lo := 0) (n := 6) (fun i H3 => ∃ L : List Int, H3 D = some (.lst (L.map V.int)) ∧ L.length = i ∧ (∀ x ∈ L, x.natAbs ≤ 9) ∧ But m H H3 ∧ MAt H3 m cl (n + i)) ⟨[], upd_same, rfl, (by intro x hx; cases hx), But.of (Same.new hD), hM.same (Same.new hD)⟩ (fun i H3 hi z => ?_) (fun H1 z => ?_)
    · obtain ⟨L, hL, el, hb, b3, m3⟩ := z
      refine ⟨rfl, _, rfl, m, cl, 9, n + i, rfl, by decide, by decide, by omega, m3, fun H4 r b4 m4 r0 r1 => ?_⟩
      refine ⟨_, b4.lst m3 hL, by rw [List.length_map]; exact small1000 (by omega), L ++ [r], ?_, by rw [List.length_append, el]; rfl, ?_, fun c o e nc => ?_, ?_⟩
      · rw [upd_same, List.map_append]
        rfl
      · intro x hx
        rcases List.mem_append.mp hx with hx | hx
        · exact hb x hx
        · rw [List.mem_singleton.mp hx]
          omega
      · rw [upd_ne (ne_of_none e hD)]
        exact (b3.trans b4) c o e nc
      · exact m4.put hmD
    obtain ⟨L, hL, el, hb, b1, m1⟩ := z
    obtain ⟨x, y, a1, a2, a3, a4, rfl⟩ : ∃ x y a1 a2 a3 a4 : Int, L = [x, y, a1, a2, a3, a4] := by
      match L, el with
      | [x, y, a1, a2, a3, a4], _ => exact ⟨x, y, a1, a2, a3, a4, rfl⟩
    have hx9 := hb x (by simp)
    have hy9 := hb y (by simp)
    have h19 := hb a1 (by simp)
    have h29 := hb a2 (by simp)
    have h39 := hb a3 (by simp)
    have h49 := hb a4 (by simp)
    have hxB : B 5 x := by unfold B; omega
    have hyB : B 5 y := by unfold B; omega
    have h1B : B 5 a1 := by unfold B; omega
    have h2B : B 5 a2 := by unfold B; omega
    have h3B : B 5 a3 := by unfold B; omega
    have h4B : B 5 a4 := by unfold B; omega
    have x3B : B 16 (x ^ (3 : Int).toNat) := hxB.pow 3
    have hc1 := hc.but b1 hM
    obtain ⟨pu, pr, ps, pt, hcp, hu, hr', hs, ht⟩ := id hc1
    refine ⟨D, _, rfl, lst_of hL, rfl, _, _, rfl, _, _, rfl, _, _, rfl, _, _, rfl, _, _, rfl, _, _, rfl, rfl, ?_⟩
    first | refine sigN [some (.ref m), some (.ref p), some (.int (x)), some (.int (y)), some (.int (a1)), some (.int (a2)), some (.int (a3)), some (.int (a4)), none, none, none, none, none, none, none, none, none] (by rfl) ?_ | refine sig [some (.ref m), some (.ref p), some (.int (x)), some (.int (y)), some (.int (a1)), some (.int (a2)), some (.int (a3)), some (.int (a4)), none, none, none, none, none, none, none, none, none] (by rfl) ?_
    refine ⟨_, rfl, _, rfl, _, _, rfl, rfl, (by walk_at "bnd"), _, rfl, _, rfl, _, _, rfl, rfl, (by walk_at "bnd"), _, rfl, _, _, rfl, rfl, (by walk_at "bnd"), _, _, rfl, rfl, _, rfl, _, rfl, _, _, rfl, rfl, (by walk_at "bnd"), _, _, rfl, rfl, _, rfl, _, _, rfl, rfl, ⟨by decide, by decide, by walk_at "pw"⟩, _, _, rfl, rfl, ?_⟩
    first | refine sigN [some (.ref m), some (.ref p), some (.int (x)), some (.int (y)), some (.int (a1)), some (.int (a2)), some (.int (a3)), some (.int (a4)), none, some (.int (y * y + a1 * x * y + a3 * y - x ^ (3 : Int).toNat)), none, none, none, none, none, none, none] (by rfl) ?_ | refine sig [some (.ref m), some (.ref p), some (.int (x)), some (.int (y)), some (.int (a1)), some (.int (a2)), some (.int (a3)), some (.int (a4)), none, some (.int (y * y + a1 * x * y + a3 * y - x ^ (3 : Int).toNat)), none, none, none, none, none, none, none] (by rfl) ?_
    refine ⟨_, rfl, _, rfl, _, rfl, _, rfl, _, rfl, _, rfl, _, rfl, _, _, rfl, rfl, (by walk_at "bnd"), _, rfl, _, _, rfl, rfl, (by walk_at "bnd"), _, _, rfl, rfl, _, rfl, _, rfl, _, _, rfl, rfl, (by walk_at "bnd"), _, _, rfl, rfl, (by show 5 ≤ sizeLine; decide), fun f nf => ?_⟩
    have s2 := Same.new (H := H1) (p := f) (o := .tup [.int a1, .int a2, .int a3, .int a4, .int (y * y + a1 * x * y + a3 * y - x ^ (3 : Int).toNat - a2 * x * x - a4 * x)]) nf
    have gf : upd H1 f (.tup [.int a1, .int a2, .int a3, .int a4, .int (y * y + a1 * x * y + a3 * y - x ^ (3 : Int).toNat - a2 * x * x - a4 * x)]) f = some (.tup [.int a1, .int a2, .int a3, .int a4, .int (y * y + a1 * x * y + a3 * y - x ^ (3 : Int).toNat - a2 * x * x - a4 * x)]) := upd_same
    generalize upd H1 f (.tup [.int a1, .int a2, .int a3, .int a4, .int (y * y + a1 * x * y + a3 * y - x ^ (3 : Int).toNat - a2 * x * x - a4 * x)]) = H2 at s2 gf ⊢
    first | refine sigN [some (.ref m), some (.ref p), some (.int (x)), some (.int (y)), some (.int (a1)), some (.int (a2)), some (.int (a3)), some (.int (a4)), none, some (.int (y * y + a1 * x * y + a3 * y - x ^ (3 : Int).toNat)), some (.ref f), none, none, none, none, none, none] (by rfl) ?_ | refine sig [some (.ref m), some (.ref p), some (.int (x)), some (.int (y)), some (.int (a1)), some (.int (a2)), some (.int (a3)), some (.int (a4)), none, some (.int (y * y + a1 * x * y + a3 * y - x ^ (3 : Int).toNat)), some (.ref f), none, none, none, none, none, none] (by rfl) ?_
    have lB := last_B hx9 hy9 h19 h29 h39 h49
    have onc := on_curve x y a1 a2 a3 a4
    generalize hE : y * y + a1 * x * y + a3 * y - x ^ (3 : Int).toNat - a2 * x * x - a4 * x = a6 at gf lB onc
    have gf2 : SqT K H2 f (Cv.tup ⟨a1, a2, a3, a4, a6⟩) := tup_of gf
    have hCv : CvB 12 ⟨a1, a2, a3, a4, a6⟩ := ⟨h1B.up (by decide), h2B.up (by decide), h3B.up (by decide), h4B.up (by decide), lB⟩
    have E0 : FrE K H2 [(pu, c.u, 3), (pr, c.r, 3), (ps, c.s, 3), (pt, c.t, 3)] :=
      FrE.add (FrE.add (FrE.add (FrE.add FrE.nil (Same.tup s2 ht) hB.t) (Same.tup s2 hs) hB.s) (Same.tup s2 hr') hB.r) (Same.tup s2 hu) hB.u
    refine ⟨_, rfl, ?_⟩
    refine ⟨(by show 2 ≤ sizeLine; decide), fun p1 np1 => ?_⟩
    obtain ⟨H3, eH_, s3, E1⟩ := litE E0 np1 (fq_int x).symm (RB.int (m := 5) hxB (by decide))
    rw [eH_]
    clear eH_
    refine ⟨_, rfl, ?_⟩
    refine ⟨(by show 2 ≤ sizeLine; decide), fun p2 np2 => ?_⟩
    obtain ⟨H4, eH_, s4, E2⟩ := litE E1 np2 (fq_int y).symm (RB.int (m := 5) hyB (by decide))
    rw [eH_]
    clear eH_
    refine ⟨(by show 2 ≤ sizeLine; decide), fun po npo => ?_⟩
    have E3 := E2.same (Same.new (o := .tup [.ref p1, .ref p2]) npo)
    have s5 := Same.new (o := .tup [.ref p1, .ref p2]) npo
    have gpo : (upd H4 po (.tup [.ref p1, .ref p2])) po = some (.tup [.ref p1, .ref p2]) := upd_same
    generalize upd H4 po (.tup [.ref p1, .ref p2]) = H5 at E3 s5 gpo ⊢
    first | refine sigN [some (.ref m), some (.ref p), some (.int (x)), some (.int (y)), some (.int (a1)), some (.int (a2)), some (.int (a3)), some (.int (a4)), none, some (.int (y * y + a1 * x * y + a3 * y - x ^ (3 : Int).toNat)), some (.ref f), some (.ref po), none, none, none, none, none] (by rfl) ?_ | refine sig [some (.ref m), some (.ref p), some (.int (x)), some (.int (y)), some (.int (a1)), some (.int (a2)), some (.int (a3)), some (.int (a4)), none, some (.int (y * y + a1 * x * y + a3 * y - x ^ (3 : Int).toNat)), some (.ref f), some (.ref po), none, none, none, none, none] (by rfl) ?_
    have s25 := s3.trans (s4.trans s5)
    have sA := s2.trans s25
    have hc5 := hc1.same sA
    have pPt : PtAt K H5 po (x : Rat) (y : Rat) := ⟨p1, p2, tup_of gpo, E3.get (by walk_at "mm"), E3.get (by walk_at "mm")⟩
    have hB29 : ChB 29 c := ⟨hB.u0, hB.u.up (by decide), hB.r.up (by decide), hB.s.up (by decide), hB.t.up (by decide)⟩
    have xR : RB 5 ((x : Int) : Rat) := RB.int (m := 5) hxB (by decide)
    have yR : RB 5 ((y : Int) : Rat) := RB.int (m := 5) hyB (by decide)
    have n1 := hB.u0
    have n2 : c.u * c.u ≠ 0 := qmul_ne n1 n1
    have n3 : c.u * c.u * c.u ≠ 0 := qmul_ne n2 n1
    have fxR : RB 60 (fx c x) := RB.up (RB.div n2 (RB.sub xR hB.r) (RB.mul hB.u hB.u)) (by decide)
    have fyR : RB 60 (fy c x y) := RB.up (RB.div n3 (RB.sub (RB.sub yR (RB.mul hB.s (RB.sub xR hB.r))) hB.t) (RB.mul (RB.mul hB.u hB.u) hB.u)) (by decide)
    refine ⟨.ref po, rfl, .ref p, rfl, po, p, c, rfl, .inr ⟨x, y, pPt, hc5, hB29, xR.up (by decide), yR.up (by decide), fun H6 fr s6 pFr => ?_⟩⟩
    first | refine sigN [some (.ref m), some (.ref p), some (.int (x)), some (.int (y)), some (.int (a1)), some (.int (a2)), some (.int (a3)), some (.int (a4)), none, some (.int (y * y + a1 * x * y + a3 * y - x ^ (3 : Int).toNat)), some (.ref f), some (.ref po), some (.ref fr), none, none, none, none] (by rfl) ?_ | refine sig [some (.ref m), some (.ref p), some (.int (x)), some (.int (y)), some (.int (a1)), some (.int (a2)), some (.int (a3)), some (.int (a4)), none, some (.int (y * y + a1 * x * y + a3 * y - x ^ (3 : Int).toNat)), some (.ref f), some (.ref po), some (.ref fr), none, none, none, none] (by rfl) ?_
    have E4 := E3.same s6
    have sB := sA.trans s6
    refine ⟨_, rfl, ?_⟩
    refine ⟨(by show 2 ≤ sizeLine; decide), fun w1 nw1 => ?_⟩
    obtain ⟨H7, eH_, s7, E5⟩ := litE E4 nw1 (fq_int x).symm xR
    rw [eH_]
    clear eH_
    refine ⟨.ref p, rfl, p, _, 1, .ref pr, rfl, rfl, Same.tup (sB.trans s7) hcp, rfl, ?_⟩
    refine ⟨w1, pr, _, _, rfl, E5.get (by walk_at "mm"), E5.get (by walk_at "mm"), (E5.rb (p := w1) (by walk_at "mm")).up (by decide), (E5.rb (p := pr) (by walk_at "mm")).up (by decide), trivial, fun w2 nw2 => ?_⟩
    obtain ⟨H8, eH_, s8, E6⟩ := stepE E5 nw2 (RB.sub (E5.rb (p := w1) (by walk_at "mm")) (E5.rb (p := pr) (by walk_at "mm")))
    rw [eH_]
    clear eH_
    refine ⟨.ref p, rfl, p, _, 0, .ref pu, rfl, rfl, Same.tup (sB.trans (s7.trans s8)) hcp, rfl, pu, c.u, 3, 2, rfl, E6.get (by walk_at "mm"), hB.u, by decide, by decide, fun H9 w3 s9 nw3 gw3 => ?_⟩
    have E7 := (E6.same s9).add (tup_of gw3) (hB.u.pow 2)
    refine ⟨w2, w3, _, _, rfl, E7.get (by walk_at "mm"), E7.get (by walk_at "mm"), (E7.rb (p := w2) (by walk_at "mm")).up (by decide), (E7.rb (p := w3) (by walk_at "mm")).up (by decide), (qpow_ne n1 2), fun rx nrx => ?_⟩
    obtain ⟨Ha, eH_, sa, E8⟩ := stepE E7 nrx (RB.div (qpow_ne n1 2) (E7.rb (p := w2) (by walk_at "mm")) (E7.rb (p := w3) (by walk_at "mm")))
    rw [eH_]
    clear eH_
    first | refine sigN [some (.ref m), some (.ref p), some (.int (x)), some (.int (y)), some (.int (a1)), some (.int (a2)), some (.int (a3)), some (.int (a4)), none, some (.int (y * y + a1 * x * y + a3 * y - x ^ (3 : Int).toNat)), some (.ref f), some (.ref po), some (.ref fr), some (.ref rx), none, none, none] (by rfl) ?_ | refine sig [some (.ref m), some (.ref p), some (.int (x)), some (.int (y)), some (.int (a1)), some (.int (a2)), some (.int (a3)), some (.int (a4)), none, some (.int (y * y + a1 * x * y + a3 * y - x ^ (3 : Int).toNat)), some (.ref f), some (.ref po), some (.ref fr), some (.ref rx), none, none, none] (by rfl) ?_
    have sC := sB.trans (s7.trans (s8.trans (s9.trans sa)))
    refine ⟨_, rfl, ?_⟩
    refine ⟨(by show 2 ≤ sizeLine; decide), fun w4 nw4 => ?_⟩
    obtain ⟨Hb, eH_, sb, E9⟩ := litE E8 nw4 (fq_int y).symm yR
    rw [eH_]
    clear eH_
    refine ⟨.ref p, rfl, p, _, 3, .ref pt, rfl, rfl, Same.tup (sC.trans sb) hcp, rfl, ?_⟩
    refine ⟨w4, pt, _, _, rfl, E9.get (by walk_at "mm"), E9.get (by walk_at "mm"), (E9.rb (p := w4) (by walk_at "mm")).up (by decide), (E9.rb (p := pt) (by walk_at "mm")).up (by decide), trivial, fun w5 nw5 => ?_⟩
    obtain ⟨Hc, eH_, sc, E10⟩ := stepE E9 nw5 (RB.sub (E9.rb (p := w4) (by walk_at "mm")) (E9.rb (p := pt) (by walk_at "mm")))
    rw [eH_]
    clear eH_
    refine ⟨.ref p, rfl, p, _, 2, .ref ps, rfl, rfl, Same.tup (sC.trans (sb.trans sc)) hcp, rfl, _, rfl, ?_⟩
    refine ⟨(by show 2 ≤ sizeLine; decide), fun w6 nw6 => ?_⟩
    obtain ⟨Hd, eH_, sd, E11⟩ := litE E10 nw6 (fq_int x).symm xR
    rw [eH_]
    clear eH_
    refine ⟨.ref p, rfl, p, _, 1, .ref pr, rfl, rfl, Same.tup (sC.trans (sb.trans (sc.trans sd))) hcp, rfl, ?_⟩
    refine ⟨w6, pr, _, _, rfl, E11.get (by walk_at "mm"), E11.get (by walk_at "mm"), (E11.rb (p := w6) (by walk_at "mm")).up (by decide), (E11.rb (p := pr) (by walk_at "mm")).up (by decide), trivial, fun w7 nw7 => ?_⟩
    obtain ⟨He, eH_, se, E12⟩ := stepE E11 nw7 (RB.sub (E11.rb (p := w6) (by walk_at "mm")) (E11.rb (p := pr) (by walk_at "mm")))
    rw [eH_]
    clear eH_
    refine ⟨ps, w7, _, _, rfl, E12.get (by walk_at "mm"), E12.get (by walk_at "mm"), (E12.rb (p := ps) (by walk_at "mm")).up (by decide), (E12.rb (p := w7) (by walk_at "mm")).up (by decide), trivial, fun w8 nw8 => ?_⟩
    obtain ⟨Hf, eH_, sf, E13⟩ := stepE E12 nw8 (RB.mul (E12.rb (p := ps) (by walk_at "mm")) (E12.rb (p := w7) (by walk_at "mm")))
    rw [eH_]
    clear eH_
    refine ⟨w5, w8, _, _, rfl, E13.get (by walk_at "mm"), E13.get (by walk_at "mm"), (E13.rb (p := w5) (by walk_at "mm")).up (by decide), (E13.rb (p := w8) (by walk_at "mm")).up (by decide), trivial, fun lf nlf => ?_⟩
    obtain ⟨Hg, eH_, sg, E14⟩ := stepE E13 nlf (RB.sub (E13.rb (p := w5) (by walk_at "mm")) (E13.rb (p := w8) (by walk_at "mm")))
    rw [eH_]
    clear eH_
    first | refine sigN [some (.ref m), some (.ref p), some (.int (x)), some (.int (y)), some (.int (a1)), some (.int (a2)), some (.int (a3)), some (.int (a4)), none, some (.int (y * y + a1 * x * y + a3 * y - x ^ (3 : Int).toNat)), some (.ref f), some (.ref po), some (.ref fr), some (.ref rx), some (.ref lf), none, none] (by rfl) ?_ | refine sig [some (.ref m), some (.ref p), some (.int (x)), some (.int (y)), some (.int (a1)), some (.int (a2)), some (.int (a3)), some (.int (a4)), none, some (.int (y * y + a1 * x * y + a3 * y - x ^ (3 : Int).toNat)), some (.ref f), some (.ref po), some (.ref fr), some (.ref rx), some (.ref lf), none, none] (by rfl) ?_
    have sD := sC.trans (sb.trans (sc.trans (sd.trans (se.trans (sf.trans sg)))))
    have s6g : Same H6 Hg := s7.trans (s8.trans (s9.trans (sa.trans (sb.trans (sc.trans (sd.trans (se.trans (sf.trans sg))))))))
    have pFg := pFr.same s6g
    obtain ⟨qx, qy, hfr, hqx, hqy⟩ := id pFg
    refine ⟨.ref fr, rfl, .ref fr, .tuple [dq (fx c x), dq (fy c x y)], rfl, .tup hfr (.cons (dp_q hqx) (.cons (dp_q hqy) .nil)), ok_pt fxR fyR (by decide), pt_depth _ _, pt_wt _ _, ?_⟩
    refine ⟨.ref rx, rfl, .ref lf, rfl, .ref p, rfl, p, _, 0, .ref pu, rfl, rfl, Same.tup (sD) hcp, rfl, pu, c.u, 3, 3, rfl, E14.get (by walk_at "mm"), hB.u, by decide, by decide, fun Hh w9 sh nw9 gw9 => ?_⟩
    have E15 := (E14.same sh).add (tup_of gw9) (hB.u.pow 3)
    refine ⟨lf, w9, _, _, rfl, E15.get (by walk_at "mm"), E15.get (by walk_at "mm"), (E15.rb (p := lf) (by walk_at "mm")).up (by decide), (E15.rb (p := w9) (by walk_at "mm")).up (by decide), (qpow_ne n1 3), fun ry nry => ?_⟩
    obtain ⟨Hi, eH_, si, E16⟩ := stepE E15 nry (RB.div (qpow_ne n1 3) (E15.rb (p := lf) (by walk_at "mm")) (E15.rb (p := w9) (by walk_at "mm")))
    rw [eH_]
    clear eH_
    refine ⟨(by show 2 ≤ sizeLine; decide), fun tz nz => ?_⟩
    have E17 := E16.same (Same.new (o := .tup [.ref rx, .ref ry]) nz)
    have sj := Same.new (o := .tup [.ref rx, .ref ry]) nz
    have gz : (upd Hi tz (.tup [.ref rx, .ref ry])) tz = some (.tup [.ref rx, .ref ry]) := upd_same
    generalize upd Hi tz (.tup [.ref rx, .ref ry]) = Hj at E17 sj gz ⊢
    have grx : SqT K Hj rx (fq (fx c x)) := sq_eq (E17.get (p := rx) (by walk_at "mm")) (by unfold fx; grind)
    have gry : SqT K Hj ry (fq (fy c x y)) := sq_eq (E17.get (p := ry) (by walk_at "mm")) (by unfold fy; grind)
    refine ⟨.ref tz, .tuple [dq (fx c x), dq (fy c x y)], rfl, .tup (tup_of gz) (.cons (dp_q grx) (.cons (dp_q gry) .nil)), ok_pt fxR fyR (by decide), pt_depth _ _, pt_wt _ _, rfl, _, rfl, ?_⟩
    generalize (PyData.tuple [dq (fx c x), dq (fy c x y)]).shown = zz
    refine iteNS rfl ?_
    have sF := sD.trans (sh.trans (si.trans sj))
    have s6j := s6g.trans (sh.trans (si.trans sj))
    clear E0 E1 E2 E3 E4 E5 E6 E7 E8 E9 E10 E11 E12 E13 E14 E15 E16 E17 grx gry gz s7 s8 s9 sa sb sc sd se sf sg sh si sj sC sD pFg hfr hqx hqy gw3 gw9
    refine ⟨(by show 0 ≤ sizeLine; decide), fun e0 ne0 => ?_⟩
    have sk := Same.new (H := Hj) (p := e0) (o := .tup []) ne0
    have gk : upd Hj e0 (.tup []) e0 = some (.tup []) := upd_same
    generalize upd Hj e0 (.tup []) = Hk at sk gk ⊢
    refine ⟨.ref p, rfl, e0, p, c, rfl, .inl ⟨tup_of gk, fun Hl t0 sl ht0 => ?_⟩⟩
    refine ⟨(by show 0 ≤ sizeLine; decide), fun e1 ne1 => ?_⟩
    have sm := Same.new (H := Hl) (p := e1) (o := .tup []) ne1
    have gm : upd Hl e1 (.tup []) e1 = some (.tup []) := upd_same
    generalize upd Hl e1 (.tup []) = Hm at sm gm ⊢
    refine ⟨.tuple [], .tuple [], .tup (Same.tup sm ht0) .nil, .tup (tup_of gm) .nil, rfl, rfl, _, rfl, ?_⟩
    rw [show PyData.eqv (.tuple []) (.tuple []) = true from rfl]
    refine iteF ?_
    have s6m := s6j.trans (sk.trans (sl.trans sm))
    have sH := sF.trans (sk.trans (sl.trans sm))
    clear sk sl sm gk gm ht0 sF s6j
    have hcm := hc1.same sH
    refine ⟨.ref f, rfl, .ref p, rfl, f, p, ⟨a1, a2, a3, a4, a6⟩, c, rfl, Same.tup (s25.trans (s6.trans s6m)) gf2, hCv, hcm, hB, fun Hn td sn hdue => ?_⟩
    first | refine sigN [some (.ref m), some (.ref p), some (.int (x)), some (.int (y)), some (.int (a1)), some (.int (a2)), some (.int (a3)), some (.int (a4)), none, some (.int (y * y + a1 * x * y + a3 * y - x ^ (3 : Int).toNat)), some (.ref f), some (.ref po), some (.ref fr), some (.ref rx), some (.ref lf), some (.ref td), none] (by rfl) ?_ | refine sig [some (.ref m), some (.ref p), some (.int (x)), some (.int (y)), some (.int (a1)), some (.int (a2)), some (.int (a3)), some (.int (a4)), none, some (.int (y * y + a1 * x * y + a3 * y - x ^ (3 : Int).toNat)), some (.ref f), some (.ref po), some (.ref fr), some (.ref rx), some (.ref lf), some (.ref td), none] (by rfl) ?_
    obtain ⟨L1, L2, L3, L4, L6⟩ := lB12 (d := c) hB (RB.int (m := 12) hCv.h1 (by decide)) (RB.int (m := 12) hCv.h2 (by decide)) (RB.int (m := 12) hCv.h3 (by decide)) (RB.int (m := 12) hCv.h4 (by decide)) (RB.int (m := 12) hCv.h6 (by decide))
    obtain ⟨d1, d2, d3, d4, d6, gd, g1, g2, g3, g4, g6⟩ := hdue
    have pFn := pFr.same (s6m.trans sn)
    obtain ⟨qx, qy, hfr, hqx, hqy⟩ := id pFn
    have F0 : FrE K Hn [(qx, fx c x, 60), (qy, fy c x y, 60), (d1, l1 c a1, 117), (d2, l2 c a1 a2, 117), (d3, l3 c a1 a3, 117), (d4, l4 c a1 a2 a3 a4, 117), (d6, l6 c a1 a2 a3 a4 a6, 117)] :=
      FrE.add (FrE.add (FrE.add (FrE.add (FrE.add (FrE.add (FrE.add FrE.nil g6 L6) g4 L4) g3 L3) g2 L2) g1 L1) hqy fyR) hqx fxR
    refine ⟨.ref fr, rfl, fr, _, 1, .ref qy, rfl, rfl, hfr, rfl, .ref fr, rfl, fr, _, 1, .ref qy, rfl, rfl, hfr, rfl, ?_⟩
    refine ⟨qy, qy, _, _, rfl, F0.get (by walk_at "mm"), F0.get (by walk_at "mm"), (F0.rb (p := qy) (by walk_at "mm")).up (by decide), (F0.rb (p := qy) (by walk_at "mm")).up (by decide), trivial, fun v1 nv1 => ?_⟩
    obtain ⟨Ho, eH_, so, F1⟩ := stepE F0 nv1 (RB.mul (F0.rb (p := qy) (by walk_at "mm")) (F0.rb (p := qy) (by walk_at "mm")))
    rw [eH_]
    clear eH_
    refine ⟨.ref fr, rfl, fr, _, 1, .ref qy, rfl, rfl, Same.tup so hfr, rfl, .ref td, rfl, td, _, 0, .ref d1, rfl, rfl, tup_of (so _ _ gd), rfl, .ref fr, rfl, fr, _, 0, .ref qx, rfl, rfl, Same.tup so hfr, rfl, ?_⟩
    refine ⟨d1, qx, _, _, rfl, F1.get (by walk_at "mm"), F1.get (by walk_at "mm"), (F1.rb (p := d1) (by walk_at "mm")).up (by decide), (F1.rb (p := qx) (by walk_at "mm")).up (by decide), trivial, fun v2 nv2 => ?_⟩
    obtain ⟨Hp2, eH_, sp2, F2⟩ := stepE F1 nv2 (RB.mul (F1.rb (p := d1) (by walk_at "mm")) (F1.rb (p := qx) (by walk_at "mm")))
    rw [eH_]
    clear eH_
    have so2 := so.trans sp2
    refine ⟨.ref td, rfl, td, _, 2, .ref d3, rfl, rfl, tup_of (so2 _ _ gd), rfl, ?_⟩
    refine ⟨v2, d3, _, _, rfl, F2.get (by walk_at "mm"), F2.get (by walk_at "mm"), (F2.rb (p := v2) (by walk_at "mm")).up (by decide), (F2.rb (p := d3) (by walk_at "mm")).up (by decide), trivial, fun v3 nv3 => ?_⟩
    obtain ⟨Hq, eH_, sq, F3⟩ := stepE F2 nv3 (RB.add (F2.rb (p := v2) (by walk_at "mm")) (F2.rb (p := d3) (by walk_at "mm")))
    rw [eH_]
    clear eH_
    refine ⟨qy, v3, _, _, rfl, F3.get (by walk_at "mm"), F3.get (by walk_at "mm"), (F3.rb (p := qy) (by walk_at "mm")).up (by decide), (F3.rb (p := v3) (by walk_at "mm")).up (by decide), trivial, fun v4 nv4 => ?_⟩
    obtain ⟨Hr, eH_, sr, F4⟩ := stepE F3 nv4 (RB.mul (F3.rb (p := qy) (by walk_at "mm")) (F3.rb (p := v3) (by walk_at "mm")))
    rw [eH_]
    clear eH_
    refine ⟨v1, v4, _, _, rfl, F4.get (by walk_at "mm"), F4.get (by walk_at "mm"), (F4.rb (p := v1) (by walk_at "mm")).up (by decide), (F4.rb (p := v4) (by walk_at "mm")).up (by decide), trivial, fun lv nlv => ?_⟩
    obtain ⟨Hs, eH_, ss, F5⟩ := stepE F4 nlv (RB.add (F4.rb (p := v1) (by walk_at "mm")) (F4.rb (p := v4) (by walk_at "mm")))
    rw [eH_]
    clear eH_
    have so3 := so2.trans (sq.trans (sr.trans ss))
    first | refine sigN [some (.ref m), some (.ref p), some (.int (x)), some (.int (y)), some (.int (a1)), some (.int (a2)), some (.int (a3)), some (.int (a4)), none, some (.int (y * y + a1 * x * y + a3 * y - x ^ (3 : Int).toNat)), some (.ref f), some (.ref po), some (.ref fr), some (.ref rx), some (.ref lv), some (.ref td), none] (by rfl) ?_ | refine sig [some (.ref m), some (.ref p), some (.int (x)), some (.int (y)), some (.int (a1)), some (.int (a2)), some (.int (a3)), some (.int (a4)), none, some (.int (y * y + a1 * x * y + a3 * y - x ^ (3 : Int).toNat)), some (.ref f), some (.ref po), some (.ref fr), some (.ref rx), some (.ref lv), some (.ref td), none] (by rfl) ?_
    refine ⟨.ref fr, rfl, fr, _, 0, .ref qx, rfl, rfl, Same.tup so3 hfr, rfl, .ref fr, rfl, fr, _, 0, .ref qx, rfl, rfl, Same.tup so3 hfr, rfl, ?_⟩
    refine ⟨qx, qx, _, _, rfl, F5.get (by walk_at "mm"), F5.get (by walk_at "mm"), (F5.rb (p := qx) (by walk_at "mm")).up (by decide), (F5.rb (p := qx) (by walk_at "mm")).up (by decide), trivial, fun v5 nv5 => ?_⟩
    obtain ⟨Ht, eH_, st, F6⟩ := stepE F5 nv5 (RB.mul (F5.rb (p := qx) (by walk_at "mm")) (F5.rb (p := qx) (by walk_at "mm")))
    rw [eH_]
    clear eH_
    have so4 := so3.trans st
    refine ⟨.ref fr, rfl, fr, _, 0, .ref qx, rfl, rfl, Same.tup so4 hfr, rfl, .ref td, rfl, td, _, 1, .ref d2, rfl, rfl, tup_of (so4 _ _ gd), rfl, ?_⟩
    refine ⟨qx, d2, _, _, rfl, F6.get (by walk_at "mm"), F6.get (by walk_at "mm"), (F6.rb (p := qx) (by walk_at "mm")).up (by decide), (F6.rb (p := d2) (by walk_at "mm")).up (by decide), trivial, fun v6 nv6 => ?_⟩
    obtain ⟨Hu, eH_, su, F7⟩ := stepE F6 nv6 (RB.add (F6.rb (p := qx) (by walk_at "mm")) (F6.rb (p := d2) (by walk_at "mm")))
    rw [eH_]
    clear eH_
    refine ⟨v5, v6, _, _, rfl, F7.get (by walk_at "mm"), F7.get (by walk_at "mm"), (F7.rb (p := v5) (by walk_at "mm")).up (by decide), (F7.rb (p := v6) (by walk_at "mm")).up (by decide), trivial, fun v7 nv7 => ?_⟩
    obtain ⟨Hv, eH_, sv, F8⟩ := stepE F7 nv7 (RB.mul (F7.rb (p := v5) (by walk_at "mm")) (F7.rb (p := v6) (by walk_at "mm")))
    rw [eH_]
    clear eH_
    have so5 := so4.trans (su.trans sv)
    refine ⟨.ref td, rfl, td, _, 3, .ref d4, rfl, rfl, tup_of (so5 _ _ gd), rfl, .ref fr, rfl, fr, _, 0, .ref qx, rfl, rfl, Same.tup so5 hfr, rfl, ?_⟩
    refine ⟨d4, qx, _, _, rfl, F8.get (by walk_at "mm"), F8.get (by walk_at "mm"), (F8.rb (p := d4) (by walk_at "mm")).up (by decide), (F8.rb (p := qx) (by walk_at "mm")).up (by decide), trivial, fun v8 nv8 => ?_⟩
    obtain ⟨Hw, eH_, sw, F9⟩ := stepE F8 nv8 (RB.mul (F8.rb (p := d4) (by walk_at "mm")) (F8.rb (p := qx) (by walk_at "mm")))
    rw [eH_]
    clear eH_
    have so6 := so5.trans sw
    refine ⟨.ref td, rfl, td, _, 4, .ref d6, rfl, rfl, tup_of (so6 _ _ gd), rfl, ?_⟩
    refine ⟨v8, d6, _, _, rfl, F9.get (by walk_at "mm"), F9.get (by walk_at "mm"), (F9.rb (p := v8) (by walk_at "mm")).up (by decide), (F9.rb (p := d6) (by walk_at "mm")).up (by decide), trivial, fun v9 nv9 => ?_⟩
    obtain ⟨Hx, eH_, sx, F10⟩ := stepE F9 nv9 (RB.add (F9.rb (p := v8) (by walk_at "mm")) (F9.rb (p := d6) (by walk_at "mm")))
    rw [eH_]
    clear eH_
    refine ⟨v7, v9, _, _, rfl, F10.get (by walk_at "mm"), F10.get (by walk_at "mm"), (F10.rb (p := v7) (by walk_at "mm")).up (by decide), (F10.rb (p := v9) (by walk_at "mm")).up (by decide), trivial, fun rv nrv => ?_⟩
    obtain ⟨Hy, eH_, sy, F11⟩ := stepE F10 nrv (RB.add (F10.rb (p := v7) (by walk_at "mm")) (F10.rb (p := v9) (by walk_at "mm")))
    rw [eH_]
    clear eH_
    first | refine sigN [some (.ref m), some (.ref p), some (.int (x)), some (.int (y)), some (.int (a1)), some (.int (a2)), some (.int (a3)), some (.int (a4)), none, some (.int (y * y + a1 * x * y + a3 * y - x ^ (3 : Int).toNat)), some (.ref f), some (.ref po), some (.ref fr), some (.ref rx), some (.ref lv), some (.ref td), some (.ref rv)] (by rfl) ?_ | refine sig [some (.ref m), some (.ref p), some (.int (x)), some (.int (y)), some (.int (a1)), some (.int (a2)), some (.int (a3)), some (.int (a4)), none, some (.int (y * y + a1 * x * y + a3 * y - x ^ (3 : Int).toNat)), some (.ref f), some (.ref po), some (.ref fr), some (.ref rx), some (.ref lv), some (.ref td), some (.ref rv)] (by rfl) ?_
    have so7 := so6.trans (sx.trans sy)
    refine ⟨_, rfl, _, rfl, _, _, dp_q (F11.get (p := lv) (by walk_at "mm")), dp_q (F11.get (p := rv) (by walk_at "mm")), rfl, rfl, ?_⟩
    rw [eqv_dq, decide_eq_true (pt_on c n1 x y a1 a2 a3 a4 a6 onc)]
    refine ⟨_, rfl, iteT ?_⟩
    have sN := s6m.trans (sn.trans so7)
    have sAll := sH.trans (sn.trans so7)
    refine ⟨.ref fr, rfl, .ref p, rfl, p, c, rfl, hc1.same sAll, hB, fun Hz bk sz hbk => ?_⟩
    refine ⟨fr, bk, backC c, rfl, .inr ⟨fx c x, fy c x y, pFr.same (sN.trans sz), hbk, backB hB, fxR.up (by decide), fyR.up (by decide), fun I1 tb si1 pB => ?_⟩⟩
    obtain ⟨eb1, eb2⟩ := pt_back c n1 (x : Rat) (y : Rat)
    rw [eb1, eb2] at pB
    obtain ⟨z1, z2, hb0, hb1, hb2⟩ := pB
    refine ⟨.ref tb, .tuple [dq (x : Rat), dq (y : Rat)], rfl, .tup hb0 (.cons (dp_q hb1) (.cons (dp_q hb2) .nil)), ok_pt xR yR (by decide), pt_depth _ _, pt_wt _ _, ?_⟩
    obtain ⟨y1, y2, hp0, hp1, hp2⟩ := pPt.same (s6.trans (sN.trans (sz.trans si1)))
    refine ⟨.ref po, rfl, .ref po, .tuple [dq (x : Rat), dq (y : Rat)], rfl, .tup hp0 (.cons (dp_q hp1) (.cons (dp_q hp2) .nil)), ok_pt xR yR (by decide), pt_depth _ _, pt_wt _ _, rfl, ?_⟩
    generalize (PyData.tuple [dq (x : Rat), dq (y : Rat)]).shown = zz2
    rw [decide_eq_true rfl]
    exact q _ (b1.trans (But.of (sAll.trans (sz.trans si1))))
end
end K06
set_option Elab.async false
set_option linter.all false
set_option maxRecDepth 100000
set_option maxHeartbeats 400000
namespace K06
open PySem PySem.Spec PyProof.Rows L2 Gd QM
/-! ### lists of fractions as data -/
theorem lay_q (l : List Rat) : PyData.canLayAll0 (l.map dq) = true := by
  induction l with
  | nil => rfl
  | cons a l ih =>
    rw [List.map_cons, PyData.canLayAll0, ih]
    rfl
theorem depth_q (l : List Rat) : PyData.depthAll (l.map dq) ≤ 5 := by
  induction l with
  | nil => exact Nat.zero_le _
  | cons a l ih =>
    rw [List.map_cons, PyData.depthAll]
    have : (dq a).depth ≤ 5 := by simp [dq, PyData.depth, PyData.depthAll]
    omega
theorem shaped_q (l : List Rat) : SeqAt.shaped (.list (l.map dq)) = true := by
  unfold SeqAt.shaped
  rw [Bool.and_eq_true]
  constructor
  · rw [PyData.canLay0]
    exact lay_q l
  · have := depth_q l
    rw [decide_eq_true_iff, PyData.depth]
    omega
theorem noL_q (l : List Rat) : noLAll (l.map dq) = true := by
  induction l with
  | nil => rfl
  | cons a l ih =>
    rw [List.map_cons, noLAll, ih]
    rfl
theorem dpAll_snoc {K : PySem.W.Frag} {H : Hp} {xs : List V} {ds : List PyData} {x : V} {d : PyData} (h : DpAll K H xs ds) (k : Dp K H x d) : DpAll K H (xs ++ [x]) (ds ++ [d]) := by
  induction xs generalizing ds with
  | nil =>
    cases h
    exact .cons k .nil
  | cons y ys ih =>
    cases h with
    | cons h1 h2 => exact .cons h1 (ih h2)
theorem rf_dp {K : PySem.W.Frag} {H : Hp} : ∀ {xs : List V} {qs : List Rat}, RfAt K H xs qs → DpAll K H xs (qs.map dq)
  | [], [], _ => .nil
  | [], _ :: _, h => by
    have := h.1
    cases this
  | _ :: _, [], h => by
    have := h.1
    cases this
  | x :: xs, q :: qs, h => by
    obtain ⟨a, q', rfl, e, hs⟩ := h.2 0 x rfl
    obtain rfl := Option.some.inj e
    refine .cons (dp_q hs) (rf_dp ⟨Nat.succ.inj h.1, fun i y hy => ?_⟩)
    exact h.2 (i + 1) y hy
theorem filt_nil {qs : List Rat} : (qs.filter fun q => decide (q.den ≠ 1)) = [] ↔ AllW qs := by
  unfold AllW
  rw [List.filter_eq_nil_iff]
  constructor
  · intro h q hq
    have := h q hq
    simpa using this
  · intro h q hq
    simpa using h q hq
theorem take_filt {qs : List Rat} {i : Nat} {q : Rat} (h : qs[i]? = some q) : (qs.take (i + 1)).filter (fun q => decide (q.den ≠ 1)) = (qs.take i).filter (fun q => decide (q.den ≠ 1)) ++ if q.den ≠ 1 then [q] else [] := by
  rw [List.take_succ, List.filter_append, h]
  by_cases z : q.den = 1 <;> simp [z]
/-- what whole says -/
def wD (qs : List Rat) : List PyData := qs.map fun q => .int q.num
theorem okAll_qs {d : Ch} {c : Cv} {m : Nat} (h : RB m (l1 d c.a1) ∧ RB m (l2 d c.a1 c.a2) ∧ RB m (l3 d c.a1 c.a3) ∧ RB m (l4 d c.a1 c.a2 c.a3 c.a4) ∧ RB m (l6 d c.a1 c.a2 c.a3 c.a4 c.a6)) (hm : m ≤ 1900) : okAll ((qsL d c).map dq) = true ∧ okAll (wD (qsL d c)) = true := by
  obtain ⟨h1, h2, h3, h4, h6⟩ := h
  unfold qsL wD
  simp [okAll, okD, okq h1 hm, okq h2 hm, okq h3 hm, okq h4 hm, okq h6 hm, B.log h1.n hm, B.log h2.n hm, B.log h3.n hm, B.log h4.n hm, B.log h6.n hm]
theorem qs_depth (d : Ch) (c : Cv) : (PyData.list [.tuple ((qsL d c).map dq), .tuple (wD (qsL d c))]).depth ≤ 40 ∧ (PyData.list [.tuple ((qsL d c).map dq), .none]).depth ≤ 40 ∧ (PyData.tuple ((qsL d c).map dq)).depth ≤ 40 := by
  simp [PyData.depth, PyData.depthAll, dq, qsL, wD]
theorem qs_wt (d : Ch) (c : Cv) : wt (PyData.list [.tuple ((qsL d c).map dq), .tuple (wD (qsL d c))]) ≤ 1000000 ∧ wt (PyData.list [.tuple ((qsL d c).map dq), .none]) ≤ 1000000 ∧ wt (PyData.tuple ((qsL d c).map dq)) ≤ 1000000 := by
  simp [wt, wtAll, dq, qsL, wD]
/-- a change as data -/
def dcc (c : Ch) : PyData := .tuple [dq c.u, dq c.r, dq c.s, dq c.t]
theorem dp_cc {K : PySem.W.Frag} {H : Hp} {p : Addr} {c : Ch} (h : ChAt K H p c) : Dp K H (.ref p) (dcc c) := by
  obtain ⟨a, b, d, e, h1, h2, h3, h4, h5⟩ := h
  exact .tup h1 (.cons (dp_q h2) (.cons (dp_q h3) (.cons (dp_q h4) (.cons (dp_q h5) .nil))))
theorem cc_ok {c : Ch} (h : ChB 29 c) : okD (.list [dcc c, dcc ⟨1, 0, 0, 0⟩]) = true := by
  have e1 := okq h.u (by decide)
  have e2 := okq h.r (by decide)
  have e3 := okq h.s (by decide)
  have e4 := okq h.t (by decide)
  have e5 := okq (m := 1) RB.one (by decide)
  have e6 := okq (m := 1) RB.zero (by decide)
  simp [okD, okAll, dcc, e1, e2, e3, e4, e5, e6]
theorem cc_depth (c : Ch) : (PyData.list [dcc c, dcc ⟨1, 0, 0, 0⟩]).depth ≤ 40 ∧ wt (PyData.list [dcc c, dcc ⟨1, 0, 0, 0⟩]) ≤ 1000000 := by
  constructor
  · simp [PyData.depth, PyData.depthAll, dcc, dq]
  · simp [wt, wtAll, dcc, dq]
/-- the curve with whole numbers -/
def wCv (qs : List Rat) : Cv := ⟨(qs.getD 0 0).num, (qs.getD 1 0).num, (qs.getD 2 0).num, (qs.getD 3 0).num, (qs.getD 4 0).num⟩
theorem whole_is {q : Rat} (h : q.den = 1) : ((q.num : Int) : Rat) = q := by
  have := as_div q
  rw [h] at this
  rw [this]
  have e : (((1 : Nat) : Int) : Rat) = 1 := rfl
  rw [e]
  grind
theorem qs_then {c d : Ch} {v : Cv} (hu : c.u ≠ 0) (hv : d.u ≠ 0) (hw : AllW (qsL c v)) : qsL d (wCv (qsL c v)) = qsL (thenC c d) v := by
  have w1 := whole_is (hw (l1 c v.a1) (by simp [qsL]))
  have w2 := whole_is (hw (l2 c v.a1 v.a2) (by simp [qsL]))
  have w3 := whole_is (hw (l3 c v.a1 v.a3) (by simp [qsL]))
  have w4 := whole_is (hw (l4 c v.a1 v.a2 v.a3 v.a4) (by simp [qsL]))
  have w6 := whole_is (hw (l6 c v.a1 v.a2 v.a3 v.a4 v.a6) (by simp [qsL]))
  obtain ⟨e1, e2, e3, e4, e6⟩ := led_then c d (v.a1 : Rat) v.a2 v.a3 v.a4 v.a6 hu hv
  show [l1 d (((l1 c v.a1).num : Int) : Rat), l2 d (((l1 c v.a1).num : Int) : Rat) (((l2 c v.a1 v.a2).num : Int) : Rat), l3 d (((l1 c v.a1).num : Int) : Rat) (((l3 c v.a1 v.a3).num : Int) : Rat), l4 d (((l1 c v.a1).num : Int) : Rat) (((l2 c v.a1 v.a2).num : Int) : Rat) (((l3 c v.a1 v.a3).num : Int) : Rat) (((l4 c v.a1 v.a2 v.a3 v.a4).num : Int) : Rat), l6 d (((l1 c v.a1).num : Int) : Rat) (((l2 c v.a1 v.a2).num : Int) : Rat) (((l3 c v.a1 v.a3).num : Int) : Rat) (((l4 c v.a1 v.a2 v.a3 v.a4).num : Int) : Rat) (((l6 c v.a1 v.a2 v.a3 v.a4 v.a6).num : Int) : Rat)] = [l1 (thenC c d) v.a1, l2 (thenC c d) v.a1 v.a2, l3 (thenC c d) v.a1 v.a3, l4 (thenC c d) v.a1 v.a2 v.a3 v.a4, l6 (thenC c d) v.a1 v.a2 v.a3 v.a4 v.a6]
  rw [w1, w2, w3, w4, w6, e1, e2, e3, e4, e6]
theorem wCv_B {c : Ch} {v : Cv} (hB : ChB 3 c) (hv : CvB 8 v) : CvB 97 (wCv (qsL c v)) := by
  obtain ⟨h1, h2, h3, h4, h6⟩ := lB8 (d := c) hB (RB.int (m := 8) hv.h1 (by decide)) (RB.int (m := 8) hv.h2 (by decide)) (RB.int (m := 8) hv.h3 (by decide)) (RB.int (m := 8) hv.h4 (by decide)) (RB.int (m := 8) hv.h6 (by decide))
  exact ⟨h1.n, h2.n, h3.n, h4.n, h6.n⟩
section
variable {P : Program} {w : World} {K : PySem.W.Frag} {mg : Str → Option Value} {base : Heap}
/-- the whole numbers, or None -/
def WhAt (K : PySem.W.Frag) (H : Hp) (qs : List Rat) (x : V) : Prop := (AllW qs ∧ ∃ t, x = .ref t ∧ H t = some (.tup (qs.map fun q => .int q.num))) ∨ (¬ AllW qs ∧ x = .non)
theorem WhAt.same {H H' : Hp} {qs : List Rat} {x : V} (s : Same H H') (h : WhAt K H qs x) : WhAt K H' qs x := by
  rcases h with ⟨h1, t, h2, h3⟩ | h
  · exact Or.inl ⟨h1, t, h2, s _ _ h3⟩
  · exact Or.inr h
theorem dp_ints {H : Hp} (qs : List Rat) : DpAll K H (qs.map fun q => .int q.num) (wD qs) := by
  induction qs with
  | nil => exact .nil
  | cons q qs ih => exact .cons (.int _) ih
def sp_law_right (K : PySem.W.Frag) : Sp := fun vs H Q _ => ∃ (m cl : Addr) (n : Nat), vs = [.ref m] ∧ n ≤ 100 ∧ MAt H m cl n ∧ ∀ H', But m H H' → Q (.bl true) H'
abbrev s__law_right : Stmt := topS 45
theorem sc__law_right : FnScope ["m", "five_v", "change", "other", "due", "whole", "part", "told"] ["m"] (defScope s__law_right) := ⟨rfl, rfl, rfl, by decide +kernel, rfl, by decide +kernel, by decide +kernel⟩
theorem k_law_right (T : Tx K mg) (D : Df K mg "_law_right" s__law_right ["m"]) (c_law_due : Kl P w K mg base 6 "_law_due" (sp_law_due K)) (c_led : Kl P w K mg base 4 "led" (sp_led K)) (c_law_point_right : Kg P w K mg base 7 "_law_point_right" (sp_law_point_right K)) (c_law_curve : Kl P w K mg base 3 "_law_curve" (sp_law_curve K)) (c_law_change : Kl P w K mg base 3 "_law_change" (sp_law_change K)) (c_whole_curve : Kl P w K mg base 1 "whole_curve" (sp_whole_curve K)) (c_then : Kl P w K mg base 4 "then" (sp_then K)) (c_law_joined : Kl P w K mg base 6 "_law_joined" (sp_law_joined K)) (c_back : Kl P w K mg base 3 "back" (sp_back K)) : Kg P w K mg base 8 "_law_right" (sp_law_right K) := by
  have nd := sc__law_right.nd
  refine Kg.by_body D sc__law_right (fun vs H Q E h => ?_) (fun f cdv A outer s H vs Q E hgd hr h => ?_)
  · obtain ⟨_, _, _, rfl, _⟩ := h
    rfl
  · obtain ⟨m, cl, n, rfl, hn, hM, q⟩ := h
    have hu1 := hu_of hr
    refine ⟨_, (pss_cons (ps_par3 (i := 1) (j := 2) (l := 3) (by rfl) nd rfl rfl rfl (by decide) (by decide) (by decide) rfl rfl rfl (pa_cons (pe_k c_law_curve  hr (by decide) (by rfl) (pa_cons (pv 0) (pa_cons pe_int pa_nil))) (pa_cons (pe_k c_law_change  hr (by decide) (by rfl) (pa_cons (pv 0) pa_nil)) (pa_cons (pe_k c_law_change  hr (by decide) (by rfl) (pa_cons (pv 0) pa_nil)) pa_nil))) (by rfl))
      (pss_cons (ps_set (i := 4) nd rfl (by first | exact Or.inl rfl | exact Or.inr rfl) (pe_k c_law_due  hr (by decide) (by rfl) (pa_cons (pv 1) (pa_cons (pv 2) pa_nil))))
      (C8.pss_cut (ps_set (i := 5) nd rfl (by first | exact Or.inl rfl | exact Or.inr rfl) (pe_ifExp (pt_cmpR (op_eqD hr.units) (pe_lc (own := [("part", 6)]) (g := gName 6) rfl nd (pi_tup (pv 4)) (blkOk_by (N := ["m", "five_v", "change", "other", "due", "whole", "part", "told"]) (sc := defScope s__law_right) (by decide +kernel)) (fun _ _ _ _ _ => (pg_name (i := 6) nd rfl (by first | exact Or.inl rfl | exact Or.inr rfl))) (fun _ _ _ _ _ => (pts_one (pt_cmpR op_ne (pe_ix (ix_tupK (K := K) rfl) (pv 6) pe_int (fun _ _ => rfl)) pe_int (nomark _)))) (fun _ _ _ _ _ => (pv 6))) (pe_lst pa_nil) (nomark _)) (pe_callTy call_tuple_of (by rfl) T.tuple (by decide +kernel) (pa_cons (pe_lc (own := [("part", 6)]) (g := gName 6) rfl nd (pi_tup (pv 4)) (blkOk_by (N := ["m", "five_v", "change", "other", "due", "whole", "part", "told"]) (sc := defScope s__law_right) (by decide +kernel)) (fun _ _ _ _ _ => (pg_name (i := 6) nd rfl (by first | exact Or.inl rfl | exact Or.inr rfl))) (fun _ _ _ _ _ => pts_nil) (fun _ _ _ _ _ => (pe_ix (ix_tupK (K := K) rfl) (pv 6) pe_int (fun _ _ => rfl)))) pa_nil)) pe_non))
      (pss_cons (ps_set (i := 7) nd rfl (by first | exact Or.inl rfl | exact Or.inr rfl) (pe_k c_led  hr (by decide) (by rfl) (pa_cons (pv 1) (pa_cons (pv 2) pa_nil))))
      (C8.pss_cut (ps_if (pt_cmpR op_ne (pe_callB (call_reprD hgd hr.units) (by rfl) T.repr (by decide +kernel) (pa_cons (pe_lst (pa_cons (pv 7) (pa_cons (pe_k c_whole_curve  hr (by decide) (by rfl) (pa_cons (pv 7) pa_nil)) pa_nil))) pa_nil)) (pe_callB (call_reprD hgd hr.units) (by rfl) T.repr (by decide +kernel) (pa_cons (pe_lst (pa_cons (pv 4) (pa_cons (pv 5) pa_nil))) pa_nil)) (nomark _)) (pss_one (ps_ret pe_bl)) pss_nil)
      (pss_cons (ps_if (pt_cmpR op_ne (pe_callB (call_reprD hgd hr.units) (by rfl) T.repr (by decide +kernel) (pa_cons (pe_lst (pa_cons (pe_k c_then  hr (by decide) (by rfl) (pa_cons (pv 2) (pa_cons (pv 3) pa_nil))) (pa_cons (pe_k c_then  hr (by decide) (by rfl) (pa_cons (pv 2) (pa_cons (pe_k c_back  hr (by decide) (by rfl) (pa_cons (pv 2) pa_nil)) pa_nil))) pa_nil))) pa_nil)) (pe_callB (call_reprD hgd hr.units) (by rfl) T.repr (by decide +kernel) (pa_cons (pe_lst (pa_cons (pe_k c_law_joined  hr (by decide) (by rfl) (pa_cons (pv 2) (pa_cons (pv 3) pa_nil))) (pa_cons (pe_tup (pa_cons (pe_tup (pa_cons pe_int (pa_cons pe_int pa_nil))) (pa_cons (pe_tup (pa_cons pe_int (pa_cons pe_int pa_nil))) (pa_cons (pe_tup (pa_cons pe_int (pa_cons pe_int pa_nil))) (pa_cons (pe_tup (pa_cons pe_int (pa_cons pe_int pa_nil))) pa_nil))))) pa_nil))) pa_nil)) (nomark _)) (pss_one (ps_ret pe_bl)) pss_nil)
      (pss_cons (ps_if (PW.pt (pw_and (pt_cmpR op_notN (pv 5) pe_non (nomark _)) (pw_and1 (pt_cmpR op_ne (pe_callB (call_reprD hgd hr.units) (by rfl) T.repr (by decide +kernel) (pa_cons (pe_k c_led  hr (by decide) (by rfl) (pa_cons (pv 5) (pa_cons (pv 3) pa_nil))) pa_nil)) (pe_callB (call_reprD hgd hr.units) (by rfl) T.repr (by decide +kernel) (pa_cons (pe_k c_led  hr (by decide) (by rfl) (pa_cons (pv 1) (pa_cons (pe_k c_then  hr (by decide) (by rfl) (pa_cons (pv 2) (pa_cons (pv 3) pa_nil))) pa_nil))) pa_nil)) (nomark _))))) (pss_one (ps_ret pe_bl)) pss_nil)
      (pss_one (ps_ret (pe_g c_law_point_right hgd hr (by decide) (by rfl) (pa_cons (pv 0) (pa_cons (pv 2) pa_nil)))))))))))), ?_⟩
    refine ⟨_, rfl, m, cl, 30, n, rfl, by decide, by decide, by omega, hM, fun H1 f v b1 m1 hf hv => ?_⟩
    refine ⟨_, rfl, m, cl, n + 300, rfl, by omega, m1, fun H2 p c b2 m2 hc hB => ?_⟩
    refine ⟨_, rfl, m, cl, n + 300 + 10, rfl, by omega, m2, fun H3 o d b3 m3 hd hD => ?_⟩
    refine ⟨_, _, _, rfl, ?_⟩
    first | refine sigN [some (.ref m), some (.ref f), some (.ref p), some (.ref o), none, none, none, none] (by rfl) ?_ | refine sig [some (.ref m), some (.ref f), some (.ref p), some (.ref o), none, none, none, none] (by rfl) ?_
    have hf3 : SqT K H3 f v.tup := b3.seqT m2 (b2.seqT m1 hf)
    have hc3 : ChAt K H3 p c := hc.but b3 m2
    have bA : But m H H3 := b1.trans (b2.trans b3)
    have hv12 : CvB 12 v := ⟨hv.h1.up (by decide), hv.h2.up (by decide), hv.h3.up (by decide), hv.h4.up (by decide), hv.h6.up (by decide)⟩
    have hv97 : CvB 97 v := ⟨hv.h1.up (by decide), hv.h2.up (by decide), hv.h3.up (by decide), hv.h4.up (by decide), hv.h6.up (by decide)⟩
    have hB29 : ChB 29 c := ⟨hB.u0, hB.u.up (by decide), hB.r.up (by decide), hB.s.up (by decide), hB.t.up (by decide)⟩
    have hD29 : ChB 29 d := ⟨hD.u0, hD.u.up (by decide), hD.r.up (by decide), hD.s.up (by decide), hD.t.up (by decide)⟩
    have lB := lB8 (d := c) hB (RB.int (m := 8) hv.h1 (by decide)) (RB.int (m := 8) hv.h2 (by decide)) (RB.int (m := 8) hv.h3 (by decide)) (RB.int (m := 8) hv.h4 (by decide)) (RB.int (m := 8) hv.h6 (by decide))
    clear b1 b2 b3 m1 m2 hf hc
    refine ⟨.ref f, rfl, .ref p, rfl, f, p, v, c, rfl, hf3, hv12, hc3, hB, fun H4 td s4 hdue => ?_⟩
    first | refine sigN [some (.ref m), some (.ref f), some (.ref p), some (.ref o), some (.ref td), none, none, none] (by rfl) ?_ | refine sig [some (.ref m), some (.ref f), some (.ref p), some (.ref o), some (.ref td), none, none, none] (by rfl) ?_
    obtain ⟨xs, gtd, hxs⟩ := hdue.rf
    have hql : (qsL c v).length = 5 := rfl
    have hok := okAll_qs (c := v) lB (by decide)
    have hqt := qs_then (d := d) (v := v) hB.u0 hD.u0
    have hwB := wCv_B hB hv
    have hwq : (wCv (qsL c v)).tup = (qsL c v).map fun q => V.int q.num := rfl
    obtain ⟨hdp1, hdp2, hdp3⟩ := qs_depth c v
    obtain ⟨hwt1, hwt2, hwt3⟩ := qs_wt c v
    refine ⟨fun σ H5 => Same H4 H5 ∧ ∃ (x : V) (v6 : Option V), σ = [some (.ref m), some (.ref f), some (.ref p), some (.ref o), some (.ref td), some x, v6, none] ∧ WhAt K H5 (qsL c v) x, ?_, ?_⟩
    · obtain ⟨qs, hqs⟩ : ∃ qs, qsL c v = qs := ⟨_, rfl⟩
      rw [hqs] at hxs hql ⊢
      have hxl := hxs.1
      refine ⟨.ref td, rfl, td, rfl, ⟨_, tup_of gtd⟩, fun D hD => ?_⟩
      refine lc_tup (K := K) (a := td) (xs := xs) (fun i H5 => Same H4 H5 ∧ ∃ L, H5 D = some (.lst L) ∧ L.length ≤ i ∧ DpAll K H5 L (((qs.take i).filter fun q => decide (q.den ≠ 1)).map dq)) ⟨Same.new hD, [], upd_same, Nat.le_refl _, .nil⟩ (fun i H5 _ z => tup_of (z.1 _ _ gtd)) (fun i x H5 hi z => ?_) (fun H5 z => ?_)
      · obtain ⟨s5, L, hL, hlen, dL⟩ := z
        obtain ⟨a, q0, rfl, hq0, ha⟩ := (hxs.same s5).2 i x hi
        have hi5 : i < 5 := by
          have := (List.getElem?_eq_some_iff.mp hi).1
          omega
        refine ⟨rfl, .ref a, rfl, a, _, 1, .int (q0.den : Int), rfl, rfl, ha, rfl, rfl, _, rfl, ?_⟩
        rw [dec_int]
        by_cases hz : q0.den = 1
        · refine iteN (by simp; omega) ?_
          refine ⟨s5, L, hL, by omega, ?_⟩
          rw [take_filt hq0, if_neg (by omega), List.append_nil]
          exact dL
        · refine iteY (by simp; omega) ?_
          refine ⟨.ref a, rfl, L, hL, small1000 (by omega), Same.put s5 hD, L ++ [.ref a], upd_same, by rw [List.length_append]; exact Nat.add_le_add_right hlen 1, ?_⟩
          rw [take_filt hq0, if_pos hz, List.map_append]
          exact dpAll_snoc (dp_putAll hL _ _ (noL_q _) dL) (dp_put hL _ _ rfl (dp_q ha))
      · obtain ⟨s5, L, hL, hlen, dL⟩ := z
        rw [hxl, List.take_length] at dL
        refine ⟨(by show 0 ≤ sizeLine; decide), fun e0 ne0 => ?_⟩
        have s6 := Same.new (H := H5) (p := e0) (o := .lst []) ne0
        have g6 : upd H5 e0 (.lst []) e0 = some (.lst []) := upd_same
        generalize upd H5 e0 (.lst []) = H6 at s6 g6 ⊢
        refine ⟨.list ((qs.filter fun q : Rat => decide (q.den ≠ 1)).map dq), .list [], .lst (lst_of (s6 _ _ hL)) (dp_sameAll s6 _ _ dL), .lst (lst_of g6) .nil, shaped_q _, rfl, _, rfl, ?_⟩
        have s46 := s5.trans s6
        by_cases hw : AllW qs
        · rw [filt_nil.mpr hw]
          refine iteT ?_
          refine ⟨.ref td, rfl, td, rfl, ⟨_, tup_of (s46 _ _ gtd)⟩, fun D2 hD2 => ?_⟩
          refine lc_tup (K := K) (a := td) (xs := xs) (fun i H7 => Same H6 H7 ∧ H7 D2 = some (.lst ((qs.take i).map fun q => V.int q.num))) ⟨Same.new hD2, upd_same⟩ (fun i H7 _ y => tup_of ((s46.trans y.1) _ _ gtd)) (fun i x H7 hi y => ?_) (fun H7 y => ?_)
          · obtain ⟨a, q0, rfl, hq0, ha⟩ := (hxs.same (s46.trans y.1)).2 i x hi
            have hi5 : i < 5 := by
              have := (List.getElem?_eq_some_iff.mp hi).1
              omega
            refine ⟨rfl, .ref a, rfl, a, _, 0, .int q0.num, rfl, rfl, ha, rfl, _, y.2, ?_, Same.put y.1 hD2, ?_⟩
            · rw [List.length_map, List.length_take]
              exact small1000 (by omega)
            · rw [upd_same, take_map _ hq0]
          · rw [hxl, List.take_length] at y
            refine ⟨D2, _, rfl, .inl ⟨lst_of y.2, fun t nt => ?_⟩⟩
            exact ⟨s46.trans (y.1.trans (Same.new nt)), _, _, rfl, Or.inl ⟨hw, t, rfl, upd_same⟩⟩
        · refine iteN ?_ ?_
          · cases hfl : qs.filter fun q => decide (q.den ≠ 1) with
            | nil => exact absurd (filt_nil.mp hfl) hw
            | cons a l => exact Bool.false_ne_true
          · exact ⟨s46, _, _, rfl, Or.inr ⟨hw, rfl⟩⟩
    rintro σ H5 ⟨s5, x, v6, rfl, hx⟩
    have s45 := s4.trans s5
    refine ⟨.ref f, rfl, .ref p, rfl, f, p, v, c, rfl, Same.tup s45 hf3, hv97, hc3.same s45, hB29, fun H6 tt s6 htold => ?_⟩
    first | refine sigN [some (.ref m), some (.ref f), some (.ref p), some (.ref o), some (.ref td), some x, v6, some (.ref tt)] (by rfl) ?_ | refine sig [some (.ref m), some (.ref f), some (.ref p), some (.ref o), some (.ref td), some x, v6, some (.ref tt)] (by rfl) ?_
    obtain ⟨ys, gtt, hys⟩ := htold.rf
    have s46 := s45.trans s6
    refine ⟨fun σ H7 => Same H6 H7 ∧ σ = [some (.ref m), some (.ref f), some (.ref p), some (.ref o), some (.ref td), some x, v6, some (.ref tt)], ?_, ?_⟩
    · refine ⟨.ref tt, rfl, .ref tt, rfl, tt, ys, qsL c v, rfl, tup_of gtt, hys, hql, fun hw H7 t s7 gt => ?_, fun hw H7 s7 => ?_⟩
      · rcases hx with ⟨_, tw, rfl, gw⟩ | ⟨hw2, _⟩
        case inr => exact absurd hw hw2
        refine ⟨(by show 2 ≤ sizeLine; decide), fun l nl => ?_⟩
        have s8 := Same.new (H := H7) (p := l) (o := .lst [.ref tt, .ref t]) nl
        have g8 : upd H7 l (.lst [.ref tt, .ref t]) l = some (.lst [.ref tt, .ref t]) := upd_same
        generalize upd H7 l (.lst [.ref tt, .ref t]) = H8 at s8 g8 ⊢
        have ok2 : okD (.list [.tuple ((qsL c v).map dq), .tuple (wD (qsL c v))]) = true := by simp [okD, okAll, hok.1, hok.2]
        refine ⟨.ref l, .list [.tuple ((qsL c v).map dq), .tuple (wD (qsL c v))], rfl, .lst (lst_of g8) (.cons (.tup (tup_of ((s7.trans s8) _ _ gtt)) (rf_dp (hys.same (s7.trans s8)))) (.cons (.tup (tup_of (s8 _ _ gt)) (dp_ints _)) .nil)), ok2, hdp1, hwt1, ?_⟩
        refine ⟨.ref td, rfl, .ref tw, rfl, (by show 2 ≤ sizeLine; decide), fun l2 nl2 => ?_⟩
        have s9 := Same.new (H := H8) (p := l2) (o := .lst [.ref td, .ref tw]) nl2
        have g9 : upd H8 l2 (.lst [.ref td, .ref tw]) l2 = some (.lst [.ref td, .ref tw]) := upd_same
        generalize upd H8 l2 (.lst [.ref td, .ref tw]) = H9 at s9 g9 ⊢
        have sA := s6.trans (s7.trans (s8.trans s9))
        refine ⟨.ref l2, .list [.tuple ((qsL c v).map dq), .tuple (wD (qsL c v))], rfl, .lst (lst_of g9) (.cons (.tup (tup_of ((s5.trans sA) _ _ gtd)) (rf_dp (hxs.same (s5.trans sA)))) (.cons (.tup (tup_of (sA _ _ gw)) (dp_ints _)) .nil)), ok2, hdp1, hwt1, rfl, _, rfl, ?_⟩
        generalize (PyData.list [.tuple ((qsL c v).map dq), .tuple (wD (qsL c v))]).shown = zz
        refine iteNS rfl ?_
        exact ⟨s7.trans (s8.trans s9), rfl⟩
      · rcases hx with ⟨hw2, _⟩ | ⟨_, rfl⟩
        case inl => exact absurd hw2 hw
        refine ⟨(by show 2 ≤ sizeLine; decide), fun l nl => ?_⟩
        have s8 := Same.new (H := H7) (p := l) (o := .lst [.ref tt, .non]) nl
        have g8 : upd H7 l (.lst [.ref tt, .non]) l = some (.lst [.ref tt, .non]) := upd_same
        generalize upd H7 l (.lst [.ref tt, .non]) = H8 at s8 g8 ⊢
        have ok2 : okD (.list [.tuple ((qsL c v).map dq), .none]) = true := by simp [okD, okAll, hok.1]
        refine ⟨.ref l, .list [.tuple ((qsL c v).map dq), .none], rfl, .lst (lst_of g8) (.cons (.tup (tup_of ((s7.trans s8) _ _ gtt)) (rf_dp (hys.same (s7.trans s8)))) (.cons .non .nil)), ok2, hdp2, hwt2, ?_⟩
        refine ⟨.ref td, rfl, _, rfl, (by show 2 ≤ sizeLine; decide), fun l2 nl2 => ?_⟩
        have s9 := Same.new (H := H8) (p := l2) (o := .lst [.ref td, .non]) nl2
        have g9 : upd H8 l2 (.lst [.ref td, .non]) l2 = some (.lst [.ref td, .non]) := upd_same
        generalize upd H8 l2 (.lst [.ref td, .non]) = H9 at s9 g9 ⊢
        have sA := s6.trans (s7.trans (s8.trans s9))
        refine ⟨.ref l2, .list [.tuple ((qsL c v).map dq), .none], rfl, .lst (lst_of g9) (.cons (.tup (tup_of ((s5.trans sA) _ _ gtd)) (rf_dp (hxs.same (s5.trans sA)))) (.cons .non .nil)), ok2, hdp2, hwt2, rfl, _, rfl, ?_⟩
        generalize (PyData.list [.tuple ((qsL c v).map dq), .none]).shown = zz
        refine iteNS rfl ?_
        exact ⟨s7.trans (s8.trans s9), rfl⟩
    rintro σ H7 ⟨s7, rfl⟩
    have s37 := s46.trans s7
    have hx7 := hx.same (s6.trans s7)
    have m7 := m3.same s37
    have bB : But m H H7 := bA.trans (But.of s37)
    have hf7 := Same.tup s37 hf3
    have hc7 := hc3.same s37
    have hd7 := hd.same s37
    clear gtd hxs gtt hys htold hdue hx s4 s5 s6 s7 s45 s46 s37 hf3 hc3 hd bA m3 hwt1 hwt2 hdp1 hdp2
    first | refine sigN [some (.ref m), some (.ref f), some (.ref p), some (.ref o), some (.ref td), some x, v6, some (.ref tt)] (by rfl) ?_ | skip
    have hT := thenB hB hD
    refine ⟨.ref p, rfl, .ref o, rfl, p, o, c, d, rfl, hc7, hd7, hB29, hD29, fun H8 t1 s8 ht1 => ?_⟩
    refine ⟨.ref p, rfl, .ref p, rfl, p, c, rfl, hc7.same s8, hB, fun H9 t2 s9 ht2 => ?_⟩
    refine ⟨p, t2, c, backC c, rfl, hc7.same (s8.trans s9), ht2, hB29, backB hB, fun Ha t3 sa ht3 => ?_⟩
    rw [then_back c hB.u0] at ht3
    refine ⟨(by show 2 ≤ sizeLine; decide), fun l nl => ?_⟩
    have sb := Same.new (H := Ha) (p := l) (o := .lst [.ref t1, .ref t3]) nl
    have gb : upd Ha l (.lst [.ref t1, .ref t3]) l = some (.lst [.ref t1, .ref t3]) := upd_same
    generalize upd Ha l (.lst [.ref t1, .ref t3]) = Hb at sb gb ⊢
    obtain ⟨cd1, cd2⟩ := cc_depth (thenC c d)
    refine ⟨.ref l, .list [dcc (thenC c d), dcc ⟨1, 0, 0, 0⟩], rfl, .lst (lst_of gb) (.cons (dp_cc (ht1.same (s9.trans (sa.trans sb)))) (.cons (dp_cc (ht3.same sb)) .nil)), cc_ok hT, cd1, cd2, ?_⟩
    have s7b := s8.trans (s9.trans (sa.trans sb))
    refine ⟨.ref p, rfl, .ref o, rfl, p, o, c, d, rfl, hc7.same s7b, hd7.same s7b, hB, hD, fun Hc t4 sc ht4 => ?_⟩
    refine ⟨(by show 2 ≤ sizeLine; decide), fun k1 nk1 => ?_⟩
    have sd := Same.new (H := Hc) (p := k1) (o := .tup [.int 1, .int 1]) nk1
    have gd : upd Hc k1 (.tup [.int 1, .int 1]) k1 = some (.tup [.int 1, .int 1]) := upd_same
    generalize upd Hc k1 (.tup [.int 1, .int 1]) = Hd at sd gd ⊢
    refine ⟨(by show 2 ≤ sizeLine; decide), fun k2 nk2 => ?_⟩
    have se := Same.new (H := Hd) (p := k2) (o := .tup [.int 0, .int 1]) nk2
    have ge : upd Hd k2 (.tup [.int 0, .int 1]) k2 = some (.tup [.int 0, .int 1]) := upd_same
    generalize upd Hd k2 (.tup [.int 0, .int 1]) = He at se ge ⊢
    refine ⟨(by show 2 ≤ sizeLine; decide), fun k3 nk3 => ?_⟩
    have sf := Same.new (H := He) (p := k3) (o := .tup [.int 0, .int 1]) nk3
    have gf : upd He k3 (.tup [.int 0, .int 1]) k3 = some (.tup [.int 0, .int 1]) := upd_same
    generalize upd He k3 (.tup [.int 0, .int 1]) = Hf at sf gf ⊢
    refine ⟨(by show 2 ≤ sizeLine; decide), fun k4 nk4 => ?_⟩
    have sg := Same.new (H := Hf) (p := k4) (o := .tup [.int 0, .int 1]) nk4
    have gg : upd Hf k4 (.tup [.int 0, .int 1]) k4 = some (.tup [.int 0, .int 1]) := upd_same
    generalize upd Hf k4 (.tup [.int 0, .int 1]) = Hg at sg gg ⊢
    refine ⟨(by show 4 ≤ sizeLine; decide), fun k5 nk5 => ?_⟩
    have sh := Same.new (H := Hg) (p := k5) (o := .tup [.ref k1, .ref k2, .ref k3, .ref k4]) nk5
    have gh : upd Hg k5 (.tup [.ref k1, .ref k2, .ref k3, .ref k4]) k5 = some (.tup [.ref k1, .ref k2, .ref k3, .ref k4]) := upd_same
    generalize upd Hg k5 (.tup [.ref k1, .ref k2, .ref k3, .ref k4]) = Hh at sh gh ⊢
    have hk5 : ChAt K Hh k5 ⟨1, 0, 0, 0⟩ := ⟨k1, k2, k3, k4, tup_of gh, tup_of ((se.trans (sf.trans (sg.trans sh))) _ _ gd), tup_of ((sf.trans (sg.trans sh)) _ _ ge), tup_of ((sg.trans sh) _ _ gf), tup_of (sh _ _ gg)⟩
    refine ⟨(by show 2 ≤ sizeLine; decide), fun l2 nl2 => ?_⟩
    have si := Same.new (H := Hh) (p := l2) (o := .lst [.ref t4, .ref k5]) nl2
    have gi : upd Hh l2 (.lst [.ref t4, .ref k5]) l2 = some (.lst [.ref t4, .ref k5]) := upd_same
    generalize upd Hh l2 (.lst [.ref t4, .ref k5]) = Hi at si gi ⊢
    have sci := sd.trans (se.trans (sf.trans (sg.trans (sh.trans si))))
    refine ⟨.ref l2, .list [dcc (thenC c d), dcc ⟨1, 0, 0, 0⟩], rfl, .lst (lst_of gi) (.cons (dp_cc (ht4.same sci)) (.cons (dp_cc (hk5.same si)) .nil)), cc_ok hT, cd1, cd2, rfl, _, rfl, ?_⟩
    generalize (PyData.list [dcc (thenC c d), dcc ⟨1, 0, 0, 0⟩]).shown = zz
    refine iteNS rfl ?_
    have s7i := s7b.trans (sc.trans sci)
    have hxi := hx7.same s7i
    have mi := m7.same s7i
    have bC : But m H Hi := bB.trans (But.of s7i)
    have hfi := Same.tup s7i hf7
    have hci := hc7.same s7i
    have hdi := hd7.same s7i
    clear hx7 m7 bB hf7 hc7 hd7 s7i s7b sci sc sd se sf sg sh si s8 s9 sa sb ht1 ht2 ht3 ht4 hk5 gb gd ge gf gg gh gi cd1 cd2
    rcases hxi with ⟨hw, tw, rfl, gw⟩ | ⟨hw, rfl⟩
    · refine ⟨_, rfl, rfl, _, rfl, iteT ?_⟩
      have gw2 : SqT K Hi tw (wCv (qsL c v)).tup := by
        rw [hwq]
        exact tup_of gw
      refine ⟨.ref tw, rfl, .ref o, rfl, tw, o, wCv (qsL c v), d, rfl, gw2, hwB, hdi, hD29, fun Hj t5 sj h5 => ?_⟩
      obtain ⟨xs, g5, r5⟩ := h5.rf
      have lB2 := lB97 (d := d) hD (RB.int (m := 97) hwB.h1 (by decide)) (RB.int (m := 97) hwB.h2 (by decide)) (RB.int (m := 97) hwB.h3 (by decide)) (RB.int (m := 97) hwB.h4 (by decide)) (RB.int (m := 97) hwB.h6 (by decide))
      have ok5 : okD (.tuple ((qsL d (wCv (qsL c v))).map dq)) = true := by
        have := (okAll_qs (c := wCv (qsL c v)) lB2 (by decide)).1
        simp [okD, this]
      refine ⟨.ref t5, .tuple ((qsL d (wCv (qsL c v))).map dq), rfl, .tup (tup_of g5) (rf_dp r5), ok5, (qs_depth _ _).2.2, (qs_wt _ _).2.2, ?_⟩
      refine ⟨.ref f, rfl, .ref p, rfl, .ref o, rfl, p, o, c, d, rfl, hci.same sj, hdi.same sj, hB29, hD29, fun Hk t6 sk h6 => ?_⟩
      refine ⟨f, t6, v, thenC c d, rfl, Same.tup (sj.trans sk) hfi, hv97, h6, hT, fun Hl t7 sl h7 => ?_⟩
      obtain ⟨zs, g7, r7⟩ := h7.rf
      rw [← hqt hw] at r7
      refine ⟨.ref t7, .tuple ((qsL d (wCv (qsL c v))).map dq), rfl, .tup (tup_of g7) (rf_dp r7), ok5, (qs_depth _ _).2.2, (qs_wt _ _).2.2, rfl, _, rfl, ?_⟩
      generalize (PyData.tuple ((qsL d (wCv (qsL c v))).map dq)).shown = zz2
      refine iteNS rfl ?_
      have sAll := sj.trans (sk.trans sl)
      exact ⟨.ref m, rfl, .ref p, rfl, m, cl, p, c, _, rfl, hci.same sAll, hB, by omega, mi.same sAll, fun H' b' => q H' (bC.trans ((But.of sAll).trans b'))⟩
    · refine ⟨_, rfl, rfl, _, rfl, iteF ?_⟩
      refine iteF ?_
      exact ⟨.ref m, rfl, .ref p, rfl, m, cl, p, c, _, rfl, hci, hB, by omega, mi, fun H' b' => q H' (bC.trans b')⟩
/-! ### the law -/
def sp_law (K : PySem.W.Frag) : Sp := fun vs H Q _ => ∃ (a : Addr) (ns : List Int), vs = [.ref a] ∧ SqL K H a (ns.map V.int) ∧ ns.length ≤ 63 ∧ ∀ H', Q (.bl true) H'
abbrev s_law : Stmt := topS 46
theorem sc_law : FnScope ["script", "k"] ["script"] (defScope s_law) := ⟨rfl, rfl, rfl, by decide +kernel, rfl, by decide +kernel, by decide +kernel⟩
theorem k_law {fl : Addr} {fdl : FuncData} (T : Tx K mg) (Fl : Fun K "law" "law" s_law fl fdl) (c_law_right : Kg P w K mg base 8 "_law_right" (sp_law_right K)) (c_law_begun : Kl P w K mg base 1 "_law_begun" (sp_law_begun K)) : FnG P w K mg base 9 fl fdl ["script"] (sp_law K) := by
  have nd := sc_law.nd
  refine FnG.by_body Fl sc_law (fun vs H Q E h => ?_) (fun cdv A outer s H vs Q E hgd hr h => ?_)
  · obtain ⟨_, _, rfl, _⟩ := h
    rfl
  · obtain ⟨a, ns, rfl, hx, hl, q⟩ := h
    have hu1 := hu_of hr
    refine ⟨_, (pss_cons (ps_for PassesOwn.never rfl (pi_range1 (by rfl) T.range (pa_cons (pe_op op_add pe_int (pe_callB (call_min2 rfl) (by rfl) T.min (by decide +kernel) (pa_cons (pe_callB call_len_seq (by rfl) T.len (by decide +kernel) (pa_cons (pv 0) pa_nil)) (pa_cons pe_int pa_nil)))) pa_nil)) (pg_name (i := 1) nd rfl (by first | exact Or.inl rfl | exact Or.inr rfl)) (pss_one (ps_if (pt_not (pt_val (pe_g c_law_right hgd hr (by decide) (by rfl) (pa_cons (pe_k c_law_begun  hr (by decide) (by rfl) (pa_cons (pv 0) (pa_cons (pv 1) pa_nil))) pa_nil)))) (pss_one (ps_ret pe_bl)) pss_nil)))
      (pss_one (ps_ret pe_bl))), ?_⟩
    obtain ⟨j, hj, j0, j1⟩ : ∃ j : Int, (2 : Int) + (if (2 : Int) < ((ns.map V.int).length : Int) then 2 else ((ns.map V.int).length : Int)) = j ∧ 0 ≤ j ∧ j ≤ 4 := ⟨_, rfl, by split <;> omega, by split <;> omega⟩
    refine ⟨.ref a, rfl, a, _, rfl, .inl hx, _, _, rfl, _, _, rfl, rfl, j, ?_, by omega, by omega, ?_⟩
    · rw [← hj]
    refine for_range (lo := 0) (n := j.toNat) (fun i σ H2 => Same H H2 ∧ ∃ v1 : Option V, σ = [some (.ref a), v1]) ⟨Same.refl _, none, rfl⟩ ?_ ?_
    · rintro i σ H2 hi ⟨s2, v1, rfl⟩
      refine ⟨.ref a, rfl, _, rfl, a, _, ns, rfl, s2.seq hx, hl, by omega, by omega, fun H3 m cl s3 nm ncl hM => ?_⟩
      refine ⟨m, cl, 0, rfl, by decide, hM, fun H4 b4 => ⟨_, rfl, ?_⟩⟩
      refine iteF ?_
      exact ⟨s2.trans (But.same s3 b4 nm), _, rfl⟩
    · rintro σ H2 ⟨s2, v1, rfl⟩
      exact q H2
end
end K06
set_option Elab.async false
set_option linter.all false
set_option maxRecDepth 100000
set_option maxHeartbeats 4000000
namespace K06
open PySem PySem.Spec PyProof.Rows L2 Gd
theorem all_mk {P : Program} {w : World} {K : PySem.W.Frag} {h : Heap} {mg : Str → Option Value} {fa : Addr} (X : K.In h) (G : h.Ns mainGlobals mg) (hfa : mg "law" = some (.ref fa))
    {f2 : Addr} {od2 an2 : Option Addr} {sl2 : Array (Option Value)} {oc2 kV2 dc2 pm2 cd2 ct2 : Value}
    {f4 : Addr} {od4 an4 : Option Addr} {sl4 : Array (Option Value)} {oc4 kV4 dc4 pm4 cd4 ct4 : Value}
    {f6 : Addr} {od6 an6 : Option Addr} {sl6 : Array (Option Value)} {oc6 kV6 dc6 pm6 cd6 ct6 : Value}
    {f7 : Addr} {od7 an7 : Option Addr} {sl7 : Array (Option Value)} {oc7 kV7 dc7 pm7 cd7 ct7 : Value}
    {f8 : Addr} {od8 an8 : Option Addr} {sl8 : Array (Option Value)} {oc8 kV8 dc8 pm8 cd8 ct8 : Value}
    {f9 : Addr} {od9 an9 : Option Addr} {sl9 : Array (Option Value)} {oc9 kV9 dc9 pm9 cd9 ct9 : Value}
    {f10 : Addr} {od10 an10 : Option Addr} {sl10 : Array (Option Value)} {oc10 kV10 dc10 pm10 cd10 ct10 : Value}
    {f11 : Addr} {od11 an11 : Option Addr} {sl11 : Array (Option Value)} {oc11 kV11 dc11 pm11 cd11 ct11 : Value}
    {f12 : Addr} {od12 an12 : Option Addr} {sl12 : Array (Option Value)} {oc12 kV12 dc12 pm12 cd12 ct12 : Value}
    {f14 : Addr} {od14 an14 : Option Addr} {sl14 : Array (Option Value)} {oc14 kV14 dc14 pm14 cd14 ct14 : Value}
    {f15 : Addr} {od15 an15 : Option Addr} {sl15 : Array (Option Value)} {oc15 kV15 dc15 pm15 cd15 ct15 : Value}
    {f16 : Addr} {od16 an16 : Option Addr} {sl16 : Array (Option Value)} {oc16 kV16 dc16 pm16 cd16 ct16 : Value}
    {f17 : Addr} {od17 an17 : Option Addr} {sl17 : Array (Option Value)} {oc17 kV17 dc17 pm17 cd17 ct17 : Value}
    {f18 : Addr} {od18 an18 : Option Addr} {sl18 : Array (Option Value)} {oc18 kV18 dc18 pm18 cd18 ct18 : Value}
    {f20 : Addr} {od20 an20 : Option Addr} {sl20 : Array (Option Value)} {oc20 kV20 dc20 pm20 cd20 ct20 : Value}
    {f21 : Addr} {od21 an21 : Option Addr} {sl21 : Array (Option Value)} {oc21 kV21 dc21 pm21 cd21 ct21 : Value}
    {f22 : Addr} {od22 an22 : Option Addr} {sl22 : Array (Option Value)} {oc22 kV22 dc22 pm22 cd22 ct22 : Value}
    {f23 : Addr} {od23 an23 : Option Addr} {sl23 : Array (Option Value)} {oc23 kV23 dc23 pm23 cd23 ct23 : Value}
    {f24 : Addr} {od24 an24 : Option Addr} {sl24 : Array (Option Value)} {oc24 kV24 dc24 pm24 cd24 ct24 : Value}
    {f25 : Addr} {od25 an25 : Option Addr} {sl25 : Array (Option Value)} {oc25 kV25 dc25 pm25 cd25 ct25 : Value}
    {f26 : Addr} {od26 an26 : Option Addr} {sl26 : Array (Option Value)} {oc26 kV26 dc26 pm26 cd26 ct26 : Value}
    {f27 : Addr} {od27 an27 : Option Addr} {sl27 : Array (Option Value)} {oc27 kV27 dc27 pm27 cd27 ct27 : Value}
    {f28 : Addr} {od28 an28 : Option Addr} {sl28 : Array (Option Value)} {oc28 kV28 dc28 pm28 cd28 ct28 : Value}
    {f29 : Addr} {od29 an29 : Option Addr} {sl29 : Array (Option Value)} {oc29 kV29 dc29 pm29 cd29 ct29 : Value}
    {f35 : Addr} {od35 an35 : Option Addr} {sl35 : Array (Option Value)} {oc35 kV35 dc35 pm35 cd35 ct35 : Value}
    {f36 : Addr} {od36 an36 : Option Addr} {sl36 : Array (Option Value)} {oc36 kV36 dc36 pm36 cd36 ct36 : Value}
    {f37 : Addr} {od37 an37 : Option Addr} {sl37 : Array (Option Value)} {oc37 kV37 dc37 pm37 cd37 ct37 : Value}
    {f38 : Addr} {od38 an38 : Option Addr} {sl38 : Array (Option Value)} {oc38 kV38 dc38 pm38 cd38 ct38 : Value}
    {f39 : Addr} {od39 an39 : Option Addr} {sl39 : Array (Option Value)} {oc39 kV39 dc39 pm39 cd39 ct39 : Value}
    {f40 : Addr} {od40 an40 : Option Addr} {sl40 : Array (Option Value)} {oc40 kV40 dc40 pm40 cd40 ct40 : Value}
    {f41 : Addr} {od41 an41 : Option Addr} {sl41 : Array (Option Value)} {oc41 kV41 dc41 pm41 cd41 ct41 : Value}
    {f42 : Addr} {od42 an42 : Option Addr} {sl42 : Array (Option Value)} {oc42 kV42 dc42 pm42 cd42 ct42 : Value}
    {f43 : Addr} {od43 an43 : Option Addr} {sl43 : Array (Option Value)} {oc43 kV43 dc43 pm43 cd43 ct43 : Value}
    {f44 : Addr} {od44 an44 : Option Addr} {sl44 : Array (Option Value)} {oc44 kV44 dc44 pm44 cd44 ct44 : Value}
    {f45 : Addr} {od45 an45 : Option Addr} {sl45 : Array (Option Value)} {oc45 kV45 dc45 pm45 cd45 ct45 : Value}
    {f46 : Addr} {od46 an46 : Option Addr} {sl46 : Array (Option Value)} {oc46 kV46 dc46 pm46 cd46 ct46 : Value}
    (a2 : PySem.W.nsIn K mainGlobals "lowest" = some (some (.ref f2))) (l2 : K.lookup f2 = some ⟨oc2, od2, .func (PySem.W.fnOf "lowest" "lowest" (defArgs s_lowest) (defBody s_lowest) (defScope s_lowest) .none kV2 dc2 pm2 an2 cd2 ct2), sl2⟩) (c2 : PySem.W.codeIn K cd2 "lowest" = true) (k2 : PySem.W.keepIn K (.ref f2) = true)
    (a4 : PySem.W.nsIn K mainGlobals "five" = some (some (.ref f4))) (l4 : K.lookup f4 = some ⟨oc4, od4, .func (PySem.W.fnOf "five" "five" (defArgs s_five) (defBody s_five) (defScope s_five) .none kV4 dc4 pm4 an4 cd4 ct4), sl4⟩) (c4 : PySem.W.codeIn K cd4 "five" = true) (k4 : PySem.W.keepIn K (.ref f4) = true)
    (a6 : PySem.W.nsIn K mainGlobals "plus" = some (some (.ref f6))) (l6 : K.lookup f6 = some ⟨oc6, od6, .func (PySem.W.fnOf "plus" "plus" (defArgs s_plus) (defBody s_plus) (defScope s_plus) .none kV6 dc6 pm6 an6 cd6 ct6), sl6⟩) (c6 : PySem.W.codeIn K cd6 "plus" = true) (k6 : PySem.W.keepIn K (.ref f6) = true)
    (a7 : PySem.W.nsIn K mainGlobals "less" = some (some (.ref f7))) (l7 : K.lookup f7 = some ⟨oc7, od7, .func (PySem.W.fnOf "less" "less" (defArgs s_less) (defBody s_less) (defScope s_less) .none kV7 dc7 pm7 an7 cd7 ct7), sl7⟩) (c7 : PySem.W.codeIn K cd7 "less" = true) (k7 : PySem.W.keepIn K (.ref f7) = true)
    (a8 : PySem.W.nsIn K mainGlobals "times" = some (some (.ref f8))) (l8 : K.lookup f8 = some ⟨oc8, od8, .func (PySem.W.fnOf "times" "times" (defArgs s_times) (defBody s_times) (defScope s_times) .none kV8 dc8 pm8 an8 cd8 ct8), sl8⟩) (c8 : PySem.W.codeIn K cd8 "times" = true) (k8 : PySem.W.keepIn K (.ref f8) = true)
    (a9 : PySem.W.nsIn K mainGlobals "over" = some (some (.ref f9))) (l9 : K.lookup f9 = some ⟨oc9, od9, .func (PySem.W.fnOf "over" "over" (defArgs s_over) (defBody s_over) (defScope s_over) .none kV9 dc9 pm9 an9 cd9 ct9), sl9⟩) (c9 : PySem.W.codeIn K cd9 "over" = true) (k9 : PySem.W.keepIn K (.ref f9) = true)
    (a10 : PySem.W.nsIn K mainGlobals "whole_fraction" = some (some (.ref f10))) (l10 : K.lookup f10 = some ⟨oc10, od10, .func (PySem.W.fnOf "whole_fraction" "whole_fraction" (defArgs s_whole_fraction) (defBody s_whole_fraction) (defScope s_whole_fraction) .none kV10 dc10 pm10 an10 cd10 ct10), sl10⟩) (c10 : PySem.W.codeIn K cd10 "whole_fraction" = true) (k10 : PySem.W.keepIn K (.ref f10) = true)
    (a11 : PySem.W.nsIn K mainGlobals "total" = some (some (.ref f11))) (l11 : K.lookup f11 = some ⟨oc11, od11, .func (PySem.W.fnOf "total" "total" (defArgs s_total) (defBody s_total) (defScope s_total) .none kV11 dc11 pm11 an11 cd11 ct11), sl11⟩) (c11 : PySem.W.codeIn K cd11 "total" = true) (k11 : PySem.W.keepIn K (.ref f11) = true)
    (a12 : PySem.W.nsIn K mainGlobals "product" = some (some (.ref f12))) (l12 : K.lookup f12 = some ⟨oc12, od12, .func (PySem.W.fnOf "product" "product" (defArgs s_product) (defBody s_product) (defScope s_product) .none kV12 dc12 pm12 an12 cd12 ct12), sl12⟩) (c12 : PySem.W.codeIn K cd12 "product" = true) (k12 : PySem.W.keepIn K (.ref f12) = true)
    (a14 : PySem.W.nsIn K mainGlobals "led" = some (some (.ref f14))) (l14 : K.lookup f14 = some ⟨oc14, od14, .func (PySem.W.fnOf "led" "led" (defArgs s_led) (defBody s_led) (defScope s_led) .none kV14 dc14 pm14 an14 cd14 ct14), sl14⟩) (c14 : PySem.W.codeIn K cd14 "led" = true) (k14 : PySem.W.keepIn K (.ref f14) = true)
    (a15 : PySem.W.nsIn K mainGlobals "whole_curve" = some (some (.ref f15))) (l15 : K.lookup f15 = some ⟨oc15, od15, .func (PySem.W.fnOf "whole_curve" "whole_curve" (defArgs s_whole_curve) (defBody s_whole_curve) (defScope s_whole_curve) .none kV15 dc15 pm15 an15 cd15 ct15), sl15⟩) (c15 : PySem.W.codeIn K cd15 "whole_curve" = true) (k15 : PySem.W.keepIn K (.ref f15) = true)
    (a16 : PySem.W.nsIn K mainGlobals "then" = some (some (.ref f16))) (l16 : K.lookup f16 = some ⟨oc16, od16, .func (PySem.W.fnOf "then" "then" (defArgs s_then) (defBody s_then) (defScope s_then) .none kV16 dc16 pm16 an16 cd16 ct16), sl16⟩) (c16 : PySem.W.codeIn K cd16 "then" = true) (k16 : PySem.W.keepIn K (.ref f16) = true)
    (a17 : PySem.W.nsIn K mainGlobals "back" = some (some (.ref f17))) (l17 : K.lookup f17 = some ⟨oc17, od17, .func (PySem.W.fnOf "back" "back" (defArgs s_back) (defBody s_back) (defScope s_back) .none kV17 dc17 pm17 an17 cd17 ct17), sl17⟩) (c17 : PySem.W.codeIn K cd17 "back" = true) (k17 : PySem.W.keepIn K (.ref f17) = true)
    (a18 : PySem.W.nsIn K mainGlobals "led_point" = some (some (.ref f18))) (l18 : K.lookup f18 = some ⟨oc18, od18, .func (PySem.W.fnOf "led_point" "led_point" (defArgs s_led_point) (defBody s_led_point) (defScope s_led_point) .none kV18 dc18 pm18 an18 cd18 ct18), sl18⟩) (c18 : PySem.W.codeIn K cd18 "led_point" = true) (k18 : PySem.W.keepIn K (.ref f18) = true)
    (a20 : PySem.W.nsIn K mainGlobals "_law_begun" = some (some (.ref f20))) (l20 : K.lookup f20 = some ⟨oc20, od20, .func (PySem.W.fnOf "_law_begun" "_law_begun" (defArgs s__law_begun) (defBody s__law_begun) (defScope s__law_begun) .none kV20 dc20 pm20 an20 cd20 ct20), sl20⟩) (c20 : PySem.W.codeIn K cd20 "_law_begun" = true) (k20 : PySem.W.keepIn K (.ref f20) = true)
    (a21 : PySem.W.nsIn K mainGlobals "_law_draw" = some (some (.ref f21))) (l21 : K.lookup f21 = some ⟨oc21, od21, .func (PySem.W.fnOf "_law_draw" "_law_draw" (defArgs s__law_draw) (defBody s__law_draw) (defScope s__law_draw) .none kV21 dc21 pm21 an21 cd21 ct21), sl21⟩) (c21 : PySem.W.codeIn K cd21 "_law_draw" = true) (k21 : PySem.W.keepIn K (.ref f21) = true)
    (a22 : PySem.W.nsIn K mainGlobals "_law_of" = some (some (.ref f22))) (l22 : K.lookup f22 = some ⟨oc22, od22, .func (PySem.W.fnOf "_law_of" "_law_of" (defArgs s__law_of) (defBody s__law_of) (defScope s__law_of) .none kV22 dc22 pm22 an22 cd22 ct22), sl22⟩) (c22 : PySem.W.codeIn K cd22 "_law_of" = true) (k22 : PySem.W.keepIn K (.ref f22) = true)
    (a23 : PySem.W.nsIn K mainGlobals "_law_between" = some (some (.ref f23))) (l23 : K.lookup f23 = some ⟨oc23, od23, .func (PySem.W.fnOf "_law_between" "_law_between" (defArgs s__law_between) (defBody s__law_between) (defScope s__law_between) .none kV23 dc23 pm23 an23 cd23 ct23), sl23⟩) (c23 : PySem.W.codeIn K cd23 "_law_between" = true) (k23 : PySem.W.keepIn K (.ref f23) = true)
    (a24 : PySem.W.nsIn K mainGlobals "_law_common" = some (some (.ref f24))) (l24 : K.lookup f24 = some ⟨oc24, od24, .func (PySem.W.fnOf "_law_common" "_law_common" (defArgs s__law_common) (defBody s__law_common) (defScope s__law_common) .none kV24 dc24 pm24 an24 cd24 ct24), sl24⟩) (c24 : PySem.W.codeIn K cd24 "_law_common" = true) (k24 : PySem.W.keepIn K (.ref f24) = true)
    (a25 : PySem.W.nsIn K mainGlobals "_law_cut" = some (some (.ref f25))) (l25 : K.lookup f25 = some ⟨oc25, od25, .func (PySem.W.fnOf "_law_cut" "_law_cut" (defArgs s__law_cut) (defBody s__law_cut) (defScope s__law_cut) .none kV25 dc25 pm25 an25 cd25 ct25), sl25⟩) (c25 : PySem.W.codeIn K cd25 "_law_cut" = true) (k25 : PySem.W.keepIn K (.ref f25) = true)
    (a26 : PySem.W.nsIn K mainGlobals "_law_plus" = some (some (.ref f26))) (l26 : K.lookup f26 = some ⟨oc26, od26, .func (PySem.W.fnOf "_law_plus" "_law_plus" (defArgs s__law_plus) (defBody s__law_plus) (defScope s__law_plus) .none kV26 dc26 pm26 an26 cd26 ct26), sl26⟩) (c26 : PySem.W.codeIn K cd26 "_law_plus" = true) (k26 : PySem.W.keepIn K (.ref f26) = true)
    (a27 : PySem.W.nsIn K mainGlobals "_law_less" = some (some (.ref f27))) (l27 : K.lookup f27 = some ⟨oc27, od27, .func (PySem.W.fnOf "_law_less" "_law_less" (defArgs s__law_less) (defBody s__law_less) (defScope s__law_less) .none kV27 dc27 pm27 an27 cd27 ct27), sl27⟩) (c27 : PySem.W.codeIn K cd27 "_law_less" = true) (k27 : PySem.W.keepIn K (.ref f27) = true)
    (a28 : PySem.W.nsIn K mainGlobals "_law_by" = some (some (.ref f28))) (l28 : K.lookup f28 = some ⟨oc28, od28, .func (PySem.W.fnOf "_law_by" "_law_by" (defArgs s__law_by) (defBody s__law_by) (defScope s__law_by) .none kV28 dc28 pm28 an28 cd28 ct28), sl28⟩) (c28 : PySem.W.codeIn K cd28 "_law_by" = true) (k28 : PySem.W.keepIn K (.ref f28) = true)
    (a29 : PySem.W.nsIn K mainGlobals "_law_over" = some (some (.ref f29))) (l29 : K.lookup f29 = some ⟨oc29, od29, .func (PySem.W.fnOf "_law_over" "_law_over" (defArgs s__law_over) (defBody s__law_over) (defScope s__law_over) .none kV29 dc29 pm29 an29 cd29 ct29), sl29⟩) (c29 : PySem.W.codeIn K cd29 "_law_over" = true) (k29 : PySem.W.keepIn K (.ref f29) = true)
    (a35 : PySem.W.nsIn K mainGlobals "_law_numbers" = some (some (.ref f35))) (l35 : K.lookup f35 = some ⟨oc35, od35, .func (PySem.W.fnOf "_law_numbers" "_law_numbers" (defArgs s__law_numbers) (defBody s__law_numbers) (defScope s__law_numbers) .none kV35 dc35 pm35 an35 cd35 ct35), sl35⟩) (c35 : PySem.W.codeIn K cd35 "_law_numbers" = true) (k35 : PySem.W.keepIn K (.ref f35) = true)
    (a36 : PySem.W.nsIn K mainGlobals "_law_curve" = some (some (.ref f36))) (l36 : K.lookup f36 = some ⟨oc36, od36, .func (PySem.W.fnOf "_law_curve" "_law_curve" (defArgs s__law_curve) (defBody s__law_curve) (defScope s__law_curve) .none kV36 dc36 pm36 an36 cd36 ct36), sl36⟩) (c36 : PySem.W.codeIn K cd36 "_law_curve" = true) (k36 : PySem.W.keepIn K (.ref f36) = true)
    (a37 : PySem.W.nsIn K mainGlobals "_law_power" = some (some (.ref f37))) (l37 : K.lookup f37 = some ⟨oc37, od37, .func (PySem.W.fnOf "_law_power" "_law_power" (defArgs s__law_power) (defBody s__law_power) (defScope s__law_power) .none kV37 dc37 pm37 an37 cd37 ct37), sl37⟩) (c37 : PySem.W.codeIn K cd37 "_law_power" = true) (k37 : PySem.W.keepIn K (.ref f37) = true)
    (a38 : PySem.W.nsIn K mainGlobals "_law_poly_by" = some (some (.ref f38))) (l38 : K.lookup f38 = some ⟨oc38, od38, .func (PySem.W.fnOf "_law_poly_by" "_law_poly_by" (defArgs s__law_poly_by) (defBody s__law_poly_by) (defScope s__law_poly_by) .none kV38 dc38 pm38 an38 cd38 ct38), sl38⟩) (c38 : PySem.W.codeIn K cd38 "_law_poly_by" = true) (k38 : PySem.W.keepIn K (.ref f38) = true)
    (a39 : PySem.W.nsIn K mainGlobals "_law_poly_plus" = some (some (.ref f39))) (l39 : K.lookup f39 = some ⟨oc39, od39, .func (PySem.W.fnOf "_law_poly_plus" "_law_poly_plus" (defArgs s__law_poly_plus) (defBody s__law_poly_plus) (defScope s__law_poly_plus) .none kV39 dc39 pm39 an39 cd39 ct39), sl39⟩) (c39 : PySem.W.codeIn K cd39 "_law_poly_plus" = true) (k39 : PySem.W.keepIn K (.ref f39) = true)
    (a40 : PySem.W.nsIn K mainGlobals "_law_letters" = some (some (.ref f40))) (l40 : K.lookup f40 = some ⟨oc40, od40, .func (PySem.W.fnOf "_law_letters" "_law_letters" (defArgs s__law_letters) (defBody s__law_letters) (defScope s__law_letters) .none kV40 dc40 pm40 an40 cd40 ct40), sl40⟩) (c40 : PySem.W.codeIn K cd40 "_law_letters" = true) (k40 : PySem.W.keepIn K (.ref f40) = true)
    (a41 : PySem.W.nsIn K mainGlobals "_law_due" = some (some (.ref f41))) (l41 : K.lookup f41 = some ⟨oc41, od41, .func (PySem.W.fnOf "_law_due" "_law_due" (defArgs s__law_due) (defBody s__law_due) (defScope s__law_due) .none kV41 dc41 pm41 an41 cd41 ct41), sl41⟩) (c41 : PySem.W.codeIn K cd41 "_law_due" = true) (k41 : PySem.W.keepIn K (.ref f41) = true)
    (a42 : PySem.W.nsIn K mainGlobals "_law_joined" = some (some (.ref f42))) (l42 : K.lookup f42 = some ⟨oc42, od42, .func (PySem.W.fnOf "_law_joined" "_law_joined" (defArgs s__law_joined) (defBody s__law_joined) (defScope s__law_joined) .none kV42 dc42 pm42 an42 cd42 ct42), sl42⟩) (c42 : PySem.W.codeIn K cd42 "_law_joined" = true) (k42 : PySem.W.keepIn K (.ref f42) = true)
    (a43 : PySem.W.nsIn K mainGlobals "_law_change" = some (some (.ref f43))) (l43 : K.lookup f43 = some ⟨oc43, od43, .func (PySem.W.fnOf "_law_change" "_law_change" (defArgs s__law_change) (defBody s__law_change) (defScope s__law_change) .none kV43 dc43 pm43 an43 cd43 ct43), sl43⟩) (c43 : PySem.W.codeIn K cd43 "_law_change" = true) (k43 : PySem.W.keepIn K (.ref f43) = true)
    (a44 : PySem.W.nsIn K mainGlobals "_law_point_right" = some (some (.ref f44))) (l44 : K.lookup f44 = some ⟨oc44, od44, .func (PySem.W.fnOf "_law_point_right" "_law_point_right" (defArgs s__law_point_right) (defBody s__law_point_right) (defScope s__law_point_right) .none kV44 dc44 pm44 an44 cd44 ct44), sl44⟩) (c44 : PySem.W.codeIn K cd44 "_law_point_right" = true) (k44 : PySem.W.keepIn K (.ref f44) = true)
    (a45 : PySem.W.nsIn K mainGlobals "_law_right" = some (some (.ref f45))) (l45 : K.lookup f45 = some ⟨oc45, od45, .func (PySem.W.fnOf "_law_right" "_law_right" (defArgs s__law_right) (defBody s__law_right) (defScope s__law_right) .none kV45 dc45 pm45 an45 cd45 ct45), sl45⟩) (c45 : PySem.W.codeIn K cd45 "_law_right" = true) (k45 : PySem.W.keepIn K (.ref f45) = true)
    (a46 : PySem.W.nsIn K mainGlobals "law" = some (some (.ref f46))) (l46 : K.lookup f46 = some ⟨oc46, od46, .func (PySem.W.fnOf "law" "law" (defArgs s_law) (defBody s_law) (defScope s_law) .none kV46 dc46 pm46 an46 cd46 ct46), sl46⟩) (c46 : PySem.W.codeIn K cd46 "law" = true) (k46 : PySem.W.keepIn K (.ref f46) = true)
    (z_gcd : PySem.W.nsIn K mainGlobals "gcd" = some (some (.builtin "math.gcd")))
    (z_int : PySem.W.nsIn K mainGlobals "int" = some none)
    (z_len : PySem.W.nsIn K mainGlobals "len" = some none)
    (z_tuple : PySem.W.nsIn K mainGlobals "tuple" = some none)
    (z_any : PySem.W.nsIn K mainGlobals "any" = some none)
    (z_dict : PySem.W.nsIn K mainGlobals "dict" = some none)
    (z_min : PySem.W.nsIn K mainGlobals "min" = some none)
    (z_abs : PySem.W.nsIn K mainGlobals "abs" = some none)
    (z_range : PySem.W.nsIn K mainGlobals "range" = some none)
    (z_repr : PySem.W.nsIn K mainGlobals "repr" = some none)
    : ∃ fd : FuncData, (∀ (s : Shared) (v : Value), BindsTo s fd ⟨[v], []⟩ [("script", v)]) ∧ ∀ base : Heap, K.In base → base.Ns mainGlobals mg → FnG P w K mg base 9 fa fd ["script"] (sp_law K) := by
  have T : Tx K mg := ⟨PySem.W.mg_of X G z_gcd, PySem.W.mg_none_of X G z_int, PySem.W.mg_none_of X G z_len, PySem.W.mg_none_of X G z_tuple, PySem.W.mg_none_of X G z_any, PySem.W.mg_none_of X G z_dict, PySem.W.mg_none_of X G z_min, PySem.W.mg_none_of X G z_abs, PySem.W.mg_none_of X G z_range, PySem.W.mg_none_of X G z_repr⟩
  have d2 : Df K mg "lowest" s_lowest ["n", "d"] := df_mk X G a2 l2 c2 k2 (fun _ _ _ _ _ _ us hl => match us, hl with | [_, _], _ => rfl)
  have d4 : Df K mg "five" s_five ["curve"] := df_mk X G a4 l4 c4 k4 (fun _ _ _ _ _ _ us hl => match us, hl with | [_], _ => rfl)
  have d6 : Df K mg "plus" s_plus ["f", "g"] := df_mk X G a6 l6 c6 k6 (fun _ _ _ _ _ _ us hl => match us, hl with | [_, _], _ => rfl)
  have d7 : Df K mg "less" s_less ["f", "g"] := df_mk X G a7 l7 c7 k7 (fun _ _ _ _ _ _ us hl => match us, hl with | [_, _], _ => rfl)
  have d8 : Df K mg "times" s_times ["f", "g"] := df_mk X G a8 l8 c8 k8 (fun _ _ _ _ _ _ us hl => match us, hl with | [_, _], _ => rfl)
  have d9 : Df K mg "over" s_over ["f", "g"] := df_mk X G a9 l9 c9 k9 (fun _ _ _ _ _ _ us hl => match us, hl with | [_, _], _ => rfl)
  have d10 : Df K mg "whole_fraction" s_whole_fraction ["n"] := df_mk X G a10 l10 c10 k10 (fun _ _ _ _ _ _ us hl => match us, hl with | [_], _ => rfl)
  have d11 : Df K mg "total" s_total ["fractions"] := df_mk X G a11 l11 c11 k11 (fun _ _ _ _ _ _ us hl => match us, hl with | [_], _ => rfl)
  have d12 : Df K mg "product" s_product ["fractions"] := df_mk X G a12 l12 c12 k12 (fun _ _ _ _ _ _ us hl => match us, hl with | [_], _ => rfl)
  have d14 : Df K mg "led" s_led ["curve", "change"] := df_mk X G a14 l14 c14 k14 (fun _ _ _ _ _ _ us hl => match us, hl with | [_, _], _ => rfl)
  have d15 : Df K mg "whole_curve" s_whole_curve ["fractions"] := df_mk X G a15 l15 c15 k15 (fun _ _ _ _ _ _ us hl => match us, hl with | [_], _ => rfl)
  have d16 : Df K mg "then" s_then ["change", "other"] := df_mk X G a16 l16 c16 k16 (fun _ _ _ _ _ _ us hl => match us, hl with | [_, _], _ => rfl)
  have d17 : Df K mg "back" s_back ["change"] := df_mk X G a17 l17 c17 k17 (fun _ _ _ _ _ _ us hl => match us, hl with | [_], _ => rfl)
  have d18 : Df K mg "led_point" s_led_point ["point", "change"] := df_mk X G a18 l18 c18 k18 (fun _ _ _ _ _ _ us hl => match us, hl with | [_, _], _ => rfl)
  have d20 : Df K mg "_law_begun" s__law_begun ["script", "k"] := df_mk X G a20 l20 c20 k20 (fun _ _ _ _ _ _ us hl => match us, hl with | [_, _], _ => rfl)
  have d21 : Df K mg "_law_draw" s__law_draw ["m", "below"] := df_mk X G a21 l21 c21 k21 (fun _ _ _ _ _ _ us hl => match us, hl with | [_, _], _ => rfl)
  have d22 : Df K mg "_law_of" s__law_of ["m", "some"] := df_mk X G a22 l22 c22 k22 (fun _ _ _ _ _ _ us hl => match us, hl with | [_, _], _ => rfl)
  have d23 : Df K mg "_law_between" s__law_between ["m", "size"] := df_mk X G a23 l23 c23 k23 (fun _ _ _ _ _ _ us hl => match us, hl with | [_, _], _ => rfl)
  have d24 : Df K mg "_law_common" s__law_common ["a", "b"] := df_mk X G a24 l24 c24 k24 (fun _ _ _ _ _ _ us hl => match us, hl with | [_, _], _ => rfl)
  have d25 : Df K mg "_law_cut" s__law_cut ["n", "d"] := df_mk X G a25 l25 c25 k25 (fun _ _ _ _ _ _ us hl => match us, hl with | [_, _], _ => rfl)
  have d26 : Df K mg "_law_plus" s__law_plus ["f", "g"] := df_mk X G a26 l26 c26 k26 (fun _ _ _ _ _ _ us hl => match us, hl with | [_, _], _ => rfl)
  have d27 : Df K mg "_law_less" s__law_less ["f", "g"] := df_mk X G a27 l27 c27 k27 (fun _ _ _ _ _ _ us hl => match us, hl with | [_, _], _ => rfl)
  have d28 : Df K mg "_law_by" s__law_by ["f", "g"] := df_mk X G a28 l28 c28 k28 (fun _ _ _ _ _ _ us hl => match us, hl with | [_, _], _ => rfl)
  have d29 : Df K mg "_law_over" s__law_over ["f", "g"] := df_mk X G a29 l29 c29 k29 (fun _ _ _ _ _ _ us hl => match us, hl with | [_, _], _ => rfl)
  have d35 : Df K mg "_law_numbers" s__law_numbers ["five_v"] := df_mk X G a35 l35 c35 k35 (fun _ _ _ _ _ _ us hl => match us, hl with | [_], _ => rfl)
  have d36 : Df K mg "_law_curve" s__law_curve ["m", "size"] := df_mk X G a36 l36 c36 k36 (fun _ _ _ _ _ _ us hl => match us, hl with | [_, _], _ => rfl)
  have d37 : Df K mg "_law_power" s__law_power ["f", "n"] := df_mk X G a37 l37 c37 k37 (fun _ _ _ _ _ _ us hl => match us, hl with | [_, _], _ => rfl)
  have d38 : Df K mg "_law_poly_by" s__law_poly_by ["f", "g"] := df_mk X G a38 l38 c38 k38 (fun _ _ _ _ _ _ us hl => match us, hl with | [_, _], _ => rfl)
  have d39 : Df K mg "_law_poly_plus" s__law_poly_plus ["f", "g", "by"] := df_mk X G a39 l39 c39 k39 (fun _ _ _ _ _ _ us hl => match us, hl with | [_, _, _], _ => rfl)
  have d40 : Df K mg "_law_letters" s__law_letters ["change"] := df_mk X G a40 l40 c40 k40 (fun _ _ _ _ _ _ us hl => match us, hl with | [_], _ => rfl)
  have d41 : Df K mg "_law_due" s__law_due ["five_v", "change"] := df_mk X G a41 l41 c41 k41 (fun _ _ _ _ _ _ us hl => match us, hl with | [_, _], _ => rfl)
  have d42 : Df K mg "_law_joined" s__law_joined ["change", "other"] := df_mk X G a42 l42 c42 k42 (fun _ _ _ _ _ _ us hl => match us, hl with | [_, _], _ => rfl)
  have d43 : Df K mg "_law_change" s__law_change ["m"] := df_mk X G a43 l43 c43 k43 (fun _ _ _ _ _ _ us hl => match us, hl with | [_], _ => rfl)
  have d44 : Df K mg "_law_point_right" s__law_point_right ["m", "change"] := df_mk X G a44 l44 c44 k44 (fun _ _ _ _ _ _ us hl => match us, hl with | [_, _], _ => rfl)
  have d45 : Df K mg "_law_right" s__law_right ["m"] := df_mk X G a45 l45 c45 k45 (fun _ _ _ _ _ _ us hl => match us, hl with | [_], _ => rfl)
  refine law_fd X G hfa a46 l46 c46 k46 (fun _ _ _ _ _ _ us hl => match us, hl with | [_], _ => rfl) (fun fd F base => ?_)
  have c_lowest := k_lowest (P := P) (w := w) (base := base) T d2 
  have c_five := k_five (P := P) (w := w) (base := base) T d4 
  have c_whole_fraction := k_whole_fraction (P := P) (w := w) (base := base) T d10 
  have c_whole_curve := k_whole_curve (P := P) (w := w) (base := base) T d15 
  have c_law_begun := k_law_begun (P := P) (w := w) (base := base) T d20 
  have c_law_draw := k_law_draw (P := P) (w := w) (base := base) T d21 
  have c_law_common := k_law_common (P := P) (w := w) (base := base) T d24 
  have c_law_numbers := k_law_numbers (P := P) (w := w) (base := base) T d35 
  have c_plus := k_plus (P := P) (w := w) (base := base) T d6 c_lowest
  have c_less := k_less (P := P) (w := w) (base := base) T d7 c_lowest
  have c_times := k_times (P := P) (w := w) (base := base) T d8 c_lowest
  have c_over := k_over (P := P) (w := w) (base := base) T d9 c_lowest
  have c_law_of := k_law_of (P := P) (w := w) (base := base) T d22 c_law_draw
  have c_law_between := k_law_between (P := P) (w := w) (base := base) T d23 c_law_draw
  have c_law_cut := k_law_cut (P := P) (w := w) (base := base) T d25 c_law_common
  have c_total := k_total (P := P) (w := w) (base := base) T d11 c_plus
  have c_product := k_product (P := P) (w := w) (base := base) T d12 c_times
  have c_back := k_back (P := P) (w := w) (base := base) T d17 c_times c_over c_less
  have c_led_point := k_led_point (P := P) (w := w) (base := base) T d18 c_times c_less c_over
  have c_law_plus := k_law_plus (P := P) (w := w) (base := base) T d26 c_law_cut
  have c_law_less := k_law_less (P := P) (w := w) (base := base) T d27 c_law_cut
  have c_law_by := k_law_by (P := P) (w := w) (base := base) T d28 c_law_cut
  have c_law_over := k_law_over (P := P) (w := w) (base := base) T d29 c_law_cut
  have c_law_curve := k_law_curve (P := P) (w := w) (base := base) T d36 c_law_between c_law_numbers
  have c_law_change := k_law_change (P := P) (w := w) (base := base) T d43 c_law_cut c_law_of c_law_draw c_law_between
  have c_led := k_led (P := P) (w := w) (base := base) T d14 c_plus c_total c_times c_whole_fraction c_over c_five c_product
  have c_then := k_then (P := P) (w := w) (base := base) T d16 c_times c_total c_plus c_product
  have c_law_power := k_law_power (P := P) (w := w) (base := base) T d37 c_law_by
  have c_law_poly_by := k_law_poly_by (P := P) (w := w) (base := base) T d38 c_law_by c_law_plus
  have c_law_poly_plus := k_law_poly_plus (P := P) (w := w) (base := base) T d39 c_law_plus c_law_by
  have c_law_letters := k_law_letters (P := P) (w := w) (base := base) T d40 c_law_power c_law_by
  have c_law_due := k_law_due (P := P) (w := w) (base := base) T d41 c_law_letters c_law_poly_by c_law_power c_law_poly_plus c_law_over
  have c_law_joined := k_law_joined (P := P) (w := w) (base := base) T d42 c_law_letters c_law_by c_law_poly_plus c_law_over c_law_poly_by c_law_power
  have c_law_point_right := k_law_point_right (P := P) (w := w) (base := base) T d44 c_led_point c_law_over c_law_less c_law_due c_law_plus c_law_between c_law_power c_law_by c_back
  have c_law_right := k_law_right (P := P) (w := w) (base := base) T d45 c_law_due c_led c_law_point_right c_law_curve c_law_change c_whole_curve c_then c_law_joined c_back
  exact k_law T F c_law_right c_law_begun
end K06
open PySem PySem.W PyProof.Rows
set_option maxRecDepth 100000 in
set_option maxHeartbeats 0 in
theorem PySem.Challenge.cw_pointsum_k06_whole_changes_holds : PySem.Challenge.rw_pointsum_k06_whole_changes.Holds := by
  w_on; o_law; k_head; (case hw => w_witness2)
  k_fill
  refine Gd.walk_g (l := PySem.Challenge.rw_pointsum_k06_whole_changes) (n := 63) (k := 9) (x := "script") (sp := fun K => K06.sp_law K) rfl (by decide) rfl ⟨rfl, by decide, by decide⟩ (fun w h Y => PySem.W.kIn_of Y) ?F (fun K H a ns hl hS => ⟨a, ns, rfl, hS, hl, fun _ => rfl⟩)
  case F =>
    intro w mg fa h KX G hmg
    refine' K06.all_mk KX G hmg ?a2 ?l2 ?c2 ?k2 ?a4 ?l4 ?c4 ?k4 ?a6 ?l6 ?c6 ?k6 ?a7 ?l7 ?c7 ?k7 ?a8 ?l8 ?c8 ?k8 ?a9 ?l9 ?c9 ?k9 ?a10 ?l10 ?c10 ?k10 ?a11 ?l11 ?c11 ?k11 ?a12 ?l12 ?c12 ?k12 ?a14 ?l14 ?c14 ?k14 ?a15 ?l15 ?c15 ?k15 ?a16 ?l16 ?c16 ?k16 ?a17 ?l17 ?c17 ?k17 ?a18 ?l18 ?c18 ?k18 ?a20 ?l20 ?c20 ?k20 ?a21 ?l21 ?c21 ?k21 ?a22 ?l22 ?c22 ?k22 ?a23 ?l23 ?c23 ?k23 ?a24 ?l24 ?c24 ?k24 ?a25 ?l25 ?c25 ?k25 ?a26 ?l26 ?c26 ?k26 ?a27 ?l27 ?c27 ?k27 ?a28 ?l28 ?c28 ?k28 ?a29 ?l29 ?c29 ?k29 ?a35 ?l35 ?c35 ?k35 ?a36 ?l36 ?c36 ?k36 ?a37 ?l37 ?c37 ?k37 ?a38 ?l38 ?c38 ?k38 ?a39 ?l39 ?c39 ?k39 ?a40 ?l40 ?c40 ?k40 ?a41 ?l41 ?c41 ?k41 ?a42 ?l42 ?c42 ?k42 ?a43 ?l43 ?c43 ?k43 ?a44 ?l44 ?c44 ?k44 ?a45 ?l45 ?c45 ?k45 ?a46 ?l46 ?c46 ?k46 ?z_gcd ?z_int ?z_len ?z_tuple ?z_any ?z_dict ?z_min ?z_abs ?z_range ?z_repr
    (case a2 => k_is); (case l2 => k_is); (case c2 => k_is); (case k2 => k_is); (case a4 => k_is); (case l4 => k_is); (case c4 => k_is); (case k4 => k_is)
    (case a6 => k_is); (case l6 => k_is); (case c6 => k_is); (case k6 => k_is); (case a7 => k_is); (case l7 => k_is); (case c7 => k_is); (case k7 => k_is)
    (case a8 => k_is); (case l8 => k_is); (case c8 => k_is); (case k8 => k_is); (case a9 => k_is); (case l9 => k_is); (case c9 => k_is); (case k9 => k_is)
    (case a10 => k_is); (case l10 => k_is); (case c10 => k_is); (case k10 => k_is); (case a11 => k_is); (case l11 => k_is); (case c11 => k_is); (case k11 => k_is)
    (case a12 => k_is); (case l12 => k_is); (case c12 => k_is); (case k12 => k_is); (case a14 => k_is); (case l14 => k_is); (case c14 => k_is); (case k14 => k_is)
    (case a15 => k_is); (case l15 => k_is); (case c15 => k_is); (case k15 => k_is); (case a16 => k_is); (case l16 => k_is); (case c16 => k_is); (case k16 => k_is)
    (case a17 => k_is); (case l17 => k_is); (case c17 => k_is); (case k17 => k_is); (case a18 => k_is); (case l18 => k_is); (case c18 => k_is); (case k18 => k_is)
    (case a20 => k_is); (case l20 => k_is); (case c20 => k_is); (case k20 => k_is); (case a21 => k_is); (case l21 => k_is); (case c21 => k_is); (case k21 => k_is)
    (case a22 => k_is); (case l22 => k_is); (case c22 => k_is); (case k22 => k_is); (case a23 => k_is); (case l23 => k_is); (case c23 => k_is); (case k23 => k_is)
    (case a24 => k_is); (case l24 => k_is); (case c24 => k_is); (case k24 => k_is); (case a25 => k_is); (case l25 => k_is); (case c25 => k_is); (case k25 => k_is)
    (case a26 => k_is); (case l26 => k_is); (case c26 => k_is); (case k26 => k_is); (case a27 => k_is); (case l27 => k_is); (case c27 => k_is); (case k27 => k_is)
    (case a28 => k_is); (case l28 => k_is); (case c28 => k_is); (case k28 => k_is); (case a29 => k_is); (case l29 => k_is); (case c29 => k_is); (case k29 => k_is)
    (case a35 => k_is); (case l35 => k_is); (case c35 => k_is); (case k35 => k_is); (case a36 => k_is); (case l36 => k_is); (case c36 => k_is); (case k36 => k_is)
    (case a37 => k_is); (case l37 => k_is); (case c37 => k_is); (case k37 => k_is); (case a38 => k_is); (case l38 => k_is); (case c38 => k_is); (case k38 => k_is)
    (case a39 => k_is); (case l39 => k_is); (case c39 => k_is); (case k39 => k_is); (case a40 => k_is); (case l40 => k_is); (case c40 => k_is); (case k40 => k_is)
    (case a41 => k_is); (case l41 => k_is); (case c41 => k_is); (case k41 => k_is); (case a42 => k_is); (case l42 => k_is); (case c42 => k_is); (case k42 => k_is)
    (case a43 => k_is); (case l43 => k_is); (case c43 => k_is); (case k43 => k_is); (case a44 => k_is); (case l44 => k_is); (case c44 => k_is); (case k44 => k_is)
    (case a45 => k_is); (case l45 => k_is); (case c45 => k_is); (case k45 => k_is); (case a46 => k_is); (case l46 => k_is); (case c46 => k_is); (case k46 => k_is)
    (case z_gcd => k_is); (case z_int => k_is); (case z_len => k_is); (case z_tuple => k_is); (case z_any => k_is); (case z_dict => k_is); (case z_min => k_is); (case z_abs => k_is)
    (case z_range => k_is); (case z_repr => k_is)
